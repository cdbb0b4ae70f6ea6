import Derived.Test.YtahnliehdjncdabGreatDoorXBM
import Derived.Test.YtahnliehdjncdabGreatDoorXBB
import Derived.Test.YtahnliehdjncdabGreatDoorXAY
import Derived.Test.YtahnliehdjncdabGreatDoorXBH
import Derived.Test.YtahnliehdjncdabGreatDoorXBJ
import Derived.Test.YtahnliehdjncdabGreatDoorXAG
import Derived.Test.YtahnliehdjncdabGreatDoorXBI
import Derived.Test.YtahnliehdjncdabGreatDoorXBG
set_option maxRecDepth 100000
set_option maxHeartbeats 16000000
namespace Go.Proofs.YtahnliehdjncdabGreatDoor
section
structure Whole (c:Cfg) (T:Int) (l:List Bk) (R:List Int):Prop where
 hb:HB c.k l
 sorted:R.Pairwise (·<=·)
 parts:∃D L,R=D++L/\(∀d∈D,d<=T)/\segB l L
structure BS (clock:Int) (x:Ser) (A:List Int):Prop where
 heap:HeapL x.l
 wait:∀t,t∈x.l.map (·.t)->clock-x.c.lag<t
 whole:∃R,Whole x.c (clock-x.c.lag-x.c.window) x.nt.bs R/\(∀r,r∈R->r<=clock-x.c.lag)/\(R++x.l.map (·.t)).Perm A
 pb:PB x.nt.bs
structure WB (s:WS) (A:Int->List Int):Prop where
 ids:(s.xs.map (·.id)).Nodup
 none:∀id,id ∉ s.xs.map (·.id)->A id=[]
 cnt:∀x,x∈s.xs->x.k=1->BS s.clock x (A x.id)
theorem qW7(c:Int)(xs:List Ser): ∀b,(qCj c b xs).1.map (·.id)=xs.map (·.id):=by
 induction xs with
 | nil=>intro b;rfl
 | cons x xs ih=>intro b;simp only[qCj,List.map_cons,ih];rfl
theorem qV1{xs:List Ser}{id:Int}{x:Ser}(h:qFd xs id=some x): ∃l1 l2,xs=l1++x::l2/\x.id=id/\∀y:Ser,qKs xs id y=l1++y::l2:=by
 obtain⟨hp,l1,l2,he,hn⟩:=List.find?_eq_some_iff_append.1 h
 refine⟨l1,l2,he,by simpa using hp,λy=>?_⟩
 subst he
 clear h
 induction l1 with
 | nil=>simp[qKs];intro h0;exact absurd (by simpa using hp) h0
 | cons a l1 ih =>
  have ha:=hn a (by simp)
  simp only[List.cons_append,qKs]
  rw[if_neg (by simpa using ha),ih (λz hz=>hn z (by simp[hz]))]
def zHd(cs:List Int)(j pl:Nat): Int:=cs.getD (j*16+pl) 0
theorem zE4(cs:List Int)(hl:cs.length=48)(j pl a b:Nat)(hpl:pl<16)(ha:a<3)(hb:b<16): zHd (zAr cs (a*16+b)) j pl=zHd cs j pl+if j=a/\pl=b then 1 else 0:=by
 unfold zHd zAr
 rw[List.getD_eq_getElem?_getD,List.getElem?_set]
 by_cases h:j=a/\pl=b
 ·rw[if_pos h,h.1,h.2,if_pos rfl,if_pos (by omega)];rfl
 ·rw[if_neg h,if_neg (by omega),Int.add_zero,List.getD_eq_getElem?_getD]
theorem qZ7(c:Cfg)(hc:c.rowed)(key:Int)(cs:List Int)(hl:cs.length=48)(j pl:Nat)(hpl:pl<16): ∀n:Nat,n<=3->zHd (qE0 c key n cs) j pl=zHd cs j pl+if j<n/\qBw c key j=(pl:Int) then 1 else 0:=by
 intro n
 induction n with
 | zero=>intro _;simp[qE0]
 | succ n ih =>
  intro hn
  have hb:=qMh c hc key n
  rw[show qE0 c key (n+1) cs=zAr (qE0 c key n cs) (n*16+(qBw c key n).toNat) from rfl,zE4 _ (by rw[qFp,hl]) j pl n _ hpl (by omega) (by omega),ih (by omega)]
  by_cases h1:j=n
  ·subst h1
   rw[if_neg (by omega)]
   by_cases h2:qBw c key j=(pl:Int)
   ·rw[if_pos ⟨rfl,by omega⟩,if_pos ⟨by omega,h2⟩];omega
   ·rw[if_neg (λh=>h2 (by omega)),if_neg (λh=>h2 h.2)];omega
  ·have e1:(if j=n/\pl=(qBw c key n).toNat then(1:Int) else 0)=0:=if_neg (λh=>h1 h.1)
   rw[e1]
   by_cases h2:j<n/\qBw c key j=(pl:Int)
   ·rw[if_pos h2,if_pos ⟨by omega,h2.2⟩];omega
   ·rw[if_neg h2,if_neg (λh=>h2 ⟨by omega,h.2⟩)];omega
end
section
open Go.RowKit
attribute [local go_sem ↓] qAd qAe
attribute [local go_sem] qAg qAm qAb qAc qAn qAo qAi qAh qAf qAl
theorem qSk{c:Cfg}(h:qA7 c=true): 0<=c.lag/\c.lag<=100/\0<=c.skew/\c.skew<=100/\1<=c.cap/\c.cap<=8:=by
 simp only[qA7,qDk,inB,Bool.and_eq_true,decide_eq_true_eq]at h
 omega
theorem qYr(b:SB)(x:Ser)(y:It)(clock:Int)(w:World)(hs:SRep w b x)(hv:qA7 x.c=true)(hkd:x.c.kind=x.k)(k1:1<=x.k)(k5:x.k<=5)(c0:0<=clock)(c1:clock<=4611686018427387904):
  Calls Tryz.prog 49 #[.pointer (some ⟨b.s,0,none⟩),y.val,.int .i64 clock] w λe w'=>e=.returned (.int .i64 (refE x clock y))/\Keeps (λ_=>False) w w':=by
 obtain⟨l0,l1,s0,s1,p1,p8⟩:=qSk hv
 have hlt:=hs.blk.lt
 have HS:=hide hs
 have HWG:=hide (show 4<=x.k->x.c.weighs from λh4=>qEa hv hkd h4 k5)
 have HB:=hide (show Blk (w.alloc (.cells y.cells 88)) w.heap.size [.int .i64 y.t,.int .i64 y.k,.int .i64 y.d,.int .i64 y.n] 88 from Blk.new w [_,_,_,_] 88)
 have HK:=hide ((Keeps.refl (λ_=>False) w).alloc (.cells y.cells 88))
 have HE:=hide (show refE x clock y=if inB y.t 0 4611686018427387904 then(if y.t<=clock-x.c.lag then 6 else if clock+x.c.skew<y.t then 7 else if qDb x.c x.k y≠0 then qDb x.c x.k y else if x.c.cap<=x.l.length then 11 else if 4611686018427387904<=x.acc then 11 else 0) else 5 from rfl)
 clear hs hv hkd
 unfold It.val
 cases h1:inB y.t 0 4611686018427387904
 ·go_enter Tryz.func49,Tryz.ntmps49
  go_wp2_with (go_at_call 52;refine(qFu _ _).mono ?_;rintro e w' ⟨rfl,rfl⟩)
  go_ret
  exact⟨qA9 (by rw[uh HE,h1];rfl),uh HK⟩
 ·obtain⟨t0,t1⟩:=qDp h1
  rw[h1,if_pos rfl]at HE
  have hc2:w.cell? ⟨b.s,2,none⟩=some (.int .i64 x.c.lag):=(uh HS).blk.cell rfl
  go_enter Tryz.func49,Tryz.ntmps49
  go_wp2_with fail
  refine(qFu _ _).mono ?_
  rintro e w' ⟨rfl,rfl⟩
  rw[h1]
  go_wp2_with fail
  go_region_held3 (λw'=>w'.cell? ⟨w.heap.size,0,none⟩=some (.int .i64 y.t)/\w'.cell? ⟨b.s,2,none⟩=some (.int .i64 x.c.lag)) (go_keep)
   (first | (go_at_call 54;refine(qI3 b.s x.c.lag clock _ (by go_keep) l0 l1 c0 c1).mono ?_;rintro e w' ⟨rfl,rfl⟩))
  have HB1:=hide ((uh HB).drew)
  have HK1:=hide ((uh HK).drew)
  clear HB HK
  have e1:(w.alloc (.cells #[.int .i64 y.t,.int .i64 y.k,.int .i64 y.d,.int .i64 y.n] 88)).drew=(w.alloc (.cells y.cells 88)).drew:=rfl
  rw[e1]
  clear e1
  generalize(w.alloc (.cells y.cells 88)).drew=w1 at *
  generalize hbx:w.heap.size=bx at *
  have HS1:=hide ((uh HS).still (uh HK1))
  clear hc2 hlt hbx
  have hlt:=(uh HS1).blk.lt
  have hltx:=(uh HB1).lt
  have hb0:w1.cell? ⟨bx,0,none⟩=some (.int .i64 y.t):=(uh HB1).cell rfl
  have hb1:w1.cell? ⟨bx,1,none⟩=some (.int .i64 y.k):=(uh HB1).cell rfl
  have hb2:w1.cell? ⟨bx,2,none⟩=some (.int .i64 y.d):=(uh HB1).cell rfl
  have hb3:w1.cell? ⟨bx,3,none⟩=some (.int .i64 y.n):=(uh HB1).cell rfl
  have hc3:w1.cell? ⟨b.s,3,none⟩=some (.int .i64 x.c.skew):=(uh HS1).blk.cell rfl
  by_cases h6:y.t<=clock-x.c.lag
  ·rw[if_pos h6]at HE
   go_wp2
   go_ret
   exact⟨qA9 (uh HE).symm,uh HK1⟩
  ·rw[if_neg h6]at HE
   have h6':decide (y.t<=clock-x.c.lag)=false:=by simpa using h6
   go_wp2_with fail
   go_quiet (fail)
   by_cases h7:clock+x.c.skew<y.t
   ·rw[if_pos h7]at HE
    go_wp2
    go_ret
    exact⟨qA9 (uh HE).symm,(uh HK1).then (Keeps.drewN _ _ _)⟩
   ·rw[if_neg h7]at HE
    have h7':decide (clock+x.c.skew<y.t)=false:=by simpa using h7
    go_wp2_with fail
    have hkd:Keeps (λ_=>False) w1 (w1.drewN nq):=Keeps.drewN (λ_=>False) w1 nq
    have HS2:=hide ((uh HS1).still hkd)
    have HB2:=hide ((uh HB1).keeps hkd (λh=>h))
    have HK2:=hide ((uh HK1).then hkd)
    clear hkd
    generalize w1.drewN nq=w2 at *
    clear HS1 HB1 HK1 hb0 hb1 hb2 hb3 hc3 hlt hltx h6 h6' h7 h7'
    have hlt:=(uh HS2).blk.lt
    have hltx:=(uh HB2).lt
    have hb0:w2.cell? ⟨bx,0,none⟩=some (.int .i64 y.t):=(uh HB2).cell rfl
    have hb1:w2.cell? ⟨bx,1,none⟩=some (.int .i64 y.k):=(uh HB2).cell rfl
    have hb2:w2.cell? ⟨bx,2,none⟩=some (.int .i64 y.d):=(uh HB2).cell rfl
    have hb3:w2.cell? ⟨bx,3,none⟩=some (.int .i64 y.n):=(uh HB2).cell rfl
    have hc22:w2.cell? ⟨b.s,24,none⟩=some (.func (.func (qAq x.k)) #[] #[]):=(uh HS2).blk.cell rfl
    obtain⟨hv,hh⟩:=qBg (uh HS2).blk 1 20 x.c.cells rfl rfl
    have hown:=qOg x.k k1 k5
    go_region_held3 (λw'=>w'.cell? ⟨b.s,24,none⟩=some (.func (.func (qAq x.k)) #[] #[])/\qAv w' b.s 1 20=.agg x.c.cells.toArray/\qA3 w' b.s 1 20=true /\
        w'.cell? ⟨bx,0,none⟩=some (.int .i64 y.t)/\w'.cell? ⟨bx,1,none⟩=some (.int .i64 y.k)/\w'.cell? ⟨bx,2,none⟩=some (.int .i64 y.d)/\w'.cell? ⟨bx,3,none⟩=some (.int .i64 y.n))
     (first | (simp[*,qAb,qAc];done) | (go_split_ands;refine⟨hk.cell (by assumption) (λh=>h),(qB0 hk (λh=>h) (by simpa using hlt)).1.trans (by assumption),(qB0 hk (λh=>h) (by simpa using hlt)).2.trans (by assumption),hk.cell (by assumption) (λh=>h),hk.cell (by assumption) (λh=>h),hk.cell (by assumption) (λh=>h),hk.cell (by assumption) (λh=>h)⟩))
     (first | (refine(qJ9 x.c x.k y _ k1 k5 (uh HWG) t0 t1).mono ?_;rintro e w' ⟨rfl,hk⟩))
    have hk3:Keeps (λ_=>False) w2 w':=((Keeps.refl (λ_=>False) w2).drew).then hk
    have HS3:=hide ((uh HS2).still hk3)
    have HK3:=hide ((uh HK2).then hk3)
    clear hk hk3 HS2 HB2 HK2 hb0 hb1 hb2 hb3 hc22 hv hh hown hlt hltx
    have hlt:=(uh HS3).blk.lt
    generalize he:qDb x.c x.k y=e at *
    by_cases h8:e=0
    ·have h8':(e !=0)=false:=by simp[h8]
     rw[if_neg (by simpa using h8)]at HE
     have HN8:=hide h8
     clear h8
     have hc26:w'.cell? ⟨b.s,32,none⟩=some (.pointer (some ⟨b.q,0,none⟩)):=(uh HS3).blk.cell rfl
     have hc4:w'.cell? ⟨b.s,4,none⟩=some (.int .i64 x.c.cap):=(uh HS3).blk.cell rfl
     have hc33:w'.cell? ⟨b.s,33,none⟩=some (.int .i64 x.acc):=(uh HS3).blk.cell rfl
     by_cases h9:x.c.cap<=(x.l.length:Int)
     ·rw[if_pos h9]at HE
      have h9':decide (x.c.cap<=(x.l.length:Int))=true:=by simpa using h9
      go_wp2_with fail
      go_quiet (first | (go_at_call 78;refine Calls.quiet_of_same (len_any b.q b.g x.l _ (by exact(uh HS3).que.keeps (Keeps.drewN (λ_=>False) _ _) (λh=>h) (λ_ _ h=>h)))))
      go_wp2
      go_ret
      exact⟨qA9 (uh HE).symm,(uh HK3).then (Keeps.drewN _ _ _)⟩
     ·rw[if_neg h9]at HE
      have h9':decide (x.c.cap<=(x.l.length:Int))=false:=by simpa using h9
      by_cases h10:4611686018427387904<=x.acc
      ·rw[if_pos h10]at HE
       have h10':decide (4611686018427387904<=x.acc)=true:=by simpa using h10
       go_wp2_with fail
       go_quiet (first | (go_at_call 78;refine Calls.quiet_of_same (len_any b.q b.g x.l _ (by exact(uh HS3).que.keeps (Keeps.drewN (λ_=>False) _ _) (λh=>h) (λ_ _ h=>h)))))
       go_wp2
       go_ret
       exact⟨qA9 (uh HE).symm,(uh HK3).then (Keeps.drewN _ _ _)⟩
      ·rw[if_neg h10]at HE
       have h10':decide (4611686018427387904<=x.acc)=false:=by simpa using h10
       go_wp2_with fail
       go_quiet (first | (go_at_call 78;refine Calls.quiet_of_same (len_any b.q b.g x.l _ (by exact(uh HS3).que.keeps (Keeps.drewN (λ_=>False) _ _) (λh=>h) (λ_ _ h=>h)))))
       go_wp2
       go_ret
       exact⟨qA9 (uh HE).symm,(uh HK3).then (Keeps.drewN _ _ _)⟩
    ·have h8':(e !=0)=true:=by simp[h8]
     rw[if_pos (by simpa using h8)]at HE
     have HN8:=hide h8
     clear h8
     go_wp2
     go_ret
     exact⟨qA9 (uh HE).symm,uh HK3⟩
end
section
open Go.RowKit
def itK(k:Nat)(y:It): It:=match k with
 | 1=>⟨y.t,0,0,y.n⟩
 | 2=>⟨y.t,y.k,0,y.n⟩
 | 3=>⟨y.t,y.k,0,y.n⟩
 | 4=>⟨y.t,0,0,y.n⟩
 | _=>⟨y.t,y.k,y.d,y.n⟩
def itL(y:It): List Value:=[.int .i64 y.t,.int .i64 y.k,.int .i64 y.d,.int .i64 y.n]
theorem qZh(k:Nat)(y:It)(h1:1<=k)(h5:k<=5): qQi [.int .i64 0,.int .i64 0,.int .i64 0,.int .i64 y.n] (qD2 k) ((qD2 k).map (λj=>[y.t,y.k,y.d].getD j 0))=itL (itK k y):=by
 rcases five h1 h5 with e | e | e | e | e <;> subst e <;> rfl
def zC7(l:List It)(y:It): List It:=riseL (l.length+1) (l++[y]) l.length
def qKt(k:Nat)(its:List It): List It:=its.foldl (λl y=>zC7 l (itK k y)) []
theorem qZi(k:Nat)(its:List It)(y:It): qKt k (its++[y])=zC7 (qKt k its) (itK k y):=by
 unfold qKt;rw[List.foldl_append];rfl
theorem qL8(k:Nat)(its:List It): (qKt k its).length=its.length:=by
 have:∀(a:List It) (l:List It),(a.foldl (λl y=>zC7 l (itK k y)) l).length=l.length+a.length:=by
  intro a
  induction a with
  | nil=>intro l;rfl
  | cons y a ih=>intro l;rw[List.foldl_cons,ih];unfold zC7;rw[riseL_length];simp;omega
 have h:=this its []
 simpa[qKt] using h
def zFq(x:Ser)(ck:Cfg)(its:List It): Ser:=⟨x.id,ck,x.k,0,x.rel,qDo x.ref 7,qKt x.k its,qFy,0⟩
def kindL(k:Nat): List Value:=[.func (.func (qBn k)) #[] #[],.func (.func (qA1 k)) #[] #[],.func (.func (qA0 k)) #[] #[],.func (.func (qAq k)) #[] #[],.func (.func (qAz k)) #[] #[],.func (.func (qA4 k)) #[] #[]]
structure LIx (w:World) (r:Nat) (sb:SB) (x:Ser) (ck:Cfg) (clock A:Int) (kn cb:Nat) (l:List It) (tl:List Nat) (ns:List Int) (og:Option Nat) (nv:Value) (wr:World):Prop where
 ls:LSt w r { sb with g:=og } (zFq x ck l) tl wr
 kr:KnRep wr kn (clock-ck.lag) A x.rel nv ns
 kd:Blk wr (cb+1) (kindL x.k) 83
 ap:∀j,({ sb with g:=og }:SB).foot x.k j->cb+1<j/\j≠kn/\nv.ownBlock≠some j
 rc:r<cb
 kc:cb+1<kn
 wk:w.heap.size<=kn
theorem LIx.nvlt{w:World}{r:Nat}{sb:SB}{x:Ser}{ck:Cfg}{clock A:Int}{kn cb:Nat}{l:List It}{tl:List Nat}{ns:List Int}{og:Option Nat}{nv:Value}{wr:World}(h:LIx w r sb x ck clock A kn cb l tl ns og nv wr)(i:Nat)(hi:nv.ownBlock=some i): kn+1<=i:=(h.kr.row.lt i hi).1
theorem LIx.still{w:World}{r:Nat}{sb:SB}{x:Ser}{ck:Cfg}{clock A:Int}{kn cb:Nat}{l:List It}{tl:List Nat}{ns:List Int}{og:Option Nat}{nv:Value}{wr w2:World}(h:LIx w r sb x ck clock A kn cb l tl ns og nv wr)(hk:Keeps (λ_=>False) wr w2): LIx w r sb x ck clock A kn cb l tl ns og nv w2 :=
 ⟨h.ls.still hk,h.kr.keeps hk (λh=>h) (λ_ _ h=>h),h.kd.keeps hk (λh=>h),h.ap,h.rc,h.kc,h.wk⟩
theorem LIx.rd{w:World}{r:Nat}{sb:SB}{x:Ser}{ck:Cfg}{clock A:Int}{kn cb:Nat}{l:List It}{tl tl2:List Nat}{ns:List Int}{og:Option Nat}{nv:Value}{wr w2:World}{bx:Nat}(h:LIx w r sb x ck clock A kn cb l tl ns og nv wr)(hk:Keeps (λi=>i=r\/i=bx) wr w2)(hr:RdRep w2 r tl2)(hb:∀j,({ sb with g:=og }:SB).foot x.k j->j≠bx)(hkb:kn≠bx)(hnb:nv.ownBlock≠some bx)(hcb:cb+1≠bx)(hwb:w.heap.size<=bx): LIx w r sb x ck clock A kn cb l tl2 ns og nv w2:=by
 have hrl:=h.ls.rl
 have h1:=h.rc
 have h2:=h.kc
 have h3:=h.wk
 refine⟨⟨h.ls.ser.keeps hk (λi hi e=>?_),hr,h.ls.kp.trans hk (λi hi hlt=>?_),h.ls.new,h.ls.rl⟩,h.kr.keeps hk (λe=>?_) (λi hi e=>?_),h.kd.keeps hk (λe=>?_),h.ap,h.rc,h.kc,h.wk⟩
 ·rcases e with e | e
  ·exact h.ls.apart i hi e
  ·exact hb i hi e
 ·rcases hi with e | e
  ·exact e
  ·omega
 ·rcases e with e | e
  ·omega
  ·exact hkb e
 ·rcases e with e | e
  ·have:=h.nvlt i hi;omega
  ·exact hnb (by rw[<-e];exact hi)
 ·rcases e with e | e
  ·omega
  ·exact hcb e
theorem LIx.num{w:World}{r:Nat}{sb:SB}{x:Ser}{ck:Cfg}{clock A n:Int}{kn cb:Nat}{l:List It}{tl:List Nat}{ns:List Int}{og:Option Nat}{nv:Value}{wr:World}(h:LIx w r sb x ck clock A kn cb l (enc n++tl) ns og nv wr)(n1:1<=n)(n2:n<=A)(a1:A<=4611686018427387904)(hns:n ∉ ns)(hl:ns.length<=900):
  Calls Tryz.prog 138 #[.pointer (some ⟨kn,0,none⟩),.pointer (some ⟨r,0,none⟩)] wr λe w'=>e=.returned (.int .i64 n)/\∃nv',LIx w r sb x ck clock A kn cb l tl (ns++[n]) og nv' w':=by
 have hrc:=h.rc
 have hck:=h.kc
 have hwk:=h.wk
 refine(qKv r kn _ A x.rel n nv ns tl wr h.ls.rd h.kr (by omega) n1 n2 a1 hns hl).mono ?_
 rintro e w2 ⟨rfl,hr,⟨nv',hkn,hnv⟩,hk⟩
 refine⟨rfl,nv',⟨⟨h.ls.ser.keeps hk (λi hi e=>?_),hr,h.ls.kp.trans hk (λi hi hlt=>?_),h.ls.new,h.ls.rl⟩,hkn,h.kd.keeps hk (λe=>?_),λj hj=>⟨(h.ap j hj).1,(h.ap j hj).2.1,λe=>?_⟩,h.rc,h.kc,h.wk⟩⟩
 ·rcases e with e | e | e
  ·exact h.ls.apart i hi e
  ·exact(h.ap i hi).2.1 e
  ·exact(h.ap i hi).2.2 e
 ·rcases hi with e | e | e
  ·exact e
  ·omega
  ·have:=h.nvlt i e;omega
 ·rcases e with e | e | e
  ·omega
  ·omega
  ·have:=h.nvlt _ e;omega
 ·rcases hnv j e with e | e
  ·exact(h.ap j hj).2.2 e
  ·have:=h.ls.ser.lt j hj;omega
theorem LIx.put{w:World}{r:Nat}{sb:SB}{x:Ser}{ck:Cfg}{clock A:Int}{kn cb:Nat}{l:List It}{tl:List Nat}{ns:List Int}{og og2:Option Nat}{nv:Value}{wr w2:World}{y:It}(h:LIx w r sb x ck clock A kn cb l tl ns og nv wr)(hq:QRep w2 sb.q og2 (zC7 (qKt x.k l) (itK x.k y)))(hk:Keeps (λk=>k=sb.q\/og=some k) wr w2)(hog:og2=og\/∃k,og2=some k/\wr.heap.size<=k): LIx w r sb x ck clock A kn cb (l++[y]) tl ns og2 nv w2:=by
 have hrl:=h.ls.rl
 have hnew:=h.ls.new
 have hs:=h.ls.ser
 have hsz:=h.ls.kp.size
 have hM:∀i,(i=sb.q\/og=some i)->({ sb with g:=og }:SB).foot x.k i:=λi hi=>hi.elim (λe=>.inr (.inl e)) (λe=>.inr (.inr (.inl e)))
 have hf2:∀j,({ sb with g:=og2 }:SB).foot x.k j->({ sb with g:=og }:SB).foot x.k j\/wr.heap.size<=j:=λj hj=>by
  rcases hj with e | e | e | e
  ·exact .inl (.inl e)
  ·exact .inl (.inr (.inl e))
  ·rcases hog with g | ⟨k,g,hz⟩
   ·exact .inl (.inr (.inr (.inl (g ▸ e))))
   ·have e2:og2=some j:=e
    rw[g]at e2
    have:=Option.some.inj e2
    exact .inr (by omega)
  ·exact .inl (.inr (.inr (.inr e)))
 refine⟨⟨⟨?_,?_,?_,hs.sq,λg hg=>?_,λi hi=>⟨(hs.sn i hi).1,(hs.sn i hi).2.1,λe=>?_⟩⟩,h.ls.rd.keeps hk (λe=>h.ls.apart r (hM r e) rfl),h.ls.kp.trans hk (λi hi hlt=>?_),λi hi=>?_,h.ls.rl⟩,h.kr.keeps hk (λe=>(h.ap kn (hM kn e)).2.1 rfl) (λi hi e=>(h.ap i (hM i e)).2.2 hi),h.kd.keeps hk (λe=>by have:=(h.ap _ (hM _ e)).1;omega),λj hj=>?_,h.rc,h.kc,h.wk⟩
 ·exact hs.blk.keeps hk (λe=>by
     rcases e with e | e
     ·exact hs.sq e
     ·exact hs.sg _ e rfl)
 ·show QRep w2 sb.q og2 (qKt x.k (l++[y]))
  rw[qZi]
  exact hq
 ·exact hs.note.keeps hk (λi hi e=>by
     rcases e with e | e
     ·exact(hs.sn i hi).2.1 e
     ·exact(hs.sn i hi).2.2 e)
 ·rcases hog with e | ⟨k,e,hz⟩
  ·exact hs.sg g (e ▸ hg)
  ·have e2:og2=some g:=hg
   rw[e]at e2
   have:=Option.some.inj e2
   have h2:=hs.lt sb.s (.inl rfl)
   show sb.s≠g
   omega
 ·have e2:og2=some i:=e
  rcases hog with g | ⟨k,g,hz⟩
  ·exact(hs.sn i hi).2.2 (g ▸ e2)
  ·rw[g]at e2
   have:=Option.some.inj e2
   have h2:=hs.lt i (.inr (.inr (.inr hi)))
   omega
 ·have:=hnew i (hM i hi)
  omega
 ·rcases hf2 i hi with e | e
  ·exact hnew i e
  ·omega
 ·rcases hf2 j hj with e | e
  ·exact h.ap j e
  ·have h1:=h.kr.blk.lt
   have h2:=h.kc
   refine⟨by omega,by omega,λe2=>?_⟩
   have:=(h.kr.row.lt j e2).2
   omega
theorem qJ5{c:Cfg}{k:Nat}(h:qA7 c=true)(hk:c.kind=k)(h3:k=3): (c.rows=1\/c.rows=2\/c.rows=3)/\1<=c.width/\c.width<=16/\1<=c.panes/\c.panes<=8/\1<=c.window/\c.window<=1000/\c.window%c.panes=0:=by
 subst h3
 simp only[qA7,hk,Bool.and_eq_true]at h
 have h2:qIh c=true:=h.2.2
 simp only[qIh,qD7,inB,Bool.and_eq_true,decide_eq_true_eq,beq_iff_eq]at h2
 omega
theorem K_sd{c:Cfg}{j:Nat}(hj:j<c.rows.toNat): sdA (qCd 3 c) j=sdA c j/\sdB (qCd 3 c) j=sdB c j:=by
 have h:∀p:Nat,j<p->sdA (qUe p (qOh 3 c) c) j=sdA c j/\sdB (qUe p (qOh 3 c) c) j=sdB c j:=λp hp=>by
  match j with
  | 0=>exact⟨if_pos hp,if_pos hp⟩
  | 1=>exact⟨if_pos hp,if_pos hp⟩
  | n+2=>exact⟨if_pos (by omega),if_pos (by omega)⟩
 exact h _ hj
theorem qTy{c:Cfg}{j:Nat}(key:Int)(hj:j<c.rows.toNat): qBw (qCd 3 c) key j=qBw c key j:=by
 unfold qBw
 rw[(K_sd hj).1,(K_sd hj).2];rfl
theorem zC6(c:Cfg)(key:Int): ∀(n:Nat) (cs:List Int),n<=c.rows.toNat->qE0 (qCd 3 c) key n cs=qE0 c key n cs
 | 0,_,_=>rfl
 | n+1,cs,h=>by
  unfold qE0
  rw[zC6 c key n _ (by omega),qTy key (by omega)]
theorem qYy(c:Cfg)(cnt:List Int)(key:Int)(h1:1<=c.rows.toNat): ∀n:Nat,n<=c.rows.toNat->qFn (qCd 3 c) cnt key n=qFn c cnt key n
 | 0,_=>by unfold qFn qK7;rw[qTy key (by omega)]
 | n+1,h=>by
  unfold qFn qK7
  rw[qYy c cnt key h1 n (by omega),qTy key (by omega)]
theorem qIb(k:Nat)(c:Cfg)(h1:1<=k)(h5:k<=5): (qCd k c).kind=c.kind/\(qCd k c).lag=c.lag/\(qCd k c).skew=c.skew/\(qCd k c).cap=c.cap:=by
 rcases five h1 h5 with e | e | e | e | e <;> subst e <;> exact⟨rfl,rfl,rfl,rfl⟩
theorem qTt(k:Nat)(c:Cfg)(y:It)(h1:1<=k)(h5:k<=5): qDb (qCd k c) k (itK k y)=qDb c k y:=by
 rcases five h1 h5 with e | e | e | e | e <;> subst e <;> rfl
theorem qVa(k:Nat)(c:Cfg)(y:It)(h1:1<=k)(h5:k<=5): qDb (qCd k c) k y=qDb c k y:=by
 rcases five h1 h5 with e | e | e | e | e <;> subst e <;> rfl
theorem zGc(k:Nat)(c:Cfg)(nt:Note)(y:It)(m:Int)(h1:1<=k)(h5:k<=5): qLf k (qCd k c) nt (itK k y) m=qLf k c nt y m:=by
 rcases five h1 h5 with e | e | e | e | e <;> subst e
 ·rfl
 ·rfl
 ·have h:=zC6 c y.k c.rows.toNat (qBz nt.op nt.cl (y.t/qA6 c)).1.cs (Nat.le_refl _)
  have h2:(qK2 (qCd 3 c) nt.op nt.cl (itK 3 y) m).1=(qK2 c nt.op nt.cl y m).1:=by
   show(⟨_,qE0 (qCd 3 c) y.k c.rows.toNat (qBz nt.op nt.cl (y.t/qA6 c)).1.cs,_⟩:Pa.Pn)=⟨_,qE0 c y.k c.rows.toNat (qBz nt.op nt.cl (y.t/qA6 c)).1.cs,_⟩
   congr 1
  have h3:(qK2 (qCd 3 c) nt.op nt.cl (itK 3 y) m).2=(qK2 c nt.op nt.cl y m).2:=rfl
  show({ nt with op:=_,cl:=_ }:Note)={ nt with op:=_,cl:=_ }
  rw[h2,h3]
 ·rfl
 ·rfl
theorem zF4(k:Nat)(c:Cfg)(nt:Note)(a m:Int)(h1:1<=k)(h5:k<=5)(hv:qA7 c=true)(hk:c.kind=k): qHl k (qCd k c) nt a m=qHl k c nt a m:=by
 rcases five h1 h5 with e | e | e | e | e <;> subst e
 ·rfl
 ·rfl
 ·have h:=qJ5 hv hk rfl
  show(if inB a 0 2147483648=true then((0:Int),[qFn (qCd 3 c) (qD3 c nt.op nt.cl (m-c.window)) a c.rows.toNat]) else(10,[]))=(if inB a 0 2147483648=true then((0:Int),[qFn c (qD3 c nt.op nt.cl (m-c.window)) a c.rows.toNat]) else(10,[]))
  rw[qYy c _ a (by omega) _ (Nat.le_refl _)]
 ·rfl
 ·rfl
theorem zG5(k:Nat)(c:Cfg)(nt:Note)(m b:Int)(h1:1<=k)(h5:k<=5): qIx k (qCd k c) nt m b=qIx k c nt m b:=by
 rcases five h1 h5 with e | e | e | e | e <;> subst e <;> rfl
theorem zGy(k:Nat)(c:Cfg)(nt:Note)(m:Int)(h1:1<=k)(h5:k<=5): qQq k (qCd k c) nt m=qQq k c nt m:=by
 rcases five h1 h5 with e | e | e | e | e <;> subst e <;> rfl
theorem zC2(k:Nat)(c:Cfg)(h1:1<=k)(h5:k<=5)(hv:qA7 c=true)(hk:c.kind=k): qBo k (qCd k c)=qBo k c:=by
 rcases five h1 h5 with e | e | e | e | e <;> subst e
 ·rfl
 ·rfl
 ·have h:=qJ5 hv hk rfl
  have hp:∀p:Nat,p<=3->(qBs p).map (qUe p (qOh 3 c) c).num=(qBs p).map c.num:=λp hp=>by
   have:p=0\/p=1\/p=2\/p=3:=by omega
   rcases this with e | e | e | e <;> subst e <;> rfl
  have h2:=hp c.rows.toNat (by omega)
  show c.kind::([1,2,3].map c.num++([7,8,9,5].map c.num++(qBs c.rows.toNat).map (qUe c.rows.toNat (qOh 3 c) c).num))=_
  rw[h2];rfl
 ·rfl
 ·rfl
theorem zF3(k:Nat)(c:Cfg)(h1:1<=k)(h5:k<=5): qCd k (qCd k c)=qCd k c:=by
 rcases five h1 h5 with e | e | e | e | e <;> subst e
 ·rfl
 ·rfl
 ·have h:∀p:Nat,qUe p (qOh 3 (qUe p (qOh 3 c) c)) (qUe p (qOh 3 c) c)=qUe p (qOh 3 c) c:=λp=>by
   unfold qUe
   simp only[Cfg.mk.injEq,qOh,zBs]
   refine⟨trivial,trivial,trivial,trivial,trivial,trivial,trivial,trivial,trivial,trivial,trivial,trivial,trivial,trivial,?_,?_,?_,?_,?_,?_⟩ <;> split <;> rfl
  exact h c.rows.toNat
 ·rfl
 ·rfl
theorem qPk(k:Nat)(c:Cfg)(h1:1<=k)(h5:k<=5)(hv:qA7 c=true)(hk:c.kind=k): qA7 (qCd k c)=true:=by
 have hh:=qIb k c h1 h5
 unfold qA7 at hv ⊢
 rw[hh.1]
 rw[hk]at hv ⊢
 have hc:qDk (qCd k c)=qDk c:=by unfold qDk;rw[hh.2.1,hh.2.2.1,hh.2.2.2]
 rw[hc]
 simp only[Bool.and_eq_true]at hv ⊢
 refine⟨hv.1,hv.2.1,?_⟩
 have h2:=hv.2.2
 rw[Int.toNat_natCast]at h2 ⊢
 rcases five h1 h5 with e | e | e | e | e <;> subst e
 ·exact h2
 ·exact h2
 ·have hv':qA7 c=true:=by unfold qA7;simp only[Bool.and_eq_true];rw[hk];exact⟨hv.1,hv.2.1,h2⟩
  have h:=qJ5 hv' hk rfl
  have h3:∀p:Nat,p=1\/p=2\/p=3->qIc (qUe p (qOh 3 c) c) p=qIc c p:=λp hp=>by
   rcases hp with e | e | e <;> subst e <;> rfl
  have h4:qIh (qCd 3 c)=qIh c:=by
   show(inB c.rows 1 3&&(inB c.width 1 16&&(inB c.panes 1 8&&(qD7 c&&((c.window%c.panes==0)&&qIc (qUe c.rows.toNat (qOh 3 c) c) c.rows.toNat)))))=_
   rw[h3 c.rows.toNat (by omega)];rfl
  show qIh (qCd 3 c)=true
  rw[h4];exact h2
 ·exact h2
 ·exact h2
end
end Go.Proofs.YtahnliehdjncdabGreatDoor
namespace Go.Proofs.YtahnliehdjncdabGreatDoor.Dr
open Go.Proofs.YtahnliehdjncdabGreatDoor
def dv(a:It): Int:=a.v%18446744073709551616
def dd(a:It): Int:=a.d%18446744073709551616
def dpos(a:It): Prop:=0<dd a
def leT(a b:It): Prop:=dv a*dd b<dv b*dd a\/(dv a*dd b=dv b*dd a/\b.n<=a.n)
theorem leT.refl(a:It): leT a a:=.inr ⟨rfl,Int.le_refl _⟩
theorem dd0(a:It): 0<=dd a:=by unfold dd;omega
theorem zBv{a b c d e f:Int}(hd:0<d)(hb:0<=b)(hf:0<=f)(h1:a*d<=c*b)(h2:c*f<=e*d): a*f<=e*b/\((a*d<c*b/\0<f)\/(c*f<e*d/\0<b)->a*f<e*b):=by
 have k1:a*d*f<=c*b*f:=Int.mul_le_mul_of_nonneg_right h1 hf
 have k2:c*f*b<=e*d*b:=Int.mul_le_mul_of_nonneg_right h2 hb
 have e1:a*d*f=a*f*d:=by rw[Int.mul_right_comm]
 have e2:c*b*f=c*f*b:=by rw[Int.mul_right_comm]
 have e3:e*d*b=e*b*d:=by rw[Int.mul_right_comm]
 refine⟨Int.le_of_mul_le_mul_right (by omega:a*f*d<=e*b*d) hd,λh=>?_⟩
 refine Int.lt_of_mul_lt_mul_right (a:=d) ?_ (by omega)
 rcases h with ⟨h,hp⟩ | ⟨h,hp⟩
 ·have:a*d*f<c*b*f:=Int.mul_lt_mul_of_pos_right h hp
  omega
 ·have:c*f*b<e*d*b:=Int.mul_lt_mul_of_pos_right h hp
  omega
theorem leT.trans{a b c:It}(hb:dpos b)(ha:dpos a)(hc:dpos c)(h:leT a b)(k:leT b c): leT a c:=by
 unfold leT dpos at *
 have ha0:=dd0 a
 have hc0:=dd0 c
 have h1:dv a*dd b<=dv b*dd a:=by omega
 have h2:dv b*dd c<=dv c*dd b:=by omega
 obtain⟨k1,k2⟩:=zBv hb ha0 hc0 h1 h2
 rcases h with h | ⟨h,hn⟩
 ·left;exact k2 (.inl ⟨h,hc⟩)
 ·rcases k with k | ⟨k,kn⟩
  ·left;exact k2 (.inr ⟨k,ha⟩)
  ·by_cases he:dv a*dd c=dv c*dd a
   ·right;exact⟨he,by omega⟩
   ·left;omega
theorem qLk{a b:It}(h:qCk a b=true): leT a b:=by
 unfold qCk qKx at h;unfold leT dv dd
 split at h
 ·rename_i he;simp at h;right;exact⟨he.symm,by omega⟩
 ·simp at h;left;exact h
theorem qGw{a b:It}(h:qCk a b=false): leT b a:=by
 unfold qCk qKx at h;unfold leT dv dd
 split at h
 ·rename_i he;simp at h;right;exact⟨he,by omega⟩
 ·rename_i he;simp at h;left;omega
structure HeapT (l:List It):Prop where
 ok:∀j,j<l.length->dpos (itAt l j)
 up:∀i,0<i->i<l.length->leT (itAt l ((i-1)/2)) (itAt l i)
theorem qZl{l:List It}{i j:Nat}(h:∀t,t<l.length->dpos (itAt l t))(hi:i<l.length)(hj:j<l.length): ∀t,t<(swapL l i j).length->dpos (itAt (swapL l i j) t):=by
 intro t ht
 rw[qAr]at ht
 rw[qBx l i j t hi hj]
 split
 ·exact h i hi
 ·split
  ·exact h j hj
  ·exact h t ht
structure RiseAt (l:List It) (i:Nat):Prop where
 ok:∀j,j<l.length->dpos (itAt l j)
 up:∀j,0<j->j<l.length->j≠i->leT (itAt l ((j-1)/2)) (itAt l j)
 over:∀c,0<i->c<l.length->0<c->(c-1)/2=i->leT (itAt l ((i-1)/2)) (itAt l c)
theorem qKc(f:Nat): ∀(l:List It) (i:Nat),i<l.length->i<f->RiseAt l i->HeapT (riseL f l i):=by
 induction f with
 | zero=>intro l i _ h;omega
 | succ f ih =>
  intro l i hl hf h
  unfold riseL
  split
  ·rename_i h0
   refine⟨h.ok,λj hj hjl=>?_⟩
   exact h.up j hj hjl (by omega)
  ·rename_i h0
   split
   ·rename_i ha
    have hle:=qLk ha
    have hp:(i-1)/2<i:=by omega
    generalize hpp:(i-1)/2=p at *
    refine ih _ p (by rw[qAr];omega) (by omega) ⟨qZl h.ok hl (by omega),?_,?_⟩
    ·intro j hj hjl hjp
     rw[qAr]at hjl
     rw[qBx l i p _ hl (by omega),qBx l i p j hl (by omega)]
     rw[if_neg hjp]
     by_cases hji:j=i
     ·subst hji
      rw[if_pos hpp,if_pos rfl];exact hle
     ·rw[if_neg hji]
      by_cases h1:(j-1)/2=p
      ·rw[if_pos h1]
       have:=h.up j hj hjl hji
       rw[h1]at this
       exact leT.trans (h.ok p (by omega)) (h.ok i hl) (h.ok j hjl) hle this
      ·rw[if_neg h1]
       by_cases h2:(j-1)/2=i
       ·rw[if_pos h2]
        have:=h.over j (by omega) hjl hj h2
        rw[hpp]at this
        exact this
       ·rw[if_neg h2]
        exact h.up j hj hjl hji
    ·intro c hp0 hcl hc0 hcp
     rw[qAr]at hcl
     rw[qBx l i p _ hl (by omega),qBx l i p c hl (by omega)]
     rw[if_neg (show(p-1)/2≠p by omega),if_neg (show(p-1)/2≠i by omega),if_neg (show c≠p by omega)]
     have hpp':=h.up p hp0 (by omega) (by omega)
     by_cases hci:c=i
     ·rw[if_pos hci];exact hpp'
     ·rw[if_neg hci]
      have:=h.up c hc0 hcl hci
      rw[hcp]at this
      exact leT.trans (h.ok p (by omega)) (h.ok _ (by omega)) (h.ok c hcl) hpp' this
   ·rename_i ha
    have hle:=qGw (by simpa using ha)
    refine⟨h.ok,λj hj hjl=>?_⟩
    by_cases hji:j=i
    ·subst hji;exact hle
    ·exact h.up j hj hjl hji
structure SinkAt (l:List It) (i:Nat):Prop where
 ok:∀j,j<l.length->dpos (itAt l j)
 up:∀j,0<j->j<l.length->(j-1)/2≠i->leT (itAt l ((j-1)/2)) (itAt l j)
 over:∀c,0<i->c<l.length->0<c->(c-1)/2=i->leT (itAt l ((i-1)/2)) (itAt l c)
theorem qHf(l:List It)(i c:Nat)(h:qBy l i=c): 0<c/\(c-1)/2=i/\∀d,d<l.length->0<d->(d-1)/2=i->leT (itAt l c) (itAt l d):=by
 unfold qBy at h
 split at h
 ·split at h
  ·split at h
   ·rename_i h1 h2 h3
    have hc:c=2*i+2:=by omega
    subst hc
    refine⟨by omega,by omega,λd hd h0 hp=>?_⟩
    have:d=2*i+1\/d=2*i+2:=by omega
    rcases this with rfl | rfl
    ·exact qLk h3
    ·exact leT.refl _
   ·rename_i h1 h2 h3
    have hc:c=2*i+1:=by omega
    subst hc
    refine⟨by omega,by omega,λd hd h0 hp=>?_⟩
    have:d=2*i+1\/d=2*i+2:=by omega
    rcases this with rfl | rfl
    ·exact leT.refl _
    ·exact qGw (by simpa using h3)
  ·rename_i h1 h2
   have hc:c=2*i+1:=by omega
   subst hc
   refine⟨by omega,by omega,λd hd h0 hp=>?_⟩
   have:d=2*i+1:=by omega
   subst this
   exact leT.refl _
 ·omega
theorem qIu(l:List It)(i:Nat)(h:qBy l i<0): ∀d,d<l.length->0<d->(d-1)/2≠i:=by
 intro d hd h0 hp
 unfold qBy at h
 split at h
 ·split at h
  ·split at h <;> omega
  ·omega
 ·omega
theorem qJ8(f:Nat): ∀(l:List It) (i:Nat),i<l.length->l.length<=f+i->SinkAt l i->HeapT (sinkL f l i):=by
 induction f with
 | zero=>intro l i _ h;omega
 | succ f ih =>
  intro l i hl hf h
  unfold sinkL
  split
  ·rename_i h0
   refine⟨h.ok,λj hj hjl=>?_⟩
   exact h.up j hj hjl (qIu l i h0 j hjl hj)
  ·rename_i h0
   rcases qDj l i with hc | ⟨c,hc,hic,hcl⟩
   ·omega
   ·rw[hc,Int.toNat_natCast]
    obtain⟨hc0,hcp,hcm⟩:=qHf l i c hc
    split
    ·rename_i ha
     have hle:=qLk ha
     refine ih _ c (by rw[qAr];omega) (by rw[qAr];omega) ⟨qZl h.ok hl hcl,?_,?_⟩
     ·intro j hj hjl hjp
      rw[qAr]at hjl
      rw[qBx l i c _ hl hcl,qBx l i c j hl hcl,if_neg hjp]
      by_cases hjc:j=c
      ·subst hjc
       rw[if_pos hcp,if_pos rfl];exact hle
      ·rw[if_neg hjc]
       by_cases hji:j=i
       ·subst hji
        rw[if_neg (show(j-1)/2≠j by omega),if_pos rfl]
        exact h.over c hj hcl hc0 hcp
       ·rw[if_neg hji]
        by_cases h2:(j-1)/2=i
        ·rw[if_pos h2];exact hcm j hjl hj h2
        ·rw[if_neg h2];exact h.up j hj hjl h2
     ·intro d hc' hdl hd0 hdp
      rw[qAr]at hdl
      rw[qBx l i c _ hl hcl,qBx l i c d hl hcl]
      rw[if_neg (show(c-1)/2≠c by omega),if_pos hcp,if_neg (show d≠c by omega),if_neg (show d≠i by omega)]
      have:=h.up d hd0 hdl (by omega)
      rw[hdp]at this
      exact this
    ·rename_i ha
     have hle:=qGw (by simpa using ha)
     refine⟨h.ok,λj hj hjl=>?_⟩
     by_cases h2:(j-1)/2=i
     ·rw[h2];exact leT.trans (h.ok c hcl) (h.ok i hl) (h.ok j hjl) hle (hcm j hjl hj h2)
     ·exact h.up j hj hjl h2
theorem HeapT.first{l:List It}(h:HeapT l)(j:Nat)(hj:j<l.length): leT (itAt l 0) (itAt l j):=by
 induction j using Nat.strongRecOn with
 | _ j ih =>
  by_cases h0:j=0
  ·subst h0;exact leT.refl _
  ·exact leT.trans (h.ok ((j-1)/2) (by omega)) (h.ok 0 (by omega)) (h.ok j hj) (ih ((j-1)/2) (by omega) (by omega)) (h.up j (by omega) hj)
theorem itAt_get(l:List It)(j:Nat)(hj:j<l.length): itAt l j=l[j]:=by
 unfold itAt;rw[List.getD_eq_getElem?_getD,List.getElem?_eq_getElem hj];rfl
theorem qGf(l:List It)(i j:Nat)(hi:i<l.length)(hj:j<l.length): (swapL l i j).Perm l:=by
 unfold swapL
 rw[itAt_get l i hi,itAt_get l j hj]
 exact List.set_set_perm hi hj
theorem qJz(f:Nat): ∀(l:List It) (i:Nat),i<l.length->(riseL f l i).Perm l:=by
 induction f with
 | zero=>intro l i _;exact List.Perm.refl _
 | succ f ih =>
  intro l i hl
  unfold riseL
  split
  ·exact List.Perm.refl _
  ·split
   ·exact(ih _ _ (by rw[qAr];omega)).trans (qGf l _ _ hl (by omega))
   ·exact List.Perm.refl _
theorem qKh(f:Nat): ∀(l:List It) (i:Nat),i<l.length->(sinkL f l i).Perm l:=by
 induction f with
 | zero=>intro l i _;exact List.Perm.refl _
 | succ f ih =>
  intro l i hl
  unfold sinkL
  split
  ·exact List.Perm.refl _
  ·rename_i h0
   rcases qDj l i with hc | ⟨c,hc,hic,hcl⟩
   ·omega
   ·rw[hc,Int.toNat_natCast]
    split
    ·exact(ih _ _ (by rw[qAr];omega)).trans (qGf l _ _ hl hcl)
    ·exact List.Perm.refl _
theorem put_heap(l:List It)(x:It)(h:HeapT l)(hx:dpos x): HeapT (riseL (l.length+1) (l++[x]) l.length)/\(riseL (l.length+1) (l++[x]) l.length).Perm (x::l):=by
 have hat:∀j,j<l.length->itAt (l++[x]) j=itAt l j:=by
  intro j hj
  unfold itAt
  rw[List.getD_eq_getElem?_getD,List.getD_eq_getElem?_getD,List.getElem?_append_left hj]
 refine⟨qKc _ _ _ (by simp) (by omega) ⟨?_,?_,?_⟩,(qJz _ _ _ (by simp)).trans (List.perm_append_singleton x l)⟩
 ·intro j hj
  rw[List.length_append,List.length_singleton]at hj
  by_cases hjl:j<l.length
  ·rw[hat j hjl];exact h.ok j hjl
  ·have:j=l.length:=by omega
   subst this
   rw[itAt_get _ _ (by simp)]
   simpa using hx
 ·intro j hj hjl hne
  rw[List.length_append,List.length_singleton]at hjl
  rw[hat _ (by omega),hat j (by omega)]
  exact h.up j hj (by omega)
 ·intro c h0 hcl hc0 hcp
  rw[List.length_append,List.length_singleton]at hcl
  omega
theorem take_heap(l:List It)(h:HeapT l)(hl:l≠[]): HeapT (takeL l)/\(itAt l 0::takeL l).Perm l:=by
 have hpos:0<l.length:=List.length_pos_iff.2 hl
 unfold takeL
 by_cases h1:l.length=1
 ·obtain⟨a,rfl⟩:=List.length_eq_one_iff.1 h1
  refine⟨?_,?_⟩
  ·have hn:(sinkL [a].length (([a].set 0 (itAt [a] ([a].length-1))).take ([a].length-1)) 0).length=0:=rfl
   exact⟨λi hi=>by omega,λi _ hi=>by omega⟩
  ·exact List.Perm.refl _
 ·obtain⟨a,m,rfl⟩:∃a m,l=a::m:=by cases l with | nil=>exact absurd rfl hl | cons a m=>exact⟨a,m,rfl⟩
  obtain⟨m',z,rfl⟩:∃m' z,m=m'++[z]:=by
   refine⟨m.dropLast,m.getLast (by intro e;subst e;simp at h1),?_⟩
   rw[List.dropLast_concat_getLast]
  have hz:itAt (a::(m'++[z])) ((a::(m'++[z])).length-1)=z:=by
   rw[itAt_get _ _ (by simp)]
   simp
  have he:((a::(m'++[z])).set 0 (itAt (a::(m'++[z])) ((a::(m'++[z])).length-1))).take ((a::(m'++[z])).length-1)=z::m':=by
   rw[hz];simp
  rw[he]
  have hat:∀j,0<j->j<(z::m').length->itAt (z::m') j=itAt (a::(m'++[z])) j:=by
   intro j h0 hj
   simp only[List.length_cons]at hj
   rw[itAt_get _ _ (by simpa using hj),itAt_get _ _ (by simp;omega)]
   obtain⟨j,rfl⟩:∃k,j=k+1:=⟨j-1,by omega⟩
   simp only[List.getElem_cons_succ]
   rw[List.getElem_append_left (by omega)]
  refine⟨qJ8 _ _ 0 (by simp) (by simp) ⟨?_,?_,?_⟩,?_⟩
  ·intro j hj
   by_cases h0:j=0
   ·subst h0
    have:=h.ok ((a::(m'++[z])).length-1) (by simp)
    rw[hz]at this
    exact this
   ·rw[hat j (by omega) hj];exact h.ok j (by simp at hj ⊢;omega)
  ·intro j hj hjl hne
   rw[hat _ (by omega) (by omega),hat j hj hjl]
   exact h.up j hj (by simp at hjl ⊢;omega)
  ·intro c h0;omega
  ·refine(List.Perm.cons _ (qKh _ _ 0 (by simp))).trans ?_
   show(a::z::m').Perm (a::(m'++[z]))
   exact List.Perm.cons a (List.perm_append_singleton z m').symm
end Go.Proofs.YtahnliehdjncdabGreatDoor.Dr
namespace Go.Proofs.YtahnliehdjncdabGreatDoor
section
theorem Dr.HeapT.firstm{l:List Dr.It}(h:Dr.HeapT l){y:Dr.It}(hy:y∈l): Dr.leT (Dr.itAt l 0) y:=by
 obtain⟨j,hj,rfl⟩:=List.mem_iff_getElem.1 hy
 have:=h.first j hj
 rw[Dr.itAt_get l j hj]at this
 exact this
theorem Dr.allL_spec(f:Nat): ∀l:List Dr.It,l.length<f->Dr.HeapT l->(Dr.allL f l).Perm l/\(Dr.allL f l).Pairwise Dr.leT:=by
 induction f with
 | zero=>intro l h;omega
 | succ f ih =>
  intro l hl hh
  unfold Dr.allL
  by_cases h0:l.length=0
  ·rw[if_pos h0,List.eq_nil_of_length_eq_zero h0]
   exact⟨List.Perm.refl _,List.Pairwise.nil⟩
  ·rw[if_neg h0]
   have hne:l≠[]:=λe=>h0 (by rw[e];rfl)
   obtain⟨h1,h2⟩:=Dr.take_heap l hh hne
   have h3:=Dr.takeL_length l
   obtain⟨p,q⟩:=ih (Dr.takeL l) (by omega) h1
   refine⟨(List.Perm.cons _ p).trans h2,List.pairwise_cons.2 ⟨λy hy=>?_,q⟩⟩
   exact hh.firstm (h2.mem_iff.1 (by simp[p.mem_iff.1 hy]))
end
section
open Go.RowKit
theorem qMg(k:Nat)(y:It): (itK k y).t=y.t:=by unfold itK;split <;> rfl
theorem qHs(k:Nat)(y:It): (itK k y).n=y.n:=by unfold itK;split <;> rfl
theorem zA1(k:Nat)(y:It): itK k (itK k y)=itK k y:=by unfold itK;split <;> simp_all
theorem zD5(k:Nat)(y:It)(h1:1<=k)(h5:k<=5): qK8 k (itK k y)=qK8 k y:=by
 rcases five h1 h5 with e | e | e | e | e <;> subst e <;> rfl
theorem zC5(k:Nat)(l:List It)(h1:1<=k)(h5:k<=5): qGr k (l.map (itK k))=qGr k l:=by
 unfold qGr
 rw[List.flatMap_map]
 congr 1
 funext y
 exact zD5 k y h1 h5
theorem qX0{α:Type}(f:α->Int){l:List α}(h:(l.map f).Nodup){a b:α}(ha:a∈l)(hb:b∈l)(e:f a=f b): a=b:=by
 induction l with
 | nil=>cases ha
 | cons x l ih =>
  rw[List.map_cons,List.nodup_cons]at h
  rcases List.mem_cons.1 ha with ha | ha
  ·rcases List.mem_cons.1 hb with hb | hb
   ·rw[ha,hb]
   ·exact absurd (List.mem_map_of_mem (f:=f) hb) (by rw[<-e,ha];exact h.1)
  ·rcases List.mem_cons.1 hb with hb | hb
   ·exact absurd (List.mem_map_of_mem (f:=f) ha) (by rw[e,hb];exact h.1)
   ·exact ih h.2 ha hb
theorem qEv{α β:Type}{f:α->β}{l l':List α}(h:(l.map f).Perm (l'.map f)): l=[]↔l'=[]:=by
 have:=h.length_eq
 rw[List.length_map,List.length_map]at this
 constructor <;> intro e
 ·subst e;exact List.length_eq_zero_iff.1 this.symm
 ·subst e;exact List.length_eq_zero_iff.1 this
theorem qVu{l:List It}(h:HeapL l){y:It}(hy:y∈l): leP (itAt l 0) y:=by
 obtain⟨j,hj,rfl⟩:=List.mem_iff_getElem.1 hy
 rw[<-itAt_get l j hj];exact h.first j hj
theorem qQy{k:Nat}{l l':List It}(h:HeapL l)(h':HeapL l')(hn:(l.map (·.n)).Nodup)(hl:l≠[])(hp:(l.map (itK k)).Perm (l'.map (itK k))):
  itK k (itAt l 0)=itK k (itAt l' 0)/\((takeL l).map (itK k)).Perm ((takeL l').map (itK k)):=by
 have hl':l'≠[]:=λe=>hl ((qEv hp).2 e)
 have h0:=qFt hl
 have h0':=qFt hl'
 obtain⟨z,hz,ez⟩:=List.mem_map.1 (hp.subset (List.mem_map_of_mem h0))
 obtain⟨u,hu,eu⟩:=List.mem_map.1 (hp.symm.subset (List.mem_map_of_mem h0'))
 have e:itK k (itAt l 0)=itK k (itAt l' 0):=by
  have a:=qVu h hu
  have b:=qVu h' hz
  have t1:u.t=(itAt l' 0).t:=by rw[<-qMg k u,eu,qMg]
  have n1:u.n=(itAt l' 0).n:=by rw[<-qHs k u,eu,qHs]
  have t2:z.t=(itAt l 0).t:=by rw[<-qMg k z,ez,qMg]
  have n2:z.n=(itAt l 0).n:=by rw[<-qHs k z,ez,qHs]
  have hn2:(itAt l 0).n=u.n:=by
   rcases a with a | a <;> rcases b with b | b <;> omega
  rw[qX0 (·.n) hn h0 hu hn2,eu]
 refine⟨e,?_⟩
 have p1:=((take_heap l h hl).2.map (itK k)).trans (hp.trans ((take_heap l' h' hl').2.map (itK k)).symm)
 rw[List.map_cons,List.map_cons,e]at p1
 exact p1.cons_inv
theorem zCp{k:Nat}(f:Nat): ∀ {l l':List It},HeapL l->HeapL l'->(l.map (·.n)).Nodup->(l.map (itK k)).Perm (l'.map (itK k))->(Qi.allL f l).map (itK k)=(Qi.allL f l').map (itK k):=by
 induction f with
 | zero=>intros;rfl
 | succ f ih =>
  intro l l' h h' hn hp
  by_cases hl:l=[]
  ·have hl':=(qEv hp).1 hl
   rw[hl,hl']
  ·have hl':l'≠[]:=λe=>hl ((qEv hp).2 e)
   obtain⟨e,p⟩:=qQy h h' hn hl hp
   have a:l.length≠0:=λe=>hl (List.length_eq_zero_iff.1 e)
   have a':l'.length≠0:=λe=>hl' (List.length_eq_zero_iff.1 e)
   unfold Qi.allL
   rw[if_neg a,if_neg a',List.map_cons,List.map_cons,e]
   congr 1
   refine ih (take_heap l h hl).1 (take_heap l' h' hl').1 ?_ p
   have:=((take_heap l h hl).2.map (·.n)).nodup_iff.2 hn
   rw[List.map_cons,List.nodup_cons]at this
   exact this.2
theorem qF7(f:Nat): ∀l:List It,l.length<f->HeapL l->(Qi.allL f l).Perm l:=by
 induction f with
 | zero=>intro l h;omega
 | succ f ih =>
  intro l hf h
  unfold Qi.allL
  split
  ·rename_i e;rw[List.length_eq_zero_iff.1 e]
  ·rename_i e
   have hl:l≠[]:=λe'=>e (by rw[e'];rfl)
   exact(List.Perm.cons _ (ih (takeL l) (by rw[takeL_length];omega) (take_heap l h hl).1)).trans (take_heap l h hl).2
theorem qMd(k:Nat)(its:List It): HeapL (qKt k its)/\(qKt k its).Perm (its.map (itK k)):=by
 have:∀(a:List It) (l:List It),HeapL l->HeapL (a.foldl (λl y=>zC7 l (itK k y)) l)/\(a.foldl (λl y=>zC7 l (itK k y)) l).Perm (a.map (itK k)++l):=by
  intro a
  induction a with
  | nil=>intro l h;exact⟨h,List.Perm.refl _⟩
  | cons y a ih =>
   intro l h
   have hp:=put_heap l (itK k y) h
   obtain⟨i1,i2⟩:=ih (zC7 l (itK k y)) hp.1
   refine⟨i1,i2.trans ?_⟩
   refine(List.Perm.append_left _ hp.2).trans ?_
   rw[List.map_cons,List.cons_append]
   exact List.perm_middle
 have h:=this its [] (λi _ h=>by simp at h)
 rw[List.append_nil]at h
 exact h
theorem qRf{l l':List Dr.It}(h:Dr.HeapT l)(h':Dr.HeapT l')(hn:(l.map (·.n)).Nodup)(hl:l≠[])(hp:l.Perm l'):
  Dr.itAt l 0=Dr.itAt l' 0/\(Dr.takeL l).Perm (Dr.takeL l'):=by
 have hl':l'≠[]:=λe=>hl (by rw[e]at hp;exact hp.eq_nil)
 have m0:∀ {a:List Dr.It},a≠[]->Dr.itAt a 0∈a:=fun {a} ha=>by
  have h1:0<a.length:=by cases a with | nil=>exact absurd rfl ha | cons _ _=>simp
  rw[Dr.itAt_get a 0 h1];exact List.getElem_mem _
 have h0:=m0 hl
 have h0':=hp.symm.subset (m0 hl')
 have e:Dr.itAt l 0=Dr.itAt l' 0:=by
  have a:=h.firstm h0'
  have b:=h'.firstm (hp.subset h0)
  refine qX0 (·.n) hn h0 h0' ?_
  unfold Dr.leT at a b
  rcases a with a | a <;> rcases b with b | b <;> omega
 refine⟨e,?_⟩
 have p1:=(Dr.take_heap l h hl).2.trans (hp.trans (Dr.take_heap l' h' hl').2.symm)
 rw[e]at p1
 exact p1.cons_inv
theorem qQ0(f:Nat): ∀ {l l':List Dr.It},Dr.HeapT l->Dr.HeapT l'->(l.map (·.n)).Nodup->l.Perm l'->Dr.allL f l=Dr.allL f l':=by
 induction f with
 | zero=>intros;rfl
 | succ f ih =>
  intro l l' h h' hn hp
  by_cases hl:l=[]
  ·subst hl;rw[hp.nil_eq]
  ·have hl':l'≠[]:=λe=>hl (by rw[e]at hp;exact hp.eq_nil)
   obtain⟨e,p⟩:=qRf h h' hn hl hp
   have a:l.length≠0:=λe=>hl (List.length_eq_zero_iff.1 e)
   have a':l'.length≠0:=λe=>hl' (List.length_eq_zero_iff.1 e)
   unfold Dr.allL
   rw[if_neg a,if_neg a',e]
   congr 1
   refine ih (Dr.take_heap l h hl).1 (Dr.take_heap l' h' hl').1 ?_ p
   have:=((Dr.take_heap l h hl).2.map (·.n)).nodup_iff.2 hn
   rw[List.map_cons,List.nodup_cons]at this
   exact this.2
theorem qJb(c:Cfg){l:List Dr.It}(y:It)(h:Dr.HeapT l)(hy:Dr.dpos (tick c y)): Dr.HeapT (qGm c l y)/\∃D,(D++qGm c l y).Perm (tick c y::l)/\(D.length:Int)=if c.size+1<((l.length+1:Nat):Int) then 1 else 0:=by
 have hp:=Dr.put_heap l (tick c y) h hy
 unfold qGm
 split
 ·have hne:Dr.riseL (l.length+1) (l++[tick c y]) l.length≠[]:=λe=>by
   have:=hp.2.length_eq
   rw[e]at this;simp at this
  have ht:=Dr.take_heap _ hp.1 hne
  exact⟨ht.1,[_],ht.2.trans hp.2,rfl⟩
 ·exact⟨hp.1,[],hp.2,rfl⟩
theorem zAn(c:Cfg){l l':List Dr.It}(y:It)(h:Dr.HeapT l)(h':Dr.HeapT l')(hy:Dr.dpos (tick c y))(hn:((tick c y::l).map (·.n)).Nodup)(hp:l.Perm l'): (qGm c l y).Perm (qGm c l' y):=by
 have a:=Dr.put_heap l (tick c y) h hy
 have b:=Dr.put_heap l' (tick c y) h' hy
 have hpp:=a.2.trans ((hp.cons _).trans b.2.symm)
 have hne:Dr.riseL (l.length+1) (l++[tick c y]) l.length≠[]:=λe=>by
  have:=a.2.length_eq
  rw[e]at this;simp at this
 have hl:=hp.length_eq
 unfold qGm
 by_cases hs:c.size+1<((l.length+1:Nat):Int)
 ·rw[if_pos hs,if_pos (by rw[<-hl];exact hs)]
  exact(qRf a.1 b.1 ((a.2.map (·.n)).nodup_iff.2 hn) hne hpp).2
 ·rw[if_neg hs,if_neg (by rw[<-hl];exact hs)]
  exact hpp
end
section
def SortB(l:List Bk): Prop:=l.Pairwise (λa b=>a.sz<b.sz/\b.t<a.t)
theorem qN1(r:Int)(l:List Bk)(h:0<(qCw r l).length): r<(qB7 (qCw r l) ((qCw r l).length-1)).t:=by
 by_cases hl:0<l.length
 ·by_cases hb:(qB7 l (l.length-1)).t<=r
  ·have e:=qJ4 hl hb
   rw[e]at h ⊢
   have:(l.take (l.length-1)).length<l.length:=by rw[List.length_take];omega
   exact qN1 r (l.take (l.length-1)) h
  ·rw[qJs hl hb];omega
 ·have:l=[]:=List.eq_nil_of_length_eq_zero (by omega)
  rw[this]at h;simp[qQt]at h
 termination_by l.length
theorem zAo{l:List Bk}{x:Bk}(hs:SortB l)(hle:∀b∈l,b.sz<=x.sz): SortB (qG5 l x):=by
 obtain⟨k,hk,_⟩:=qJa x.t l
 have hs2:SortB (qCw x.t l):=by rw[hk];exact List.Pairwise.sublist (List.take_sublist _ _) hs
 have hsub:∀b∈qCw x.t l,b∈l:=λb hb=>by rw[hk]at hb;exact List.mem_of_mem_take hb
 unfold qG5
 by_cases h:0<(qCw x.t l).length/\(qB7 (qCw x.t l) ((qCw x.t l).length-1)).sz=x.sz
 ·rw[if_pos h];exact hs2
 ·rw[if_neg h]
  refine List.pairwise_append.2 ⟨hs2,by simp,λa ha b hb=>?_⟩
  rw[List.mem_singleton]at hb
  subst hb
  have hpos:0<(qCw b.t l).length:=List.length_pos_of_mem ha
  have hlast:=qN1 b.t l hpos
  have hne:(qB7 (qCw b.t l) ((qCw b.t l).length-1)).sz≠b.sz:=λe=>h ⟨hpos,e⟩
  have hm:qB7 (qCw b.t l) ((qCw b.t l).length-1)∈qCw b.t l:=by
   have h1:(qCw b.t l).length-1<(qCw b.t l).length:=by omega
   simp[qB7,List.getD_eq_getElem?_getD,List.getElem?_eq_getElem h1]
  have hlz:=hle _ (hsub _ hm)
  have hsp:=qF9 (qCw b.t l) hpos
  generalize qB7 (qCw b.t l) ((qCw b.t l).length-1)=z at *
  generalize(qCw b.t l).take ((qCw b.t l).length-1)=fr at *
  rw[hsp]at ha hs2
  rcases List.mem_append.1 ha with e | e
  ·have:=(List.pairwise_append.1 hs2).2.2 a e z (by simp);omega
  ·rw[List.mem_singleton]at e;rw[e];omega
end
end Go.Proofs.YtahnliehdjncdabGreatDoor
