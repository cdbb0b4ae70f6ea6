import Derived.Test.YtahnliehdjncdabGreatDoorXAT
import Derived.Deep.LoopGhost
set_option maxRecDepth 100000
set_option maxHeartbeats 16000000
namespace Go.Proofs.YtahnliehdjncdabGreatDoor
section
open Go.RowKit
attribute [local go_sem ↓] qAd qAe
attribute [local go_sem] qAf qAl qAc qAb qAm qAn qAi qAj qAh qAk
theorem qBm{M:Nat->Prop}{w w':World}{b o n:Nat}(hk:Keeps M w w')(hn:¬M b)(hlt:b<w.heap.size): qAu w' b o n=qAu w b o n/\qA2 w' b o n=qA2 w b o n:=by
 have hc:∀j,w'.cell? ⟨b,o+j,none⟩=w.cell? ⟨b,o+j,none⟩:=λj=>World.cell?_of_block (a:=⟨b,o+j,none⟩) (hk.block b hlt hn)
 constructor
 ·unfold qAu qB0;simp only[hc]
 ·unfold qA2;simp only[hc]
theorem qM8(n:Int)(b:SB)(x:Ser)(y:It)(clock:Int)(w:World)(hs:SRep w b x)(hi:SInv n x)(c0:0<=clock)(c1:clock<=4611686018427387904):
  Calls Tryz.prog 49 #[.pointer (some ⟨b.s,0,none⟩),y.val,.int .i64 clock] w λe w'=>e=.returned (.int .i64 (qIw x clock y))/\Keeps (λ_=>False) w w':=by
 obtain⟨l0,l1,s0,s1,p1,p8⟩:=hi.common;have hlt:=hs.blk.lt;have HS:=hide hs;have HI:=hide hi;have HB:=hide (show Blk (w.alloc (.cells y.cells 88)) w.heap.size [.int .i64 y.t,.int .i64 y.k,.int .i64 y.d,.int .i64 y.n] 88 from Blk.new w [_,_,_,_] 88);have HK:=hide ((Keeps.refl (λ_=>False) w).alloc (.cells y.cells 88));have HE:=hide (show qIw x clock y=if inB y.t 0 4611686018427387904 then(if y.t<=clock-x.c.lag then 6 else if clock+x.c.skew<y.t then 7 else if qCy x.c x.k y≠0 then qCy x.c x.k y else if x.c.cap<=x.l.length then 11 else if 4611686018427387904<=x.acc then 11 else 0) else 5 from rfl);clear hs hi;unfold It.val;cases h1:inB y.t 0 4611686018427387904
 ·go_enter Tryz.func49,Tryz.ntmps49
  go_wp2_with (go_at_call 52;refine(qFs _ _).mono ?_;rintro e w' ⟨rfl,rfl⟩)
  go_ret
  exact⟨qBa (by rw[uh HE,h1];rfl),uh HK⟩
 ·obtain⟨t0,t1⟩:=qCq h1
  rw[h1,if_pos rfl]at HE;have hc2:w.cell? ⟨b.s,2,none⟩=some (.int .i64 x.c.lag):=(uh HS).blk.cell rfl;go_enter Tryz.func49,Tryz.ntmps49
  go_wp2_with fail
  refine(qFs _ _).mono ?_;rintro e w' ⟨rfl,rfl⟩;rw[h1];go_wp2_with fail
  go_region_held3 (λw'=>w'.cell? ⟨w.heap.size,0,none⟩=some (.int .i64 y.t)/\w'.cell? ⟨b.s,2,none⟩=some (.int .i64 x.c.lag)) (go_keep)
   (first | (go_at_call 54;refine(qK8 b.s x.c.lag clock _ (by go_keep) l0 l1 c0 c1).mono ?_;rintro e w' ⟨rfl,rfl⟩))
  have HB1:=hide ((uh HB).drew);have HK1:=hide ((uh HK).drew);clear HB HK;have e1:(w.alloc (.cells #[.int .i64 y.t,.int .i64 y.k,.int .i64 y.d,.int .i64 y.n] 88)).drew=(w.alloc (.cells y.cells 88)).drew:=rfl;rw[e1];clear e1;generalize(w.alloc (.cells y.cells 88)).drew=w1 at *;generalize hbx:w.heap.size=bx at *;have HS1:=hide ((uh HS).still (uh HK1));clear hc2 hlt hbx;have hlt:=(uh HS1).blk.lt;have hltx:=(uh HB1).lt;have hb0:w1.cell? ⟨bx,0,none⟩=some (.int .i64 y.t):=(uh HB1).cell rfl;have hb1:w1.cell? ⟨bx,1,none⟩=some (.int .i64 y.k):=(uh HB1).cell rfl;have hb2:w1.cell? ⟨bx,2,none⟩=some (.int .i64 y.d):=(uh HB1).cell rfl;have hb3:w1.cell? ⟨bx,3,none⟩=some (.int .i64 y.n):=(uh HB1).cell rfl;have hc3:w1.cell? ⟨b.s,3,none⟩=some (.int .i64 x.c.skew):=(uh HS1).blk.cell rfl
  by_cases h6:y.t<=clock-x.c.lag
  ·rw[if_pos h6]at HE
   go_wp2
   go_ret
   exact⟨qBa (uh HE).symm,uh HK1⟩
  ·rw[if_neg h6]at HE
   have h6':decide (y.t<=clock-x.c.lag)=false:=by simpa using h6
   go_wp2_with fail
   go_quiet (fail)
   by_cases h7:clock+x.c.skew<y.t
   ·rw[if_pos h7]at HE
    go_wp2
    go_ret
    exact⟨qBa (uh HE).symm,(uh HK1).then (Keeps.drewN _ _ _)⟩
   ·rw[if_neg h7]at HE
    have h7':decide (clock+x.c.skew<y.t)=false:=by simpa using h7
    go_wp2_with fail
    have hkd:Keeps (λ_=>False) w1 (w1.drewN nq):=Keeps.drewN (λ_=>False) w1 nq;have HS2:=hide ((uh HS1).still hkd);have HB2:=hide ((uh HB1).keeps hkd (λh=>h));have HK2:=hide ((uh HK1).then hkd);clear hkd;generalize w1.drewN nq=w2 at *;clear HS1 HB1 HK1 hb0 hb1 hb2 hb3 hc3 hlt hltx h6 h6' h7 h7';have hlt:=(uh HS2).blk.lt;have hltx:=(uh HB2).lt;have hb0:w2.cell? ⟨bx,0,none⟩=some (.int .i64 y.t):=(uh HB2).cell rfl;have hb1:w2.cell? ⟨bx,1,none⟩=some (.int .i64 y.k):=(uh HB2).cell rfl;have hb2:w2.cell? ⟨bx,2,none⟩=some (.int .i64 y.d):=(uh HB2).cell rfl;have hb3:w2.cell? ⟨bx,3,none⟩=some (.int .i64 y.n):=(uh HB2).cell rfl;have hc22:w2.cell? ⟨b.s,24,none⟩=some (.func (.func (qAr x.k)) #[] #[]):=(uh HS2).blk.cell rfl;obtain⟨hv,hh⟩:=qBh (uh HS2).blk 1 20 x.c.cells rfl rfl;have hown:=qOl x.k (uh HI).k1 (uh HI).k5
    go_region_held3 (λw'=>w'.cell? ⟨b.s,24,none⟩=some (.func (.func (qAr x.k)) #[] #[])/\qAu w' b.s 1 20=.agg x.c.cells.toArray/\qA2 w' b.s 1 20=true /\
        w'.cell? ⟨bx,0,none⟩=some (.int .i64 y.t)/\w'.cell? ⟨bx,1,none⟩=some (.int .i64 y.k)/\w'.cell? ⟨bx,2,none⟩=some (.int .i64 y.d)/\w'.cell? ⟨bx,3,none⟩=some (.int .i64 y.n))
     (first | (simp[*,qAc,qAb];done) | (go_split_ands;refine⟨hk.cell (by assumption) (λh=>h),(qBm hk (λh=>h) (by simpa using hlt)).1.trans (by assumption),(qBm hk (λh=>h) (by simpa using hlt)).2.trans (by assumption),hk.cell (by assumption) (λh=>h),hk.cell (by assumption) (λh=>h),hk.cell (by assumption) (λh=>h),hk.cell (by assumption) (λh=>h)⟩))
     (first | (refine(qIa x.c x.k y _ (uh HI).k1 (uh HI).k5 (uh HI).weighs t0 t1).mono ?_;rintro e w' ⟨rfl,hk⟩))
    have hk3:Keeps (λ_=>False) w2 w':=((Keeps.refl (λ_=>False) w2).drew).then hk;have HS3:=hide ((uh HS2).still hk3);have HK3:=hide ((uh HK2).then hk3);clear hk hk3 HS2 HB2 HK2 hb0 hb1 hb2 hb3 hc22 hv hh hown hlt hltx;have hlt:=(uh HS3).blk.lt;generalize he:qCy x.c x.k y=e at *
    by_cases h8:e=0
    ·have h8':(e !=0)=false:=by simp[h8]
     rw[if_neg (by simpa using h8)]at HE;have HN8:=hide h8;clear h8;have hc26:w'.cell? ⟨b.s,32,none⟩=some (.pointer (some ⟨b.q,0,none⟩)):=(uh HS3).blk.cell rfl;have hc4:w'.cell? ⟨b.s,4,none⟩=some (.int .i64 x.c.cap):=(uh HS3).blk.cell rfl;have hc33:w'.cell? ⟨b.s,33,none⟩=some (.int .i64 x.acc):=(uh HS3).blk.cell rfl
     by_cases h9:x.c.cap<=(x.l.length:Int)
     ·rw[if_pos h9]at HE
      have h9':decide (x.c.cap<=(x.l.length:Int))=true:=by simpa using h9
      go_wp2_with fail
      go_quiet (first | (go_at_call 78;refine Calls.quiet_of_same (len_any b.q b.g x.l _ (by exact(uh HS3).que.keeps (Keeps.drewN (λ_=>False) _ _) (λh=>h) (λ_ _ h=>h)))))
      go_wp2
      go_ret
      exact⟨qBa (uh HE).symm,(uh HK3).then (Keeps.drewN _ _ _)⟩
     ·rw[if_neg h9]at HE
      have h9':decide (x.c.cap<=(x.l.length:Int))=false:=by simpa using h9
      by_cases h10:4611686018427387904<=x.acc
      ·rw[if_pos h10]at HE
       have h10':decide (4611686018427387904<=x.acc)=true:=by simpa using h10
       go_wp2_with fail
       go_quiet (first | (go_at_call 78;refine Calls.quiet_of_same (len_any b.q b.g x.l _ (by exact(uh HS3).que.keeps (Keeps.drewN (λ_=>False) _ _) (λh=>h) (λ_ _ h=>h)))))
       go_wp2
       go_ret
       exact⟨qBa (uh HE).symm,(uh HK3).then (Keeps.drewN _ _ _)⟩
      ·rw[if_neg h10]at HE
       have h10':decide (4611686018427387904<=x.acc)=false:=by simpa using h10
       go_wp2_with fail
       go_quiet (first | (go_at_call 78;refine Calls.quiet_of_same (len_any b.q b.g x.l _ (by exact(uh HS3).que.keeps (Keeps.drewN (λ_=>False) _ _) (λh=>h) (λ_ _ h=>h)))))
       go_wp2
       go_ret
       exact⟨qBa (uh HE).symm,(uh HK3).then (Keeps.drewN _ _ _)⟩
    ·have h8':(e !=0)=true:=by simp[h8]
     rw[if_pos (by simpa using h8)]at HE;have HN8:=hide h8;clear h8;go_wp2
     go_ret
     exact⟨qBa (uh HE).symm,uh HK3⟩
def numbered(y:It)(n:Int): It:=⟨y.t,y.k,y.d,n⟩
def qTc(x:Ser)(y:It): Ser:={ x with acc:=x.acc+1,l:=riseL (x.l.length+1) (x.l++[numbered y (x.acc+1)]) x.l.length }
def SB.next(b b':SB)(k size:Nat): Prop:=b'.s=b.s/\∀i,b'.foot k i->b.foot k i\/size<=i
theorem qYy(n:Int)(b:SB)(x:Ser)(y:It)(w:World)(hs:SRep w b x)(hi:SInv n x)(hn:n<=4611686018427387904):
  Calls Tryz.prog 51 #[.pointer (some ⟨b.s,0,none⟩),y.val] w λe w'=>e=.returned (.int .i64 (x.acc+1))/\∃b',SRep w' b' (qTc x y)/\b.next b' x.k w.heap.size/\Keeps (b.foot x.k) w w':=by
 obtain⟨l0,l1,s0,s1,p1,p8⟩:=hi.common;have hlt:=hs.blk.lt;have hcap:=hi.cap;have ha0:=hi.acc0;have han:=hi.accn;have hlq:=hs.que.lt;have hc27:w.cell? ⟨b.s,33,none⟩=some (.int .i64 x.acc):=hs.blk.cell rfl;have hf:=hs.blk.frozen;have HS:=hide hs;clear hs hi;have hwr:IntKind.i64.wrap (x.acc+1)=x.acc+1:=qLz (by omega) (by omega);unfold It.val;go_enter Tryz.func51,Tryz.ntmps51
 go_wp2_with fail
 have hk1:Keeps (λi=>i=b.s) w ((w.setCell ⟨b.s,33,none⟩ (.int .i64 (x.acc+1))).alloc (.cells #[.int .i64 y.t,.int .i64 y.k,.int .i64 y.d,.int .i64 (x.acc+1)] 88)) :=
  ((Keeps.refl (λi=>i=b.s) w).setCell (p:=⟨b.s,33,none⟩) (Or.inl rfl) _).alloc _
 have HB1:=hide (show Blk ((w.setCell ⟨b.s,33,none⟩ (.int .i64 (x.acc+1))).alloc (.cells #[.int .i64 y.t,.int .i64 y.k,.int .i64 y.d,.int .i64 (x.acc+1)] 88)) b.s (qCi b { x with acc:=x.acc+1 }) 105 from((uh HS).blk.setCell 33 (.int .i64 (x.acc+1))).alloc _);have HX1:=hide (show Blk ((w.setCell ⟨b.s,33,none⟩ (.int .i64 (x.acc+1))).alloc (.cells #[.int .i64 y.t,.int .i64 y.k,.int .i64 y.d,.int .i64 (x.acc+1)] 88)) w.heap.size [.int .i64 y.t,.int .i64 y.k,.int .i64 y.d,.int .i64 (x.acc+1)] 88 from Blk.newAt (by simp) [_,_,_,_] 88);have HQ1:=hide ((uh HS).que.keeps hk1 (λh=>(uh HS).sq h.symm) (λg hg h=>(uh HS).sg g hg h.symm));have HD1:=hide (show NRep _ x.k b.n x.c x.nt from(uh HS).note.keeps hk1 (λi hi h=>((uh HS).sn i hi).1 h));have HK1:=hide hk1;clear hk1 hc27 hf;generalize((w.setCell ⟨b.s,33,none⟩ (.int .i64 (x.acc+1))).alloc (.cells #[.int .i64 y.t,.int .i64 y.k,.int .i64 y.d,.int .i64 (x.acc+1)] 88))=w1 at *;have hsz:w.heap.size<=w1.heap.size:=(uh HK1).size;generalize hbx:w.heap.size=bx at *;have HBX:=hide hbx;clear hbx;have hlt1:=(uh HB1).lt;have hltx:=(uh HX1).lt;have hc26:w1.cell? ⟨b.s,32,none⟩=some (.pointer (some ⟨b.q,0,none⟩)):=(uh HB1).cell rfl;have hx0:w1.cell? ⟨bx,0,none⟩=some (.int .i64 y.t):=(uh HX1).cell rfl;have hx1:w1.cell? ⟨bx,1,none⟩=some (.int .i64 y.k):=(uh HX1).cell rfl;have hx2:w1.cell? ⟨bx,2,none⟩=some (.int .i64 y.d):=(uh HX1).cell rfl;have hx3:w1.cell? ⟨bx,3,none⟩=some (.int .i64 (x.acc+1)):=(uh HX1).cell rfl;have HNS:=hide (show ¬(b.s=b.q\/b.g=some b.s) from λh=>h.elim (uh HS).sq (λh=>(uh HS).sg b.s h rfl));have HNX:=hide (show ¬(bx=b.q\/b.g=some bx) from λh=>h.elim (λh=>by omega) (λh=>by have:=(hlq.2 bx h).1;omega));have hl9:x.l.length<=900:=by omega
 go_region_held3 (λw'=>w'.cell? ⟨b.s,32,none⟩=some (.pointer (some ⟨b.q,0,none⟩))/\w'.cell? ⟨bx,0,none⟩=some (.int .i64 y.t)/\w'.cell? ⟨bx,1,none⟩=some (.int .i64 y.k)/\w'.cell? ⟨bx,2,none⟩=some (.int .i64 y.d)/\w'.cell? ⟨bx,3,none⟩=some (.int .i64 (x.acc+1)))
  (first | (simp[*];done) | (go_split_ands;exact⟨hk.cell (by assumption) (uh HNS),hk.cell (by assumption) (uh HNX),hk.cell (by assumption) (uh HNX),hk.cell (by assumption) (uh HNX),hk.cell (by assumption) (uh HNX)⟩))
  (first | (go_at_call 79;refine(put_any b.q b.g x.l (numbered y (x.acc+1)) _ (by exact(uh HQ1).keeps ((Keeps.refl (λ_=>False) w1).drew) (λh=>h) (λ_ _ h=>h)) hl9).mono ?_;rintro e w' ⟨rfl,og,hq,hk,hog⟩))
 have HF:=hide (show w'.cell? ⟨bx,3,none⟩=some (.int .i64 (x.acc+1)) from((((uh HX1).drew).keeps hk (uh HNX)).cell rfl));have hx3':=uh HF;have HK:=hide hk;have HQ:=hide hq;have HOG:=hide hog;clear hk hq hog hx0 hx1 hx2 hx3 hc26;go_wp2
 go_ret
 have hkd:Keeps (λk=>k=b.q\/b.g=some k) w1 w':=((Keeps.refl (λk=>k=b.q\/b.g=some k) w1).drew).then (uh HK);refine⟨rfl,⟨b.s,b.q,og,b.n⟩,⟨(uh HB1).keeps hkd (uh HNS),uh HQ,(uh HD1).keeps hkd (λi hi h=>?_),(uh HS).sq,?_,λi hi=>⟨((uh HS).sn i hi).1,((uh HS).sn i hi).2.1,?_⟩⟩,⟨rfl,?_⟩,?_⟩
 ·rcases h with h | h
  ·exact((uh HS).sn i hi).2.1 h
  ·exact((uh HS).sn i hi).2.2 h
 ·intro g hg
  rcases uh HOG with h | ⟨k,h,hz⟩
  ·exact(uh HS).sg g (h.symm.trans hg)
  ·have hgk:g=k:=by have:=h.symm.trans hg;simpa using this.symm
   show b.s≠g;rw[World.size_drew]at hz;omega
 ·intro hg
  rcases uh HOG with h | ⟨k,h,hz⟩
  ·exact((uh HS).sn i hi).2.2 (h.symm.trans hg)
  ·have hgk:i=k:=by have:=h.symm.trans hg;simpa using this.symm
   have:=(uh HD1).lt i hi;rw[World.size_drew]at hz;omega
 ·intro i hi
  rcases hi with hi | hi | hi | hi
  ·exact .inl (.inl hi)
  ·exact .inl (.inr (.inl hi))
  ·rcases uh HOG with h | ⟨k,h,hz⟩
   ·exact .inl (.inr (.inr (.inl (h.symm.trans hi))))
   ·have hgk:i=k:=by have:=h.symm.trans hi;simpa using this.symm
    rw[World.size_drew]at hz;exact .inr (by have:=uh HBX;omega)
  ·exact .inl (.inr (.inr (.inr hi)))
 ·refine((uh HK1).mono (M':=b.foot x.k) (λi _ h=>.inl h)).trans hkd (λi hi _=>?_)
  rcases hi with hi | hi
  ·exact .inr (.inl hi)
  ·exact .inr (.inr (.inl hi))
end
section
open Go.RowKit
theorem swapL_all{P:It->Prop}(h0:P ⟨0,0,0,0⟩){l:List It}(h:∀y,y∈l->P y)(i j:Nat): ∀y,y∈swapL l i j->P y:=by
 have hat:∀i,P (itAt l i):=by
  intro i;unfold itAt;rw[List.getD_eq_getElem?_getD];cases hi:l[i]? with
  | none=>exact h0
  | some v=>exact h v (List.mem_of_getElem? hi)
 intro y hy;unfold swapL at hy;rcases List.mem_or_eq_of_mem_set hy with hy | hy
 ·rcases List.mem_or_eq_of_mem_set hy with hy | hy
  ·exact h y hy
  ·subst hy;exact hat j
 ·subst hy;exact hat i
theorem riseL_all{P:It->Prop}(h0:P ⟨0,0,0,0⟩)(f:Nat)(l:List It)(i:Nat)(h:∀y,y∈l->P y): ∀y,y∈riseL f l i->P y:=by
 induction f generalizing l i with
 | zero=>exact h
 | succ f ih =>
  unfold riseL
  split
  ·exact h
  ·split
   ·exact ih _ _ (swapL_all h0 h _ _)
   ·exact h
theorem sinkL_all{P:It->Prop}(h0:P ⟨0,0,0,0⟩)(f:Nat)(l:List It)(i:Nat)(h:∀y,y∈l->P y): ∀y,y∈sinkL f l i->P y:=by
 induction f generalizing l i with
 | zero=>exact h
 | succ f ih =>
  unfold sinkL
  split
  ·exact h
  ·split
   ·exact ih _ _ (swapL_all h0 h _ _)
   ·exact h
theorem itAt_all{P:It->Prop}(h0:P ⟨0,0,0,0⟩){l:List It}(h:∀y,y∈l->P y)(i:Nat): P (itAt l i):=by
 unfold itAt;rw[List.getD_eq_getElem?_getD];cases hi:l[i]? with
 | none=>exact h0
 | some v=>exact h v (List.mem_of_getElem? hi)
theorem takeL_all{P:It->Prop}(h0:P ⟨0,0,0,0⟩)(l:List It)(h:∀y,y∈l->P y): ∀y,y∈takeL l->P y:=by
 unfold takeL;refine sinkL_all h0 _ _ _ (λy hy=>?_);have hy:=List.mem_of_mem_take hy;rcases List.mem_or_eq_of_mem_set hy with hy | hy
 ·exact h y hy
 ·subst hy;exact itAt_all h0 h _
theorem takeL_length(l:List It): (takeL l).length=l.length-1:=by
 unfold takeL;rw[qDk];simp
def qFu(x:Ser)(m:Int): Ser:={ x with l:=takeL x.l,rel:=x.rel+1,nt:=qWf x.k x.c x.nt (itAt x.l 0) m,last:=(itAt x.l 0).t }
def qGz: Nat->Ser->Int->Ser
 | 0,x,_=>x
 | f+1,x,m=>if x.l.isEmpty then x else if m<(itAt x.l 0).t then x else qGz f (qFu x m) m
theorem qGl{l:List It}(h:l≠[]): itAt l 0∈l:=by
 cases l with
 | nil=>exact absurd rfl h
 | cons a l=>exact List.mem_cons_self ..
theorem qJr{l:List It}(hh:HeapL l)(hl:l≠[]){y:It}(hy:y∈takeL l): y∈l:=(take_heap l hh hl).2.subset (List.mem_cons_of_mem _ hy)
theorem qHz{n:Int}{x:Ser}(h:SInv n x)(hl:x.l≠[])(m:Int)(hm:¬m<(itAt x.l 0).t): SInv n (qFu x m):=by
 have hlen:0<x.l.length:=List.length_pos_iff.2 hl;have hra:=h.rela;have hcap:=h.cap;have hrel:=h.rel0;have ht:(takeL x.l).length=x.l.length-1:=takeL_length _;have hmem:=qGl hl;have htm:=h.times _ hmem;refine⟨h.valid,h.kind,h.k1,h.k5,h.acc0,h.accn,?_,?_,h.reflen,h.refn,?_,λy hy=>h.times y (qJr h.heap hl hy),?_,(take_heap _ h.heap hl).1,htm.1,htm.2,λy hy=>h.heap.first_mem (qJr h.heap hl hy),λy hy=>h.fits y (qJr h.heap hl hy)⟩
 ·show 0<=x.rel+1;omega
 ·show x.rel+1+((takeL x.l).length:Int)=x.acc;omega
 ·show((takeL x.l).length:Int)<=x.c.cap;omega
 ·exact zEj h.note h.valid h.kind _ _ (h.lastl _ hmem) (by omega)
theorem qLv{c:Cfg}{k:Nat}{y:It}(h:qCy c k y=0)(hk:k=2\/k=3): 0<=y.k/\y.k<=2147483648:=by
 have h2:qY6 y=0:=by
  rcases hk with hk | hk <;> subst hk <;> exact h
 unfold qY6 at h2
 split at h2
 ·rename_i h3;exact qCq h3
 ·omega
theorem qN3(c:Cfg)(k:Nat)(y:It)(n:Int): qCy c k (numbered y n)=qCy c k y:=by
 unfold qCy numbered
 split <;> rfl
theorem zD7{n:Int}{x:Ser}(h:SInv n x)(y:It)(t0:0<=y.t)(t1:y.t<=4611686018427387904)(hc:(x.l.length:Int)<x.c.cap)(ha:x.acc<n)(hlast:x.last<=y.t)(hk:qCy x.c x.k y=0): SInv n (qTc x y):=by
 have h0:=h.acc0;have hr:=h.rela
 have hlen:(riseL (x.l.length+1) (x.l++[numbered y (x.acc+1)]) x.l.length).length=x.l.length+1:=by rw[riseL_length];simp
 have hp:=put_heap x.l (numbered y (x.acc+1)) h.heap;have hall:∀ {P:It->Prop},(∀z,z∈x.l->P z)->P (numbered y (x.acc+1))->∀z,z∈(qTc x y).l->P z:=λh1 h2 z hz=>by
  rcases List.mem_cons.1 (hp.2.subset hz) with e | e
  ·rw[e];exact h2
  ·exact h1 z e
 refine⟨h.valid,h.kind,h.k1,h.k5,?_,?_,h.rel0,?_,h.reflen,h.refn,?_,hall h.times ⟨t0,t1⟩,h.note,hp.1,h.last0,h.lastn,hall h.lastl hlast,hall h.fits ((qN3 _ _ _ _).trans hk)⟩
 ·show 0<=x.acc+1;omega
 ·show x.acc+1<=n;omega
 ·show x.rel+((riseL (x.l.length+1) (x.l++[numbered y (x.acc+1)]) x.l.length).length:Int)=x.acc+1;omega
 ·show((riseL (x.l.length+1) (x.l++[numbered y (x.acc+1)]) x.l.length).length:Int)<=x.c.cap;omega
end
section
open Go.RowKit
attribute [local go_sem ↓] qAd qAe
attribute [local go_sem] qAf qAl qAc qAb qAm qAn qAi qAj qAh qAk
theorem qX8{w w5:World}{b:SB}{x:Ser}{g:Nat}{m:Int}{n':NB}(h:SRep w b x)(hg:b.g=some g)(hb:Blk w5 b.s (qCi b { x with rel:=x.rel+1 }) 105)(hq:QRep w5 b.q (some g) (takeL x.l))(hn:NRep w5 x.k n' x.c (qWf x.k x.c x.nt (itAt x.l 0) m))(hd:n'.d=b.n.d)(hf:∀i,qEn x.k n' i->i≠b.s/\i≠b.q/\b.g≠some i): SRep w5 ⟨b.s,b.q,b.g,n'⟩ (qFu x m):=by
 refine⟨?_,by show QRep w5 b.q b.g _;rw[hg];exact hq,hn,h.sq,h.sg,hf⟩;have:qCi ⟨b.s,b.q,b.g,n'⟩ (qFu x m)=qCi b { x with rel:=x.rel+1 }:=by unfold qCi;simp only[hd];rfl
 rw[this];exact hb
theorem qTj(n:Int)(b:SB)(x:Ser)(m:Int)(w:World)(hs:SRep w b x)(hi:SInv n x)(hn:n<=4611686018427387904)(hT:Tab w)(hT0:¬b.foot x.k 2)(m0:-100<=m)(m1:m<=4611686018427387904):
  Calls Tryz.prog 53 #[.pointer (some ⟨b.s,0,none⟩),.int .i64 m] w λe w'=>e=.returned (.tuple #[])/\∃b',SRep w' b' (qGz (x.l.length+1) x m)/\b.next b' x.k w.heap.size/\Keeps (b.foot x.k) w w':=by
 have HS:=hide hs;have HI:=hide hi;have HTT:=hide hT;have HT0:=hide hT0;clear hs hi hT hT0;go_enter Tryz.func53,Tryz.ntmps53
 go_wp2
 go_loopg [5] (x.l.length) (λg _s wr=>∃(b':SB) (x':Ser),Hid (SRep wr b' x')/\Hid (SInv n x')/\Hid (b.next b' x.k w.heap.size)/\Hid (Keeps (b.foot x.k) w wr)/\x'.k=x.k/\x'.l.length=g/\Hid (qGz (x.l.length+1) x m=qGz (x'.l.length+1) x' m))
 case atStart=>exact⟨b,x,HS,HI,⟨rfl,λ_ h=>.inl h⟩,Keeps.refl _ _,rfl,rfl,rfl⟩
 case round =>
  obtain⟨b1,x1,HS1,HI1,HN1,HK1,hk1,hg1,HE1⟩:=hrel;have HKK:=hide hk1;have HG:=hide hg1;have HS0:=hide (uh HN1).1;clear hk1 hg1;have HB:=hide (show Blk wr b.s (qCi b1 x1) 105 by rw[<-uh HS0];exact(uh HS1).blk);have hlt:=(uh HB).lt;have hc26:wr.cell? ⟨b.s,32,none⟩=some (.pointer (some ⟨b1.q,0,none⟩)):=(uh HB).cell rfl;go_wp2_with fail
  refine(qHi b1.q b1.g x1.l wr (uh HS1).que).mono ?_;rintro e w1 ⟨rfl,hk1⟩;have HB1:=hide ((uh HB).keeps hk1 (λh=>h));have HS2:=hide ((uh HS1).still hk1);have HK2:=hide ((uh HK1).trans hk1 (λ_ h _=>h.elim));have hsz1:wr.heap.size<=w1.heap.size:=hk1.size;have hszw:=(uh HK1).size;clear hk1 hc26 hlt
  by_cases hemp:x1.l.isEmpty=true
  ·have HEM:=hide hemp
   rw[hemp];clear hemp;unfold It.val;go_wp2
   refine bodyPost_ret (results_none rfl _ _ _) rfl ⟨rfl,b1,?_,uh HN1,(uh HK2).alloc _⟩;rw[uh HE1];unfold qGz;rw[if_pos (uh HEM)];exact(uh HS2).still ((Keeps.refl _ _).alloc _)
  ·have hemp':x1.l.isEmpty=false:=by simpa using hemp
   have HNE:=hide (show x1.l≠[] by intro h;rw[h]at hemp;exact hemp rfl);have HEM:=hide hemp;rw[hemp'];clear hemp hemp';generalize hy:itAt x1.l 0=y;have HY:=hide hy;clear hy;unfold It.val;have HB2:=hide ((uh HB1).alloc (.cells #[.int .i64 y.t,.int .i64 y.k,.int .i64 y.d,.int .i64 y.n] 88));have HX2:=hide (Blk.new w1 [.int .i64 y.t,.int .i64 y.k,.int .i64 y.d,.int .i64 y.n] 88);have HS3:=hide ((uh HS2).still ((Keeps.refl (λ_=>False) w1).alloc (.cells #[.int .i64 y.t,.int .i64 y.k,.int .i64 y.d,.int .i64 y.n] 88)));have HK3:=hide ((uh HK2).alloc (.cells #[.int .i64 y.t,.int .i64 y.k,.int .i64 y.d,.int .i64 y.n] 88));have hlt1:=(uh HB1).lt;have hc26:w1.cell? ⟨b.s,32,none⟩=some (.pointer (some ⟨b1.q,0,none⟩)):=(uh HB1).cell rfl
   by_cases ht:m<y.t
   ·go_wp2
    refine bodyPost_ret (results_none rfl _ _ _) rfl ⟨rfl,b1,?_,uh HN1,uh HK3⟩;rw[uh HE1];unfold qGz;rw[if_neg (uh HEM),if_pos (by rw[uh HY];exact ht)];exact uh HS3
   ·have ht':decide (m<y.t)=false:=by simpa using ht
    have HT:=hide ht;clear ht;go_wp2_with fail
    have HLT:=hide (show ∀i,b1.foot x1.k i->i<w1.heap.size from(uh HS2).lt);generalize w1.alloc (.cells #[.int .i64 y.t,.int .i64 y.k,.int .i64 y.d,.int .i64 y.n] 88)=w2 at *;generalize hbx:w1.heap.size=bx at *;clear hbx hc26 HB1 HS2 HK2 HB HS1 HK1;obtain⟨g,hg⟩:∃g,b1.g=some g:=by
     cases hbg:b1.g with
     | none=>have hq:=(uh HS3).que;rw[hbg]at hq;exact absurd hq.1 (uh HNE)
     | some g=>exact⟨g,rfl⟩
    have HGG:=hide hg;have HLEN:=hide (List.length_pos_iff.2 (uh HNE));have hl9:x1.l.length<=900:=by have h1:=(uh HI1).cap;have h2:=(uh HI1).common;omega
    refine(take_any b1.q g x1.l w2 (by have hq:=(uh HS3).que;rw[hg]at hq;exact hq) hl9 (uh HLEN)).mono ?_;rintro e w3 ⟨⟨v,rfl⟩,hq3,hk3⟩
    have HNS:=hide (show ¬(b.s=b1.q\/b.s=g) from λh=>by
       rw[<-uh HS0]at h
       exact h.elim (uh HS3).sq ((uh HS3).sg g hg))
    have HNX:=hide (show ¬(bx=b1.q\/bx=g) from λh=>by
       rcases h with h | h
       ·have:=uh HLT bx (.inr (.inl h));omega
       ·have:=uh HLT bx (.inr (.inr (.inl (by rw[hg,h]))));omega)
    have HB3:=hide ((uh HB2).keeps hk3 (uh HNS));have HX3:=hide ((uh HX2).keeps hk3 (uh HNX));have HQ3:=hide hq3
    have HD3:=hide (show NRep w3 x1.k b1.n x1.c x1.nt from(uh HS3).note.keeps hk3 (λi hi h=>by
         rcases h with h | h
         ·exact((uh HS3).sn i hi).2.1 h
         ·exact((uh HS3).sn i hi).2.2 (by rw[hg,h])))
    have HK4:=hide ((uh HK3).trans hk3 (λi hi hlt=>by
         have hf:b1.foot x.k i:=by
          rcases hi with hi | hi
          ·exact .inr (.inl hi)
          ·exact .inr (.inr (.inl (by rw[hg,hi])))
         rcases(uh HN1).2 i hf with h | h
         ·exact h
         ·omega))
    clear hk3 hq3 HB2 HX2 HK3 hg;have hc28:w3.cell? ⟨b.s,34,none⟩=some (.int .i64 x1.rel):=(uh HB3).cell rfl;have hf3:=(uh HB3).frozen;have hwr:IntKind.i64.wrap (x1.rel+1)=x1.rel+1:=by
     have h1:=(uh HI1).rel0;have h2:=(uh HI1).rela;have h3:=(uh HI1).accn
     exact qLz (by omega) (by omega)
    go_wp2_with fail
    have hk4:Keeps (λi=>i=b.s) w3 (w3.setCell ⟨b.s,34,none⟩ (.int .i64 (x1.rel+1))):=(Keeps.refl (λi=>i=b.s) w3).setCell (p:=⟨b.s,34,none⟩) (Or.inl rfl) _;have HB4:=hide (show Blk (w3.setCell ⟨b.s,34,none⟩ (.int .i64 (x1.rel+1))) b.s (qCi b1 { x1 with rel:=x1.rel+1 }) 105 from(uh HB3).setCell 34 _);have HX4:=hide ((uh HX3).keeps hk4 (λh=>by omega));have HQ4:=hide ((uh HQ3).keeps hk4 (λh=>uh HNS (.inl h.symm)) (λg' hg' h=>uh HNS (.inr (by cases hg';exact h.symm))));have HD4:=hide (show NRep (w3.setCell ⟨b.s,34,none⟩ (.int .i64 (x1.rel+1))) x1.k b1.n x1.c x1.nt from(uh HD3).keeps hk4 (λi hi h=>((uh HS3).sn i hi).1 (by rw[h,uh HS0])));have HK5:=hide ((uh HK4).trans hk4 (λi hi hlt=>.inl hi));clear hk4 HB3 HX3 HQ3 HD3 HK4 hc28 hf3 hwr;generalize w3.setCell ⟨b.s,34,none⟩ (.int .i64 (x1.rel+1))=w4 at *;have hc24:w4.cell? ⟨b.s,27,none⟩=some (.func (.func (zJy x1.k)) (qJt b1.n.d) #[]):=(uh HB4).cell rfl;have hx0:w4.cell? ⟨bx,0,none⟩=some (.int .i64 y.t):=(uh HX4).cell rfl;have hx1:w4.cell? ⟨bx,1,none⟩=some (.int .i64 y.k):=(uh HX4).cell rfl;have hx2:w4.cell? ⟨bx,2,none⟩=some (.int .i64 y.d):=(uh HX4).cell rfl;have hx3:w4.cell? ⟨bx,3,none⟩=some (.int .i64 y.n):=(uh HX4).cell rfl
    have HFIN:=hide (show qGz (x.l.length+1) x m=qGz (x1.l.length) (qFu x1 m) m by
       rw[uh HE1]
       conv=>lhs;unfold qGz
       rw[if_neg (uh HEM),if_neg (by rw[uh HY];have:=uh HT;omega)])
    have HTL:=hide (takeL_length x1.l);have hty:=itAt_all (P:=λy=>0<=y.t/\y.t<=4611686018427387904) (by simp) (uh HI1).times 0;rw[uh HY]at hty;have hown:=zIa x1.k (uh HI1).k1 (uh HI1).k5;have HRL:=hide (show x1.rel+1<=4611686018427387904 by have h1:=(uh HI1).rela;have h2:=(uh HI1).accn;have h4:0<x1.l.length:=List.length_pos_iff.2 (λe=>uh HEM (by rw[e];rfl));omega)
    have HNF:=hide (show ¬b1.foot x.k 2 from λh=>by
       rcases(uh HN1).2 2 h with h1 | h1
       ·exact uh HT0 h1
       ·have h2:=(uh HTT).lt;omega)
    have HT4:=hide (show Tab w4 from(uh HTT).keeps (uh HK5) (uh HT0));have hkf:=(uh HI1).fits _ (qGl (uh HNE));rw[uh HY]at hkf;have HKF:=hide hkf;clear hkf;go_region_with (refine(zHb (rel:=x1.rel) (last:=x1.last) x1.k b1.n x1.c x1.nt y m _ _ (by first | rfl | simp) (by exact(uh HD4).still (Keeps.refl _ _).drew) (uh HI1).note (uh HRL) (uh HI1).valid (uh HI1).kind (uh HI1).k1 (uh HI1).k5 m0 m1 hty.1 hty.2 (λh=>qLv (uh HKF) h) ((uh HT4).keeps (Keeps.refl (λ_=>False) w4).drew (λh=>h)) (λh=>uh HNF (.inr (.inr (.inr (by rw[<-uh HKK];exact h))))) (uh HI1).lastn).mono ?_;rintro e w' ⟨rfl,n',hn',hd',hf',hk⟩)
    all_goals
     have HKD:=hide (((Keeps.refl (qEn x1.k b1.n) w4).drew).then hk);have HN':=hide hn';have HD':=hide hd';have HF':=hide hf';clear hk hn' hd' hf' hx0 hx1 hx2 hx3 hc24 hown;go_wp2
     go_roundg (x1.l.length-1)
     case measure=>have h1:=uh HG;have h2:=uh HLEN;omega
     case rel =>
      have hsn:=(uh HS3).sn;have hlt4:∀i,b1.foot x1.k i->i<w4.heap.size:=by
       have h1:=(uh HB4).lt;have h2:=(uh HQ4).lt;rintro i (hi | hi | hi | hi)
       ·rw[hi,uh HS0];exact h1
       ·rw[hi];exact h2.1
       ·rw[uh HGG]at hi;exact(h2.2 i hi).1
       ·exact(uh HD4).lt i hi
      have hff:∀i,qEn x1.k n' i->i≠b1.s/\i≠b1.q/\b1.g≠some i:=by
       intro i hi;rcases uh HF' i hi with h | h
       ·exact hsn i h
       ·rw[World.size_drew]at h
        refine⟨λe=>?_,λe=>?_,λe=>?_⟩
        ·have:=hlt4 i (.inl e);omega
        ·have:=hlt4 i (.inr (.inl e));omega
        ·have:=hlt4 i (.inr (.inr (.inl e)));omega
      have hr:SRep w' ⟨b1.s,b1.q,b1.g,n'⟩ (qFu x1 m):=by
       refine qX8 (uh HS3) (uh HGG) ?_ ((uh HQ4).keeps (uh HKD) (λh=>(hsn _ h).2.1 rfl) (λg' hg' h=>(hsn _ h).2.2 (by rw[uh HGG];exact hg'))) (by rw[uh HY];exact uh HN') (uh HD') hff;rw[uh HS0];exact(uh HB4).keeps (uh HKD) (λh=>(hsn _ h).1 (uh HS0).symm)
      refine⟨⟨b1.s,b1.q,b1.g,n'⟩,qFu x1 m,hr,qHz (uh HI1) (uh HNE) m (by rw[uh HY];have:=uh HT;omega),⟨(uh HN1).1,λi hi=>?_⟩,(uh HK5).trans (uh HKD) (λi hi hlt=>?_),uh HKK,uh HTL,?_⟩
      ·rcases hi with hi | hi | hi | hi
       ·exact(uh HN1).2 i (.inl hi)
       ·exact(uh HN1).2 i (.inr (.inl hi))
       ·exact(uh HN1).2 i (.inr (.inr (.inl hi)))
       ·rw[<-uh HKK]at hi
        rcases uh HF' i hi with h | h
        ·exact(uh HN1).2 i (.inr (.inr (.inr (by rw[<-uh HKK];exact h))))
        ·rw[World.size_drew]at h
         have:=(uh HK5).size;exact .inr (by omega)
      ·have hf:b1.foot x.k i:=.inr (.inr (.inr (by rw[<-uh HKK];exact hi)))
       rcases(uh HN1).2 i hf with h | h
       ·exact h
       ·omega
      ·show _=qGz ((takeL x1.l).length+1) (qFu x1 m) m
       rw[uh HFIN,uh HTL,show x1.l.length-1+1=x1.l.length by have:=uh HLEN;omega]
end
section
open Go.RowKit
attribute [local go_sem ↓] qAd qAe
attribute [local go_sem] qAf qAl qAc qAb qAm qAn qAi qAj qAh qAk
def qAx(l:List Int)(j:Nat): Int:=l.getD j 0
theorem qDv(b:SB)(x:Ser)(hl:x.ref.length=12)(j:Nat)(hj:j<12): (qCi b x)[35+j]?=some (.int .i64 (qAx x.ref j)):=by
 have h1:(qCi b x)[35+j]?=(x.ref.map (λv=>Value.int .i64 v))[j]?:=by
  rw[Nat.add_comm];rfl
 rw[h1,List.getElem?_map];have hj':j<x.ref.length:=by omega
 simp[qAx,hj']
def ints(l:List Int): List Value:=l.map (λv=>Value.int .i64 v)
def qCp: List Nat:=[5,6,7,8,10,9,11]
def qCu(x:Ser): List Int:=x.acc::x.rel::qCp.map (qAx x.ref)
theorem info3: (Tryz.prog.info? 3).map (λi=>(i.zero,i.size,i.bytes))=some (some (.int .i64 0),1,8):=by kernel_rfl
theorem ix0(w:World): (Instr.index 134 (.agg #[.int .i64 5,.int .i64 6,.int .i64 7,.int .i64 8,.int .i64 10,.int .i64 9,.int .i64 11]) (.int .i64 0)).run Tryz.prog w=.ok (.int .i64 5) w:=by kernel_rfl
theorem ix1(w:World): (Instr.index 134 (.agg #[.int .i64 5,.int .i64 6,.int .i64 7,.int .i64 8,.int .i64 10,.int .i64 9,.int .i64 11]) (.int .i64 1)).run Tryz.prog w=.ok (.int .i64 6) w:=by kernel_rfl
theorem ix2(w:World): (Instr.index 134 (.agg #[.int .i64 5,.int .i64 6,.int .i64 7,.int .i64 8,.int .i64 10,.int .i64 9,.int .i64 11]) (.int .i64 2)).run Tryz.prog w=.ok (.int .i64 7) w:=by kernel_rfl
theorem ix3(w:World): (Instr.index 134 (.agg #[.int .i64 5,.int .i64 6,.int .i64 7,.int .i64 8,.int .i64 10,.int .i64 9,.int .i64 11]) (.int .i64 3)).run Tryz.prog w=.ok (.int .i64 8) w:=by kernel_rfl
theorem ix4(w:World): (Instr.index 134 (.agg #[.int .i64 5,.int .i64 6,.int .i64 7,.int .i64 8,.int .i64 10,.int .i64 9,.int .i64 11]) (.int .i64 4)).run Tryz.prog w=.ok (.int .i64 10) w:=by kernel_rfl
theorem ix5(w:World): (Instr.index 134 (.agg #[.int .i64 5,.int .i64 6,.int .i64 7,.int .i64 8,.int .i64 10,.int .i64 9,.int .i64 11]) (.int .i64 5)).run Tryz.prog w=.ok (.int .i64 9) w:=by kernel_rfl
theorem ix6(w:World): (Instr.index 134 (.agg #[.int .i64 5,.int .i64 6,.int .i64 7,.int .i64 8,.int .i64 10,.int .i64 9,.int .i64 11]) (.int .i64 6)).run Tryz.prog w=.ok (.int .i64 11) w:=by kernel_rfl
theorem qTr{w w':World}{base:Nat}{t size:Nat}{v:Value}{n:Nat}{xs:List Value}(h:w.ownsRow base t size v n xs)(hk:Keeps (λ_=>False) w w'): w'.ownsRow base t size v n xs:=by
 refine⟨h.1,?_⟩;rcases h.2 with h2 | ⟨g,cap,cur,rfl,hb,hg,r⟩
 ·exact .inl h2
 ·exact .inr ⟨g,cap,cur,rfl,hb,by rw[hk.block g (Array.getElem?_eq_some_iff.1 hg).1 (λh=>h)];exact hg,r⟩
theorem qQz(w:World):
  Calls Tryz.prog 82 #[] w λe w'=>e=.returned (.agg #[.int .i64 5,.int .i64 6,.int .i64 7,.int .i64 8,.int .i64 10,.int .i64 9,.int .i64 11])/\Keeps (λ_=>False) w w':=by
 go_enter Tryz.func82,Tryz.ntmps82
 go_wp2
 refine bodyPost_ret (v:=.agg #[.int .i64 5,.int .i64 6,.int .i64 7,.int .i64 8,.int .i64 10,.int .i64 9,.int .i64 11]) (by simp[results,Tryz.results82,go_sem]) rfl ⟨rfl,?_⟩
 repeat (first | exact Keeps.refl _ _ | apply Keeps.alloc)
attribute [local go_sem] ix0 ix1 ix2 ix3 ix4 ix5 ix6
theorem qSd(n:Int)(b:SB)(x:Ser)(w:World)(hs:SRep w b x)(hi:SInv n x):
  Calls Tryz.prog 56 #[.pointer (some ⟨b.s,0,none⟩)] w λe w'=>∃v,e=.returned v/\w'.ownsRow w.heap.size 3 1 v 9 (ints (qCu x))/\Keeps (λ_=>False) w w':=by
 have HB:=hide hs.blk;have HI:=hide hi;have hlt:=hs.blk.lt;have hc27:w.cell? ⟨b.s,33,none⟩=some (.int .i64 x.acc):=hs.blk.cell rfl;have hc28:w.cell? ⟨b.s,34,none⟩=some (.int .i64 x.rel):=hs.blk.cell rfl;clear hs hi;obtain⟨i0,hi0,hz0,hz1,hz2⟩:=info_parts info3;go_enter Tryz.func56,Tryz.ntmps56
 go_wp2_with fail
 go_region
 go_wp2_with fail
 have hk1:Keeps (λ_=>False) w (w.alloc (.cells #[.int .i64 x.acc,.int .i64 x.rel] 3)).drew:=((Keeps.refl _ w).alloc _).drew;have hO1:(w.alloc (.cells #[.int .i64 x.acc,.int .i64 x.rel] 3)).drew.ownsRow w.heap.size 3 1 (.slice (some ⟨w.heap.size,0,none⟩) 2 2) 2 (ints ((qCu x).take 2)) :=
  ⟨rfl,.inr ⟨w.heap.size,2,#[.int .i64 x.acc,.int .i64 x.rel],rfl,by omega,heap_alloc_new w (.cells #[.int .i64 x.acc,.int .i64 x.rel] 3),by omega,by unfold maxLen;omega,rfl,rfl⟩⟩
 have HK1:=hide hk1;have HO1:=hide hO1;clear hk1 hO1 hc27 hc28 hlt;generalize(w.alloc (.cells #[.int .i64 x.acc,.int .i64 x.rel] 3)).drew=W1 at *;refine(qQz W1).mono ?_;rintro e W2 ⟨rfl,hk2⟩;have HK2:=hide ((uh HK1).then hk2);have HO2:=hide (qTr (uh HO1) hk2);clear hk2 HK1 HO1;go_wp2_with fail
 go_loopw [3,16] (λv i wr=>∃k:Nat,k<=7/\i=.int .i64 k/\Hid (wr.ownsRow w.heap.size 3 1 v (2+k) (ints ((qCu x).take (2+k))))/\Hid (Keeps (λ_=>False) w wr)) (λ_ i _=>7-(intOf i).toNat)
 case atStart=>exact⟨0,by omega,rfl,HO2,HK2⟩
 case round =>
  obtain⟨k,hk,rfl,HO,HK⟩:=hrel;have HBr:=hide ((uh HB).keeps (uh HK) (λh=>h));have hltr:=(uh HBr).lt;generalize u3=v at *
  by_cases hlt7:k<7
  ·have hk7:k=0\/k=1\/k=2\/k=3\/k=4\/k=5\/k=6:=by omega
   rcases hk7 with hk7 | hk7 | hk7 | hk7 | hk7 | hk7 | hk7
   all_goals subst hk7
   ·have hc:wr.cell? ⟨b.s,40,none⟩=some (.int .i64 (qAx x.ref 5)):=(uh HBr).cell (qDv b x (uh HI).reflen 5 (by omega))
    have HNEW:=hide (show ints ((qCu x).take (2+0))++[.int .i64 (qAx x.ref 5)]=ints ((qCu x).take (2+1)) from rfl);go_wp2_with (at_builtin;refine wpList_append_lies _ rfl _ _ _ rfl w.heap.size 3 i0 _ 1 8 Tryz.underlying36 hi0 hz0 hz1 hz2 rfl (by omega) v (2+0) (ints ((qCu x).take (2+0))) rfl ((uh HO).alloc _) ⟨wr.heap.size,0,none⟩ 1 1 [.int .i64 (qAx x.ref 5)] rfl rfl (World.news_of_block (cs:=#[.int .i64 (qAx x.ref 5)]) (t:=3) (fr:=(0,0)) (heap_alloc_new wr _)) (by simp[Value.oneCell']) (by omega) (by unfold maxLen;omega) (by omega) (by have:=(uh HK).size;simp;omega) (wr.heap.size+1) (by simp) ?_;intro gg cap' w1 hown1 hgrow hat hl)
    rw[uh HNEW]at hown1;go_roundw
    case rel =>
     refine⟨1,by omega,rfl,hown1,((uh HK).alloc _).grown hgrow (λj hj=>Or.inr ((uh HO).lt j hj).1)⟩
    case measure=>simp[intOf]
   ·have hc:wr.cell? ⟨b.s,41,none⟩=some (.int .i64 (qAx x.ref 6)):=(uh HBr).cell (qDv b x (uh HI).reflen 6 (by omega))
    have HNEW:=hide (show ints ((qCu x).take (2+1))++[.int .i64 (qAx x.ref 6)]=ints ((qCu x).take (2+2)) from rfl);go_wp2_with (at_builtin;refine wpList_append_lies _ rfl _ _ _ rfl w.heap.size 3 i0 _ 1 8 Tryz.underlying36 hi0 hz0 hz1 hz2 rfl (by omega) v (2+1) (ints ((qCu x).take (2+1))) rfl ((uh HO).alloc _) ⟨wr.heap.size,0,none⟩ 1 1 [.int .i64 (qAx x.ref 6)] rfl rfl (World.news_of_block (cs:=#[.int .i64 (qAx x.ref 6)]) (t:=3) (fr:=(0,0)) (heap_alloc_new wr _)) (by simp[Value.oneCell']) (by omega) (by unfold maxLen;omega) (by omega) (by have:=(uh HK).size;simp;omega) (wr.heap.size+1) (by simp) ?_;intro gg cap' w1 hown1 hgrow hat hl)
    rw[uh HNEW]at hown1;go_roundw
    case rel =>
     refine⟨2,by omega,rfl,hown1,((uh HK).alloc _).grown hgrow (λj hj=>Or.inr ((uh HO).lt j hj).1)⟩
    case measure=>simp[intOf]
   ·have hc:wr.cell? ⟨b.s,42,none⟩=some (.int .i64 (qAx x.ref 7)):=(uh HBr).cell (qDv b x (uh HI).reflen 7 (by omega))
    have HNEW:=hide (show ints ((qCu x).take (2+2))++[.int .i64 (qAx x.ref 7)]=ints ((qCu x).take (2+3)) from rfl);go_wp2_with (at_builtin;refine wpList_append_lies _ rfl _ _ _ rfl w.heap.size 3 i0 _ 1 8 Tryz.underlying36 hi0 hz0 hz1 hz2 rfl (by omega) v (2+2) (ints ((qCu x).take (2+2))) rfl ((uh HO).alloc _) ⟨wr.heap.size,0,none⟩ 1 1 [.int .i64 (qAx x.ref 7)] rfl rfl (World.news_of_block (cs:=#[.int .i64 (qAx x.ref 7)]) (t:=3) (fr:=(0,0)) (heap_alloc_new wr _)) (by simp[Value.oneCell']) (by omega) (by unfold maxLen;omega) (by omega) (by have:=(uh HK).size;simp;omega) (wr.heap.size+1) (by simp) ?_;intro gg cap' w1 hown1 hgrow hat hl)
    rw[uh HNEW]at hown1;go_roundw
    case rel =>
     refine⟨3,by omega,rfl,hown1,((uh HK).alloc _).grown hgrow (λj hj=>Or.inr ((uh HO).lt j hj).1)⟩
    case measure=>simp[intOf]
   ·have hc:wr.cell? ⟨b.s,43,none⟩=some (.int .i64 (qAx x.ref 8)):=(uh HBr).cell (qDv b x (uh HI).reflen 8 (by omega))
    have HNEW:=hide (show ints ((qCu x).take (2+3))++[.int .i64 (qAx x.ref 8)]=ints ((qCu x).take (2+4)) from rfl);go_wp2_with (at_builtin;refine wpList_append_lies _ rfl _ _ _ rfl w.heap.size 3 i0 _ 1 8 Tryz.underlying36 hi0 hz0 hz1 hz2 rfl (by omega) v (2+3) (ints ((qCu x).take (2+3))) rfl ((uh HO).alloc _) ⟨wr.heap.size,0,none⟩ 1 1 [.int .i64 (qAx x.ref 8)] rfl rfl (World.news_of_block (cs:=#[.int .i64 (qAx x.ref 8)]) (t:=3) (fr:=(0,0)) (heap_alloc_new wr _)) (by simp[Value.oneCell']) (by omega) (by unfold maxLen;omega) (by omega) (by have:=(uh HK).size;simp;omega) (wr.heap.size+1) (by simp) ?_;intro gg cap' w1 hown1 hgrow hat hl)
    rw[uh HNEW]at hown1;go_roundw
    case rel =>
     refine⟨4,by omega,rfl,hown1,((uh HK).alloc _).grown hgrow (λj hj=>Or.inr ((uh HO).lt j hj).1)⟩
    case measure=>simp[intOf]
   ·have hc:wr.cell? ⟨b.s,45,none⟩=some (.int .i64 (qAx x.ref 10)):=(uh HBr).cell (qDv b x (uh HI).reflen 10 (by omega))
    have HNEW:=hide (show ints ((qCu x).take (2+4))++[.int .i64 (qAx x.ref 10)]=ints ((qCu x).take (2+5)) from rfl);go_wp2_with (at_builtin;refine wpList_append_lies _ rfl _ _ _ rfl w.heap.size 3 i0 _ 1 8 Tryz.underlying36 hi0 hz0 hz1 hz2 rfl (by omega) v (2+4) (ints ((qCu x).take (2+4))) rfl ((uh HO).alloc _) ⟨wr.heap.size,0,none⟩ 1 1 [.int .i64 (qAx x.ref 10)] rfl rfl (World.news_of_block (cs:=#[.int .i64 (qAx x.ref 10)]) (t:=3) (fr:=(0,0)) (heap_alloc_new wr _)) (by simp[Value.oneCell']) (by omega) (by unfold maxLen;omega) (by omega) (by have:=(uh HK).size;simp;omega) (wr.heap.size+1) (by simp) ?_;intro gg cap' w1 hown1 hgrow hat hl)
    rw[uh HNEW]at hown1;go_roundw
    case rel =>
     refine⟨5,by omega,rfl,hown1,((uh HK).alloc _).grown hgrow (λj hj=>Or.inr ((uh HO).lt j hj).1)⟩
    case measure=>simp[intOf]
   ·have hc:wr.cell? ⟨b.s,44,none⟩=some (.int .i64 (qAx x.ref 9)):=(uh HBr).cell (qDv b x (uh HI).reflen 9 (by omega))
    have HNEW:=hide (show ints ((qCu x).take (2+5))++[.int .i64 (qAx x.ref 9)]=ints ((qCu x).take (2+6)) from rfl);go_wp2_with (at_builtin;refine wpList_append_lies _ rfl _ _ _ rfl w.heap.size 3 i0 _ 1 8 Tryz.underlying36 hi0 hz0 hz1 hz2 rfl (by omega) v (2+5) (ints ((qCu x).take (2+5))) rfl ((uh HO).alloc _) ⟨wr.heap.size,0,none⟩ 1 1 [.int .i64 (qAx x.ref 9)] rfl rfl (World.news_of_block (cs:=#[.int .i64 (qAx x.ref 9)]) (t:=3) (fr:=(0,0)) (heap_alloc_new wr _)) (by simp[Value.oneCell']) (by omega) (by unfold maxLen;omega) (by omega) (by have:=(uh HK).size;simp;omega) (wr.heap.size+1) (by simp) ?_;intro gg cap' w1 hown1 hgrow hat hl)
    rw[uh HNEW]at hown1;go_roundw
    case rel =>
     refine⟨6,by omega,rfl,hown1,((uh HK).alloc _).grown hgrow (λj hj=>Or.inr ((uh HO).lt j hj).1)⟩
    case measure=>simp[intOf]
   ·have hc:wr.cell? ⟨b.s,46,none⟩=some (.int .i64 (qAx x.ref 11)):=(uh HBr).cell (qDv b x (uh HI).reflen 11 (by omega))
    have HNEW:=hide (show ints ((qCu x).take (2+6))++[.int .i64 (qAx x.ref 11)]=ints ((qCu x).take (2+7)) from rfl);go_wp2_with (at_builtin;refine wpList_append_lies _ rfl _ _ _ rfl w.heap.size 3 i0 _ 1 8 Tryz.underlying36 hi0 hz0 hz1 hz2 rfl (by omega) v (2+6) (ints ((qCu x).take (2+6))) rfl ((uh HO).alloc _) ⟨wr.heap.size,0,none⟩ 1 1 [.int .i64 (qAx x.ref 11)] rfl rfl (World.news_of_block (cs:=#[.int .i64 (qAx x.ref 11)]) (t:=3) (fr:=(0,0)) (heap_alloc_new wr _)) (by simp[Value.oneCell']) (by omega) (by unfold maxLen;omega) (by omega) (by have:=(uh HK).size;simp;omega) (wr.heap.size+1) (by simp) ?_;intro gg cap' w1 hown1 hgrow hat hl)
    rw[uh HNEW]at hown1;go_roundw
    case rel =>
     refine⟨7,by omega,rfl,hown1,((uh HK).alloc _).grown hgrow (λj hj=>Or.inr ((uh HO).lt j hj).1)⟩
    case measure=>simp[intOf]
  ·have hk7:k=7:=by omega
   subst hk7;go_wp2
   go_ret
   exact⟨_,rfl,uh HO,uh HK⟩
end
end Go.Proofs.YtahnliehdjncdabGreatDoor
