import Derived.Test.YtahnliehdjncdaaGreatDoorXAZ
import Derived.Deep.LoopGhost
set_option maxRecDepth 100000
set_option maxHeartbeats 16000000
namespace Go.Proofs.YtahnliehdjncdaaGreatDoor
section
open Go.RowKit
attribute [local go_sem ↓] qAd qAe
attribute [local go_sem] qAh qAl qAb qAc qAm qAn qAi qAj qAg qAk
def numbered(y:It)(n:Int): It:=⟨y.t,y.k,y.d,n⟩
def qYv(x:Ser)(y:It): Ser:={ x with acc:=x.acc+1,l:=riseL (x.l.length+1) (x.l++[numbered y (x.acc+1)]) x.l.length }
def SB.next(b b':SB)(k size:Nat): Prop:=b'.s=b.s/\∀i,b'.foot k i->b.foot k i\/size<=i
theorem qVz(n:Int)(b:SB)(x:Ser)(y:It)(w:World)(hs:SRep w b x)(hi:SInv n x)(hn:n<=4611686018427387904):
  Calls Tryz.prog 64 #[.pointer (some ⟨b.s,0,none⟩),y.val] w λe w'=>e=.returned (.int .i64 (x.acc+1))/\∃b',SRep w' b' (qYv x y)/\b.next b' x.k w.heap.size/\Keeps (b.foot x.k) w w':=by
 obtain⟨l0,l1,s0,s1,p1,p8⟩:=hi.common
 have hlt:=hs.blk.lt
 have hcap:=hi.cap
 have ha0:=hi.acc0
 have han:=hi.accn
 have hlq:=hs.que.lt
 have hc27:w.cell? ⟨b.s,33,none⟩=some (.int .i64 x.acc):=hs.blk.cell rfl
 have hf:=hs.blk.frozen
 have HS:=hide hs
 clear hs hi
 have hwr:IntKind.i64.wrap (x.acc+1)=x.acc+1:=qM0 (by omega) (by omega)
 unfold It.val
 go_enter Tryz.func64,Tryz.ntmps64
 go_wp2_with fail
 have hk1:Keeps (λi=>i=b.s) w ((w.setCell ⟨b.s,33,none⟩ (.int .i64 (x.acc+1))).alloc (.cells #[.int .i64 y.t,.int .i64 y.k,.int .i64 y.d,.int .i64 (x.acc+1)] 87)) :=
  ((Keeps.refl (λi=>i=b.s) w).setCell (p:=⟨b.s,33,none⟩) (Or.inl rfl) _).alloc _
 have HB1:=hide (show Blk ((w.setCell ⟨b.s,33,none⟩ (.int .i64 (x.acc+1))).alloc (.cells #[.int .i64 y.t,.int .i64 y.k,.int .i64 y.d,.int .i64 (x.acc+1)] 87)) b.s (qB3 b { x with acc:=x.acc+1 }) 104 from((uh HS).blk.setCell 33 (.int .i64 (x.acc+1))).alloc _)
 have HX1:=hide (show Blk ((w.setCell ⟨b.s,33,none⟩ (.int .i64 (x.acc+1))).alloc (.cells #[.int .i64 y.t,.int .i64 y.k,.int .i64 y.d,.int .i64 (x.acc+1)] 87)) w.heap.size [.int .i64 y.t,.int .i64 y.k,.int .i64 y.d,.int .i64 (x.acc+1)] 87 from Blk.newAt (by simp) [_,_,_,_] 87)
 have HQ1:=hide ((uh HS).que.keeps hk1 (λh=>(uh HS).sq h.symm) (λg hg h=>(uh HS).sg g hg h.symm))
 have HD1:=hide (show NRep _ x.k b.n x.c x.nt from(uh HS).note.keeps hk1 (λi hi h=>((uh HS).sn i hi).1 h))
 have HK1:=hide hk1
 clear hk1 hc27 hf
 generalize((w.setCell ⟨b.s,33,none⟩ (.int .i64 (x.acc+1))).alloc (.cells #[.int .i64 y.t,.int .i64 y.k,.int .i64 y.d,.int .i64 (x.acc+1)] 87))=w1 at *
 have hsz:w.heap.size<=w1.heap.size:=(uh HK1).size
 generalize hbx:w.heap.size=bx at *
 have HBX:=hide hbx
 clear hbx
 have hlt1:=(uh HB1).lt
 have hltx:=(uh HX1).lt
 have hc26:w1.cell? ⟨b.s,32,none⟩=some (.pointer (some ⟨b.q,0,none⟩)):=(uh HB1).cell rfl
 have hx0:w1.cell? ⟨bx,0,none⟩=some (.int .i64 y.t):=(uh HX1).cell rfl
 have hx1:w1.cell? ⟨bx,1,none⟩=some (.int .i64 y.k):=(uh HX1).cell rfl
 have hx2:w1.cell? ⟨bx,2,none⟩=some (.int .i64 y.d):=(uh HX1).cell rfl
 have hx3:w1.cell? ⟨bx,3,none⟩=some (.int .i64 (x.acc+1)):=(uh HX1).cell rfl
 have HNS:=hide (show ¬(b.s=b.q\/b.g=some b.s) from λh=>h.elim (uh HS).sq (λh=>(uh HS).sg b.s h rfl))
 have HNX:=hide (show ¬(bx=b.q\/b.g=some bx) from λh=>h.elim (λh=>by omega) (λh=>by have:=(hlq.2 bx h).1;omega))
 have hl9:x.l.length<=900:=by omega
 go_region_held3 (λw'=>w'.cell? ⟨b.s,32,none⟩=some (.pointer (some ⟨b.q,0,none⟩))/\w'.cell? ⟨bx,0,none⟩=some (.int .i64 y.t)/\w'.cell? ⟨bx,1,none⟩=some (.int .i64 y.k)/\w'.cell? ⟨bx,2,none⟩=some (.int .i64 y.d)/\w'.cell? ⟨bx,3,none⟩=some (.int .i64 (x.acc+1)))
  (first | (simp[*];done) | (go_split_ands;exact⟨hk.cell (by assumption) (uh HNS),hk.cell (by assumption) (uh HNX),hk.cell (by assumption) (uh HNX),hk.cell (by assumption) (uh HNX),hk.cell (by assumption) (uh HNX)⟩))
  (first | (go_at_call 92;refine(put_any b.q b.g x.l (numbered y (x.acc+1)) _ (by exact(uh HQ1).keeps ((Keeps.refl (λ_=>False) w1).drew) (λh=>h) (λ_ _ h=>h)) hl9).mono ?_;rintro e w' ⟨rfl,og,hq,hk,hog⟩))
 have HF:=hide (show w'.cell? ⟨bx,3,none⟩=some (.int .i64 (x.acc+1)) from((((uh HX1).drew).keeps hk (uh HNX)).cell rfl))
 have hx3':=uh HF
 have HK:=hide hk
 have HQ:=hide hq
 have HOG:=hide hog
 clear hk hq hog hx0 hx1 hx2 hx3 hc26
 go_wp2
 go_ret
 have hkd:Keeps (λk=>k=b.q\/b.g=some k) w1 w':=((Keeps.refl (λk=>k=b.q\/b.g=some k) w1).drew).then (uh HK)
 refine⟨rfl,⟨b.s,b.q,og,b.n⟩,⟨(uh HB1).keeps hkd (uh HNS),uh HQ,(uh HD1).keeps hkd (λi hi h=>?_),(uh HS).sq,?_,λi hi=>⟨((uh HS).sn i hi).1,((uh HS).sn i hi).2.1,?_⟩⟩,⟨rfl,?_⟩,?_⟩
 ·rcases h with h | h
  ·exact((uh HS).sn i hi).2.1 h
  ·exact((uh HS).sn i hi).2.2 h
 ·intro g hg
  rcases uh HOG with h | ⟨k,h,hz⟩
  ·exact(uh HS).sg g (h.symm.trans hg)
  ·have hgk:g=k:=by have:=h.symm.trans hg;simpa using this.symm
   show b.s≠g
   rw[World.size_drew]at hz
   omega
 ·intro hg
  rcases uh HOG with h | ⟨k,h,hz⟩
  ·exact((uh HS).sn i hi).2.2 (h.symm.trans hg)
  ·have hgk:i=k:=by have:=h.symm.trans hg;simpa using this.symm
   have:=(uh HD1).lt i hi
   rw[World.size_drew]at hz
   omega
 ·intro i hi
  rcases hi with hi | hi | hi | hi
  ·exact .inl (.inl hi)
  ·exact .inl (.inr (.inl hi))
  ·rcases uh HOG with h | ⟨k,h,hz⟩
   ·exact .inl (.inr (.inr (.inl (h.symm.trans hi))))
   ·have hgk:i=k:=by have:=h.symm.trans hi;simpa using this.symm
    rw[World.size_drew]at hz
    exact .inr (by have:=uh HBX;omega)
  ·exact .inl (.inr (.inr (.inr hi)))
 ·refine((uh HK1).mono (M':=b.foot x.k) (λi _ h=>.inl h)).trans hkd (λi hi _=>?_)
  rcases hi with hi | hi
  ·exact .inr (.inl hi)
  ·exact .inr (.inr (.inl hi))
end
section
open Go.RowKit
theorem swapL_all{P:It->Prop}(h0:P ⟨0,0,0,0⟩){l:List It}(h:∀y,y∈l->P y)(i j:Nat): ∀y,y∈swapL l i j->P y:=by
 have hat:∀i,P (itAt l i):=by
  intro i
  unfold itAt
  rw[List.getD_eq_getElem?_getD]
  cases hi:l[i]? with
  | none=>exact h0
  | some v=>exact h v (List.mem_of_getElem? hi)
 intro y hy
 unfold swapL at hy
 rcases List.mem_or_eq_of_mem_set hy with hy | hy
 ·rcases List.mem_or_eq_of_mem_set hy with hy | hy
  ·exact h y hy
  ·subst hy;exact hat j
 ·subst hy;exact hat i
theorem riseL_all{P:It->Prop}(h0:P ⟨0,0,0,0⟩)(f:Nat)(l:List It)(i:Nat)(h:∀y,y∈l->P y): ∀y,y∈riseL f l i->P y:=by
 induction f generalizing l i with
 | zero=>exact h
 | succ f ih =>
  unfold riseL
  split
  ·exact h
  ·split
   ·exact ih _ _ (swapL_all h0 h _ _)
   ·exact h
theorem sinkL_all{P:It->Prop}(h0:P ⟨0,0,0,0⟩)(f:Nat)(l:List It)(i:Nat)(h:∀y,y∈l->P y): ∀y,y∈sinkL f l i->P y:=by
 induction f generalizing l i with
 | zero=>exact h
 | succ f ih =>
  unfold sinkL
  split
  ·exact h
  ·split
   ·exact ih _ _ (swapL_all h0 h _ _)
   ·exact h
theorem itAt_all{P:It->Prop}(h0:P ⟨0,0,0,0⟩){l:List It}(h:∀y,y∈l->P y)(i:Nat): P (itAt l i):=by
 unfold itAt
 rw[List.getD_eq_getElem?_getD]
 cases hi:l[i]? with
 | none=>exact h0
 | some v=>exact h v (List.mem_of_getElem? hi)
theorem takeL_all{P:It->Prop}(h0:P ⟨0,0,0,0⟩)(l:List It)(h:∀y,y∈l->P y): ∀y,y∈takeL l->P y:=by
 unfold takeL
 refine sinkL_all h0 _ _ _ (λy hy=>?_)
 have hy:=List.mem_of_mem_take hy
 rcases List.mem_or_eq_of_mem_set hy with hy | hy
 ·exact h y hy
 ·subst hy;exact itAt_all h0 h _
theorem takeL_length(l:List It): (takeL l).length=l.length-1:=by
 unfold takeL
 rw[qC1];simp
def qGp(x:Ser)(m:Int): Ser:={ x with l:=takeL x.l,rel:=x.rel+1,nt:=zCn x.k x.c x.nt (itAt x.l 0) m,last:=(itAt x.l 0).t }
def qK2: Nat->Ser->Int->Ser
 | 0,x,_=>x
 | f+1,x,m=>if x.l.isEmpty then x else if m<(itAt x.l 0).t then x else qK2 f (qGp x m) m
theorem qOg{l:List It}(h:l≠[]): itAt l 0∈l:=by
 cases l with
 | nil=>exact absurd rfl h
 | cons a l=>exact List.mem_cons_self ..
theorem qId{l:List It}(hh:HeapL l)(hl:l≠[]){y:It}(hy:y∈takeL l): y∈l:=(qP5 l hh hl).2.subset (List.mem_cons_of_mem _ hy)
theorem qIn{n:Int}{x:Ser}(h:SInv n x)(hl:x.l≠[])(m:Int)(hm:¬m<(itAt x.l 0).t): SInv n (qGp x m):=by
 have hlen:0<x.l.length:=List.length_pos_iff.2 hl
 have hra:=h.rela
 have hcap:=h.cap
 have hrel:=h.rel0
 have ht:(takeL x.l).length=x.l.length-1:=takeL_length _
 have hmem:=qOg hl
 have htm:=h.times _ hmem
 refine⟨h.valid,h.kind,h.k1,h.k5,h.acc0,h.accn,?_,?_,h.reflen,h.refn,?_,λy hy=>h.times y (qId h.heap hl hy),?_,(qP5 _ h.heap hl).1,htm.1,htm.2,λy hy=>h.heap.first_mem (qId h.heap hl hy),λy hy=>h.fits y (qId h.heap hl hy)⟩
 ·show 0<=x.rel+1;omega
 ·show x.rel+1+((takeL x.l).length:Int)=x.acc;omega
 ·show((takeL x.l).length:Int)<=x.c.cap;omega
 ·exact qZ2 h.note h.valid h.kind _ _ (h.lastl _ hmem) (by omega)
theorem qJr{c:Cfg}{k:Nat}{y:It}(h:qEb c k y=0)(hk:k=2\/k=3): 0<=y.k/\y.k<=2147483648:=by
 have h2:qX2 y=0:=by
  rcases hk with hk | hk <;> subst hk <;> exact h
 unfold qX2 at h2
 split at h2
 ·rename_i h3;exact qCh h3
 ·omega
theorem qK3(c:Cfg)(k:Nat)(y:It)(n:Int): qEb c k (numbered y n)=qEb c k y:=by
 unfold qEb numbered
 split <;> rfl
theorem qZj{n:Int}{x:Ser}(h:SInv n x)(y:It)(t0:0<=y.t)(t1:y.t<=4611686018427387904)(hc:(x.l.length:Int)<x.c.cap)(ha:x.acc<n)(hlast:x.last<=y.t)(hk:qEb x.c x.k y=0): SInv n (qYv x y):=by
 have h0:=h.acc0;have hr:=h.rela
 have hlen:(riseL (x.l.length+1) (x.l++[numbered y (x.acc+1)]) x.l.length).length=x.l.length+1:=by rw[riseL_length];simp
 have hp:=qNi x.l (numbered y (x.acc+1)) h.heap
 have hall:∀ {P:It->Prop},(∀z,z∈x.l->P z)->P (numbered y (x.acc+1))->∀z,z∈(qYv x y).l->P z:=λh1 h2 z hz=>by
  rcases List.mem_cons.1 (hp.2.subset hz) with e | e
  ·rw[e];exact h2
  ·exact h1 z e
 refine⟨h.valid,h.kind,h.k1,h.k5,?_,?_,h.rel0,?_,h.reflen,h.refn,?_,hall h.times ⟨t0,t1⟩,h.note,hp.1,h.last0,h.lastn,hall h.lastl hlast,hall h.fits ((qK3 _ _ _ _).trans hk)⟩
 ·show 0<=x.acc+1;omega
 ·show x.acc+1<=n;omega
 ·show x.rel+((riseL (x.l.length+1) (x.l++[numbered y (x.acc+1)]) x.l.length).length:Int)=x.acc+1;omega
 ·show((riseL (x.l.length+1) (x.l++[numbered y (x.acc+1)]) x.l.length).length:Int)<=x.c.cap;omega
end
section
open Go.RowKit
attribute [local go_sem ↓] qAd qAe
attribute [local go_sem] qAh qAl qAb qAc qAm qAn qAi qAj qAg qAk
theorem qU6{w w5:World}{b:SB}{x:Ser}{g:Nat}{m:Int}{n':NB}(h:SRep w b x)(hg:b.g=some g)(hb:Blk w5 b.s (qB3 b { x with rel:=x.rel+1 }) 104)(hq:QRep w5 b.q (some g) (takeL x.l))(hn:NRep w5 x.k n' x.c (zCn x.k x.c x.nt (itAt x.l 0) m))(hd:n'.d=b.n.d)(hf:∀i,qD2 x.k n' i->i≠b.s/\i≠b.q/\b.g≠some i): SRep w5 ⟨b.s,b.q,b.g,n'⟩ (qGp x m):=by
 refine⟨?_,by show QRep w5 b.q b.g _;rw[hg];exact hq,hn,h.sq,h.sg,hf⟩
 have:qB3 ⟨b.s,b.q,b.g,n'⟩ (qGp x m)=qB3 b { x with rel:=x.rel+1 }:=by unfold qB3;simp only[hd];rfl
 rw[this]
 exact hb
theorem qSp(n:Int)(b:SB)(x:Ser)(m:Int)(w:World)(hs:SRep w b x)(hi:SInv n x)(hn:n<=4611686018427387904)(hT:Tab w)(hT0:¬b.foot x.k 2)(m0:-100<=m)(m1:m<=4611686018427387904):
  Calls Tryz.prog 66 #[.pointer (some ⟨b.s,0,none⟩),.int .i64 m] w λe w'=>e=.returned (.tuple #[])/\∃b',SRep w' b' (qK2 (x.l.length+1) x m)/\b.next b' x.k w.heap.size/\Keeps (b.foot x.k) w w':=by
 have HS:=hide hs
 have HI:=hide hi
 have HTT:=hide hT
 have HT0:=hide hT0
 clear hs hi hT hT0
 go_enter Tryz.func66,Tryz.ntmps66
 go_wp2
 go_loopg [5] (x.l.length) (λg _s wr=>∃(b':SB) (x':Ser),Hid (SRep wr b' x')/\Hid (SInv n x')/\Hid (b.next b' x.k w.heap.size)/\Hid (Keeps (b.foot x.k) w wr)/\x'.k=x.k/\x'.l.length=g/\Hid (qK2 (x.l.length+1) x m=qK2 (x'.l.length+1) x' m))
 case atStart=>exact⟨b,x,HS,HI,⟨rfl,λ_ h=>.inl h⟩,Keeps.refl _ _,rfl,rfl,rfl⟩
 case round =>
  obtain⟨b1,x1,HS1,HI1,HN1,HK1,hk1,hg1,HE1⟩:=hrel
  have HKK:=hide hk1
  have HG:=hide hg1
  have HS0:=hide (uh HN1).1
  clear hk1 hg1
  have HB:=hide (show Blk wr b.s (qB3 b1 x1) 104 by rw[<-uh HS0];exact(uh HS1).blk)
  have hlt:=(uh HB).lt
  have hc26:wr.cell? ⟨b.s,32,none⟩=some (.pointer (some ⟨b1.q,0,none⟩)):=(uh HB).cell rfl
  go_wp2_with fail
  refine(qGr b1.q b1.g x1.l wr (uh HS1).que).mono ?_
  rintro e w1 ⟨rfl,hk1⟩
  have HB1:=hide ((uh HB).keeps hk1 (λh=>h))
  have HS2:=hide ((uh HS1).still hk1)
  have HK2:=hide ((uh HK1).trans hk1 (λ_ h _=>h.elim))
  have hsz1:wr.heap.size<=w1.heap.size:=hk1.size
  have hszw:=(uh HK1).size
  clear hk1 hc26 hlt
  by_cases hemp:x1.l.isEmpty=true
  ·have HEM:=hide hemp
   rw[hemp]
   clear hemp
   unfold It.val
   go_wp2
   refine bodyPost_ret (results_none rfl _ _ _) rfl ⟨rfl,b1,?_,uh HN1,(uh HK2).alloc _⟩
   rw[uh HE1]
   unfold qK2
   rw[if_pos (uh HEM)]
   exact(uh HS2).still ((Keeps.refl _ _).alloc _)
  ·have hemp':x1.l.isEmpty=false:=by simpa using hemp
   have HNE:=hide (show x1.l≠[] by intro h;rw[h]at hemp;exact hemp rfl)
   have HEM:=hide hemp
   rw[hemp']
   clear hemp hemp'
   generalize hy:itAt x1.l 0=y
   have HY:=hide hy
   clear hy
   unfold It.val
   have HB2:=hide ((uh HB1).alloc (.cells #[.int .i64 y.t,.int .i64 y.k,.int .i64 y.d,.int .i64 y.n] 87))
   have HX2:=hide (Blk.new w1 [.int .i64 y.t,.int .i64 y.k,.int .i64 y.d,.int .i64 y.n] 87)
   have HS3:=hide ((uh HS2).still ((Keeps.refl (λ_=>False) w1).alloc (.cells #[.int .i64 y.t,.int .i64 y.k,.int .i64 y.d,.int .i64 y.n] 87)))
   have HK3:=hide ((uh HK2).alloc (.cells #[.int .i64 y.t,.int .i64 y.k,.int .i64 y.d,.int .i64 y.n] 87))
   have hlt1:=(uh HB1).lt
   have hc26:w1.cell? ⟨b.s,32,none⟩=some (.pointer (some ⟨b1.q,0,none⟩)):=(uh HB1).cell rfl
   by_cases ht:m<y.t
   ·go_wp2
    refine bodyPost_ret (results_none rfl _ _ _) rfl ⟨rfl,b1,?_,uh HN1,uh HK3⟩
    rw[uh HE1]
    unfold qK2
    rw[if_neg (uh HEM),if_pos (by rw[uh HY];exact ht)]
    exact uh HS3
   ·have ht':decide (m<y.t)=false:=by simpa using ht
    have HT:=hide ht
    clear ht
    go_wp2_with fail
    have HLT:=hide (show ∀i,b1.foot x1.k i->i<w1.heap.size from(uh HS2).lt)
    generalize w1.alloc (.cells #[.int .i64 y.t,.int .i64 y.k,.int .i64 y.d,.int .i64 y.n] 87)=w2 at *
    generalize hbx:w1.heap.size=bx at *
    clear hbx hc26 HB1 HS2 HK2 HB HS1 HK1
    obtain⟨g,hg⟩:∃g,b1.g=some g:=by
     cases hbg:b1.g with
     | none=>have hq:=(uh HS3).que;rw[hbg]at hq;exact absurd hq.1 (uh HNE)
     | some g=>exact⟨g,rfl⟩
    have HGG:=hide hg
    have HLEN:=hide (List.length_pos_iff.2 (uh HNE))
    have hl9:x1.l.length<=900:=by have h1:=(uh HI1).cap;have h2:=(uh HI1).common;omega
    refine(take_any b1.q g x1.l w2 (by have hq:=(uh HS3).que;rw[hg]at hq;exact hq) hl9 (uh HLEN)).mono ?_
    rintro e w3 ⟨⟨v,rfl⟩,hq3,hk3⟩
    have HNS:=hide (show ¬(b.s=b1.q\/b.s=g) from λh=>by
       rw[<-uh HS0]at h
       exact h.elim (uh HS3).sq ((uh HS3).sg g hg))
    have HNX:=hide (show ¬(bx=b1.q\/bx=g) from λh=>by
       rcases h with h | h
       ·have:=uh HLT bx (.inr (.inl h));omega
       ·have:=uh HLT bx (.inr (.inr (.inl (by rw[hg,h]))));omega)
    have HB3:=hide ((uh HB2).keeps hk3 (uh HNS))
    have HX3:=hide ((uh HX2).keeps hk3 (uh HNX))
    have HQ3:=hide hq3
    have HD3:=hide (show NRep w3 x1.k b1.n x1.c x1.nt from(uh HS3).note.keeps hk3 (λi hi h=>by
         rcases h with h | h
         ·exact((uh HS3).sn i hi).2.1 h
         ·exact((uh HS3).sn i hi).2.2 (by rw[hg,h])))
    have HK4:=hide ((uh HK3).trans hk3 (λi hi hlt=>by
         have hf:b1.foot x.k i:=by
          rcases hi with hi | hi
          ·exact .inr (.inl hi)
          ·exact .inr (.inr (.inl (by rw[hg,hi])))
         rcases(uh HN1).2 i hf with h | h
         ·exact h
         ·omega))
    clear hk3 hq3 HB2 HX2 HK3 hg
    have hc28:w3.cell? ⟨b.s,34,none⟩=some (.int .i64 x1.rel):=(uh HB3).cell rfl
    have hf3:=(uh HB3).frozen
    have hwr:IntKind.i64.wrap (x1.rel+1)=x1.rel+1:=by
     have h1:=(uh HI1).rel0;have h2:=(uh HI1).rela;have h3:=(uh HI1).accn
     exact qM0 (by omega) (by omega)
    go_wp2_with fail
    have hk4:Keeps (λi=>i=b.s) w3 (w3.setCell ⟨b.s,34,none⟩ (.int .i64 (x1.rel+1))):=(Keeps.refl (λi=>i=b.s) w3).setCell (p:=⟨b.s,34,none⟩) (Or.inl rfl) _
    have HB4:=hide (show Blk (w3.setCell ⟨b.s,34,none⟩ (.int .i64 (x1.rel+1))) b.s (qB3 b1 { x1 with rel:=x1.rel+1 }) 104 from(uh HB3).setCell 34 _)
    have HX4:=hide ((uh HX3).keeps hk4 (λh=>by omega))
    have HQ4:=hide ((uh HQ3).keeps hk4 (λh=>uh HNS (.inl h.symm)) (λg' hg' h=>uh HNS (.inr (by cases hg';exact h.symm))))
    have HD4:=hide (show NRep (w3.setCell ⟨b.s,34,none⟩ (.int .i64 (x1.rel+1))) x1.k b1.n x1.c x1.nt from(uh HD3).keeps hk4 (λi hi h=>((uh HS3).sn i hi).1 (by rw[h,uh HS0])))
    have HK5:=hide ((uh HK4).trans hk4 (λi hi hlt=>.inl hi))
    clear hk4 HB3 HX3 HQ3 HD3 HK4 hc28 hf3 hwr
    generalize w3.setCell ⟨b.s,34,none⟩ (.int .i64 (x1.rel+1))=w4 at *
    have hc24:w4.cell? ⟨b.s,27,none⟩=some (.func (.func (zD9 x1.k)) (qHs b1.n.d) #[]):=(uh HB4).cell rfl
    have hx0:w4.cell? ⟨bx,0,none⟩=some (.int .i64 y.t):=(uh HX4).cell rfl
    have hx1:w4.cell? ⟨bx,1,none⟩=some (.int .i64 y.k):=(uh HX4).cell rfl
    have hx2:w4.cell? ⟨bx,2,none⟩=some (.int .i64 y.d):=(uh HX4).cell rfl
    have hx3:w4.cell? ⟨bx,3,none⟩=some (.int .i64 y.n):=(uh HX4).cell rfl
    have HFIN:=hide (show qK2 (x.l.length+1) x m=qK2 (x1.l.length) (qGp x1 m) m by
       rw[uh HE1]
       conv=>lhs;unfold qK2
       rw[if_neg (uh HEM),if_neg (by rw[uh HY];have:=uh HT;omega)])
    have HTL:=hide (takeL_length x1.l)
    have hty:=itAt_all (P:=λy=>0<=y.t/\y.t<=4611686018427387904) (by simp) (uh HI1).times 0
    rw[uh HY]at hty
    have hown:=zB4 x1.k (uh HI1).k1 (uh HI1).k5
    have HRL:=hide (show x1.rel+1<=4611686018427387904 by have h1:=(uh HI1).rela;have h2:=(uh HI1).accn;have h4:0<x1.l.length:=List.length_pos_iff.2 (λe=>uh HEM (by rw[e];rfl));omega)
    have HNF:=hide (show ¬b1.foot x.k 2 from λh=>by
       rcases(uh HN1).2 2 h with h1 | h1
       ·exact uh HT0 h1
       ·have h2:=(uh HTT).lt;omega)
    have HT4:=hide (show Tab w4 from(uh HTT).keeps (uh HK5) (uh HT0))
    have hkf:=(uh HI1).fits _ (qOg (uh HNE))
    rw[uh HY]at hkf
    have HKF:=hide hkf
    clear hkf
    go_region_with (refine(zCi (rel:=x1.rel) (last:=x1.last) x1.k b1.n x1.c x1.nt y m _ _ (by first | rfl | simp) (by exact(uh HD4).still (Keeps.refl _ _).drew) (uh HI1).note (uh HRL) (uh HI1).valid (uh HI1).kind (uh HI1).k1 (uh HI1).k5 m0 m1 hty.1 hty.2 (λh=>qJr (uh HKF) h) ((uh HT4).keeps (Keeps.refl (λ_=>False) w4).drew (λh=>h)) (λh=>uh HNF (.inr (.inr (.inr (by rw[<-uh HKK];exact h))))) (uh HI1).lastn).mono ?_;rintro e w' ⟨rfl,n',hn',hd',hf',hk⟩)
    all_goals
     have HKD:=hide (((Keeps.refl (qD2 x1.k b1.n) w4).drew).then hk)
     have HN':=hide hn'
     have HD':=hide hd'
     have HF':=hide hf'
     clear hk hn' hd' hf' hx0 hx1 hx2 hx3 hc24 hown
     go_wp2
     go_roundg (x1.l.length-1)
     case measure=>have h1:=uh HG;have h2:=uh HLEN;omega
     case rel =>
      have hsn:=(uh HS3).sn
      have hlt4:∀i,b1.foot x1.k i->i<w4.heap.size:=by
       have h1:=(uh HB4).lt
       have h2:=(uh HQ4).lt
       rintro i (hi | hi | hi | hi)
       ·rw[hi,uh HS0];exact h1
       ·rw[hi];exact h2.1
       ·rw[uh HGG]at hi;exact(h2.2 i hi).1
       ·exact(uh HD4).lt i hi
      have hff:∀i,qD2 x1.k n' i->i≠b1.s/\i≠b1.q/\b1.g≠some i:=by
       intro i hi
       rcases uh HF' i hi with h | h
       ·exact hsn i h
       ·rw[World.size_drew]at h
        refine⟨λe=>?_,λe=>?_,λe=>?_⟩
        ·have:=hlt4 i (.inl e);omega
        ·have:=hlt4 i (.inr (.inl e));omega
        ·have:=hlt4 i (.inr (.inr (.inl e)));omega
      have hr:SRep w' ⟨b1.s,b1.q,b1.g,n'⟩ (qGp x1 m):=by
       refine qU6 (uh HS3) (uh HGG) ?_ ((uh HQ4).keeps (uh HKD) (λh=>(hsn _ h).2.1 rfl) (λg' hg' h=>(hsn _ h).2.2 (by rw[uh HGG];exact hg'))) (by rw[uh HY];exact uh HN') (uh HD') hff
       rw[uh HS0]
       exact(uh HB4).keeps (uh HKD) (λh=>(hsn _ h).1 (uh HS0).symm)
      refine⟨⟨b1.s,b1.q,b1.g,n'⟩,qGp x1 m,hr,qIn (uh HI1) (uh HNE) m (by rw[uh HY];have:=uh HT;omega),⟨(uh HN1).1,λi hi=>?_⟩,(uh HK5).trans (uh HKD) (λi hi hlt=>?_),uh HKK,uh HTL,?_⟩
      ·rcases hi with hi | hi | hi | hi
       ·exact(uh HN1).2 i (.inl hi)
       ·exact(uh HN1).2 i (.inr (.inl hi))
       ·exact(uh HN1).2 i (.inr (.inr (.inl hi)))
       ·rw[<-uh HKK]at hi
        rcases uh HF' i hi with h | h
        ·exact(uh HN1).2 i (.inr (.inr (.inr (by rw[<-uh HKK];exact h))))
        ·rw[World.size_drew]at h
         have:=(uh HK5).size
         exact .inr (by omega)
      ·have hf:b1.foot x.k i:=.inr (.inr (.inr (by rw[<-uh HKK];exact hi)))
       rcases(uh HN1).2 i hf with h | h
       ·exact h
       ·omega
      ·show _=qK2 ((takeL x1.l).length+1) (qGp x1 m) m
       rw[uh HFIN,uh HTL,show x1.l.length-1+1=x1.l.length by have:=uh HLEN;omega]
end
section
open Go.RowKit
attribute [local go_sem ↓] qAd qAe
attribute [local go_sem] qAh qAl qAb qAc qAm qAn qAi qAj qAg qAk
def qA0(l:List Int)(j:Nat): Int:=l.getD j 0
theorem qDd(b:SB)(x:Ser)(hl:x.ref.length=12)(j:Nat)(hj:j<12): (qB3 b x)[35+j]?=some (.int .i64 (qA0 x.ref j)):=by
 have h1:(qB3 b x)[35+j]?=(x.ref.map (λv=>Value.int .i64 v))[j]?:=by
  rw[Nat.add_comm];rfl
 rw[h1,List.getElem?_map]
 have hj':j<x.ref.length:=by omega
 simp[qA0,hj']
def ints(l:List Int): List Value:=l.map (λv=>Value.int .i64 v)
def qCx: List Nat:=[5,6,7,8,10,9,11]
def qCc(x:Ser): List Int:=x.acc::x.rel::qCx.map (qA0 x.ref)
theorem info3: (Tryz.prog.info? 3).map (λi=>(i.zero,i.size,i.bytes))=some (some (.int .i64 0),1,8):=by kernel_rfl
theorem ix0(w:World): (Instr.index 132 (.agg #[.int .i64 5,.int .i64 6,.int .i64 7,.int .i64 8,.int .i64 10,.int .i64 9,.int .i64 11]) (.int .i64 0)).run Tryz.prog w=.ok (.int .i64 5) w:=by kernel_rfl
theorem ix1(w:World): (Instr.index 132 (.agg #[.int .i64 5,.int .i64 6,.int .i64 7,.int .i64 8,.int .i64 10,.int .i64 9,.int .i64 11]) (.int .i64 1)).run Tryz.prog w=.ok (.int .i64 6) w:=by kernel_rfl
theorem ix2(w:World): (Instr.index 132 (.agg #[.int .i64 5,.int .i64 6,.int .i64 7,.int .i64 8,.int .i64 10,.int .i64 9,.int .i64 11]) (.int .i64 2)).run Tryz.prog w=.ok (.int .i64 7) w:=by kernel_rfl
theorem ix3(w:World): (Instr.index 132 (.agg #[.int .i64 5,.int .i64 6,.int .i64 7,.int .i64 8,.int .i64 10,.int .i64 9,.int .i64 11]) (.int .i64 3)).run Tryz.prog w=.ok (.int .i64 8) w:=by kernel_rfl
theorem ix4(w:World): (Instr.index 132 (.agg #[.int .i64 5,.int .i64 6,.int .i64 7,.int .i64 8,.int .i64 10,.int .i64 9,.int .i64 11]) (.int .i64 4)).run Tryz.prog w=.ok (.int .i64 10) w:=by kernel_rfl
theorem ix5(w:World): (Instr.index 132 (.agg #[.int .i64 5,.int .i64 6,.int .i64 7,.int .i64 8,.int .i64 10,.int .i64 9,.int .i64 11]) (.int .i64 5)).run Tryz.prog w=.ok (.int .i64 9) w:=by kernel_rfl
theorem ix6(w:World): (Instr.index 132 (.agg #[.int .i64 5,.int .i64 6,.int .i64 7,.int .i64 8,.int .i64 10,.int .i64 9,.int .i64 11]) (.int .i64 6)).run Tryz.prog w=.ok (.int .i64 11) w:=by kernel_rfl
theorem qRh{w w':World}{base:Nat}{t size:Nat}{v:Value}{n:Nat}{xs:List Value}(h:w.ownsRow base t size v n xs)(hk:Keeps (λ_=>False) w w'): w'.ownsRow base t size v n xs:=by
 refine⟨h.1,?_⟩
 rcases h.2 with h2 | ⟨g,cap,cur,rfl,hb,hg,r⟩
 ·exact .inl h2
 ·exact .inr ⟨g,cap,cur,rfl,hb,by rw[hk.block g (Array.getElem?_eq_some_iff.1 hg).1 (λh=>h)];exact hg,r⟩
theorem qNd(w:World):
  Calls Tryz.prog 95 #[] w λe w'=>e=.returned (.agg #[.int .i64 5,.int .i64 6,.int .i64 7,.int .i64 8,.int .i64 10,.int .i64 9,.int .i64 11])/\Keeps (λ_=>False) w w':=by
 go_enter Tryz.func95,Tryz.ntmps95
 go_wp2
 refine bodyPost_ret (v:=.agg #[.int .i64 5,.int .i64 6,.int .i64 7,.int .i64 8,.int .i64 10,.int .i64 9,.int .i64 11]) (by simp[results,Tryz.results95,go_sem]) rfl ⟨rfl,?_⟩
 repeat (first | exact Keeps.refl _ _ | apply Keeps.alloc)
attribute [local go_sem] ix0 ix1 ix2 ix3 ix4 ix5 ix6
theorem qQg(n:Int)(b:SB)(x:Ser)(w:World)(hs:SRep w b x)(hi:SInv n x):
  Calls Tryz.prog 69 #[.pointer (some ⟨b.s,0,none⟩)] w λe w'=>∃v,e=.returned v/\w'.ownsRow w.heap.size 3 1 v 9 (ints (qCc x))/\Keeps (λ_=>False) w w':=by
 have HB:=hide hs.blk
 have HI:=hide hi
 have hlt:=hs.blk.lt
 have hc27:w.cell? ⟨b.s,33,none⟩=some (.int .i64 x.acc):=hs.blk.cell rfl
 have hc28:w.cell? ⟨b.s,34,none⟩=some (.int .i64 x.rel):=hs.blk.cell rfl
 clear hs hi
 obtain⟨i0,hi0,hz0,hz1,hz2⟩:=info_parts info3
 go_enter Tryz.func69,Tryz.ntmps69
 go_wp2_with fail
 go_region
 go_wp2_with fail
 have hk1:Keeps (λ_=>False) w (w.alloc (.cells #[.int .i64 x.acc,.int .i64 x.rel] 3)).drew:=((Keeps.refl _ w).alloc _).drew
 have hO1:(w.alloc (.cells #[.int .i64 x.acc,.int .i64 x.rel] 3)).drew.ownsRow w.heap.size 3 1 (.slice (some ⟨w.heap.size,0,none⟩) 2 2) 2 (ints ((qCc x).take 2)) :=
  ⟨rfl,.inr ⟨w.heap.size,2,#[.int .i64 x.acc,.int .i64 x.rel],rfl,by omega,heap_alloc_new w (.cells #[.int .i64 x.acc,.int .i64 x.rel] 3),by omega,by unfold maxLen;omega,rfl,rfl⟩⟩
 have HK1:=hide hk1
 have HO1:=hide hO1
 clear hk1 hO1 hc27 hc28 hlt
 generalize(w.alloc (.cells #[.int .i64 x.acc,.int .i64 x.rel] 3)).drew=W1 at *
 refine(qNd W1).mono ?_
 rintro e W2 ⟨rfl,hk2⟩
 have HK2:=hide ((uh HK1).then hk2)
 have HO2:=hide (qRh (uh HO1) hk2)
 clear hk2 HK1 HO1
 go_wp2_with fail
 go_loopw [3,16] (λv i wr=>∃k:Nat,k<=7/\i=.int .i64 k/\Hid (wr.ownsRow w.heap.size 3 1 v (2+k) (ints ((qCc x).take (2+k))))/\Hid (Keeps (λ_=>False) w wr)) (λ_ i _=>7-(intOf i).toNat)
 case atStart=>exact⟨0,by omega,rfl,HO2,HK2⟩
 case round =>
  obtain⟨k,hk,rfl,HO,HK⟩:=hrel
  have HBr:=hide ((uh HB).keeps (uh HK) (λh=>h))
  have hltr:=(uh HBr).lt
  generalize u3=v at *
  by_cases hlt7:k<7
  ·have hk7:k=0\/k=1\/k=2\/k=3\/k=4\/k=5\/k=6:=by omega
   rcases hk7 with hk7 | hk7 | hk7 | hk7 | hk7 | hk7 | hk7
   all_goals subst hk7
   ·have hc:wr.cell? ⟨b.s,40,none⟩=some (.int .i64 (qA0 x.ref 5)):=(uh HBr).cell (qDd b x (uh HI).reflen 5 (by omega))
    have HNEW:=hide (show ints ((qCc x).take (2+0))++[.int .i64 (qA0 x.ref 5)]=ints ((qCc x).take (2+1)) from rfl)
    go_wp2_with (at_builtin;refine wpList_append_lies _ rfl _ _ _ rfl w.heap.size 3 i0 _ 1 8 Tryz.underlying31 hi0 hz0 hz1 hz2 rfl (by omega) v (2+0) (ints ((qCc x).take (2+0))) rfl ((uh HO).alloc _) ⟨wr.heap.size,0,none⟩ 1 1 [.int .i64 (qA0 x.ref 5)] rfl rfl (World.news_of_block (cs:=#[.int .i64 (qA0 x.ref 5)]) (t:=3) (fr:=(0,0)) (heap_alloc_new wr _)) (by simp[Value.oneCell']) (by omega) (by unfold maxLen;omega) (by omega) (by have:=(uh HK).size;simp;omega) (wr.heap.size+1) (by simp) ?_;intro gg cap' w1 hown1 hgrow hat hl)
    rw[uh HNEW]at hown1
    go_roundw
    case rel =>
     refine⟨1,by omega,rfl,hown1,((uh HK).alloc _).grown hgrow (λj hj=>Or.inr ((uh HO).lt j hj).1)⟩
    case measure=>simp[intOf]
   ·have hc:wr.cell? ⟨b.s,41,none⟩=some (.int .i64 (qA0 x.ref 6)):=(uh HBr).cell (qDd b x (uh HI).reflen 6 (by omega))
    have HNEW:=hide (show ints ((qCc x).take (2+1))++[.int .i64 (qA0 x.ref 6)]=ints ((qCc x).take (2+2)) from rfl)
    go_wp2_with (at_builtin;refine wpList_append_lies _ rfl _ _ _ rfl w.heap.size 3 i0 _ 1 8 Tryz.underlying31 hi0 hz0 hz1 hz2 rfl (by omega) v (2+1) (ints ((qCc x).take (2+1))) rfl ((uh HO).alloc _) ⟨wr.heap.size,0,none⟩ 1 1 [.int .i64 (qA0 x.ref 6)] rfl rfl (World.news_of_block (cs:=#[.int .i64 (qA0 x.ref 6)]) (t:=3) (fr:=(0,0)) (heap_alloc_new wr _)) (by simp[Value.oneCell']) (by omega) (by unfold maxLen;omega) (by omega) (by have:=(uh HK).size;simp;omega) (wr.heap.size+1) (by simp) ?_;intro gg cap' w1 hown1 hgrow hat hl)
    rw[uh HNEW]at hown1
    go_roundw
    case rel =>
     refine⟨2,by omega,rfl,hown1,((uh HK).alloc _).grown hgrow (λj hj=>Or.inr ((uh HO).lt j hj).1)⟩
    case measure=>simp[intOf]
   ·have hc:wr.cell? ⟨b.s,42,none⟩=some (.int .i64 (qA0 x.ref 7)):=(uh HBr).cell (qDd b x (uh HI).reflen 7 (by omega))
    have HNEW:=hide (show ints ((qCc x).take (2+2))++[.int .i64 (qA0 x.ref 7)]=ints ((qCc x).take (2+3)) from rfl)
    go_wp2_with (at_builtin;refine wpList_append_lies _ rfl _ _ _ rfl w.heap.size 3 i0 _ 1 8 Tryz.underlying31 hi0 hz0 hz1 hz2 rfl (by omega) v (2+2) (ints ((qCc x).take (2+2))) rfl ((uh HO).alloc _) ⟨wr.heap.size,0,none⟩ 1 1 [.int .i64 (qA0 x.ref 7)] rfl rfl (World.news_of_block (cs:=#[.int .i64 (qA0 x.ref 7)]) (t:=3) (fr:=(0,0)) (heap_alloc_new wr _)) (by simp[Value.oneCell']) (by omega) (by unfold maxLen;omega) (by omega) (by have:=(uh HK).size;simp;omega) (wr.heap.size+1) (by simp) ?_;intro gg cap' w1 hown1 hgrow hat hl)
    rw[uh HNEW]at hown1
    go_roundw
    case rel =>
     refine⟨3,by omega,rfl,hown1,((uh HK).alloc _).grown hgrow (λj hj=>Or.inr ((uh HO).lt j hj).1)⟩
    case measure=>simp[intOf]
   ·have hc:wr.cell? ⟨b.s,43,none⟩=some (.int .i64 (qA0 x.ref 8)):=(uh HBr).cell (qDd b x (uh HI).reflen 8 (by omega))
    have HNEW:=hide (show ints ((qCc x).take (2+3))++[.int .i64 (qA0 x.ref 8)]=ints ((qCc x).take (2+4)) from rfl)
    go_wp2_with (at_builtin;refine wpList_append_lies _ rfl _ _ _ rfl w.heap.size 3 i0 _ 1 8 Tryz.underlying31 hi0 hz0 hz1 hz2 rfl (by omega) v (2+3) (ints ((qCc x).take (2+3))) rfl ((uh HO).alloc _) ⟨wr.heap.size,0,none⟩ 1 1 [.int .i64 (qA0 x.ref 8)] rfl rfl (World.news_of_block (cs:=#[.int .i64 (qA0 x.ref 8)]) (t:=3) (fr:=(0,0)) (heap_alloc_new wr _)) (by simp[Value.oneCell']) (by omega) (by unfold maxLen;omega) (by omega) (by have:=(uh HK).size;simp;omega) (wr.heap.size+1) (by simp) ?_;intro gg cap' w1 hown1 hgrow hat hl)
    rw[uh HNEW]at hown1
    go_roundw
    case rel =>
     refine⟨4,by omega,rfl,hown1,((uh HK).alloc _).grown hgrow (λj hj=>Or.inr ((uh HO).lt j hj).1)⟩
    case measure=>simp[intOf]
   ·have hc:wr.cell? ⟨b.s,45,none⟩=some (.int .i64 (qA0 x.ref 10)):=(uh HBr).cell (qDd b x (uh HI).reflen 10 (by omega))
    have HNEW:=hide (show ints ((qCc x).take (2+4))++[.int .i64 (qA0 x.ref 10)]=ints ((qCc x).take (2+5)) from rfl)
    go_wp2_with (at_builtin;refine wpList_append_lies _ rfl _ _ _ rfl w.heap.size 3 i0 _ 1 8 Tryz.underlying31 hi0 hz0 hz1 hz2 rfl (by omega) v (2+4) (ints ((qCc x).take (2+4))) rfl ((uh HO).alloc _) ⟨wr.heap.size,0,none⟩ 1 1 [.int .i64 (qA0 x.ref 10)] rfl rfl (World.news_of_block (cs:=#[.int .i64 (qA0 x.ref 10)]) (t:=3) (fr:=(0,0)) (heap_alloc_new wr _)) (by simp[Value.oneCell']) (by omega) (by unfold maxLen;omega) (by omega) (by have:=(uh HK).size;simp;omega) (wr.heap.size+1) (by simp) ?_;intro gg cap' w1 hown1 hgrow hat hl)
    rw[uh HNEW]at hown1
    go_roundw
    case rel =>
     refine⟨5,by omega,rfl,hown1,((uh HK).alloc _).grown hgrow (λj hj=>Or.inr ((uh HO).lt j hj).1)⟩
    case measure=>simp[intOf]
   ·have hc:wr.cell? ⟨b.s,44,none⟩=some (.int .i64 (qA0 x.ref 9)):=(uh HBr).cell (qDd b x (uh HI).reflen 9 (by omega))
    have HNEW:=hide (show ints ((qCc x).take (2+5))++[.int .i64 (qA0 x.ref 9)]=ints ((qCc x).take (2+6)) from rfl)
    go_wp2_with (at_builtin;refine wpList_append_lies _ rfl _ _ _ rfl w.heap.size 3 i0 _ 1 8 Tryz.underlying31 hi0 hz0 hz1 hz2 rfl (by omega) v (2+5) (ints ((qCc x).take (2+5))) rfl ((uh HO).alloc _) ⟨wr.heap.size,0,none⟩ 1 1 [.int .i64 (qA0 x.ref 9)] rfl rfl (World.news_of_block (cs:=#[.int .i64 (qA0 x.ref 9)]) (t:=3) (fr:=(0,0)) (heap_alloc_new wr _)) (by simp[Value.oneCell']) (by omega) (by unfold maxLen;omega) (by omega) (by have:=(uh HK).size;simp;omega) (wr.heap.size+1) (by simp) ?_;intro gg cap' w1 hown1 hgrow hat hl)
    rw[uh HNEW]at hown1
    go_roundw
    case rel =>
     refine⟨6,by omega,rfl,hown1,((uh HK).alloc _).grown hgrow (λj hj=>Or.inr ((uh HO).lt j hj).1)⟩
    case measure=>simp[intOf]
   ·have hc:wr.cell? ⟨b.s,46,none⟩=some (.int .i64 (qA0 x.ref 11)):=(uh HBr).cell (qDd b x (uh HI).reflen 11 (by omega))
    have HNEW:=hide (show ints ((qCc x).take (2+6))++[.int .i64 (qA0 x.ref 11)]=ints ((qCc x).take (2+7)) from rfl)
    go_wp2_with (at_builtin;refine wpList_append_lies _ rfl _ _ _ rfl w.heap.size 3 i0 _ 1 8 Tryz.underlying31 hi0 hz0 hz1 hz2 rfl (by omega) v (2+6) (ints ((qCc x).take (2+6))) rfl ((uh HO).alloc _) ⟨wr.heap.size,0,none⟩ 1 1 [.int .i64 (qA0 x.ref 11)] rfl rfl (World.news_of_block (cs:=#[.int .i64 (qA0 x.ref 11)]) (t:=3) (fr:=(0,0)) (heap_alloc_new wr _)) (by simp[Value.oneCell']) (by omega) (by unfold maxLen;omega) (by omega) (by have:=(uh HK).size;simp;omega) (wr.heap.size+1) (by simp) ?_;intro gg cap' w1 hown1 hgrow hat hl)
    rw[uh HNEW]at hown1
    go_roundw
    case rel =>
     refine⟨7,by omega,rfl,hown1,((uh HK).alloc _).grown hgrow (λj hj=>Or.inr ((uh HO).lt j hj).1)⟩
    case measure=>simp[intOf]
  ·have hk7:k=7:=by omega
   subst hk7
   go_wp2
   go_ret
   exact⟨_,rfl,uh HO,uh HK⟩
end
section
open Go.RowKit
attribute [local go_sem ↓] qAd qAe
attribute [local go_sem] qAh qAl qAb qAc qAm qAn qAi qAj qAg qAk
def qCe(id:Int)(c:Cfg)(k:Nat): Ser:=⟨id,c,k,0,0,[0,0,0,0,0,0,0,0,0,0,0,0],[],qGb,0⟩
theorem zBj(id:Int)(c:Cfg)(f n p r k s a q z v l:Value)(qb:Nat)(w:World):
  (Instr.build 104 #[(0,.int .i64 id),(1,c.val),(2,.agg #[f,n,p,r,k,s]),(3,.agg #[a,q,z,v,l]),(4,.pointer (some ⟨qb,0,none⟩))]).run Tryz.prog w =
  .ok (.agg (.int .i64 id::c.vals [f,n,p,r,k,s,a,q,z,v,l,.pointer (some ⟨qb,0,none⟩),.int .i64 0,.int .i64 0,.int .i64 0,.int .i64 0,.int .i64 0,.int .i64 0,.int .i64 0,.int .i64 0,.int .i64 0,.int .i64 0,.int .i64 0,.int .i64 0,.int .i64 0,.int .i64 0]).toArray) w:=by kernel_rfl
def qDx(ty:TypeId)(ps:Array (Nat×Value)): Sem Next:=do pure (.value (<-Instr.build ty ps))
theorem qLk(ρ:Operand->Value)(dst:Option Tmp)(x:Array (Nat×Operand))(ty:TypeId)(pos:String)(after:Array Edge)(guard:Option (Nat×Bool)):
  execOp ρ { dst,op:=.build 104 x,type:=ty,pos,after,guard }=qDx 104 (x.map λ(i,y)=>(i,ρ y)):=rfl
theorem qR6(id:Int)(c:Cfg)(f n p r k s a q z v l:Value)(qb:Nat)(w:World):
  (qDx 104 #[(0,.int .i64 id),(1,.agg c.cells.toArray),(2,.agg #[f,n,p,r,k,s]),(3,.agg #[a,q,z,v,l]),(4,.pointer (some ⟨qb,0,none⟩))]).run Tryz.prog w =
  .ok (.value (.agg (.int .i64 id::c.vals [f,n,p,r,k,s,a,q,z,v,l,.pointer (some ⟨qb,0,none⟩),.int .i64 0,.int .i64 0,.int .i64 0,.int .i64 0,.int .i64 0,.int .i64 0,.int .i64 0,.int .i64 0,.int .i64 0,.int .i64 0,.int .i64 0,.int .i64 0,.int .i64 0,.int .i64 0]).toArray)) w:=by
 unfold qDx
 rw[Sem.run_bind]
 have:=zBj id c f n p r k s a q z v l qb w
 unfold Cfg.val at this
 unfold Cfg.cells
 rw[this]
 rfl
attribute [local go_sem ↓] qLk
attribute [local go_sem] qR6
theorem qIc(id:Int)(c:Cfg)(k:Nat)(w:World)(h1:1<=k)(h5:k<=5)(hvv:qBg c=true)(hkd:c.kind=k):
  Calls Tryz.prog 61 #[.int .i64 id,c.val,.agg (qA7 k).toArray] w λe w'=>∃b,e=.returned (.pointer (some ⟨b.s,0,none⟩))/\SRep w' b (qCe id c k)/\(∀i,b.foot k i->w.heap.size<=i)/\Keeps (λ_=>False) w w':=by
 have hown:=qWj k h1 h5
 have HKD:=hide hkd
 have HVV:=hide hvv
 clear hkd hvv
 have HB:=hide (show Blk ((w.alloc (.cells c.cells.toArray 38)).alloc (.cells (qA7 k).toArray 82)) w.heap.size c.cells 38 from(Blk.new w c.cells 38).alloc _)
 have HT:=hide (show Blk ((w.alloc (.cells c.cells.toArray 38)).alloc (.cells (qA7 k).toArray 82)) (w.heap.size+1) (qA7 k) 82 from Blk.newAt (by simp) _ _)
 have HK:=hide (((Keeps.refl (λ_=>False) w).alloc (.cells c.cells.toArray 38)).alloc (.cells (qA7 k).toArray 82))
 have hex:∃W,W=((w.alloc (.cells c.cells.toArray 38)).alloc (.cells (qA7 k).toArray 82)):=⟨_,rfl⟩
 unfold Cfg.val qA7 fn
 go_enter Tryz.func61,Tryz.ntmps61
 go_wp2_with fail
 obtain⟨W,hW⟩:=hex
 have e0:(w.alloc (.cells #[.int .i64 c.kind,.int .i64 c.lag,.int .i64 c.skew,.int .i64 c.cap,.int .i64 c.k,.int .i64 c.window,.int .i64 c.bits,.int .i64 c.rows,.int .i64 c.width,.int .i64 c.panes,.int .i64 c.size,.int .i64 c.degree,.int .i64 c.half,.int .i64 c.mark,.int .i64 c.s00,.int .i64 c.s01,.int .i64 c.s10,.int .i64 c.s11,.int .i64 c.s20,.int .i64 c.s21] 38)).alloc (.cells #[.func (.func (qBn k)) #[] #[],.func (.func (qA2 k)) #[] #[],.func (.func (qA3 k)) #[] #[],.func (.func (qAp k)) #[] #[],.func (.func (qA1 k)) #[] #[],.func (.func (qA5 k)) #[] #[]] 82)=W:=hW.symm
 rw[e0]
 rw[<-hW]at HB HT HK
 clear e0 hW
 generalize hcb:w.heap.size=cb at *
 have HCB:=hide hcb
 clear hcb
 have hsz:cb+1<W.heap.size:=(uh HT).lt
 have hsz0:cb<W.heap.size:=(uh HB).lt
 obtain⟨hv,hh⟩:=qBf (uh HB) 20 rfl
 have t0:W.cell? ⟨cb+1,0,none⟩=some (.func (.func (qBn k)) #[] #[]):=(uh HT).cell rfl
 have t1:W.cell? ⟨cb+1,1,none⟩=some (.func (.func (qA2 k)) #[] #[]):=(uh HT).cell rfl
 have t2:W.cell? ⟨cb+1,2,none⟩=some (.func (.func (qA3 k)) #[] #[]):=(uh HT).cell rfl
 have t3:W.cell? ⟨cb+1,3,none⟩=some (.func (.func (qAp k)) #[] #[]):=(uh HT).cell rfl
 have t4:W.cell? ⟨cb+1,4,none⟩=some (.func (.func (qA1 k)) #[] #[]):=(uh HT).cell rfl
 have t5:W.cell? ⟨cb+1,5,none⟩=some (.func (.func (qA5 k)) #[] #[]):=(uh HT).cell rfl
 go_region_held3 (λw'=>qAq w' cb 0 20=.agg c.cells.toArray/\qAw w' cb 0 20=true/\w'.cell? ⟨cb+1,0,none⟩=some (.func (.func (qBn k)) #[] #[])/\w'.cell? ⟨cb+1,1,none⟩=some (.func (.func (qA2 k)) #[] #[])/\w'.cell? ⟨cb+1,2,none⟩=some (.func (.func (qA3 k)) #[] #[])/\w'.cell? ⟨cb+1,3,none⟩=some (.func (.func (qAp k)) #[] #[])/\w'.cell? ⟨cb+1,4,none⟩=some (.func (.func (qA1 k)) #[] #[])/\w'.cell? ⟨cb+1,5,none⟩=some (.func (.func (qA5 k)) #[] #[]))
  (first | (simp[*,qAb,qAc,qAi,qAj,World.cell?_alloc_some];done) | (go_split_ands;exact⟨(qBb hk2 (λh=>h) (by have:=hk1.size;simp at this;omega)).1.trans (by assumption),(qBb hk2 (λh=>h) (by have:=hk1.size;simp at this;omega)).2.trans (by assumption),hk2.cell (by assumption) (λh=>h),hk2.cell (by assumption) (λh=>h),hk2.cell (by assumption) (λh=>h),hk2.cell (by assumption) (λh=>h),hk2.cell (by assumption) (λh=>h),hk2.cell (by assumption) (λh=>h)⟩) | (go_split_ands;exact⟨(qBb hk1 (λh=>h) (by simpa using hsz0)).1.trans (by assumption),(qBb hk1 (λh=>h) (by simpa using hsz0)).2.trans (by assumption),hk1.cell (by assumption) (λh=>h),hk1.cell (by assumption) (λh=>h),hk1.cell (by assumption) (λh=>h),hk1.cell (by assumption) (λh=>h),hk1.cell (by assumption) (λh=>h),hk1.cell (by assumption) (λh=>h)⟩))
  (first | (go_at_call 89;refine(new_any _).mono ?_;rintro e w2 ⟨rfl,hq2,hk2,hz2⟩) | (refine(qYg c k _ h1 h5 (uh HVV) (uh HKD)).mono ?_;rintro e w1 ⟨nb,rfl,hd1,hn1,hk1⟩))
 go_wp2
 go_ret
 have hkw:Keeps (λ_=>False) w w1:=((uh HK).drew).then hk1
 have hs1:=hkw.size
 have hka:∀O,Keeps (λ_=>False) w2 (w2.alloc O):=λO=>(Keeps.refl (λ_=>False) w2).alloc O
 have hcb:=uh HCB
 have hn2:=hn1.still hk2
 have hz2:w2.heap.size=w1.heap.size+1:=hz2
 refine⟨⟨w1.heap.size+1,w1.heap.size,none,nb⟩,rfl,⟨Blk.newAt hz2 (qB3 ⟨w1.heap.size+1,w1.heap.size,none,nb⟩ (qCe id c k)) 104,hq2.keeps (hka _) (λh=>h) (λ_ _ h=>h),hn2.still (hka _),?_,?_,λi hi=>⟨?_,?_,?_⟩⟩,?_,(hkw.then hk2).alloc _⟩
 ·show w1.heap.size+1≠w1.heap.size;omega
 ·intro g hg;cases hg
 ·have:=hn1.lt i hi;show i≠w1.heap.size+1;omega
 ·have:=hn1.lt i hi;show i≠w1.heap.size;omega
 ·intro hg;cases hg
 ·intro i hi
  rcases hi with hi | hi | hi | hi
  ·have:i=w1.heap.size+1:=hi
   omega
  ·have:i=w1.heap.size:=hi
   omega
  ·cases hi
  ·have h1:=hd1 i hi
   have h2:=(uh HK).size
   rw[World.size_drew]at h1
   omega
end
end Go.Proofs.YtahnliehdjncdaaGreatDoor
