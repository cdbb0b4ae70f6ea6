import Derived.Test.YtahnliehdjncdabGreatDoorXAY
import Derived.Deep.LoopGhost
set_option maxRecDepth 100000
set_option maxHeartbeats 16000000
namespace Go.Proofs.YtahnliehdjncdabGreatDoor
section
open Go.RowKit
theorem swapL_all{P:It->Prop}(h0:P ⟨0,0,0,0⟩){l:List It}(h:∀y,y∈l->P y)(i j:Nat): ∀y,y∈swapL l i j->P y:=by
 have hat:∀i,P (itAt l i):=by
  intro i
  unfold itAt
  rw[List.getD_eq_getElem?_getD]
  cases hi:l[i]? with
  | none=>exact h0
  | some v=>exact h v (List.mem_of_getElem? hi)
 intro y hy
 unfold swapL at hy
 rcases List.mem_or_eq_of_mem_set hy with hy | hy
 ·rcases List.mem_or_eq_of_mem_set hy with hy | hy
  ·exact h y hy
  ·subst hy;exact hat j
 ·subst hy;exact hat i
theorem riseL_all{P:It->Prop}(h0:P ⟨0,0,0,0⟩)(f:Nat)(l:List It)(i:Nat)(h:∀y,y∈l->P y): ∀y,y∈riseL f l i->P y:=by
 induction f generalizing l i with
 | zero=>exact h
 | succ f ih =>
  unfold riseL
  split
  ·exact h
  ·split
   ·exact ih _ _ (swapL_all h0 h _ _)
   ·exact h
theorem sinkL_all{P:It->Prop}(h0:P ⟨0,0,0,0⟩)(f:Nat)(l:List It)(i:Nat)(h:∀y,y∈l->P y): ∀y,y∈sinkL f l i->P y:=by
 induction f generalizing l i with
 | zero=>exact h
 | succ f ih =>
  unfold sinkL
  split
  ·exact h
  ·split
   ·exact ih _ _ (swapL_all h0 h _ _)
   ·exact h
theorem itAt_all{P:It->Prop}(h0:P ⟨0,0,0,0⟩){l:List It}(h:∀y,y∈l->P y)(i:Nat): P (itAt l i):=by
 unfold itAt
 rw[List.getD_eq_getElem?_getD]
 cases hi:l[i]? with
 | none=>exact h0
 | some v=>exact h v (List.mem_of_getElem? hi)
theorem takeL_all{P:It->Prop}(h0:P ⟨0,0,0,0⟩)(l:List It)(h:∀y,y∈l->P y): ∀y,y∈takeL l->P y:=by
 unfold takeL
 refine sinkL_all h0 _ _ _ (λy hy=>?_)
 have hy:=List.mem_of_mem_take hy
 rcases List.mem_or_eq_of_mem_set hy with hy | hy
 ·exact h y hy
 ·subst hy;exact itAt_all h0 h _
theorem takeL_length(l:List It): (takeL l).length=l.length-1:=by
 unfold takeL
 rw[qDl];simp
def qEx(x:Ser)(m:Int): Ser:={ x with l:=takeL x.l,rel:=x.rel+1,nt:=qLf x.k x.c x.nt (itAt x.l 0) m,last:=(itAt x.l 0).t }
def relS: Nat->Ser->Int->Ser
 | 0,x,_=>x
 | f+1,x,m=>if x.l.isEmpty then x else if m<(itAt x.l 0).t then x else relS f (qEx x m) m
theorem qFt{l:List It}(h:l≠[]): itAt l 0∈l:=by
 cases l with
 | nil=>exact absurd rfl h
 | cons a l=>exact List.mem_cons_self ..
theorem qJn{l:List It}(hh:HeapL l)(hl:l≠[]){y:It}(hy:y∈takeL l): y∈l:=(take_heap l hh hl).2.subset (List.mem_cons_of_mem _ hy)
theorem qE1{n:Int}{x:Ser}(h:SInv n x)(hl:x.l≠[])(m:Int)(hm:¬m<(itAt x.l 0).t): SInv n (qEx x m):=by
 have hlen:0<x.l.length:=List.length_pos_iff.2 hl
 have hra:=h.rela
 have hcap:=h.cap
 have hrel:=h.rel0
 have ht:(takeL x.l).length=x.l.length-1:=takeL_length _
 have hmem:=qFt hl
 have htm:=h.times _ hmem
 refine⟨h.valid,h.kind,h.k1,h.k5,h.acc0,h.accn,?_,?_,h.reflen,h.refn,?_,λy hy=>h.times y (qJn h.heap hl hy),?_,(take_heap _ h.heap hl).1,htm.1,htm.2,λy hy=>h.heap.first_mem (qJn h.heap hl hy),λy hy=>h.fits y (qJn h.heap hl hy)⟩
 ·show 0<=x.rel+1;omega
 ·show x.rel+1+((takeL x.l).length:Int)=x.acc;omega
 ·show((takeL x.l).length:Int)<=x.c.cap;omega
 ·exact zBd h.note h.valid h.kind _ _ (h.lastl _ hmem) (by omega)
theorem qMr{c:Cfg}{k:Nat}{y:It}(h:qDb c k y=0)(hk:k=2\/k=3): 0<=y.k/\y.k<=2147483648:=by
 have h2:qXn y=0:=by
  rcases hk with hk | hk <;> subst hk <;> exact h
 unfold qXn at h2
 split at h2
 ·rename_i h3;exact qDp h3
 ·omega
theorem qNt(c:Cfg)(k:Nat)(y:It)(n:Int): qDb c k (numbered y n)=qDb c k y:=by
 unfold qDb numbered
 split <;> rfl
theorem zCf{n:Int}{x:Ser}(h:SInv n x)(y:It)(t0:0<=y.t)(t1:y.t<=4611686018427387904)(hc:(x.l.length:Int)<x.c.cap)(ha:x.acc<n)(hlast:x.last<=y.t)(hk:qDb x.c x.k y=0): SInv n (accS x y):=by
 have h0:=h.acc0;have hr:=h.rela
 have hlen:(riseL (x.l.length+1) (x.l++[numbered y (x.acc+1)]) x.l.length).length=x.l.length+1:=by rw[riseL_length];simp
 have hp:=put_heap x.l (numbered y (x.acc+1)) h.heap
 have hall:∀ {P:It->Prop},(∀z,z∈x.l->P z)->P (numbered y (x.acc+1))->∀z,z∈(accS x y).l->P z:=λh1 h2 z hz=>by
  rcases List.mem_cons.1 (hp.2.subset hz) with e | e
  ·rw[e];exact h2
  ·exact h1 z e
 refine⟨h.valid,h.kind,h.k1,h.k5,?_,?_,h.rel0,?_,h.reflen,h.refn,?_,hall h.times ⟨t0,t1⟩,h.note,hp.1,h.last0,h.lastn,hall h.lastl hlast,hall h.fits ((qNt _ _ _ _).trans hk)⟩
 ·show 0<=x.acc+1;omega
 ·show x.acc+1<=n;omega
 ·show x.rel+((riseL (x.l.length+1) (x.l++[numbered y (x.acc+1)]) x.l.length).length:Int)=x.acc+1;omega
 ·show((riseL (x.l.length+1) (x.l++[numbered y (x.acc+1)]) x.l.length).length:Int)<=x.c.cap;omega
end
section
open Go.RowKit
attribute [local go_sem ↓] qAd qAe
attribute [local go_sem] qAg qAm qAb qAc qAn qAo qAi qAh qAf qAl
theorem qWq{w w5:World}{b:SB}{x:Ser}{g:Nat}{m:Int}{n':NB}(h:SRep w b x)(hg:b.g=some g)(hb:Blk w5 b.s (qB9 b { x with rel:=x.rel+1 }) 105)(hq:QRep w5 b.q (some g) (takeL x.l))(hn:NRep w5 x.k n' x.c (qLf x.k x.c x.nt (itAt x.l 0) m))(hd:n'.d=b.n.d)(hf:∀i,qCz x.k n' i->i≠b.s/\i≠b.q/\b.g≠some i): SRep w5 ⟨b.s,b.q,b.g,n'⟩ (qEx x m):=by
 refine⟨?_,by show QRep w5 b.q b.g _;rw[hg];exact hq,hn,h.sq,h.sg,hf⟩
 have:qB9 ⟨b.s,b.q,b.g,n'⟩ (qEx x m)=qB9 b { x with rel:=x.rel+1 }:=by unfold qB9;simp only[hd];rfl
 rw[this]
 exact hb
theorem qUo(n:Int)(b:SB)(x:Ser)(m:Int)(w:World)(hs:SRep w b x)(hi:SInv n x)(hn:n<=651562446200)(hT:Tab w)(hT0:¬b.foot x.k 2)(m0:-100<=m)(m1:m<=4611686018427387904):
  Calls Tryz.prog 53 #[.pointer (some ⟨b.s,0,none⟩),.int .i64 m] w λe w'=>e=.returned (.tuple #[])/\∃b',SRep w' b' (relS (x.l.length+1) x m)/\b.next b' x.k w.heap.size/\Keeps (b.foot x.k) w w':=by
 have HS:=hide hs
 have HI:=hide hi
 have HTT:=hide hT
 have HT0:=hide hT0
 clear hs hi hT hT0
 go_enter Tryz.func53,Tryz.ntmps53
 go_wp2
 go_loopg [5] (x.l.length) (λg _s wr=>∃(b':SB) (x':Ser),Hid (SRep wr b' x')/\Hid (SInv n x')/\Hid (b.next b' x.k w.heap.size)/\Hid (Keeps (b.foot x.k) w wr)/\x'.k=x.k/\x'.l.length=g/\Hid (relS (x.l.length+1) x m=relS (x'.l.length+1) x' m))
 case atStart=>exact⟨b,x,HS,HI,⟨rfl,λ_ h=>.inl h⟩,Keeps.refl _ _,rfl,rfl,rfl⟩
 case round =>
  obtain⟨b1,x1,HS1,HI1,HN1,HK1,hk1,hg1,HE1⟩:=hrel
  have HKK:=hide hk1
  have HG:=hide hg1
  have HS0:=hide (uh HN1).1
  clear hk1 hg1
  have HB:=hide (show Blk wr b.s (qB9 b1 x1) 105 by rw[<-uh HS0];exact(uh HS1).blk)
  have hlt:=(uh HB).lt
  have hc26:wr.cell? ⟨b.s,32,none⟩=some (.pointer (some ⟨b1.q,0,none⟩)):=(uh HB).cell rfl
  go_wp2_with fail
  refine(qHp b1.q b1.g x1.l wr (uh HS1).que).mono ?_
  rintro e w1 ⟨rfl,hk1⟩
  have HB1:=hide ((uh HB).keeps hk1 (λh=>h))
  have HS2:=hide ((uh HS1).still hk1)
  have HK2:=hide ((uh HK1).trans hk1 (λ_ h _=>h.elim))
  have hsz1:wr.heap.size<=w1.heap.size:=hk1.size
  have hszw:=(uh HK1).size
  clear hk1 hc26 hlt
  by_cases hemp:x1.l.isEmpty=true
  ·have HEM:=hide hemp
   rw[hemp]
   clear hemp
   unfold It.val
   go_wp2
   refine bodyPost_ret (results_none rfl _ _ _) rfl ⟨rfl,b1,?_,uh HN1,(uh HK2).alloc _⟩
   rw[uh HE1]
   unfold relS
   rw[if_pos (uh HEM)]
   exact(uh HS2).still ((Keeps.refl _ _).alloc _)
  ·have hemp':x1.l.isEmpty=false:=by simpa using hemp
   have HNE:=hide (show x1.l≠[] by intro h;rw[h]at hemp;exact hemp rfl)
   have HEM:=hide hemp
   rw[hemp']
   clear hemp hemp'
   generalize hy:itAt x1.l 0=y
   have HY:=hide hy
   clear hy
   unfold It.val
   have HB2:=hide ((uh HB1).alloc (.cells #[.int .i64 y.t,.int .i64 y.k,.int .i64 y.d,.int .i64 y.n] 88))
   have HX2:=hide (Blk.new w1 [.int .i64 y.t,.int .i64 y.k,.int .i64 y.d,.int .i64 y.n] 88)
   have HS3:=hide ((uh HS2).still ((Keeps.refl (λ_=>False) w1).alloc (.cells #[.int .i64 y.t,.int .i64 y.k,.int .i64 y.d,.int .i64 y.n] 88)))
   have HK3:=hide ((uh HK2).alloc (.cells #[.int .i64 y.t,.int .i64 y.k,.int .i64 y.d,.int .i64 y.n] 88))
   have hlt1:=(uh HB1).lt
   have hc26:w1.cell? ⟨b.s,32,none⟩=some (.pointer (some ⟨b1.q,0,none⟩)):=(uh HB1).cell rfl
   by_cases ht:m<y.t
   ·go_wp2
    refine bodyPost_ret (results_none rfl _ _ _) rfl ⟨rfl,b1,?_,uh HN1,uh HK3⟩
    rw[uh HE1]
    unfold relS
    rw[if_neg (uh HEM),if_pos (by rw[uh HY];exact ht)]
    exact uh HS3
   ·have ht':decide (m<y.t)=false:=by simpa using ht
    have HT:=hide ht
    clear ht
    go_wp2_with fail
    have HLT:=hide (show ∀i,b1.foot x1.k i->i<w1.heap.size from(uh HS2).lt)
    generalize w1.alloc (.cells #[.int .i64 y.t,.int .i64 y.k,.int .i64 y.d,.int .i64 y.n] 88)=w2 at *
    generalize hbx:w1.heap.size=bx at *
    clear hbx hc26 HB1 HS2 HK2 HB HS1 HK1
    obtain⟨g,hg⟩:∃g,b1.g=some g:=by
     cases hbg:b1.g with
     | none=>have hq:=(uh HS3).que;rw[hbg]at hq;exact absurd hq.1 (uh HNE)
     | some g=>exact⟨g,rfl⟩
    have HGG:=hide hg
    have HLEN:=hide (List.length_pos_iff.2 (uh HNE))
    have hl9:x1.l.length<=900:=by have h1:=(uh HI1).cap;have h2:=(uh HI1).common;omega
    refine(take_any b1.q g x1.l w2 (by have hq:=(uh HS3).que;rw[hg]at hq;exact hq) hl9 (uh HLEN)).mono ?_
    rintro e w3 ⟨⟨v,rfl⟩,hq3,hk3⟩
    have HNS:=hide (show ¬(b.s=b1.q\/b.s=g) from λh=>by
       rw[<-uh HS0]at h
       exact h.elim (uh HS3).sq ((uh HS3).sg g hg))
    have HNX:=hide (show ¬(bx=b1.q\/bx=g) from λh=>by
       rcases h with h | h
       ·have:=uh HLT bx (.inr (.inl h));omega
       ·have:=uh HLT bx (.inr (.inr (.inl (by rw[hg,h]))));omega)
    have HB3:=hide ((uh HB2).keeps hk3 (uh HNS))
    have HX3:=hide ((uh HX2).keeps hk3 (uh HNX))
    have HQ3:=hide hq3
    have HD3:=hide (show NRep w3 x1.k b1.n x1.c x1.nt from(uh HS3).note.keeps hk3 (λi hi h=>by
         rcases h with h | h
         ·exact((uh HS3).sn i hi).2.1 h
         ·exact((uh HS3).sn i hi).2.2 (by rw[hg,h])))
    have HK4:=hide ((uh HK3).trans hk3 (λi hi hlt=>by
         have hf:b1.foot x.k i:=by
          rcases hi with hi | hi
          ·exact .inr (.inl hi)
          ·exact .inr (.inr (.inl (by rw[hg,hi])))
         rcases(uh HN1).2 i hf with h | h
         ·exact h
         ·omega))
    clear hk3 hq3 HB2 HX2 HK3 hg
    have hc28:w3.cell? ⟨b.s,34,none⟩=some (.int .i64 x1.rel):=(uh HB3).cell rfl
    have hf3:=(uh HB3).frozen
    have hwr:IntKind.i64.wrap (x1.rel+1)=x1.rel+1:=by
     have h1:=(uh HI1).rel0;have h2:=(uh HI1).rela;have h3:=(uh HI1).accn
     exact qPd (by omega) (by omega)
    go_wp2_with fail
    have hk4:Keeps (λi=>i=b.s) w3 (w3.setCell ⟨b.s,34,none⟩ (.int .i64 (x1.rel+1))):=(Keeps.refl (λi=>i=b.s) w3).setCell (p:=⟨b.s,34,none⟩) (Or.inl rfl) _
    have HB4:=hide (show Blk (w3.setCell ⟨b.s,34,none⟩ (.int .i64 (x1.rel+1))) b.s (qB9 b1 { x1 with rel:=x1.rel+1 }) 105 from(uh HB3).setCell 34 _)
    have HX4:=hide ((uh HX3).keeps hk4 (λh=>by omega))
    have HQ4:=hide ((uh HQ3).keeps hk4 (λh=>uh HNS (.inl h.symm)) (λg' hg' h=>uh HNS (.inr (by cases hg';exact h.symm))))
    have HD4:=hide (show NRep (w3.setCell ⟨b.s,34,none⟩ (.int .i64 (x1.rel+1))) x1.k b1.n x1.c x1.nt from(uh HD3).keeps hk4 (λi hi h=>((uh HS3).sn i hi).1 (by rw[h,uh HS0])))
    have HK5:=hide ((uh HK4).trans hk4 (λi hi hlt=>.inl hi))
    clear hk4 HB3 HX3 HQ3 HD3 HK4 hc28 hf3 hwr
    generalize w3.setCell ⟨b.s,34,none⟩ (.int .i64 (x1.rel+1))=w4 at *
    have hc24:w4.cell? ⟨b.s,27,none⟩=some (.func (.func (zGu x1.k)) (qHa b1.n.d) #[]):=(uh HB4).cell rfl
    have hx0:w4.cell? ⟨bx,0,none⟩=some (.int .i64 y.t):=(uh HX4).cell rfl
    have hx1:w4.cell? ⟨bx,1,none⟩=some (.int .i64 y.k):=(uh HX4).cell rfl
    have hx2:w4.cell? ⟨bx,2,none⟩=some (.int .i64 y.d):=(uh HX4).cell rfl
    have hx3:w4.cell? ⟨bx,3,none⟩=some (.int .i64 y.n):=(uh HX4).cell rfl
    have HFIN:=hide (show relS (x.l.length+1) x m=relS (x1.l.length) (qEx x1 m) m by
       rw[uh HE1]
       conv=>lhs;unfold relS
       rw[if_neg (uh HEM),if_neg (by rw[uh HY];have:=uh HT;omega)])
    have HTL:=hide (takeL_length x1.l)
    have hty:=itAt_all (P:=λy=>0<=y.t/\y.t<=4611686018427387904) (by simp) (uh HI1).times 0
    rw[uh HY]at hty
    have hown:=zDt x1.k (uh HI1).k1 (uh HI1).k5
    have HRL:=hide (show x1.rel<=651562446200 by have h1:=(uh HI1).rela;have h2:=(uh HI1).accn;have h3:=uh HLEN;omega)
    have HNF:=hide (show ¬b1.foot x.k 2 from λh=>by
       rcases(uh HN1).2 2 h with h1 | h1
       ·exact uh HT0 h1
       ·have h2:=(uh HTT).lt;omega)
    have HT4:=hide (show Tab w4 from(uh HTT).keeps (uh HK5) (uh HT0))
    have hkf:=(uh HI1).fits _ (qFt (uh HNE))
    rw[uh HY]at hkf
    have HKF:=hide hkf
    clear hkf
    go_region_with (refine(zE3 (rel:=x1.rel) (last:=x1.last) x1.k b1.n x1.c x1.nt y m _ _ (by first | rfl | simp) (by exact(uh HD4).still (Keeps.refl _ _).drew) (uh HI1).note (uh HRL) (uh HI1).valid (uh HI1).kind (uh HI1).k1 (uh HI1).k5 m0 m1 hty.1 hty.2 (λh=>qMr (uh HKF) h) ((uh HT4).keeps (Keeps.refl (λ_=>False) w4).drew (λh=>h)) (λh=>uh HNF (.inr (.inr (.inr (by rw[<-uh HKK];exact h))))) (uh HI1).lastn).mono ?_;rintro e w' ⟨rfl,n',hn',hd',hf',hk⟩)
    all_goals
     have HKD:=hide (((Keeps.refl (qCz x1.k b1.n) w4).drew).then hk)
     have HN':=hide hn'
     have HD':=hide hd'
     have HF':=hide hf'
     clear hk hn' hd' hf' hx0 hx1 hx2 hx3 hc24 hown
     go_wp2
     go_roundg (x1.l.length-1)
     case measure=>have h1:=uh HG;have h2:=uh HLEN;omega
     case rel =>
      have hsn:=(uh HS3).sn
      have hlt4:∀i,b1.foot x1.k i->i<w4.heap.size:=by
       have h1:=(uh HB4).lt
       have h2:=(uh HQ4).lt
       rintro i (hi | hi | hi | hi)
       ·rw[hi,uh HS0];exact h1
       ·rw[hi];exact h2.1
       ·rw[uh HGG]at hi;exact(h2.2 i hi).1
       ·exact(uh HD4).lt i hi
      have hff:∀i,qCz x1.k n' i->i≠b1.s/\i≠b1.q/\b1.g≠some i:=by
       intro i hi
       rcases uh HF' i hi with h | h
       ·exact hsn i h
       ·rw[World.size_drew]at h
        refine⟨λe=>?_,λe=>?_,λe=>?_⟩
        ·have:=hlt4 i (.inl e);omega
        ·have:=hlt4 i (.inr (.inl e));omega
        ·have:=hlt4 i (.inr (.inr (.inl e)));omega
      have hr:SRep w' ⟨b1.s,b1.q,b1.g,n'⟩ (qEx x1 m):=by
       refine qWq (uh HS3) (uh HGG) ?_ ((uh HQ4).keeps (uh HKD) (λh=>(hsn _ h).2.1 rfl) (λg' hg' h=>(hsn _ h).2.2 (by rw[uh HGG];exact hg'))) (by rw[uh HY];exact uh HN') (uh HD') hff
       rw[uh HS0]
       exact(uh HB4).keeps (uh HKD) (λh=>(hsn _ h).1 (uh HS0).symm)
      refine⟨⟨b1.s,b1.q,b1.g,n'⟩,qEx x1 m,hr,qE1 (uh HI1) (uh HNE) m (by rw[uh HY];have:=uh HT;omega),⟨(uh HN1).1,λi hi=>?_⟩,(uh HK5).trans (uh HKD) (λi hi hlt=>?_),uh HKK,uh HTL,?_⟩
      ·rcases hi with hi | hi | hi | hi
       ·exact(uh HN1).2 i (.inl hi)
       ·exact(uh HN1).2 i (.inr (.inl hi))
       ·exact(uh HN1).2 i (.inr (.inr (.inl hi)))
       ·rw[<-uh HKK]at hi
        rcases uh HF' i hi with h | h
        ·exact(uh HN1).2 i (.inr (.inr (.inr (by rw[<-uh HKK];exact h))))
        ·rw[World.size_drew]at h
         have:=(uh HK5).size
         exact .inr (by omega)
      ·have hf:b1.foot x.k i:=.inr (.inr (.inr (by rw[<-uh HKK];exact hi)))
       rcases(uh HN1).2 i hf with h | h
       ·exact h
       ·omega
      ·show _=relS ((takeL x1.l).length+1) (qEx x1 m) m
       rw[uh HFIN,uh HTL,show x1.l.length-1+1=x1.l.length by have:=uh HLEN;omega]
end
section
open Go.RowKit
attribute [local go_sem ↓] qAd qAe
attribute [local go_sem] qAg qAm qAb qAc qAn qAo qAi qAh qAf qAl
def qAs(l:List Int)(j:Nat): Int:=l.getD j 0
theorem qDe(b:SB)(x:Ser)(hl:x.ref.length=12)(j:Nat)(hj:j<12): (qB9 b x)[35+j]?=some (.int .i64 (qAs x.ref j)):=by
 have h1:(qB9 b x)[35+j]?=(x.ref.map (λv=>Value.int .i64 v))[j]?:=by
  rw[Nat.add_comm];rfl
 rw[h1,List.getElem?_map]
 have hj':j<x.ref.length:=by omega
 simp[qAs,hj']
def ints(l:List Int): List Value:=l.map (λv=>Value.int .i64 v)
def qB1: List Nat:=[5,6,7,8,10,9,11]
def qCg(x:Ser): List Int:=x.acc::x.rel::qB1.map (qAs x.ref)
theorem info3: (Tryz.prog.info? 3).map (λi=>(i.zero,i.size,i.bytes))=some (some (.int .i64 0),1,8):=by kernel_rfl
theorem ix0(w:World): (Instr.index 134 (.agg #[.int .i64 5,.int .i64 6,.int .i64 7,.int .i64 8,.int .i64 10,.int .i64 9,.int .i64 11]) (.int .i64 0)).run Tryz.prog w=.ok (.int .i64 5) w:=by kernel_rfl
theorem ix1(w:World): (Instr.index 134 (.agg #[.int .i64 5,.int .i64 6,.int .i64 7,.int .i64 8,.int .i64 10,.int .i64 9,.int .i64 11]) (.int .i64 1)).run Tryz.prog w=.ok (.int .i64 6) w:=by kernel_rfl
theorem ix2(w:World): (Instr.index 134 (.agg #[.int .i64 5,.int .i64 6,.int .i64 7,.int .i64 8,.int .i64 10,.int .i64 9,.int .i64 11]) (.int .i64 2)).run Tryz.prog w=.ok (.int .i64 7) w:=by kernel_rfl
theorem ix3(w:World): (Instr.index 134 (.agg #[.int .i64 5,.int .i64 6,.int .i64 7,.int .i64 8,.int .i64 10,.int .i64 9,.int .i64 11]) (.int .i64 3)).run Tryz.prog w=.ok (.int .i64 8) w:=by kernel_rfl
theorem ix4(w:World): (Instr.index 134 (.agg #[.int .i64 5,.int .i64 6,.int .i64 7,.int .i64 8,.int .i64 10,.int .i64 9,.int .i64 11]) (.int .i64 4)).run Tryz.prog w=.ok (.int .i64 10) w:=by kernel_rfl
theorem ix5(w:World): (Instr.index 134 (.agg #[.int .i64 5,.int .i64 6,.int .i64 7,.int .i64 8,.int .i64 10,.int .i64 9,.int .i64 11]) (.int .i64 5)).run Tryz.prog w=.ok (.int .i64 9) w:=by kernel_rfl
theorem ix6(w:World): (Instr.index 134 (.agg #[.int .i64 5,.int .i64 6,.int .i64 7,.int .i64 8,.int .i64 10,.int .i64 9,.int .i64 11]) (.int .i64 6)).run Tryz.prog w=.ok (.int .i64 11) w:=by kernel_rfl
theorem qSv{w w':World}{base:Nat}{t size:Nat}{v:Value}{n:Nat}{xs:List Value}(h:w.ownsRow base t size v n xs)(hk:Keeps (λ_=>False) w w'): w'.ownsRow base t size v n xs:=by
 refine⟨h.1,?_⟩
 rcases h.2 with h2 | ⟨g,cap,cur,rfl,hb,hg,r⟩
 ·exact .inl h2
 ·exact .inr ⟨g,cap,cur,rfl,hb,by rw[hk.block g (Array.getElem?_eq_some_iff.1 hg).1 (λh=>h)];exact hg,r⟩
theorem qK9(w:World):
  Calls Tryz.prog 82 #[] w λe w'=>e=.returned (.agg #[.int .i64 5,.int .i64 6,.int .i64 7,.int .i64 8,.int .i64 10,.int .i64 9,.int .i64 11])/\Keeps (λ_=>False) w w':=by
 go_enter Tryz.func82,Tryz.ntmps82
 go_wp2
 refine bodyPost_ret (v:=.agg #[.int .i64 5,.int .i64 6,.int .i64 7,.int .i64 8,.int .i64 10,.int .i64 9,.int .i64 11]) (by simp[results,Tryz.results82,go_sem]) rfl ⟨rfl,?_⟩
 repeat (first | exact Keeps.refl _ _ | apply Keeps.alloc)
attribute [local go_sem] ix0 ix1 ix2 ix3 ix4 ix5 ix6
theorem qRr(n:Int)(b:SB)(x:Ser)(w:World)(hs:SRep w b x)(hi:SInv n x):
  Calls Tryz.prog 56 #[.pointer (some ⟨b.s,0,none⟩)] w λe w'=>∃v,e=.returned v/\w'.ownsRow w.heap.size 3 1 v 9 (ints (qCg x))/\Keeps (λ_=>False) w w':=by
 have HB:=hide hs.blk
 have HI:=hide hi
 have hlt:=hs.blk.lt
 have hc27:w.cell? ⟨b.s,33,none⟩=some (.int .i64 x.acc):=hs.blk.cell rfl
 have hc28:w.cell? ⟨b.s,34,none⟩=some (.int .i64 x.rel):=hs.blk.cell rfl
 clear hs hi
 obtain⟨i0,hi0,hz0,hz1,hz2⟩:=info_parts info3
 go_enter Tryz.func56,Tryz.ntmps56
 go_wp2_with fail
 go_region
 go_wp2_with fail
 have hk1:Keeps (λ_=>False) w (w.alloc (.cells #[.int .i64 x.acc,.int .i64 x.rel] 3)).drew:=((Keeps.refl _ w).alloc _).drew
 have hO1:(w.alloc (.cells #[.int .i64 x.acc,.int .i64 x.rel] 3)).drew.ownsRow w.heap.size 3 1 (.slice (some ⟨w.heap.size,0,none⟩) 2 2) 2 (ints ((qCg x).take 2)) :=
  ⟨rfl,.inr ⟨w.heap.size,2,#[.int .i64 x.acc,.int .i64 x.rel],rfl,by omega,heap_alloc_new w (.cells #[.int .i64 x.acc,.int .i64 x.rel] 3),by omega,by unfold maxLen;omega,rfl,rfl⟩⟩
 have HK1:=hide hk1
 have HO1:=hide hO1
 clear hk1 hO1 hc27 hc28 hlt
 generalize(w.alloc (.cells #[.int .i64 x.acc,.int .i64 x.rel] 3)).drew=W1 at *
 refine(qK9 W1).mono ?_
 rintro e W2 ⟨rfl,hk2⟩
 have HK2:=hide ((uh HK1).then hk2)
 have HO2:=hide (qSv (uh HO1) hk2)
 clear hk2 HK1 HO1
 go_wp2_with fail
 go_loopw [3,16] (λv i wr=>∃k:Nat,k<=7/\i=.int .i64 k/\Hid (wr.ownsRow w.heap.size 3 1 v (2+k) (ints ((qCg x).take (2+k))))/\Hid (Keeps (λ_=>False) w wr)) (λ_ i _=>7-(intOf i).toNat)
 case atStart=>exact⟨0,by omega,rfl,HO2,HK2⟩
 case round =>
  obtain⟨k,hk,rfl,HO,HK⟩:=hrel
  have HBr:=hide ((uh HB).keeps (uh HK) (λh=>h))
  have hltr:=(uh HBr).lt
  generalize u3=v at *
  by_cases hlt7:k<7
  ·have hk7:k=0\/k=1\/k=2\/k=3\/k=4\/k=5\/k=6:=by omega
   rcases hk7 with hk7 | hk7 | hk7 | hk7 | hk7 | hk7 | hk7
   all_goals subst hk7
   ·have hc:wr.cell? ⟨b.s,40,none⟩=some (.int .i64 (qAs x.ref 5)):=(uh HBr).cell (qDe b x (uh HI).reflen 5 (by omega))
    have HNEW:=hide (show ints ((qCg x).take (2+0))++[.int .i64 (qAs x.ref 5)]=ints ((qCg x).take (2+1)) from rfl)
    go_wp2_with (at_builtin;refine wpList_append_lies _ rfl _ _ _ rfl w.heap.size 3 i0 _ 1 8 Tryz.underlying36 hi0 hz0 hz1 hz2 rfl (by omega) v (2+0) (ints ((qCg x).take (2+0))) rfl ((uh HO).alloc _) ⟨wr.heap.size,0,none⟩ 1 1 [.int .i64 (qAs x.ref 5)] rfl rfl (World.news_of_block (cs:=#[.int .i64 (qAs x.ref 5)]) (t:=3) (fr:=(0,0)) (heap_alloc_new wr _)) (by simp[Value.oneCell']) (by omega) (by unfold maxLen;omega) (by omega) (by have:=(uh HK).size;simp;omega) (wr.heap.size+1) (by simp) ?_;intro gg cap' w1 hown1 hgrow hat hl)
    rw[uh HNEW]at hown1
    go_roundw
    case rel =>
     refine⟨1,by omega,rfl,hown1,((uh HK).alloc _).grown hgrow (λj hj=>Or.inr ((uh HO).lt j hj).1)⟩
    case measure=>simp[intOf]
   ·have hc:wr.cell? ⟨b.s,41,none⟩=some (.int .i64 (qAs x.ref 6)):=(uh HBr).cell (qDe b x (uh HI).reflen 6 (by omega))
    have HNEW:=hide (show ints ((qCg x).take (2+1))++[.int .i64 (qAs x.ref 6)]=ints ((qCg x).take (2+2)) from rfl)
    go_wp2_with (at_builtin;refine wpList_append_lies _ rfl _ _ _ rfl w.heap.size 3 i0 _ 1 8 Tryz.underlying36 hi0 hz0 hz1 hz2 rfl (by omega) v (2+1) (ints ((qCg x).take (2+1))) rfl ((uh HO).alloc _) ⟨wr.heap.size,0,none⟩ 1 1 [.int .i64 (qAs x.ref 6)] rfl rfl (World.news_of_block (cs:=#[.int .i64 (qAs x.ref 6)]) (t:=3) (fr:=(0,0)) (heap_alloc_new wr _)) (by simp[Value.oneCell']) (by omega) (by unfold maxLen;omega) (by omega) (by have:=(uh HK).size;simp;omega) (wr.heap.size+1) (by simp) ?_;intro gg cap' w1 hown1 hgrow hat hl)
    rw[uh HNEW]at hown1
    go_roundw
    case rel =>
     refine⟨2,by omega,rfl,hown1,((uh HK).alloc _).grown hgrow (λj hj=>Or.inr ((uh HO).lt j hj).1)⟩
    case measure=>simp[intOf]
   ·have hc:wr.cell? ⟨b.s,42,none⟩=some (.int .i64 (qAs x.ref 7)):=(uh HBr).cell (qDe b x (uh HI).reflen 7 (by omega))
    have HNEW:=hide (show ints ((qCg x).take (2+2))++[.int .i64 (qAs x.ref 7)]=ints ((qCg x).take (2+3)) from rfl)
    go_wp2_with (at_builtin;refine wpList_append_lies _ rfl _ _ _ rfl w.heap.size 3 i0 _ 1 8 Tryz.underlying36 hi0 hz0 hz1 hz2 rfl (by omega) v (2+2) (ints ((qCg x).take (2+2))) rfl ((uh HO).alloc _) ⟨wr.heap.size,0,none⟩ 1 1 [.int .i64 (qAs x.ref 7)] rfl rfl (World.news_of_block (cs:=#[.int .i64 (qAs x.ref 7)]) (t:=3) (fr:=(0,0)) (heap_alloc_new wr _)) (by simp[Value.oneCell']) (by omega) (by unfold maxLen;omega) (by omega) (by have:=(uh HK).size;simp;omega) (wr.heap.size+1) (by simp) ?_;intro gg cap' w1 hown1 hgrow hat hl)
    rw[uh HNEW]at hown1
    go_roundw
    case rel =>
     refine⟨3,by omega,rfl,hown1,((uh HK).alloc _).grown hgrow (λj hj=>Or.inr ((uh HO).lt j hj).1)⟩
    case measure=>simp[intOf]
   ·have hc:wr.cell? ⟨b.s,43,none⟩=some (.int .i64 (qAs x.ref 8)):=(uh HBr).cell (qDe b x (uh HI).reflen 8 (by omega))
    have HNEW:=hide (show ints ((qCg x).take (2+3))++[.int .i64 (qAs x.ref 8)]=ints ((qCg x).take (2+4)) from rfl)
    go_wp2_with (at_builtin;refine wpList_append_lies _ rfl _ _ _ rfl w.heap.size 3 i0 _ 1 8 Tryz.underlying36 hi0 hz0 hz1 hz2 rfl (by omega) v (2+3) (ints ((qCg x).take (2+3))) rfl ((uh HO).alloc _) ⟨wr.heap.size,0,none⟩ 1 1 [.int .i64 (qAs x.ref 8)] rfl rfl (World.news_of_block (cs:=#[.int .i64 (qAs x.ref 8)]) (t:=3) (fr:=(0,0)) (heap_alloc_new wr _)) (by simp[Value.oneCell']) (by omega) (by unfold maxLen;omega) (by omega) (by have:=(uh HK).size;simp;omega) (wr.heap.size+1) (by simp) ?_;intro gg cap' w1 hown1 hgrow hat hl)
    rw[uh HNEW]at hown1
    go_roundw
    case rel =>
     refine⟨4,by omega,rfl,hown1,((uh HK).alloc _).grown hgrow (λj hj=>Or.inr ((uh HO).lt j hj).1)⟩
    case measure=>simp[intOf]
   ·have hc:wr.cell? ⟨b.s,45,none⟩=some (.int .i64 (qAs x.ref 10)):=(uh HBr).cell (qDe b x (uh HI).reflen 10 (by omega))
    have HNEW:=hide (show ints ((qCg x).take (2+4))++[.int .i64 (qAs x.ref 10)]=ints ((qCg x).take (2+5)) from rfl)
    go_wp2_with (at_builtin;refine wpList_append_lies _ rfl _ _ _ rfl w.heap.size 3 i0 _ 1 8 Tryz.underlying36 hi0 hz0 hz1 hz2 rfl (by omega) v (2+4) (ints ((qCg x).take (2+4))) rfl ((uh HO).alloc _) ⟨wr.heap.size,0,none⟩ 1 1 [.int .i64 (qAs x.ref 10)] rfl rfl (World.news_of_block (cs:=#[.int .i64 (qAs x.ref 10)]) (t:=3) (fr:=(0,0)) (heap_alloc_new wr _)) (by simp[Value.oneCell']) (by omega) (by unfold maxLen;omega) (by omega) (by have:=(uh HK).size;simp;omega) (wr.heap.size+1) (by simp) ?_;intro gg cap' w1 hown1 hgrow hat hl)
    rw[uh HNEW]at hown1
    go_roundw
    case rel =>
     refine⟨5,by omega,rfl,hown1,((uh HK).alloc _).grown hgrow (λj hj=>Or.inr ((uh HO).lt j hj).1)⟩
    case measure=>simp[intOf]
   ·have hc:wr.cell? ⟨b.s,44,none⟩=some (.int .i64 (qAs x.ref 9)):=(uh HBr).cell (qDe b x (uh HI).reflen 9 (by omega))
    have HNEW:=hide (show ints ((qCg x).take (2+5))++[.int .i64 (qAs x.ref 9)]=ints ((qCg x).take (2+6)) from rfl)
    go_wp2_with (at_builtin;refine wpList_append_lies _ rfl _ _ _ rfl w.heap.size 3 i0 _ 1 8 Tryz.underlying36 hi0 hz0 hz1 hz2 rfl (by omega) v (2+5) (ints ((qCg x).take (2+5))) rfl ((uh HO).alloc _) ⟨wr.heap.size,0,none⟩ 1 1 [.int .i64 (qAs x.ref 9)] rfl rfl (World.news_of_block (cs:=#[.int .i64 (qAs x.ref 9)]) (t:=3) (fr:=(0,0)) (heap_alloc_new wr _)) (by simp[Value.oneCell']) (by omega) (by unfold maxLen;omega) (by omega) (by have:=(uh HK).size;simp;omega) (wr.heap.size+1) (by simp) ?_;intro gg cap' w1 hown1 hgrow hat hl)
    rw[uh HNEW]at hown1
    go_roundw
    case rel =>
     refine⟨6,by omega,rfl,hown1,((uh HK).alloc _).grown hgrow (λj hj=>Or.inr ((uh HO).lt j hj).1)⟩
    case measure=>simp[intOf]
   ·have hc:wr.cell? ⟨b.s,46,none⟩=some (.int .i64 (qAs x.ref 11)):=(uh HBr).cell (qDe b x (uh HI).reflen 11 (by omega))
    have HNEW:=hide (show ints ((qCg x).take (2+6))++[.int .i64 (qAs x.ref 11)]=ints ((qCg x).take (2+7)) from rfl)
    go_wp2_with (at_builtin;refine wpList_append_lies _ rfl _ _ _ rfl w.heap.size 3 i0 _ 1 8 Tryz.underlying36 hi0 hz0 hz1 hz2 rfl (by omega) v (2+6) (ints ((qCg x).take (2+6))) rfl ((uh HO).alloc _) ⟨wr.heap.size,0,none⟩ 1 1 [.int .i64 (qAs x.ref 11)] rfl rfl (World.news_of_block (cs:=#[.int .i64 (qAs x.ref 11)]) (t:=3) (fr:=(0,0)) (heap_alloc_new wr _)) (by simp[Value.oneCell']) (by omega) (by unfold maxLen;omega) (by omega) (by have:=(uh HK).size;simp;omega) (wr.heap.size+1) (by simp) ?_;intro gg cap' w1 hown1 hgrow hat hl)
    rw[uh HNEW]at hown1
    go_roundw
    case rel =>
     refine⟨7,by omega,rfl,hown1,((uh HK).alloc _).grown hgrow (λj hj=>Or.inr ((uh HO).lt j hj).1)⟩
    case measure=>simp[intOf]
  ·have hk7:k=7:=by omega
   subst hk7
   go_wp2
   go_ret
   exact⟨_,rfl,uh HO,uh HK⟩
end
section
open Go.RowKit
attribute [local go_sem ↓] qAd qAe
attribute [local go_sem] qAg qAm qAb qAc qAn qAo qAi qAh qAf qAl
def qBk(id:Int)(c:Cfg)(k:Nat): Ser:=⟨id,c,k,0,0,[0,0,0,0,0,0,0,0,0,0,0,0],[],qFy,0⟩
theorem zD4(id:Int)(c:Cfg)(f n p r k s a q z v l:Value)(qb:Nat)(w:World):
  (Instr.build 105 #[(0,.int .i64 id),(1,c.val),(2,.agg #[f,n,p,r,k,s]),(3,.agg #[a,q,z,v,l]),(4,.pointer (some ⟨qb,0,none⟩))]).run Tryz.prog w =
  .ok (.agg (.int .i64 id::c.vals [f,n,p,r,k,s,a,q,z,v,l,.pointer (some ⟨qb,0,none⟩),.int .i64 0,.int .i64 0,.int .i64 0,.int .i64 0,.int .i64 0,.int .i64 0,.int .i64 0,.int .i64 0,.int .i64 0,.int .i64 0,.int .i64 0,.int .i64 0,.int .i64 0,.int .i64 0]).toArray) w:=by kernel_rfl
def qCr(ty:TypeId)(ps:Array (Nat×Value)): Sem Next:=do pure (.value (<-Instr.build ty ps))
theorem qNe(ρ:Operand->Value)(dst:Option Tmp)(x:Array (Nat×Operand))(ty:TypeId)(pos:String)(after:Array Edge)(guard:Option (Nat×Bool)):
  execOp ρ { dst,op:=.build 105 x,type:=ty,pos,after,guard }=qCr 105 (x.map λ(i,y)=>(i,ρ y)):=rfl
theorem qTm(id:Int)(c:Cfg)(f n p r k s a q z v l:Value)(qb:Nat)(w:World):
  (qCr 105 #[(0,.int .i64 id),(1,.agg c.cells.toArray),(2,.agg #[f,n,p,r,k,s]),(3,.agg #[a,q,z,v,l]),(4,.pointer (some ⟨qb,0,none⟩))]).run Tryz.prog w =
  .ok (.value (.agg (.int .i64 id::c.vals [f,n,p,r,k,s,a,q,z,v,l,.pointer (some ⟨qb,0,none⟩),.int .i64 0,.int .i64 0,.int .i64 0,.int .i64 0,.int .i64 0,.int .i64 0,.int .i64 0,.int .i64 0,.int .i64 0,.int .i64 0,.int .i64 0,.int .i64 0,.int .i64 0,.int .i64 0]).toArray)) w:=by
 unfold qCr
 rw[Sem.run_bind]
 have:=zD4 id c f n p r k s a q z v l qb w
 unfold Cfg.val at this
 unfold Cfg.cells
 rw[this]
 rfl
attribute [local go_sem ↓] qNe
attribute [local go_sem] qTm
theorem qGz(id:Int)(c:Cfg)(k:Nat)(w:World)(h1:1<=k)(h5:k<=5)(hvv:qA7 c=true)(hkd:c.kind=k):
  Calls Tryz.prog 48 #[.int .i64 id,c.val,.agg (qBa k).toArray] w λe w'=>∃b,e=.returned (.pointer (some ⟨b.s,0,none⟩))/\SRep w' b (qBk id c k)/\(∀i,b.foot k i->w.heap.size<=i)/\Keeps (λ_=>False) w w':=by
 have hown:=qX7 k h1 h5
 have HKD:=hide hkd
 have HVV:=hide hvv
 clear hkd hvv
 have HB:=hide (show Blk ((w.alloc (.cells c.cells.toArray 32)).alloc (.cells (qBa k).toArray 83)) w.heap.size c.cells 32 from(Blk.new w c.cells 32).alloc _)
 have HT:=hide (show Blk ((w.alloc (.cells c.cells.toArray 32)).alloc (.cells (qBa k).toArray 83)) (w.heap.size+1) (qBa k) 83 from Blk.newAt (by simp) _ _)
 have HK:=hide (((Keeps.refl (λ_=>False) w).alloc (.cells c.cells.toArray 32)).alloc (.cells (qBa k).toArray 83))
 have hex:∃W,W=((w.alloc (.cells c.cells.toArray 32)).alloc (.cells (qBa k).toArray 83)):=⟨_,rfl⟩
 unfold Cfg.val qBa fn
 go_enter Tryz.func48,Tryz.ntmps48
 go_wp2_with fail
 obtain⟨W,hW⟩:=hex
 have e0:(w.alloc (.cells #[.int .i64 c.kind,.int .i64 c.lag,.int .i64 c.skew,.int .i64 c.cap,.int .i64 c.k,.int .i64 c.window,.int .i64 c.bits,.int .i64 c.rows,.int .i64 c.width,.int .i64 c.panes,.int .i64 c.size,.int .i64 c.degree,.int .i64 c.half,.int .i64 c.mark,.int .i64 c.s00,.int .i64 c.s01,.int .i64 c.s10,.int .i64 c.s11,.int .i64 c.s20,.int .i64 c.s21] 32)).alloc (.cells #[.func (.func (qBn k)) #[] #[],.func (.func (qA1 k)) #[] #[],.func (.func (qA0 k)) #[] #[],.func (.func (qAq k)) #[] #[],.func (.func (qAz k)) #[] #[],.func (.func (qA4 k)) #[] #[]] 83)=W:=hW.symm
 rw[e0]
 rw[<-hW]at HB HT HK
 clear e0 hW
 generalize hcb:w.heap.size=cb at *
 have HCB:=hide hcb
 clear hcb
 have hsz:cb+1<W.heap.size:=(uh HT).lt
 have hsz0:cb<W.heap.size:=(uh HB).lt
 obtain⟨hv,hh⟩:=qBm (uh HB) 20 rfl
 have t0:W.cell? ⟨cb+1,0,none⟩=some (.func (.func (qBn k)) #[] #[]):=(uh HT).cell rfl
 have t1:W.cell? ⟨cb+1,1,none⟩=some (.func (.func (qA1 k)) #[] #[]):=(uh HT).cell rfl
 have t2:W.cell? ⟨cb+1,2,none⟩=some (.func (.func (qA0 k)) #[] #[]):=(uh HT).cell rfl
 have t3:W.cell? ⟨cb+1,3,none⟩=some (.func (.func (qAq k)) #[] #[]):=(uh HT).cell rfl
 have t4:W.cell? ⟨cb+1,4,none⟩=some (.func (.func (qAz k)) #[] #[]):=(uh HT).cell rfl
 have t5:W.cell? ⟨cb+1,5,none⟩=some (.func (.func (qA4 k)) #[] #[]):=(uh HT).cell rfl
 go_region_held3 (λw'=>qAv w' cb 0 20=.agg c.cells.toArray/\qA3 w' cb 0 20=true/\w'.cell? ⟨cb+1,0,none⟩=some (.func (.func (qBn k)) #[] #[])/\w'.cell? ⟨cb+1,1,none⟩=some (.func (.func (qA1 k)) #[] #[])/\w'.cell? ⟨cb+1,2,none⟩=some (.func (.func (qA0 k)) #[] #[])/\w'.cell? ⟨cb+1,3,none⟩=some (.func (.func (qAq k)) #[] #[])/\w'.cell? ⟨cb+1,4,none⟩=some (.func (.func (qAz k)) #[] #[])/\w'.cell? ⟨cb+1,5,none⟩=some (.func (.func (qA4 k)) #[] #[]))
  (first | (simp[*,qAb,qAc,qAi,qAh,World.cell?_alloc_some];done) | (go_split_ands;exact⟨(qB0 hk2 (λh=>h) (by have:=hk1.size;simp at this;omega)).1.trans (by assumption),(qB0 hk2 (λh=>h) (by have:=hk1.size;simp at this;omega)).2.trans (by assumption),hk2.cell (by assumption) (λh=>h),hk2.cell (by assumption) (λh=>h),hk2.cell (by assumption) (λh=>h),hk2.cell (by assumption) (λh=>h),hk2.cell (by assumption) (λh=>h),hk2.cell (by assumption) (λh=>h)⟩) | (go_split_ands;exact⟨(qB0 hk1 (λh=>h) (by simpa using hsz0)).1.trans (by assumption),(qB0 hk1 (λh=>h) (by simpa using hsz0)).2.trans (by assumption),hk1.cell (by assumption) (λh=>h),hk1.cell (by assumption) (λh=>h),hk1.cell (by assumption) (λh=>h),hk1.cell (by assumption) (λh=>h),hk1.cell (by assumption) (λh=>h),hk1.cell (by assumption) (λh=>h)⟩))
  (first | (go_at_call 76;refine(new_any _).mono ?_;rintro e w2 ⟨rfl,hq2,hk2,hz2⟩) | (refine(qZn c k _ h1 h5 (uh HVV) (uh HKD)).mono ?_;rintro e w1 ⟨nb,rfl,hd1,hn1,hk1⟩))
 go_wp2
 go_ret
 have hkw:Keeps (λ_=>False) w w1:=((uh HK).drew).then hk1
 have hs1:=hkw.size
 have hka:∀O,Keeps (λ_=>False) w2 (w2.alloc O):=λO=>(Keeps.refl (λ_=>False) w2).alloc O
 have hcb:=uh HCB
 have hn2:=hn1.still hk2
 have hz2:w2.heap.size=w1.heap.size+1:=hz2
 refine⟨⟨w1.heap.size+1,w1.heap.size,none,nb⟩,rfl,⟨Blk.newAt hz2 (qB9 ⟨w1.heap.size+1,w1.heap.size,none,nb⟩ (qBk id c k)) 105,hq2.keeps (hka _) (λh=>h) (λ_ _ h=>h),hn2.still (hka _),?_,?_,λi hi=>⟨?_,?_,?_⟩⟩,?_,(hkw.then hk2).alloc _⟩
 ·show w1.heap.size+1≠w1.heap.size;omega
 ·intro g hg;cases hg
 ·have:=hn1.lt i hi;show i≠w1.heap.size+1;omega
 ·have:=hn1.lt i hi;show i≠w1.heap.size;omega
 ·intro hg;cases hg
 ·intro i hi
  rcases hi with hi | hi | hi | hi
  ·have:i=w1.heap.size+1:=hi
   omega
  ·have:i=w1.heap.size:=hi
   omega
  ·cases hi
  ·have h1:=hd1 i hi
   have h2:=(uh HK).size
   rw[World.size_drew]at h1
   omega
end
section
open Go.RowKit
attribute [local go_sem ↓] qAd qAe
attribute [local go_sem] qAg qAm qAb qAc qAn qAo qAi qAh qAf qAl
structure OpM where
 kind:Int
 id:Int
 a:Int
 b:Int
 c:Int
 cfg:Cfg
 bytes:ByteArray
def OpM.cells(o:OpM): List Value:=.int .i64 o.kind::.int .i64 o.id::.int .i64 o.a::.int .i64 o.b::.int .i64 o.c::o.cfg.vals [.string o.bytes]
def OpM.val(o:OpM): Value:=.agg o.cells.toArray
def qAa: ByteArray:=⟨#[]⟩
def qC1(code:Int)(v:Value): Value:=.agg #[.int .i64 code,v,.string qAa]
theorem qF4(code:Int)(w:World):
  Calls Tryz.prog 38 #[.int .i64 code] w λe w'=>e=.returned (qC1 code (.slice none 0 0))/\Keeps (λ_=>False) w w':=by
 go_enter Tryz.func38,Tryz.ntmps38
 go_wp2
 refine bodyPost_ret (v:=qC1 code (.slice none 0 0)) (by simp[results,Tryz.results38,go_sem,qC1];rfl) rfl ⟨rfl,?_⟩
 repeat (first | exact Keeps.refl _ _ | apply Keeps.alloc)
def ptrs(ps:List (SB×Ser)): List Value:=ps.map λp=>.pointer (some ⟨p.1.s,0,none⟩)
structure ERep (w:World) (e:Nat) (v:Value) (clock:Int) (ps:List (SB×Ser)):Prop where
 blk:Blk w e [.int .i64 clock,v] 60
 row:w.ownsRow 0 74 1 v ps.length (ptrs ps)
 reps:∀p,p∈ps->SRep w p.1 p.2
 apart:ps.Pairwise (λp q=>∀i,p.1.foot p.2.k i->¬q.1.foot q.2.k i)
 ev:v.ownBlock≠some e
 ef:∀p,p∈ps->∀i,p.1.foot p.2.k i->i≠e/\v.ownBlock≠some i
def EFoot(e:Nat)(v:Value)(ps:List (SB×Ser))(i:Nat): Prop:=i=e\/v.ownBlock=some i\/∃p,p∈ps/\p.1.foot p.2.k i
theorem qLs{w:World}{v:Value}{n:Nat}{xs:List Value}(h:w.ownsRow 0 74 1 v n xs): (n=0/\(v=.slice none 0 0\/∃g cap,v=.slice (some ⟨g,0,none⟩) 0 cap))\/∃g cap,v=.slice (some ⟨g,0,none⟩) n cap/\∀i u,xs[i]?=some u->w.cell? ⟨g,i,none⟩=some u:=by
 rcases h.2 with ⟨h1,h2⟩ | ⟨g,cap,cur,h1,_,h3,h4,h5,h6,h7⟩
 ·exact .inl ⟨h2,.inl h1⟩
 ·refine .inr ⟨g,cap,h1,λi u hu=>?_⟩
  have hi:i<n:=by have:=(List.getElem?_eq_some_iff.1 hu).1;have:=h.1;omega
  have:cur[i]?=some u:=by
   rw[<-h7]at hu
   rw[List.getElem?_take]at hu
   rw[if_pos (by omega)]at hu
   simpa using hu
  simp[World.cell?,h3,this]
def qEh(ps:List (SB×Ser))(id:Int): Option (SB×Ser):=ps.find? (λp=>p.2.id==id)
def qKe: Option (SB×Ser)->Value
 | some p=>.pointer (some ⟨p.1.s,0,none⟩)
 | none=>.pointer none
theorem qD4(e:Nat)(v:Value)(clock id:Int)(ps:List (SB×Ser))(w:World)(h:ERep w e v clock ps)(hl:ps.length<=1000):
  Calls Tryz.prog 46 #[.pointer (some ⟨e,0,none⟩),.int .i64 id] w λr w'=>r=.returned (qKe (qEh ps id))/\w'=w:=by
 have hc1:w.cell? ⟨e,1,none⟩=some v:=h.blk.cell rfl
 rcases qLs h.row with ⟨h0,hv⟩ | ⟨g,cap,hv,hcells⟩
 ·have hps:ps=[]:=List.length_eq_zero_iff.1 h0
  subst hps
  clear h h0
  rcases hv with hv | ⟨g,cap,hv⟩
  all_goals
   subst hv
   go_enter Tryz.func46,Tryz.ntmps46
   go_wp2
   go_loop [12] (λi=>i=.int .i64 0) (λ_=>0)
   case atStart=>rfl
   case round =>
    subst hrel
    go_wp2
    go_ret
    exact⟨rfl,rfl⟩
 ·subst hv
  have HC:=hide hcells
  have HS:=hide (show ∀p,p∈ps->w.cell? ⟨p.1.s,0,none⟩=some (.int .i64 p.2.id) from λp hp=>(h.reps p hp).blk.cell rfl)
  clear h hcells
  generalize hn:ps.length=n at *
  have HN:=hide hn
  clear hn
  go_enter Tryz.func46,Tryz.ntmps46
  go_wp2
  go_loop [12] (λi=>∃k:Nat,k<=n/\i=.int .i64 k/\Hid (qEh ps id=qEh (ps.drop k) id)) (λi=>n-(intOf i).toNat)
  case atStart=>exact⟨0,Nat.zero_le _,rfl,rfl⟩
  case round =>
   obtain⟨k,hk,rfl,HE⟩:=hrel
   by_cases hlt:k<n
   ·obtain⟨p,hp⟩:∃p,ps[k]?=some p:=⟨ps[k]'(by rw[uh HN];exact hlt),List.getElem?_eq_getElem _⟩
    have hd:ps.drop k=p::ps.drop (k+1):=by
     rw[List.drop_eq_getElem_cons (by rw[uh HN];exact hlt)]
     rw[List.getElem?_eq_getElem (by rw[uh HN];exact hlt)]at hp
     cases hp;rfl
    have hck:w.cell? ⟨g,k,none⟩=some (.pointer (some ⟨p.1.s,0,none⟩)):=uh HC k _ (by unfold ptrs;rw[List.getElem?_map,hp];rfl)
    have hid:=uh HS p (List.mem_of_getElem? hp)
    have hk0:(0:Int)<=(k:Int):=by omega
    have hkn:(k:Int)<(n:Int):=by omega
    cases hb:(p.2.id==id)
    ·have HE':=hide (show qEh ps id=qEh (ps.drop (k+1)) id by rw[uh HE,hd];unfold qEh;rw[List.find?_cons];rw[hb])
     clear hd hp
     go_wp2
     go_round
     case rel=>exact⟨k+1,by omega,by go_num,HE'⟩
     case measure=>simp[intOf];omega
    ·have HE':=hide (show qEh ps id=some p by rw[uh HE,hd];unfold qEh;rw[List.find?_cons];rw[hb])
     clear hd hp
     go_wp2
     go_ret
     exact⟨by rw[uh HE'];rfl,rfl⟩
   ·have HE':=hide (show qEh ps id=none by rw[uh HE,List.drop_eq_nil_of_le (by rw[uh HN];omega)];rfl)
    go_wp2
    go_ret
    exact⟨by rw[uh HE'];rfl,rfl⟩
end
end Go.Proofs.YtahnliehdjncdabGreatDoor
