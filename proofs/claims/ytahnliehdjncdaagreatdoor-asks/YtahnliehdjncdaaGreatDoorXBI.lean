import Derived.Test.YtahnliehdjncdaaGreatDoorXBH
import Derived.Test.YtahnliehdjncdaaGreatDoorXAZ
import Derived.Test.YtahnliehdjncdaaGreatDoorXBB
set_option maxRecDepth 100000
set_option maxHeartbeats 16000000
namespace Go.Proofs.YtahnliehdjncdaaGreatDoor
section
open Go.RowKit
theorem qO8(c:Cfg)(evs:List REv)(e:REv): qAq c (evs++[e])=qNz c (qAq c evs) e:=by
 unfold qAq;rw[List.foldl_append];rfl
theorem qN5(c:Cfg)(evs:List REv)(i:Nat)(e:REv)(h:evs[i]?=some e): qAq c (evs.take (i+1))=qNz c (qAq c (evs.take i)) e:=by
 obtain⟨hi,he⟩:=List.getElem?_eq_some_iff.1 h
 rw[List.take_succ_eq_append_getElem hi,qO8,he]
structure CfgC (c:Cfg):Prop where
 k1:1<=c.k
 k10:c.k<=10
 w1:1<=c.window
 w2:c.window<=1000
structure GoodB (n:Int) (l:List Bk):Prop where
 pb:PB l
 one:∀b∈l,1<=b.sz
 sum:qD3 l<=n
theorem qXt{c:Cfg}(hc:CfgC c){n:Int}{l:List Bk}(h:GoodB n l)(t m:Int): GoodB (n+1) (qNv c l t m):=by
 have h0:=hc.k1
 have hp:∀b∈qLy c l t m,1<=b.sz:=λb hb=>by
  unfold qLy at hb
  rcases List.mem_append.1 hb with hb | hb
  ·exact h.one b (List.mem_of_mem_drop hb)
  ·rw[List.mem_singleton]at hb;rw[hb];exact Int.le_refl _
 have hj:=qQh (K:=c.k) (by omega) ((qLy c l t m).length+1) (qLy c l t m) 1 _ hp (Nat.le_refl _) (by omega)
 refine⟨zDc (by omega) h.pb t m,hj.1,?_⟩
 unfold qNv
 rw[hj.2]
 have h1:=qFf l (pastN l (m-c.window))
 have h2:=qC8 (l:=l.take (pastN l (m-c.window))) (λb hb=>h.one b (List.mem_of_mem_take hb))
 have h3:=h.sum
 unfold qLy
 rw[qEq]
 unfold qK3
 simp only[qD3]
 omega
theorem qK8{n:Int}{l:List Bk}(h:GoodB n l)(j:Nat): GoodB n (l.drop j):=by
 refine⟨h.pb.drop j,λb hb=>h.one b (List.mem_of_mem_drop hb),?_⟩
 have h1:=qFf l j
 have h2:=qC8 (l:=l.take j) (λb hb=>h.one b (List.mem_of_mem_take hb))
 have h3:=h.sum
 omega
theorem GoodB.mono{n m:Int}{l:List Bk}(h:GoodB n l)(hm:n<=m): GoodB m l:=⟨h.pb,h.one,by have:=h.sum;omega⟩
theorem qU7{c:Cfg}(hc:CfgC c){n:Int}{l:List Bk}(h:GoodB n l)(e:REv): GoodB (n+1) (qNz c l e):=by
 unfold qNz
 split
 ·exact(qK8 h _).mono (by omega)
 ·exact qXt hc h _ _
theorem qZk: GoodB 0 []:=⟨⟨λi j _ hj=>by simp at hj,λi hi=>by simp at hi⟩,by simp,by simp[qD3]⟩
theorem qE6{c:Cfg}(hc:CfgC c)(evs:List REv): GoodB evs.length (qAq c evs):=by
 suffices h:∀(n:Int) (l:List Bk),GoodB n l->GoodB (n+evs.length) (evs.foldl (qNz c) l) by
  have:=h 0 [] qZk
  unfold qAq
  simpa using this
 induction evs with
 | nil=>intro n l h;simpa using h
 | cons e evs ih =>
  intro n l h
  have:=ih (n+1) (qNz c l e) (qU7 hc h e)
  rw[List.foldl_cons]
  refine this.mono ?_
  simp only[List.length_cons];omega
theorem qX1(l:List REv)(i j:Nat)(x:REv)(h:l[i]?=some x)(hj:j<4): (qF2 l)[i*4+j]?=x.cells[j]?:=by
 induction l generalizing i with
 | nil=>simp at h
 | cons a l ih =>
  have hc:qF2 (a::l)=a.cells++qF2 l:=by simp[qF2]
  have hl:a.cells.length=4:=rfl
  rw[hc]
  cases i with
  | zero =>
   have:a=x:=by simpa using h
   subst this
   rw[List.getElem?_append_left (by omega)]
   simp
  | succ i =>
   rw[List.getElem?_append_right (by omega)]
   have:=ih i (by simpa using h)
   rw[<-this]
   congr 1
   omega
theorem qZi{w:World}{v:Value}{l:List REv}(h:w.ownsRow 0 159 4 v l.length (qF2 l))(i:Nat)(z:REv)(hz:l[i]?=some z):
  ∃g cap,v=.slice (some ⟨g,0,none⟩) l.length cap/\w.cell? ⟨g,i*4,none⟩=some (.int .i64 z.t)/\w.cell? ⟨g,i*4+1,none⟩=some (.int .i64 z.m)/\w.cell? ⟨g,i*4+2,none⟩=some (.bool z.away)/\w.cell? ⟨g,i*4+3,none⟩=some (.int .i64 z.throw):=by
 have hi:i<l.length:=(List.getElem?_eq_some_iff.1 hz).1
 rcases h.2 with ⟨h1,h2⟩ | ⟨g,cap,cur,h1,h2,h3,h4,h5,h6,h7⟩
 ·omega
 ·have hc:∀j u,j<4->z.cells[j]?=some u->w.cell? ⟨g,i*4+j,none⟩=some u:=by
   intro j u hj hu
   have hf:=qX1 l i j z hz hj
   rw[hu,<-h7,List.getElem?_take,if_pos (by omega)]at hf
   have:cur[i*4+j]?=some u:=by simpa using hf
   simp[World.cell?,h3,this]
  exact⟨g,cap,h1,hc 0 _ (by omega) rfl,hc 1 _ (by omega) rfl,hc 2 _ (by omega) rfl,hc 3 _ (by omega) rfl⟩
theorem qY8(q:List Bk)(k:Nat): q.reverse.take (q.length-k)=(q.drop k).reverse:=by
 rw[List.take_reverse]
 by_cases h:k<=q.length
 ·rw[show q.length-(q.length-k)=k by omega]
 ·rw[List.drop_eq_nil_of_le (by omega:q.length<=q.length-(q.length-k)),List.drop_eq_nil_of_le (by omega)]
theorem zBf{w:World}{a:Option Addr}{n cap k:Nat}{q:List Bk}(h:BW w (.slice a n cap) q.reverse)(hn:q.length=n): BW w (.slice a (n-k) cap) (q.drop k).reverse:=by
 rw[<-qY8 q k,hn]
 rcases Nat.eq_zero_or_pos n with h0 | h0
 ·have:q=[]:=List.length_eq_zero_iff.1 (by omega)
  subst this
  rw[h0]
  exact .inl ⟨⟨a,cap,by simp⟩,by simp⟩
 ·obtain⟨g,off,rfl,_,_⟩:=qLt h h0
  exact qXz (by rw[List.length_reverse];exact hn) h (by omega)
theorem qJx(b:RB)(y:RSer)(w:World)(h:RRep w b y)(hc:CfgC y.c)(ho:OkE y.c y.events)(hl:y.events.length<=4398046511103):
  Calls Tryz.prog 104 #[.pointer (some ⟨b.s,0,none⟩)] w λe w'=>∃v',e=.returned v'/\BW w' v' (qAq y.c y.events).reverse/\Keeps (λ_=>False) w w':=by
 have HR:=hide h
 have HC:=hide hc
 have HO:=hide ho
 obtain⟨ea,ec,hev⟩:=qC4 h.evs
 have HEV:=hide hev
 generalize hn:y.events.length=n at *
 have HN:=hide hn
 clear h hc ho hev hn
 go_enter Tryz.func104,Tryz.ntmps104
 go_wp2_with fail
 go_loopg [3,4,5] (n) (λg a i _ wr=>∃(k:Nat) (la:Option Addr) (ln lc:Nat),a=.slice la ln lc/\i=.int .i64 k/\k<=n/\n-k=g/\ln<=4398046511104/\Hid ((qAq y.c (y.events.take k)).length=ln)/\Hid (BW wr (.slice la ln lc) (qAq y.c (y.events.take k)).reverse)/\Hid (Keeps (λ_=>False) w wr))
 case atStart=>exact⟨0,none,0,0,rfl,rfl,by omega,rfl,by omega,by show _=_;simp[qAq],.inl ⟨⟨_,_,rfl⟩,by simp[qAq]⟩,Keeps.refl _ _⟩
 case round =>
  obtain⟨k,la,ln,lc,rfl,rfl,hk,hg,hln,HLN,HBW,HK⟩:=hrel
  have HG:=hide hg
  clear hg
  have HR1:=hide ((uh HR).still (uh HK))
  have s22:wr.cell? ⟨b.s,22,none⟩=some (.slice ea n ec):=by rw[<-uh HEV];exact(uh HR1).blk.cell rfl
  by_cases hkn:k<n
  ·obtain⟨z,hz⟩:∃z,y.events[k]?=some z:=⟨y.events[k]'(by rw[uh HN];exact hkn),List.getElem?_eq_getElem _⟩
   obtain⟨ge,cap,e1,c0,c1,c2,c3⟩:=qZi (uh HR1).evs k z hz
   rw[uh HEV,uh HN]at e1
   injection e1 with e1 _ _
   subst e1
   have HBT:=hide (qN5 y.c y.events k z hz)
   have HTH:=hide ((uh HO).thr k z hz)
   have HMK:=hide ((uh HO).mark z (List.mem_of_getElem? hz))
   have HGD:=hide (qE6 (uh HC) (y.events.take k))
   have hk0:(0:Int)<=(k:Int):=by omega
   have hk1:(k:Int)<(n:Int):=by omega
   have hlt:=(uh HR1).blk.lt
   clear hz
   cases haw:z.away with
   | true =>
    obtain⟨th,hth⟩:∃th:Nat,z.throw=(th:Int):=⟨z.throw.toNat,by have:=uh HTH haw;omega⟩
    have hthl:th<=ln:=by have:=(uh HTH haw).2;rw[uh HLN,hth]at this;omega
    rw[haw]at c2
    rw[hth]at c3
    have HTT:=hide hth
    have HAW:=hide haw
    clear hth haw
    obtain⟨l2,hl2⟩:∃l2,l2=ln-th:=⟨_,rfl⟩
    have q1:(ln:Int)-(th:Int)=(l2:Int):=by omega
    have HL2:=hide hl2
    have hlc:l2<=lc:=by
     rcases uh HBW with ⟨⟨a',c',h1⟩,h2⟩ | ⟨g',off',cap',h1,h2,_⟩
     ·injection h1 with _ h3 _;omega
     ·injection h1 with _ h3 h4
      omega
    clear hl2
    have HST:=hide (show qAq y.c (y.events.take (k+1))=(qAq y.c (y.events.take k)).drop th by
       rw[uh HBT];unfold qNz;rw[if_pos (uh HAW),uh HTT,Int.toNat_natCast])
    go_wp2
    go_roundg (n-(k+1))
    case measure=>have:=uh HG;omega
    case rel =>
     refine⟨k+1,la,l2,lc,rfl,by go_num,by omega,rfl,by omega,?_,?_,(uh HK).alloc _⟩
     ·show _=_
      rw[uh HST,List.length_drop,uh HLN,uh HL2]
     ·show BW _ _ _
      rw[uh HST,uh HL2]
      exact zBf ((uh HBW).keeps ((Keeps.refl (λ_=>False) wr).alloc _)) (uh HLN)
   | false =>
    rw[haw]at c2
    have HAW:=hide haw
    clear haw
    have s6:wr.cell? ⟨b.s,6,none⟩=some (.int .i64 y.c.window):=(uh HR1).blk.cell rfl
    have s5:wr.cell? ⟨b.s,5,none⟩=some (.int .i64 y.c.k):=(uh HR1).blk.cell rfl
    obtain⟨m0,m1⟩:=uh HMK
    have w1:=(uh HC).w1
    have w2:=(uh HC).w2
    have k1:=(uh HC).k1
    have k10:=(uh HC).k10
    have hwr:IntKind.i64.wrap (z.m-y.c.window)=z.m-y.c.window:=by rw[IntKind.wrap_i64];omega
    have hwk:IntKind.i64.wrap (y.c.k+1)=y.c.k+1:=by rw[IntKind.wrap_i64];omega
    have HST:=hide (show qAq y.c (y.events.take (k+1))=qNv y.c (qAq y.c (y.events.take k)) z.t z.m by
       rw[uh HBT];unfold qNz;rw[if_neg (by rw[uh HAW];simp)])
    have hpl:=pastN_le (qAq y.c (y.events.take k)) (z.m-y.c.window)
    rw[uh HLN]at hpl
    obtain⟨p,hp⟩:∃p,p=pastN (qAq y.c (y.events.take k)) (z.m-y.c.window):=⟨_,rfl⟩
    rw[<-hp]at hpl
    obtain⟨l2,hl2⟩:∃l2,l2=ln-p:=⟨_,rfl⟩
    have q1:(ln:Int)-(p:Int)=(l2:Int):=by omega
    have hlc:l2<=lc:=by
     rcases uh HBW with ⟨⟨a',c',h1⟩,h2⟩ | ⟨g',off',cap',h1,h2,_⟩
     ·injection h1 with _ h3 _;omega
     ·injection h1 with _ h3 h4
      omega
    have hwl:IntKind.i64.wrap (l2:Int)=(l2:Int):=by rw[IntKind.wrap_i64];omega
    have hwl2:IntKind.i64.wrap ((ln:Int)-(p:Int))=(l2:Int):=by rw[IntKind.wrap_i64];omega
    have hlci:(l2:Int)<=(lc:Int):=by omega
    have HP:=hide hp
    have HL2:=hide hl2
    have HX:=hide (Blk.new wr [.int .i64 z.t,.int .i64 z.m,.bool false,.int .i64 z.throw] 159)
    have hkA:Keeps (λ_=>False) wr (wr.alloc (.cells #[.int .i64 z.t,.int .i64 z.m,.bool false,.int .i64 z.throw] 159)):=(Keeps.refl (λ_=>False) wr).alloc _
    have HKA:=hide hkA
    clear hp hl2 hkA
    go_wp2_with fail
    have e0:(wr.alloc (.cells [Value.int .i64 z.t,.int .i64 z.m,.bool false,.int .i64 z.throw].toArray 159))=(wr.alloc (.cells #[.int .i64 z.t,.int .i64 z.m,.bool false,.int .i64 z.throw] 159)):=rfl
    rw[e0]at HX
    clear e0
    have HBA:=hide ((uh HBW).keeps (uh HKA))
    have HKW:=hide ((uh HK).then (uh HKA))
    have t6:=(uh HKA).cell s6 (λh=>h)
    have t5:=(uh HKA).cell s5 (λh=>h)
    generalize wr.alloc (.cells #[.int .i64 z.t,.int .i64 z.m,.bool false,.int .i64 z.throw] 159)=W at *
    generalize wr.heap.size=bx at *
    have x0:W.cell? ⟨bx,0,none⟩=some (.int .i64 z.t):=(uh HX).cell rfl
    have x1:W.cell? ⟨bx,1,none⟩=some (.int .i64 z.m):=(uh HX).cell rfl
    clear s6 s5 c0 c1 c2 c3 s22 hlt
    have HLE:=hide (show(qAq y.c (y.events.take k)).length<=4398046511104 by rw[uh HLN];exact hln)
    go_region_with (go_at_call 114;refine(qP1 _ (qAq y.c (y.events.take k)) (z.m-y.c.window) _ (by exact(uh HBA).keeps (Keeps.refl _ _).drew) (uh HLE)).mono ?_;rintro e1 W1 ⟨rfl,rfl⟩;rw[<-uh HP])
    all_goals
     have HCUT:=hide (show BW W.drew (.slice la l2 lc) ((qAq y.c (y.events.take k)).drop p).reverse by rw[uh HL2];exact zBf ((uh HBA).keeps (Keeps.refl (λ_=>False) W).drew) (uh HLN))
     have HKD:=hide ((uh HKW).drew)
     have d0:W.drew.cell? ⟨bx,0,none⟩=some (.int .i64 z.t):=x0
     have d5:W.drew.cell? ⟨b.s,5,none⟩=some (.int .i64 y.c.k):=t5
     have HGK:=hide (qK8 (uh HGD) p)
     have HSUM:=hide (show qD3 ((qAq y.c (y.events.take k)).drop p)+1<=4398046511104 by
        have h1:=(uh HGK).sum
        rw[List.length_take,uh HN]at h1
        omega)
     generalize W.drew=V at *
     go_wp2_with fail
     go_region_with (go_at_call 153;refine(qY7 _ ((qAq y.c (y.events.take k)).drop p) z.t y.c.k _ (by exact(uh HCUT).keeps (Keeps.refl _ _).drew) (uh HGK).pb ⟨(uh HGK).one,by have:=uh HSUM;omega⟩ (uh HSUM) k1 k10).mono ?_;rintro e2 V2 ⟨v2,rfl,hob2,hk2⟩)
     all_goals
      obtain⟨a2,c2,hv2⟩:=qC4 hob2
      have HOB2:=hide hob2
      have HK2:=hide (((uh HKD).drew).then hk2)
      clear hob2 hk2
      generalize hl3:((joinL y.c.k (((qAq y.c (y.events.take k)).drop p++[(⟨1,z.t⟩:Bk)]).length+1) ((qAq y.c (y.events.take k)).drop p++[(⟨1,z.t⟩:Bk)]) 1 ((qAq y.c (y.events.take k)).drop p++[(⟨1,z.t⟩:Bk)]).length).reverse)=R at *
      have HR3:=hide (show R=(qAq y.c (y.events.take (k+1))).reverse by
         rw[<-hl3,uh HST]
         unfold qNv qLy qK3
         rw[<-uh HP])
      clear hl3
      generalize hln3:R.length=l3 at *
      have HL3:=hide hln3
      clear hln3
      subst hv2
      go_wp2
      go_roundg (n-(k+1))
      case measure=>have:=uh HG;omega
      case rel =>
       have hgd:=qE6 (uh HC) (y.events.take (k+1))
       have hl4:(qAq y.c (y.events.take (k+1))).length=l3:=by rw[<-uh HL3,uh HR3,List.length_reverse]
       refine⟨k+1,a2,l3,c2,rfl,by go_num,by omega,rfl,?_,hl4,?_,HK2⟩
       ·have h1:=qEu hgd.one
        have h2:=hgd.sum
        rw[List.length_take,uh HN]at h2
        omega
       ·show BW _ _ _
        rw[<-uh HR3]
        have h5:=uh HOB2
        rw[<-uh HL3]at h5 ⊢
        exact OB.bw h5
  ·go_wp2
   go_ret
   refine⟨_,rfl,?_,uh HK⟩
   have:=uh HBW
   rw[List.take_of_length_le (by rw[uh HN];omega)]at this
   exact this
def qTq(l:List Bk)(t:Int): Nat->Int
 | 0=>0
 | i+1=>qTq l t i+(if t<(qBn l i).t then(qBn l i).sz else 0)
def qIf(l:List Bk)(t:Int): Nat->Int
 | 0=>0
 | i+1=>if t<(qBn l i).t then(qBn l i).sz/2 else qIf l t i
theorem qZy(q:List Bk)(t:Int)(i:Nat)(h:i<pastN q t): (qBn q i).t<=t:=by
 induction q generalizing i with
 | nil=>simp[pastN]at h
 | cons b q ih =>
  unfold pastN at h
  rw[List.takeWhile_cons]at h
  split at h
  ·rename_i hb
   cases i with
   | zero=>simpa[qBn] using hb
   | succ i=>exact ih i (by unfold pastN;simpa using h)
  ·simp at h
theorem zAm(q:List Bk)(t:Int)(h:pastN q t<q.length): t<(qBn q (pastN q t)).t:=by
 induction q with
 | nil=>simp at h
 | cons b q ih =>
  by_cases hb:b.t<=t
  ·have e1:pastN (b::q) t=pastN q t+1:=by unfold pastN;rw[List.takeWhile_cons,if_pos (by simpa using hb)];rfl
   rw[e1]at h ⊢
   exact ih (by simpa using h)
  ·have e1:pastN (b::q) t=0:=by unfold pastN;rw[List.takeWhile_cons,if_neg (by simpa using hb)];rfl
   rw[e1]
   show t<b.t
   omega
theorem zC1(q:List Bk)(t:Int)(h:TS q): qTq q.reverse t q.length-qIf q.reverse t q.length=qV1 q t:=by
 have hp:=pastN_le q t
 have hin:=qZy q t
 have hat:=zAm q t
 have key:∀i,i<=q.length->qTq q.reverse t i=qD3 (q.drop (q.length-min i (q.length-pastN q t)))/\qIf q.reverse t i=(if min i (q.length-pastN q t)=0 then 0 else(qBn q (q.length-min i (q.length-pastN q t))).sz/2):=by
  intro i
  induction i with
  | zero=>intro _;simp[qTq,qIf,qD3]
  | succ i ih =>
   intro hi
   obtain⟨i1,i2⟩:=ih (by omega)
   have hr:=qDl q i (by omega)
   have hcase:(t<(qBn q.reverse i).t)↔i<q.length-pastN q t:=by
    rw[hr]
    constructor
    ·intro hz
     rcases Nat.lt_or_ge i (q.length-pastN q t) with h1 | h1
     ·exact h1
     ·have:=hin (q.length-1-i) (by omega);omega
    ·intro h1
     have h2:=hat (by omega)
     have h3:=h (pastN q t) (q.length-1-i) (by omega) (by omega)
     omega
   unfold qTq qIf
   rw[i1,i2]
   by_cases hc:t<(qBn q.reverse i).t
   ·have hc':=hcase.1 hc
    rw[if_pos hc,if_pos hc]
    have e1:min (i+1) (q.length-pastN q t)=i+1:=by omega
    have e2:min i (q.length-pastN q t)=i:=by omega
    rw[e1,e2,if_neg (by omega),hr]
    have e3:q.length-1-i=q.length-(i+1):=by omega
    rw[e3]
    refine⟨?_,rfl⟩
    rw[qEw q (q.length-(i+1)) (by omega),show q.length-(i+1)+1=q.length-i by omega]
    simp only[qD3];omega
   ·have hc':¬i<q.length-pastN q t:=λh=>hc (hcase.2 h)
    rw[if_neg hc,if_neg hc]
    have e1:min (i+1) (q.length-pastN q t)=min i (q.length-pastN q t):=by omega
    rw[e1]
    exact⟨by omega,rfl⟩
 obtain⟨k1,k2⟩:=key q.length (Nat.le_refl _)
 rw[k1,k2]
 unfold qV1
 have e1:min q.length (q.length-pastN q t)=q.length-pastN q t:=by omega
 have e2:q.length-(q.length-pastN q t)=pastN q t:=by omega
 rw[e1,e2]
 by_cases he:pastN q t=q.length
 ·rw[if_pos he,if_pos (by omega)]
 ·rw[if_neg he,if_neg (by omega)]
theorem zB2(q:List Bk)(t:Int)(h:∀b∈q,1<=b.sz): ∀i,i<=q.length->0<=qTq q.reverse t i/\qTq q.reverse t i<=qD3 (q.drop (q.length-i)):=by
 intro i
 induction i with
 | zero=>intro _;simp[qTq,qD3]
 | succ i ih =>
  intro hi
  obtain⟨i1,i2⟩:=ih (by omega)
  have hr:=qDl q i (by omega)
  have h1:=h _ (qE9 (l:=q) (i:=q.length-1-i) (by omega))
  have hd:=qEw q (q.length-(i+1)) (by omega)
  rw[show q.length-(i+1)+1=q.length-i by omega]at hd
  unfold qTq
  rw[hr,hd,show q.length-(i+1)=q.length-1-i by omega]
  simp only[qD3]
  split <;> omega
theorem qY5(q:List Bk)(t:Int)(h:∀b∈q,1<=b.sz): ∀i,i<=q.length->0<=qIf q.reverse t i/\qIf q.reverse t i<=qD3 q:=by
 intro i
 induction i with
 | zero=>intro _;exact⟨by simp[qIf],by simp only[qIf];exact qC8 h⟩
 | succ i ih =>
  intro hi
  obtain⟨i1,i2⟩:=ih (by omega)
  have hr:=qDl q i (by omega)
  have hm:=qE9 (l:=q) (i:=q.length-1-i) (by omega)
  have h1:=h _ hm
  have h2:=qHt h hm
  unfold qIf
  rw[hr]
  split <;> omega
theorem qOh(b:RB)(y:RSer)(a m:Int)(w:World)(h:RRep w b y)(hc:CfgC y.c)(ho:OkE y.c y.events)(hts:TS (qAq y.c y.events))(hl:y.events.length<=4398046511103)(a1:1<=a)(a2:a<=1000)(m0:-100<=m)(m1:m<=4611686018427387904):
  Calls Tryz.prog 78 #[.pointer (some ⟨b.s,0,none⟩),.int .i64 a,.int .i64 m] w λe w'=>∃g,e=.returned (.slice (some ⟨g,0,none⟩) 1 1)/\w.heap.size<=g/\Blk w' g [.int .i64 (qV1 (qAq y.c y.events) (m-a))] 3/\Keeps (λ_=>False) w w':=by
 have hgd:=qE6 hc y.events
 have HC:=hide (qJx b y w h hc ho hl)
 have HES:=hide (zC1 _ (m-a) hts)
 have hlen:=qEu hgd.one
 have hsum:=hgd.sum
 have HSB:=hide (zB2 _ (m-a) hgd.one)
 have HHB:=hide (qY5 _ (m-a) hgd.one)
 have HDR:=hide (λi=>(qK8 hgd i).sum)
 have HONE:=hide (show ∀i,i<(qAq y.c y.events).length->1<=(qBn (qAq y.c y.events).reverse i).sz/\(qBn (qAq y.c y.events).reverse i).sz<=4398046511104 from λi hi=>by
    rw[qDl _ _ hi]
    have hm:=qE9 (l:=qAq y.c y.events) (i:=(qAq y.c y.events).length-1-i) (by omega)
    have h1:=hgd.one _ hm
    have h2:=qHt hgd.one hm
    omega)
 generalize qAq y.c y.events=q at *
 generalize hn:q.length=n at *
 have HN:=hide hn
 have hn1:n<=4398046511104:=by omega
 have hsq:qD3 q<=4398046511104:=by omega
 clear h hc ho hts hgd hn
 go_enter Tryz.func78,Tryz.ntmps78
 go_wp2_with fail
 refine(uh HC).mono ?_
 rintro e w1 ⟨v,rfl,hbw,hk⟩
 obtain⟨la,lc,hv⟩:=qWq hbw
 rw[List.length_reverse,uh HN]at hv
 subst hv
 have HBW:=hide hbw
 have HK:=hide hk
 have hwm:IntKind.i64.wrap (m-a)=m-a:=by rw[IntKind.wrap_i64];omega
 clear hbw hk HC
 go_wp2_with fail
 go_loop [8,9,10] (λs hf i=>∃j:Nat,i=.int .i64 j/\j<=n/\s=.int .i64 (qTq q.reverse (m-a) j)/\hf=.int .i64 (qIf q.reverse (m-a) j)) (λ_ _ i=>n-(intOf i).toNat)
 case atStart=>exact⟨0,rfl,Nat.zero_le _,rfl,rfl⟩
 case round =>
  obtain⟨j,rfl,hj,rfl,rfl⟩:=hrel
  by_cases hjn:j<n
  ·obtain⟨g,off,rfl,_,hcap,hmx,_⟩:=qLt (uh HBW) (by omega)
   have hcs:=qKl (by rw[List.length_reverse];exact uh HN) (uh HBW) j hjn
   obtain⟨x0,x1⟩:=hcs
   have hb1:=uh HSB (j+1) (by omega)
   have hb2:=uh HSB j (by omega)
   have hb3:=uh HDR (n-(j+1))
   have hb4:=uh HDR (n-j)
   have HS:=hide (show qTq q.reverse (m-a) (j+1)=qTq q.reverse (m-a) j+(if m-a<(qBn q.reverse j).t then(qBn q.reverse j).sz else 0) from rfl)
   have HH:=hide (show qIf q.reverse (m-a) (j+1)=if m-a<(qBn q.reverse j).t then(qBn q.reverse j).sz/2 else qIf q.reverse (m-a) j from rfl)
   obtain⟨z1,z2⟩:=uh HONE j hjn
   have hj0:(0:Int)<=(j:Int):=by omega
   have hj1:(j:Int)<(n:Int):=by omega
   generalize hsj:qTq q.reverse (m-a) j=sj at *
   generalize hhj:qIf q.reverse (m-a) j=hj' at *
   generalize qBn q.reverse j=x at *
   clear hsj hhj hcap hmx
   by_cases ht:m-a<x.t
   ·have hs1:sj+x.sz<=4398046511104/\0<=sj+x.sz:=by
     have h1:=uh HS
     rw[if_pos ht]at h1
     omega
    obtain⟨hs2,hs3⟩:=hs1
    have hws:IntKind.i64.wrap (sj+x.sz)=sj+x.sz:=by rw[IntKind.wrap_i64];omega
    have HT:=hide ht
    clear hb1 hb2 hb3 hb4
    go_wp2
    go_round
    case rel=>exact⟨j+1,by go_num,by omega,by rw[uh HS,if_pos (uh HT)],by rw[uh HH,if_pos (uh HT)]⟩
    case measure=>simp[intOf];omega
   ·have HT:=hide ht
    clear hb1 hb2 hb3 hb4
    go_wp2
    go_round
    case rel=>exact⟨j+1,by go_num,by omega,by rw[uh HS,if_neg (by have:=uh HT;omega),Int.add_zero],by rw[uh HH,if_neg (by have:=uh HT;omega)]⟩
    case measure=>simp[intOf];omega
  ·have hjn':j=n:=by omega
   subst hjn'
   have hb1:=uh HSB j (Nat.le_refl _)
   have hb2:=uh HHB j (Nat.le_refl _)
   have hb3:=uh HDR (j-j)
   have HE:=hide (uh HES)
   generalize qTq q.reverse (m-a) j=sj at *
   generalize qIf q.reverse (m-a) j=hj' at *
   have hw1:IntKind.i64.wrap (sj-hj')=sj-hj':=by rw[IntKind.wrap_i64];omega
   clear hb1 hb2 hb3
   go_wp2
   go_ret
   refine⟨w1.heap.size,rfl,(uh HK).size,?_,(uh HK).alloc _⟩
   rw[<-uh HE]
   exact Blk.new w1 [_] 3
end
section
theorem qYz{a b:List Int}(h:a.Perm b)(ha:a.Pairwise (·<=·))(hb:b.Pairwise (·<=·)): a=b:=by
 induction a generalizing b with
 | nil=>exact(List.nil_perm.1 h).symm
 | cons x a ih =>
  cases b with
  | nil=>exact absurd h.length_eq (by simp)
  | cons y b =>
   have hx:=List.pairwise_cons.1 ha
   have hy:=List.pairwise_cons.1 hb
   have h1:x<=y:=by
    have:y∈x::a:=h.mem_iff.2 (by simp)
    rcases List.mem_cons.1 this with e | e
    ·omega
    ·exact hx.1 y e
   have h2:y<=x:=by
    have:x∈y::b:=h.mem_iff.1 (by simp)
    rcases List.mem_cons.1 this with e | e
    ·omega
    ·exact hy.1 x e
   obtain rfl:x=y:=by omega
   rw[ih ((List.perm_cons x).1 h) hx.2 hy.2]
def qFa: Nat->Ser->Int->List Int
 | 0,_,_=>[]
 | f+1,x,m=>if x.l.isEmpty then[] else if m<(itAt x.l 0).t then[] else(itAt x.l 0).t::qFa f (qDa x m) m
theorem qIt(m:Int)(f:Nat): ∀x:Ser,x.l.length<f->HeapL x.l ->
  (x.l.map (·.t)).Perm (qFa f x m++(qFh f x m).l.map (·.t))/\(∀t,t∈qFa f x m->t<=m)/\(∀t,t∈(qFh f x m).l.map (·.t)->m<t)/\(qFa f x m).Pairwise (·<=·) /\
   (x.k=1->(qFh f x m).nt.bs=(qFa f x m).foldl (λl t=>qNv x.c l t m) x.nt.bs):=by
 induction f with
 | zero=>intro x h;omega
 | succ f ih =>
  intro x hf hh
  unfold qFh qFa
  split
  ·rename_i he
   have hnil:x.l=[]:=List.isEmpty_iff.1 he
   exact⟨List.Perm.refl _,by simp,by simp[hnil],List.Pairwise.nil,λ_=>rfl⟩
  ·rename_i he
   have hne:x.l≠[]:=λh=>he (by rw[h];rfl)
   split
   ·rename_i hm
    refine⟨List.Perm.refl _,by simp,?_,List.Pairwise.nil,λ_=>rfl⟩
    intro t ht
    obtain⟨y,hy,rfl⟩:=List.mem_map.1 ht
    have:=hh.first_mem hy
    omega
   ·rename_i hm
    obtain⟨th,tp⟩:=take_heap x.l hh hne
    have hlen:(qDa x m).l.length=x.l.length-1:=takeL_length _
    have hpos:0<x.l.length:=List.length_pos_iff.2 hne
    obtain⟨h1,h2,h3,h4,h5⟩:=ih (qDa x m) (by omega) th
    have hperm:(x.l.map (·.t)).Perm ((itAt x.l 0).t::(qDa x m).l.map (·.t)):=by
     have:=(tp.map (·.t)).symm
     rw[List.map_cons]at this
     exact this
    refine⟨?_,?_,h3,?_,?_⟩
    ·refine hperm.trans ?_
     rw[List.cons_append]
     exact List.Perm.cons _ h1
    ·intro t ht
     rcases List.mem_cons.1 ht with ht | ht
     ·omega
     ·exact h2 t ht
    ·refine List.pairwise_cons.2 ⟨λt ht=>?_,h4⟩
     have h6:t∈(qDa x m).l.map (·.t):=h1.mem_iff.2 (List.mem_append.2 (.inl ht))
     have h7:t∈x.l.map (·.t):=hperm.mem_iff.2 (List.mem_cons.2 (.inr h6))
     obtain⟨y,hy,rfl⟩:=List.mem_map.1 h7
     exact hh.first_mem hy
    ·intro hk
     rw[h5 hk,List.foldl_cons]
     congr 1
     show(qRb x.k x.c x.nt (itAt x.l 0) m).bs=_
     unfold qRb
     rw[if_neg (by omega),if_pos hk]
theorem qXk(all:List RIt)(mark:Int)(l:List RIt): ∀(i:Nat) (k:Int),l=all.drop i->(k=-1\/Due all mark k) ->
  (∀j,j<i->j<all.length->(rAt all j).tick=0->(rAt all j).t<=mark->0<=k/\(rAt all k.toNat).t<=(rAt all j).t) ->
  ∀j,j<all.length->(rAt all j).tick=0->(rAt all j).t<=mark->0<=qIp all mark l i k/\(rAt all (qIp all mark l i k).toNat).t<=(rAt all j).t:=by
 induction l with
 | nil =>
  intro i k hd _ hb j hj
  have hlen:all.length<=i:=by
   have:=congrArg List.length hd
   simp at this;omega
  unfold qIp
  exact hb j (by omega) hj
 | cons x r ih =>
  intro i k hd hk hb
  have hi:i<all.length:=by
   have:=congrArg List.length hd
   simp at this;omega
  rw[List.drop_eq_getElem_cons hi]at hd
  injection hd with hx hr
  have hxa:rAt all i=x:=by rw[qCc _ _ hi,hx]
  unfold qIp
  by_cases hc:x.tick=0/\x.t<=mark/\(k<0\/x.t<(rAt all k.toNat).t)
  ·rw[if_pos hc]
   refine ih (i+1) i hr (.inr ⟨by omega,by simpa using hi,by rw[Int.toNat_natCast,hxa];exact hc.1,by rw[Int.toNat_natCast,hxa];exact hc.2.1⟩) ?_
   intro j hj hjl ht hm
   rw[Int.toNat_natCast,hxa]
   refine⟨by omega,?_⟩
   by_cases hji:j=i
   ·rw[hji,hxa];exact Int.le_refl _
   ·have:=hb j (by omega) hjl ht hm
    rcases hc.2.2 with h1 | h1
    ·omega
    ·omega
  ·rw[if_neg hc]
   refine ih (i+1) k hr hk ?_
   intro j hj hjl ht hm
   by_cases hji:j=i
   ·rw[hji,hxa]at ht hm ⊢
    have h1:¬(k<0\/x.t<(rAt all k.toNat).t):=λh=>hc ⟨ht,hm,h⟩
    omega
   ·exact hb j (by omega) hjl ht hm
theorem qXw(all:List RIt)(mark:Int)(j:Nat)(hj:j<all.length)(ht:(rAt all j).tick=0)(hm:(rAt all j).t<=mark): (rAt all (qE8 all mark).toNat).t<=(rAt all j).t :=
 (qXk all mark all 0 (-1) rfl (.inl rfl) (λ_ h=>by omega) j hj ht hm).2
def qDb: Nat->RSer->Int->Int->List Int
 | 0,_,_,_=>[]
 | f+1,y,mark,ticks=>if qE8 y.items mark<0 then[]
  else(rAt y.items (qE8 y.items mark).toNat).t::qDb f { y with items:=qB0 y.items (qE8 y.items mark).toNat ticks,events:=y.events++[⟨(rAt y.items (qE8 y.items mark).toNat).t,mark,false,0⟩] } mark ticks
theorem qQk{l:List RIt}{t:Int}(h:t∈qA7 l): ∃j,j<l.length/\(rAt l j).tick=0/\(rAt l j).t=t:=by
 unfold qA7 at h
 obtain⟨z,hz,rfl⟩:=List.mem_map.1 h
 obtain⟨hz1,hz2⟩:=List.mem_filter.1 hz
 obtain⟨j,hj,rfl⟩:=List.mem_iff_getElem.1 hz1
 exact⟨j,hj,by rw[qCc _ _ hj];simpa using hz2,by rw[qCc _ _ hj]⟩
theorem qX6{l:List RIt}{j:Nat}{ticks:Int}(ht:ticks≠0)(hj:j<l.length)(h0:(rAt l j).tick=0): (qA7 l).Perm ((rAt l j).t::qA7 (qB0 l j ticks)):=by
 induction l generalizing j with
 | nil=>simp at hj
 | cons z l ih =>
  cases j with
  | zero =>
   have hz:z.tick=0:=h0
   have e1:qA7 (z::l)=z.t::qA7 l:=by unfold qA7;rw[List.filter_cons];simp[hz]
   have e2:qA7 (qB0 (z::l) 0 ticks)=qA7 l:=by
    show qA7 ({ z with tick:=ticks }::l)=_
    unfold qA7;rw[List.filter_cons];simp[ht]
   rw[e1,e2]
   exact List.Perm.refl _
  | succ j =>
   have e3:rAt (z::l) (j+1)=rAt l j:=rfl
   have hp:=ih (j:=j) (by simpa using hj) h0
   have e2:qB0 (z::l) (j+1) ticks=z::qB0 l j ticks:=rfl
   rw[e2,e3]
   by_cases hz:z.tick=0
   ·have e1:∀l,qA7 (z::l)=z.t::qA7 l:=λl=>by unfold qA7;rw[List.filter_cons];simp[hz]
    rw[e1,e1]
    exact(List.Perm.cons _ hp).trans (List.Perm.swap _ _ _)
   ·have e1:∀l,qA7 (z::l)=qA7 l:=λl=>by unfold qA7;rw[List.filter_cons];simp[hz]
    rw[e1,e1]
    exact hp
theorem qF5(mark ticks:Int)(ht:ticks≠0)(f:Nat): ∀y:RSer,(qA7 y.items).length<f ->
  (qA7 y.items).Perm (qDb f y mark ticks++qA7 (qBf f y mark ticks).items)/\(∀t,t∈qDb f y mark ticks->t<=mark)/\(∀t,t∈qA7 (qBf f y mark ticks).items->mark<t)/\(qDb f y mark ticks).Pairwise (·<=·) /\
   (qBf f y mark ticks).events=y.events++(qDb f y mark ticks).map (λt=>⟨t,mark,false,0⟩):=by
 induction f with
 | zero=>intro y h;omega
 | succ f ih =>
  intro y hf
  unfold qBf qDb
  rcases qFe y.items mark with ⟨h,hb⟩ | ⟨h1,h2,h3,h4⟩
  ·rw[if_pos (by omega),if_pos (by omega)]
   refine⟨List.Perm.refl _,by simp,?_,List.Pairwise.nil,by simp⟩
   intro t htm
   obtain⟨j,hj,hj0,rfl⟩:=qQk htm
   exact hb _ (by rw[qCc _ _ hj];exact List.getElem_mem _) hj0
  ·rw[if_neg (by omega),if_neg (by omega)]
   have hw:=qHw ticks ht y.items _ h2 h3
   have hmin:=qXw y.items mark
   have hset:=qX6 ht h2 h3
   generalize(qE8 y.items mark).toNat=k at *
   obtain⟨i1,i2,i3,i4,i5⟩:=ih { y with items:=qB0 y.items k ticks,events:=y.events++[⟨(rAt y.items k).t,mark,false,0⟩] } (by show(qA7 (qB0 _ _ _)).length<f;omega)
   refine⟨?_,?_,i3,?_,?_⟩
   ·refine hset.trans ?_
    rw[List.cons_append]
    exact List.Perm.cons _ i1
   ·intro t htm
    rcases List.mem_cons.1 htm with e | e
    ·rw[e];exact h4
    ·exact i2 t e
   ·refine List.pairwise_cons.2 ⟨λt htm=>?_,i4⟩
    have h6:t∈qA7 (qB0 y.items k ticks):=i1.mem_iff.2 (List.mem_append.2 (.inl htm))
    have h7:t∈qA7 y.items:=hset.mem_iff.2 (List.mem_cons.2 (.inr h6))
    obtain⟨j,hj,hj0,rfl⟩:=qQk h7
    exact hmin j hj hj0 (i2 _ htm)
   ·rw[i5]
    simp
theorem qTs(m ticks:Int)(ht:ticks≠0)(x:Ser)(y:RSer)(hh:HeapL x.l)(hw:(x.l.map (·.t)).Perm (qA7 y.items)):
  qFa (x.l.length+1) x m=qDb (y.items.length+1) y m ticks:=by
 obtain⟨a1,a2,a3,a4,_⟩:=qIt m (x.l.length+1) x (by omega) hh
 obtain⟨b1,b2,b3,b4,_⟩:=qF5 m ticks ht (y.items.length+1) y (by have:=qCo y.items;omega)
 refine qYz ?_ a4 b4
 have hp:=a1.symm.trans (hw.trans b1)
 have h:=hp.filter (λt=>decide (t<=m))
 rw[List.filter_append,List.filter_append]at h
 have c1:(qFa (x.l.length+1) x m).filter (λt=>decide (t<=m))=qFa (x.l.length+1) x m:=List.filter_eq_self.2 (λt ht=>by simpa using a2 t ht)
 have c2:((qFh (x.l.length+1) x m).l.map (·.t)).filter (λt=>decide (t<=m))=[]:=List.filter_eq_nil_iff.2 (λt ht=>by have:=a3 t ht;simp;omega)
 have c3:(qDb (y.items.length+1) y m ticks).filter (λt=>decide (t<=m))=qDb (y.items.length+1) y m ticks:=List.filter_eq_self.2 (λt ht=>by simpa using b2 t ht)
 have c4:(qA7 (qBf (y.items.length+1) y m ticks).items).filter (λt=>decide (t<=m))=[]:=List.filter_eq_nil_iff.2 (λt ht=>by have:=b3 t ht;simp;omega)
 rw[c1,c2,c3,c4,List.append_nil,List.append_nil]at h
 exact h
theorem qQx(clock ticks:Int)(ht:ticks≠0)(x:Ser)(y:RSer)(hk:x.k=1)(hc:x.c=y.c)(hh:HeapL x.l)(hw:(x.l.map (·.t)).Perm (qA7 y.items))(hb:x.nt.bs=qAq y.c y.events):
  (qBj clock x).nt.bs=qAq (qA6 clock ticks y).c (qA6 clock ticks y).events:=by
 unfold qBj qA6
 rw[<-hc]
 obtain⟨_,_,_,_,a5⟩:=qIt (clock-x.c.lag) (x.l.length+1) x (by omega) hh
 obtain⟨_,_,_,_,b5⟩:=qF5 (clock-x.c.lag) ticks ht (y.items.length+1) y (by have:=qCo y.items;omega)
 obtain⟨_,_,i3,_⟩:=qGo (clock-x.c.lag) ticks ht (y.items.length+1) y (by have:=qCo y.items;omega)
 rw[a5 hk,b5,i3,qTs (clock-x.c.lag) ticks ht x y hh hw,hb,<-hc]
 unfold qAq
 rw[List.foldl_append,List.foldl_map]
 rfl
theorem TS.drop{q:List Bk}(h:TS q)(n:Nat): TS (q.drop n):=by
 intro i j hij hj
 rw[qFg,qFg]
 exact h _ _ (by omega) (by rw[List.length_drop]at hj;omega)
theorem TS.snoc{q:List Bk}(h:TS q)(x:Bk)(hx:∀b,b∈q->b.t<=x.t): TS (q++[x]):=by
 intro i j hij hj
 by_cases h1:j<q.length
 ·rw[qCd _ _ _ h1,qCd _ _ _ (by omega)];exact h i j hij h1
 ·have hj0:j-q.length=0:=by simp at hj;omega
  rw[qCm _ _ j (by omega),hj0]
  show _<=x.t
  by_cases h2:i<q.length
  ·rw[qCd _ _ _ h2];exact hx _ (qE9 h2)
  ·have hi0:i-q.length=0:=by simp at hj;omega
   rw[qCm _ _ i (by omega),hi0];exact Int.le_refl _
theorem TS.join{q:List Bk}(h:TS q)(s:Nat)(hs:s+2<=q.length)(z:Int): TS (qCr q s ⟨z,(qBn q (s+1)).t⟩):=by
 have hat:=qPj q s ⟨z,(qBn q (s+1)).t⟩ hs
 have hlen:=qB8 (⟨z,(qBn q (s+1)).t⟩:Bk) (l:=q) (i:=s) hs
 intro i j hij hj
 rw[hat,hat]
 by_cases j1:j<s
 ·rw[if_pos j1,if_pos (by omega)];exact h i j hij (by omega)
 ·rw[if_neg j1]
  by_cases j2:j=s
  ·rw[if_pos j2]
   by_cases i1:i<s
   ·rw[if_pos i1];exact h i (s+1) (by omega) (by omega)
   ·rw[if_neg i1,if_pos (by omega)];exact Int.le_refl _
  ·rw[if_neg j2]
   by_cases i1:i<s
   ·rw[if_pos i1];exact h i (j+1) (by omega) (by omega)
   ·rw[if_neg i1]
    by_cases i2:i=s
    ·rw[if_pos i2];exact h (s+1) (j+1) (by omega) (by omega)
    ·rw[if_neg i2];exact h (i+1) (j+1) (by omega) (by omega)
theorem zAh{K:Int}(hK:0<=K)(T:Int)(f:Nat)(q:List Bk)(sz:Int)(e:Nat)(he:e<=q.length)(h:TS q)(hT:∀b,b∈q->b.t<=T): TS (joinL K f q sz e)/\∀b,b∈joinL K f q sz e->b.t<=T:=by
 induction f generalizing q sz e with
 | zero=>exact⟨h,hT⟩
 | succ f ih =>
  unfold joinL
  split
  ·exact⟨h,hT⟩
  ·rename_i hn
   have hs:=qGi q sz e
   have h2:qBk q sz e+2<=q.length:=by omega
   have hlen:=qB8 (⟨2*sz,(qBn q (qBk q sz e+1)).t⟩:Bk) (l:=q) (i:=qBk q sz e) h2
   refine ih _ _ _ (by omega) (h.join _ h2 _) ?_
   exact qJh (P:=λb=>b.t<=T) q _ _ hT (by show(qBn q (qBk q sz e+1)).t<=T;exact hT _ (qE9 (l:=q) (i:=qBk q sz e+1) (by omega)))
theorem zCn{c:Cfg}(hK:0<=c.k){q:List Bk}(h:TS q)(t m:Int)(ht:∀b,b∈q->b.t<=t): TS (qNv c q t m)/\∀b,b∈qNv c q t m->b.t<=t:=by
 unfold qNv qLy qK3
 refine zAh hK t _ _ _ _ (Nat.le_refl _) ((h.drop _).snoc _ (λb hb=>ht b (List.mem_of_mem_drop hb))) ?_
 intro b hb
 rcases List.mem_append.1 hb with hb | hb
 ·exact ht b (List.mem_of_mem_drop hb)
 ·rw[List.mem_singleton]at hb;rw[hb];exact Int.le_refl _
theorem zDj{c:Cfg}(hK:0<=c.k)(m:Int): ∀(R:List Int) (q:List Bk),TS q->(∀b,b∈q->∀t,t∈R->b.t<=t)->(∀b,b∈q->b.t<=m)->R.Pairwise (·<=·)->(∀t,t∈R->t<=m) ->
  TS (R.foldl (λl t=>qNv c l t m) q)/\∀b,b∈R.foldl (λl t=>qNv c l t m) q->b.t<=m:=by
 intro R
 induction R with
 | nil=>intro q h _ hm _ _;exact⟨h,hm⟩
 | cons r R ih =>
  intro q h hq hm hR hRm
  obtain⟨p1,p2⟩:=List.pairwise_cons.1 hR
  obtain⟨t1,t2⟩:=zCn hK h r m (λb hb=>hq b hb r (by simp))
  rw[List.foldl_cons]
  refine ih _ t1 (λb hb t ht=>?_) (λb hb=>?_) p2 (λt ht=>hRm t (by simp[ht]))
  ·have h1:=t2 b hb
   have h2:=p1 t ht
   omega
  ·have h1:=t2 b hb
   have h2:=hRm r (by simp)
   omega
theorem qPm(c:Cfg)(evs:List REv)(R:List Int)(m:Int): qAq c (evs++R.map (λt=>⟨t,m,false,0⟩))=R.foldl (λl t=>qNv c l t m) (qAq c evs):=by
 unfold qAq
 rw[List.foldl_append,List.foldl_map]
 rfl
theorem OkE.append{c:Cfg}{evs:List REv}(h:OkE c evs){e:REv}(he:e.away=true->0<=e.throw/\e.throw<=(qAq c evs).length)(hm:-100<=e.m/\e.m<=4611686018427387904): OkE c (evs++[e]):=by
 refine⟨λi x hx ha=>?_,λx hx=>?_⟩
 ·by_cases hi:i<evs.length
  ·rw[List.getElem?_append_left hi]at hx
   rw[List.take_append_of_le_length (by omega)]
   exact h.thr i x hx ha
  ·rw[List.getElem?_append_right (by omega)]at hx
   have hi0:i=evs.length:=by
    have:=(List.getElem?_eq_some_iff.1 hx).1
    simp at this;omega
   subst hi0
   rw[Nat.sub_self]at hx
   injection hx with hx
   subst hx
   rw[List.take_append_of_le_length (by omega),List.take_of_length_le (by omega)]
   exact he ha
 ·rcases List.mem_append.1 hx with hx | hx
  ·exact h.mark x hx
  ·rw[List.mem_singleton]at hx;rw[hx];exact hm
theorem OkE.many{c:Cfg}(m:Int)(hm:-100<=m/\m<=4611686018427387904): ∀(R:List Int) (evs:List REv),OkE c evs->OkE c (evs++R.map (λt=>⟨t,m,false,0⟩)):=by
 intro R
 induction R with
 | nil=>intro evs h;simpa using h
 | cons r R ih =>
  intro evs h
  have:=ih (evs++[⟨r,m,false,0⟩]) (h.append (λh=>by cases h) hm)
  simpa using this
theorem qNa(clock ticks:Int)(y:RSer)(ht:ticks≠0): (qA6 clock ticks y).c=y.c:=by
 unfold qA6
 exact(qGo _ ticks ht (y.items.length+1) y (by have:=qCo y.items;omega)).2.2.1
theorem qPv{clock nc ticks:Int}(ht:ticks≠0){y:RSer}(hc:CInv clock y)(hcn:clock<=nc)(hK:0<=y.c.k)(hm:-100<=nc-y.c.lag/\nc-y.c.lag<=4611686018427387904): CInv nc (qA6 nc ticks y):=by
 have hcc:=qNa nc ticks y ht
 have hsp:=qF5 (nc-y.c.lag) ticks ht (y.items.length+1) y (by have:=qCo y.items;omega)
 obtain⟨b1,b2,b3,b4,b5⟩:=hsp
 have hev:(qA6 nc ticks y).events=y.events++(qDb (y.items.length+1) y (nc-y.c.lag) ticks).map (λt=>⟨t,nc-y.c.lag,false,0⟩):=b5
 have hR:∀t,t∈qDb (y.items.length+1) y (nc-y.c.lag) ticks->clock-y.c.lag<t:=λt htm=>hc.wt t (b1.mem_iff.2 (List.mem_append.2 (.inl htm)))
 have hf:=zDj hK (nc-y.c.lag) (qDb (y.items.length+1) y (nc-y.c.lag) ticks) (qAq y.c y.events) hc.ts (λb hb t htm=>by have h1:=hc.le b hb;have h2:=hR t htm;omega) (λb hb=>by have:=hc.le b hb;omega) b4 b2
 rw[<-qPm]at hf
 refine⟨?_,?_,?_,?_⟩
 ·rw[hcc,hev];exact OkE.many _ hm _ _ hc.ok
 ·rw[hcc,hev];exact hf.1
 ·rw[hcc,hev];exact hf.2
 ·rw[hcc];exact b3
theorem qX4{clock b:Int}{y:RSer}(hc:CInv clock y)(hb:0<=b): CInv clock (qMa clock b y):=by
 have hle:=pastN_le (qAq y.c y.events) (clock-y.c.lag-y.c.window)
 have e:qAq y.c (y.events++[⟨0,0,true,min (qEb clock y) b⟩])=(qAq y.c y.events).drop (min (qEb clock y) b).toNat:=by
  unfold qAq;rw[List.foldl_append];rfl
 refine⟨?_,?_,?_,hc.wt⟩
 ·exact hc.ok.append (λ_=>by show 0<=min (qEb clock y) b/\min (qEb clock y) b<=_;unfold qEb;omega) (by show(-100:Int)<=0/\(0:Int)<=_;omega)
 ·show TS (qAq y.c (y.events++_));rw[e];exact hc.ts.drop _
 ·intro x hx
  have hx':x∈qAq y.c (y.events++[⟨0,0,true,min (qEb clock y) b⟩]):=hx
  rw[e]at hx'
  exact hc.le x (List.mem_of_mem_drop hx')
theorem qVk{clock:Int}{y:RSer}(hc:CInv clock y)(o:OpM)(h:clock-y.c.lag<o.a): CInv clock (qUa y o):=by
 refine⟨hc.ok,hc.ts,hc.le,λt htm=>?_⟩
 have:qA7 (qUa y o).items=qA7 y.items++[o.a]:=by
  show qA7 (y.items++[_])=_
  unfold qA7
  rw[List.filter_append,List.map_append];rfl
 rw[this]at htm
 rcases List.mem_append.1 htm with htm | htm
 ·exact hc.wt t htm
 ·rw[List.mem_singleton]at htm;rw[htm];exact h
theorem zA6(clock id:Int)(c:Cfg): CInv clock (qLx id c) :=
 ⟨⟨λi e h=>by simp[qLx]at h,λe h=>by simp[qLx]at h⟩,λi j _ hj=>by simp[qLx,qAq]at hj,λb hb=>by simp[qLx,qAq]at hb,λt htm=>by simp[qLx,qA7]at htm⟩
end
end Go.Proofs.YtahnliehdjncdaaGreatDoor
