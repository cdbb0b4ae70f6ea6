import Derived.Test.YtahnliehdjncdaaGreatDoorXBK
set_option maxRecDepth 100000
set_option maxHeartbeats 16000000
namespace Go.Proofs.YtahnliehdjncdaaGreatDoor
open Go.RowKit
theorem qNd (c:Cfg) (evs:List REv) (e:REv):qAq c (evs++[e])=qNj c (qAq c evs) e:=by
 unfold qAq;rw [List.foldl_append];rfl
theorem qNs (c:Cfg) (evs:List REv) (i:Nat) (e:REv) (h:evs[i]?=some e):qAq c (evs.take (i+1))=qNj c (qAq c (evs.take i)) e:=by
 obtain ⟨hi,he⟩:=List.getElem?_eq_some_iff.1 h
 rw [List.take_succ_eq_append_getElem hi,qNd,he]
structure CfgC (c:Cfg):Prop where
 k1:1≤c.k
 k10:c.k≤10
 w1:1≤c.window
 w2:c.window≤1000
structure GoodB (n:Int) (l:List Bk):Prop where
 pb:PB l
 one:∀ b∈l,1≤b.sz
 sum:sumB l≤n
theorem qWc {c:Cfg} (hc:CfgC c) {n:Int} {l:List Bk} (h:GoodB n l) (t m:Int):GoodB (n+1) (relB c l t m):=by
 have h0:=hc.k1
 have hp:∀ b∈putB c l t m,1≤b.sz:=fun b hb=>by
  unfold putB at hb
  rcases List.mem_append.1 hb with hb | hb
  ·exact h.one b (List.mem_of_mem_drop hb)
  ·rw [List.mem_singleton] at hb;rw [hb];exact Int.le_refl _
 have hj:=qO3 (K:=c.k) (by omega) ((putB c l t m).length+1) (putB c l t m) 1 _ hp (Nat.le_refl _) (by omega)
 refine ⟨relB_PB (by omega) h.pb t m,hj.1,?_⟩
 unfold relB
 rw [hj.2]
 have h1:=qFa l (pastN l (m-c.window))
 have h2:=qC5 (l:=l.take (pastN l (m-c.window))) (fun b hb=>h.one b (List.mem_of_mem_take hb))
 have h3:=h.sum
 unfold putB
 rw [qEf]
 unfold qK2
 simp only [sumB]
 omega
theorem qK4 {n:Int} {l:List Bk} (h:GoodB n l) (j:Nat):GoodB n (l.drop j):=by
 refine ⟨h.pb.drop j,fun b hb=>h.one b (List.mem_of_mem_drop hb),?_⟩
 have h1:=qFa l j
 have h2:=qC5 (l:=l.take j) (fun b hb=>h.one b (List.mem_of_mem_take hb))
 have h3:=h.sum
 omega
theorem GoodB.mono {n m:Int} {l:List Bk} (h:GoodB n l) (hm:n≤m):GoodB m l:=⟨h.pb,h.one,by have:=h.sum;omega⟩
theorem qS5 {c:Cfg} (hc:CfgC c) {n:Int} {l:List Bk} (h:GoodB n l) (e:REv):GoodB (n+1) (qNj c l e):=by
 unfold qNj
 split
 ·exact (qK4 h _).mono (by omega)
 ·exact qWc hc h _ _
theorem qX3:GoodB 0 []:=⟨⟨fun i j _ hj=>by simp at hj,fun i hi=>by simp at hi⟩,by simp,by simp [sumB]⟩
theorem qE0 {c:Cfg} (hc:CfgC c) (evs:List REv):GoodB evs.length (qAq c evs):=by
 suffices h:∀ (n:Int) (l:List Bk),GoodB n l→GoodB (n+evs.length) (evs.foldl (qNj c) l) by
  have:=h 0 [] qX3
  unfold qAq
  simpa using this
 induction evs with
 | nil=>intro n l h;simpa using h
 | cons e evs ih =>
  intro n l h
  have:=ih (n+1) (qNj c l e) (qS5 hc h e)
  rw [List.foldl_cons]
  refine this.mono ?_
  simp only [List.length_cons];omega
theorem qV5 (l:List REv) (i j:Nat) (x:REv) (h:l[i]?=some x) (hj:j<4):(qFz l)[i*4+j]?=x.cells[j]?:=by
 induction l generalizing i with
 | nil=>simp at h
 | cons a l ih =>
  have hc:qFz (a::l)=a.cells++qFz l:=by simp [qFz]
  have hl:a.cells.length=4:=rfl
  rw [hc]
  cases i with
  | zero =>
   have:a=x:=by simpa using h
   subst this
   rw [List.getElem?_append_left (by omega)]
   simp
  | succ i =>
   rw [List.getElem?_append_right (by omega)]
   have:=ih i (by simpa using h)
   rw [←this]
   congr 1
   omega
theorem qZj {w:World} {v:Value} {l:List REv} (h:w.ownsRow 0 159 4 v l.length (qFz l)) (i:Nat) (z:REv) (hz:l[i]?=some z) :
  ∃ g cap,v=.slice (some ⟨g,0,none⟩) l.length cap∧w.cell? ⟨g,i*4,none⟩=some (.int .i64 z.t)∧w.cell? ⟨g,i*4+1,none⟩=some (.int .i64 z.m)∧w.cell? ⟨g,i*4+2,none⟩=some (.bool z.away)∧w.cell? ⟨g,i*4+3,none⟩=some (.int .i64 z.throw):=by
 have hi:i<l.length:=(List.getElem?_eq_some_iff.1 hz).1
 rcases h.2 with ⟨h1,h2⟩ | ⟨g,cap,cur,h1,h2,h3,h4,h5,h6,h7⟩
 ·omega
 ·have hc:∀ j u,j<4→z.cells[j]?=some u→w.cell? ⟨g,i*4+j,none⟩=some u:=by
   intro j u hj hu
   have hf:=qV5 l i j z hz hj
   rw [hu,←h7,List.getElem?_take,if_pos (by omega)] at hf
   have:cur[i*4+j]?=some u:=by simpa using hf
   simp [World.cell?,h3,this]
  exact ⟨g,cap,h1,hc 0 _ (by omega) rfl,hc 1 _ (by omega) rfl,hc 2 _ (by omega) rfl,hc 3 _ (by omega) rfl⟩
theorem qYs (q:List Bk) (k:Nat):q.reverse.take (q.length-k)=(q.drop k).reverse:=by
 rw [List.take_reverse]
 by_cases h:k≤q.length
 ·rw [show q.length-(q.length-k)=k by omega]
 ·rw [List.drop_eq_nil_of_le (by omega:q.length≤q.length-(q.length-k)),List.drop_eq_nil_of_le (by omega)]
theorem bw_cut {w:World} {a:Option Addr} {n cap k:Nat} {q:List Bk} (h:BW w (.slice a n cap) q.reverse) (hn:q.length=n):BW w (.slice a (n-k) cap) (q.drop k).reverse:=by
 rw [←qYs q k,hn]
 rcases Nat.eq_zero_or_pos n with h0 | h0
 ·have:q=[]:=List.length_eq_zero_iff.1 (by omega)
  subst this
  rw [h0]
  exact .inl ⟨⟨a,cap,by simp⟩,by simp⟩
 ·obtain ⟨g,off,rfl,_,_⟩:=qLj h h0
  exact qXc (by rw [List.length_reverse];exact hn) h (by omega)
theorem qJq (b:RB) (y:RSer) (w:World) (h:RRep w b y) (hc:CfgC y.c) (ho:OkE y.c y.events) (hl:y.events.length≤4398046511103) :
  Calls Tryz.prog 104 #[.pointer (some ⟨b.s,0,none⟩)] w fun e w'=>∃ v',e=.returned v'∧BW w' v' (qAq y.c y.events).reverse∧Keeps (fun _=>False) w w':=by
 have HR:=hide h
 have HC:=hide hc
 have HO:=hide ho
 obtain ⟨ea,ec,hev⟩:=qC2 h.evs
 have HEV:=hide hev
 generalize hn:y.events.length=n at *
 have HN:=hide hn
 clear h hc ho hev hn
 go_enter Tryz.func104,Tryz.ntmps104
 go_wp2_with fail
 go_loopg [3,4,5] (n) (fun g a i _ wr=>∃ (k:Nat) (la:Option Addr) (ln lc:Nat),a=.slice la ln lc∧i=.int .i64 k∧k≤n∧n-k=g∧ln≤4398046511104∧Hid ((qAq y.c (y.events.take k)).length=ln)∧Hid (BW wr (.slice la ln lc) (qAq y.c (y.events.take k)).reverse)∧Hid (Keeps (fun _=>False) w wr))
 case atStart=>exact ⟨0,none,0,0,rfl,rfl,by omega,rfl,by omega,by show _=_;simp [qAq],.inl ⟨⟨_,_,rfl⟩,by simp [qAq]⟩,Keeps.refl _ _⟩
 case round =>
  obtain ⟨k,la,ln,lc,rfl,rfl,hk,hg,hln,HLN,HBW,HK⟩:=hrel
  have HG:=hide hg
  clear hg
  have HR1:=hide ((uh HR).still (uh HK))
  have s22:wr.cell? ⟨b.s,22,none⟩=some (.slice ea n ec):=by rw [←uh HEV];exact (uh HR1).blk.cell rfl
  by_cases hkn:k<n
  ·obtain ⟨z,hz⟩:∃ z,y.events[k]?=some z:=⟨y.events[k]'(by rw [uh HN];exact hkn),List.getElem?_eq_getElem _⟩
   obtain ⟨ge,cap,e1,c0,c1,c2,c3⟩:=qZj (uh HR1).evs k z hz
   rw [uh HEV,uh HN] at e1
   injection e1 with e1 _ _
   subst e1
   have HBT:=hide (qNs y.c y.events k z hz)
   have HTH:=hide ((uh HO).thr k z hz)
   have HMK:=hide ((uh HO).mark z (List.mem_of_getElem? hz))
   have HGD:=hide (qE0 (uh HC) (y.events.take k))
   have hk0:(0:Int)≤(k:Int):=by omega
   have hk1:(k:Int)<(n:Int):=by omega
   have hlt:=(uh HR1).blk.lt
   clear hz
   cases haw:z.away with
   | true =>
    obtain ⟨th,hth⟩:∃ th:Nat,z.throw=(th:Int):=⟨z.throw.toNat,by have:=uh HTH haw;omega⟩
    have hthl:th≤ln:=by have:=(uh HTH haw).2;rw [uh HLN,hth] at this;omega
    rw [haw] at c2
    rw [hth] at c3
    have HTT:=hide hth
    have HAW:=hide haw
    clear hth haw
    obtain ⟨l2,hl2⟩:∃ l2,l2=ln-th:=⟨_,rfl⟩
    have q1:(ln:Int)-(th:Int)=(l2:Int):=by omega
    have HL2:=hide hl2
    have hlc:l2≤lc:=by
     rcases uh HBW with ⟨⟨a',c',h1⟩,h2⟩ | ⟨g',off',cap',h1,h2,_⟩
     ·injection h1 with _ h3 _;omega
     ·injection h1 with _ h3 h4
      omega
    clear hl2
    have HST:=hide (show qAq y.c (y.events.take (k+1))=(qAq y.c (y.events.take k)).drop th by
       rw [uh HBT];unfold qNj;rw [if_pos (uh HAW),uh HTT,Int.toNat_natCast])
    go_wp2
    go_roundg (n-(k+1))
    case measure=>have:=uh HG;omega
    case rel =>
     refine ⟨k+1,la,l2,lc,rfl,by go_num,by omega,rfl,by omega,?_,?_,(uh HK).alloc _⟩
     ·show _=_
      rw [uh HST,List.length_drop,uh HLN,uh HL2]
     ·show BW _ _ _
      rw [uh HST,uh HL2]
      exact bw_cut ((uh HBW).keeps ((Keeps.refl (fun _=>False) wr).alloc _)) (uh HLN)
   | false =>
    rw [haw] at c2
    have HAW:=hide haw
    clear haw
    have s6:wr.cell? ⟨b.s,6,none⟩=some (.int .i64 y.c.window):=(uh HR1).blk.cell rfl
    have s5:wr.cell? ⟨b.s,5,none⟩=some (.int .i64 y.c.k):=(uh HR1).blk.cell rfl
    obtain ⟨m0,m1⟩:=uh HMK
    have w1:=(uh HC).w1
    have w2:=(uh HC).w2
    have k1:=(uh HC).k1
    have k10:=(uh HC).k10
    have hwr:IntKind.i64.wrap (z.m-y.c.window)=z.m-y.c.window:=by rw [IntKind.wrap_i64];omega
    have hwk:IntKind.i64.wrap (y.c.k+1)=y.c.k+1:=by rw [IntKind.wrap_i64];omega
    have HST:=hide (show qAq y.c (y.events.take (k+1))=relB y.c (qAq y.c (y.events.take k)) z.t z.m by
       rw [uh HBT];unfold qNj;rw [if_neg (by rw [uh HAW];simp)])
    have hpl:=pastN_le (qAq y.c (y.events.take k)) (z.m-y.c.window)
    rw [uh HLN] at hpl
    obtain ⟨p,hp⟩:∃ p,p=pastN (qAq y.c (y.events.take k)) (z.m-y.c.window):=⟨_,rfl⟩
    rw [←hp] at hpl
    obtain ⟨l2,hl2⟩:∃ l2,l2=ln-p:=⟨_,rfl⟩
    have q1:(ln:Int)-(p:Int)=(l2:Int):=by omega
    have hlc:l2≤lc:=by
     rcases uh HBW with ⟨⟨a',c',h1⟩,h2⟩ | ⟨g',off',cap',h1,h2,_⟩
     ·injection h1 with _ h3 _;omega
     ·injection h1 with _ h3 h4
      omega
    have hwl:IntKind.i64.wrap (l2:Int)=(l2:Int):=by rw [IntKind.wrap_i64];omega
    have hwl2:IntKind.i64.wrap ((ln:Int)-(p:Int))=(l2:Int):=by rw [IntKind.wrap_i64];omega
    have hlci:(l2:Int)≤(lc:Int):=by omega
    have HP:=hide hp
    have HL2:=hide hl2
    have HX:=hide (Blk.new wr [.int .i64 z.t,.int .i64 z.m,.bool false,.int .i64 z.throw] 159)
    have hkA:Keeps (fun _=>False) wr (wr.alloc (.cells #[.int .i64 z.t,.int .i64 z.m,.bool false,.int .i64 z.throw] 159)):=(Keeps.refl (fun _=>False) wr).alloc _
    have HKA:=hide hkA
    clear hp hl2 hkA
    go_wp2_with fail
    have e0:(wr.alloc (.cells [Value.int .i64 z.t,.int .i64 z.m,.bool false,.int .i64 z.throw].toArray 159))=(wr.alloc (.cells #[.int .i64 z.t,.int .i64 z.m,.bool false,.int .i64 z.throw] 159)):=rfl
    rw [e0] at HX
    clear e0
    have HBA:=hide ((uh HBW).keeps (uh HKA))
    have HKW:=hide ((uh HK).then (uh HKA))
    have t6:=(uh HKA).cell s6 (fun h=>h)
    have t5:=(uh HKA).cell s5 (fun h=>h)
    generalize wr.alloc (.cells #[.int .i64 z.t,.int .i64 z.m,.bool false,.int .i64 z.throw] 159)=W at *
    generalize wr.heap.size=bx at *
    have x0:W.cell? ⟨bx,0,none⟩=some (.int .i64 z.t):=(uh HX).cell rfl
    have x1:W.cell? ⟨bx,1,none⟩=some (.int .i64 z.m):=(uh HX).cell rfl
    clear s6 s5 c0 c1 c2 c3 s22 hlt
    have HLE:=hide (show (qAq y.c (y.events.take k)).length≤4398046511104 by rw [uh HLN];exact hln)
    go_region_with (go_at_call 114;refine (qQa _ (qAq y.c (y.events.take k)) (z.m-y.c.window) _ (by exact (uh HBA).keeps (Keeps.refl _ _).drew) (uh HLE)).mono ?_;rintro e1 W1 ⟨rfl,rfl⟩;rw [←uh HP])
    all_goals
     have HCUT:=hide (show BW W.drew (.slice la l2 lc) ((qAq y.c (y.events.take k)).drop p).reverse by rw [uh HL2];exact bw_cut ((uh HBA).keeps (Keeps.refl (fun _=>False) W).drew) (uh HLN))
     have HKD:=hide ((uh HKW).drew)
     have d0:W.drew.cell? ⟨bx,0,none⟩=some (.int .i64 z.t):=x0
     have d5:W.drew.cell? ⟨b.s,5,none⟩=some (.int .i64 y.c.k):=t5
     have HGK:=hide (qK4 (uh HGD) p)
     have HSUM:=hide (show sumB ((qAq y.c (y.events.take k)).drop p)+1≤4398046511104 by
        have h1:=(uh HGK).sum
        rw [List.length_take,uh HN] at h1
        omega)
     generalize W.drew=V at *
     go_wp2_with fail
     go_region_with (go_at_call 153;refine (qYe _ ((qAq y.c (y.events.take k)).drop p) z.t y.c.k _ (by exact (uh HCUT).keeps (Keeps.refl _ _).drew) (uh HGK).pb ⟨(uh HGK).one,by have:=uh HSUM;omega⟩ (uh HSUM) k1 k10).mono ?_;rintro e2 V2 ⟨v2,rfl,hob2,hk2⟩)
     all_goals
      obtain ⟨a2,c2,hv2⟩:=qC2 hob2
      have HOB2:=hide hob2
      have HK2:=hide (((uh HKD).drew).then hk2)
      clear hob2 hk2
      generalize hl3:((joinL y.c.k (((qAq y.c (y.events.take k)).drop p++[(⟨1,z.t⟩:Bk)]).length+1) ((qAq y.c (y.events.take k)).drop p++[(⟨1,z.t⟩:Bk)]) 1 ((qAq y.c (y.events.take k)).drop p++[(⟨1,z.t⟩:Bk)]).length).reverse)=R at *
      have HR3:=hide (show R=(qAq y.c (y.events.take (k+1))).reverse by
         rw [←hl3,uh HST]
         unfold relB putB qK2
         rw [←uh HP])
      clear hl3
      generalize hln3:R.length=l3 at *
      have HL3:=hide hln3
      clear hln3
      subst hv2
      go_wp2
      go_roundg (n-(k+1))
      case measure=>have:=uh HG;omega
      case rel =>
       have hgd:=qE0 (uh HC) (y.events.take (k+1))
       have hl4:(qAq y.c (y.events.take (k+1))).length=l3:=by rw [←uh HL3,uh HR3,List.length_reverse]
       refine ⟨k+1,a2,l3,c2,rfl,by go_num,by omega,rfl,?_,hl4,?_,HK2⟩
       ·have h1:=qEp hgd.one
        have h2:=hgd.sum
        rw [List.length_take,uh HN] at h2
        omega
       ·show BW _ _ _
        rw [←uh HR3]
        have h5:=uh HOB2
        rw [←uh HL3] at h5 ⊢
        exact OB.bw h5
  ·go_wp2
   go_ret
   refine ⟨_,rfl,?_,uh HK⟩
   have:=uh HBW
   rw [List.take_of_length_le (by rw [uh HN];omega)] at this
   exact this
end Go.Proofs.YtahnliehdjncdaaGreatDoor
namespace Go.Proofs.YtahnliehdjncdaaGreatDoor
open Go.RowKit
def sumE (l:List Bk) (t:Int):Nat→Int
 | 0=>0
 | i+1=>sumE l t i+(if t<(bkAt l i).t then (bkAt l i).sz else 0)
def qIb (l:List Bk) (t:Int):Nat→Int
 | 0=>0
 | i+1=>if t<(bkAt l i).t then (bkAt l i).sz/2 else qIb l t i
theorem qYi (q:List Bk) (t:Int) (i:Nat) (h:i<pastN q t):(bkAt q i).t≤t:=by
 induction q generalizing i with
 | nil=>simp [pastN] at h
 | cons b q ih =>
  unfold pastN at h
  rw [List.takeWhile_cons] at h
  split at h
  ·rename_i hb
   cases i with
   | zero=>simpa [bkAt] using hb
   | succ i=>exact ih i (by unfold pastN;simpa using h)
  ·simp at h
theorem qX1 (q:List Bk) (t:Int) (h:pastN q t<q.length):t<(bkAt q (pastN q t)).t:=by
 induction q with
 | nil=>simp at h
 | cons b q ih =>
  by_cases hb:b.t≤t
  ·have e1:pastN (b::q) t=pastN q t+1:=by unfold pastN;rw [List.takeWhile_cons,if_pos (by simpa using hb)];rfl
   rw [e1] at h ⊢
   exact ih (by simpa using h)
  ·have e1:pastN (b::q) t=0:=by unfold pastN;rw [List.takeWhile_cons,if_neg (by simpa using hb)];rfl
   rw [e1]
   show t<b.t
   omega
theorem est_ref (q:List Bk) (t:Int) (h:TS q):sumE q.reverse t q.length-qIb q.reverse t q.length=estN q t:=by
 have hp:=pastN_le q t
 have hin:=qYi q t
 have hat:=qX1 q t
 have key:∀ i,i≤q.length→sumE q.reverse t i=sumB (q.drop (q.length-min i (q.length-pastN q t)))∧qIb q.reverse t i=(if min i (q.length-pastN q t)=0 then 0 else (bkAt q (q.length-min i (q.length-pastN q t))).sz/2):=by
  intro i
  induction i with
  | zero=>intro _;simp [sumE,qIb,sumB]
  | succ i ih =>
   intro hi
   obtain ⟨i1,i2⟩:=ih (by omega)
   have hr:=qDg q i (by omega)
   have hcase:(t<(bkAt q.reverse i).t)↔i<q.length-pastN q t:=by
    rw [hr]
    constructor
    ·intro hz
     rcases Nat.lt_or_ge i (q.length-pastN q t) with h1 | h1
     ·exact h1
     ·have:=hin (q.length-1-i) (by omega);omega
    ·intro h1
     have h2:=hat (by omega)
     have h3:=h (pastN q t) (q.length-1-i) (by omega) (by omega)
     omega
   unfold sumE qIb
   rw [i1,i2]
   by_cases hc:t<(bkAt q.reverse i).t
   ·have hc':=hcase.1 hc
    rw [if_pos hc,if_pos hc]
    have e1:min (i+1) (q.length-pastN q t)=i+1:=by omega
    have e2:min i (q.length-pastN q t)=i:=by omega
    rw [e1,e2,if_neg (by omega),hr]
    have e3:q.length-1-i=q.length-(i+1):=by omega
    rw [e3]
    refine ⟨?_,rfl⟩
    rw [qEr q (q.length-(i+1)) (by omega),show q.length-(i+1)+1=q.length-i by omega]
    simp only [sumB];omega
   ·have hc':¬ i<q.length-pastN q t:=fun h=>hc (hcase.2 h)
    rw [if_neg hc,if_neg hc]
    have e1:min (i+1) (q.length-pastN q t)=min i (q.length-pastN q t):=by omega
    rw [e1]
    exact ⟨by omega,rfl⟩
 obtain ⟨k1,k2⟩:=key q.length (Nat.le_refl _)
 rw [k1,k2]
 unfold estN
 have e1:min q.length (q.length-pastN q t)=q.length-pastN q t:=by omega
 have e2:q.length-(q.length-pastN q t)=pastN q t:=by omega
 rw [e1,e2]
 by_cases he:pastN q t=q.length
 ·rw [if_pos he,if_pos (by omega)]
 ·rw [if_neg he,if_neg (by omega)]
theorem sumE_bd (q:List Bk) (t:Int) (h:∀ b∈q,1≤b.sz):∀ i,i≤q.length→0≤sumE q.reverse t i∧sumE q.reverse t i≤sumB (q.drop (q.length-i)):=by
 intro i
 induction i with
 | zero=>intro _;simp [sumE,sumB]
 | succ i ih =>
  intro hi
  obtain ⟨i1,i2⟩:=ih (by omega)
  have hr:=qDg q i (by omega)
  have h1:=h _ (qE6 (l:=q) (i:=q.length-1-i) (by omega))
  have hd:=qEr q (q.length-(i+1)) (by omega)
  rw [show q.length-(i+1)+1=q.length-i by omega] at hd
  unfold sumE
  rw [hr,hd,show q.length-(i+1)=q.length-1-i by omega]
  simp only [sumB]
  split <;> omega
theorem qY2 (q:List Bk) (t:Int) (h:∀ b∈q,1≤b.sz):∀ i,i≤q.length→0≤qIb q.reverse t i∧qIb q.reverse t i≤sumB q:=by
 intro i
 induction i with
 | zero=>intro _;exact ⟨by simp [qIb],by simp only [qIb];exact qC5 h⟩
 | succ i ih =>
  intro hi
  obtain ⟨i1,i2⟩:=ih (by omega)
  have hr:=qDg q i (by omega)
  have hm:=qE6 (l:=q) (i:=q.length-1-i) (by omega)
  have h1:=h _ hm
  have h2:=qHf h hm
  unfold qIb
  rw [hr]
  split <;> omega
theorem qNz (b:RB) (y:RSer) (a m:Int) (w:World) (h:RRep w b y) (hc:CfgC y.c) (ho:OkE y.c y.events) (hts:TS (qAq y.c y.events)) (hl:y.events.length≤4398046511103) (a1:1≤a) (a2:a≤1000) (m0:-100≤m) (m1:m≤4611686018427387904) :
  Calls Tryz.prog 78 #[.pointer (some ⟨b.s,0,none⟩),.int .i64 a,.int .i64 m] w fun e w'=>∃ g,e=.returned (.slice (some ⟨g,0,none⟩) 1 1)∧w.heap.size≤g∧Blk w' g [.int .i64 (estN (qAq y.c y.events) (m-a))] 3∧Keeps (fun _=>False) w w':=by
 have hgd:=qE0 hc y.events
 have HC:=hide (qJq b y w h hc ho hl)
 have HES:=hide (est_ref _ (m-a) hts)
 have hlen:=qEp hgd.one
 have hsum:=hgd.sum
 have HSB:=hide (sumE_bd _ (m-a) hgd.one)
 have HHB:=hide (qY2 _ (m-a) hgd.one)
 have HDR:=hide (fun i=>(qK4 hgd i).sum)
 have HONE:=hide (show ∀ i,i<(qAq y.c y.events).length→1≤(bkAt (qAq y.c y.events).reverse i).sz∧(bkAt (qAq y.c y.events).reverse i).sz≤4398046511104 from fun i hi=>by
    rw [qDg _ _ hi]
    have hm:=qE6 (l:=qAq y.c y.events) (i:=(qAq y.c y.events).length-1-i) (by omega)
    have h1:=hgd.one _ hm
    have h2:=qHf hgd.one hm
    omega)
 generalize qAq y.c y.events=q at *
 generalize hn:q.length=n at *
 have HN:=hide hn
 have hn1:n≤4398046511104:=by omega
 have hsq:sumB q≤4398046511104:=by omega
 clear h hc ho hts hgd hn
 go_enter Tryz.func78,Tryz.ntmps78
 go_wp2_with fail
 refine (uh HC).mono ?_
 rintro e w1 ⟨v,rfl,hbw,hk⟩
 obtain ⟨la,lc,hv⟩:=qXk hbw
 rw [List.length_reverse,uh HN] at hv
 subst hv
 have HBW:=hide hbw
 have HK:=hide hk
 have hwm:IntKind.i64.wrap (m-a)=m-a:=by rw [IntKind.wrap_i64];omega
 clear hbw hk HC
 go_wp2_with fail
 go_loop [8,9,10] (fun s hf i=>∃ j:Nat,i=.int .i64 j∧j≤n∧s=.int .i64 (sumE q.reverse (m-a) j)∧hf=.int .i64 (qIb q.reverse (m-a) j)) (fun _ _ i=>n-(intOf i).toNat)
 case atStart=>exact ⟨0,rfl,Nat.zero_le _,rfl,rfl⟩
 case round =>
  obtain ⟨j,rfl,hj,rfl,rfl⟩:=hrel
  by_cases hjn:j<n
  ·obtain ⟨g,off,rfl,_,hcap,hmx,_⟩:=qLj (uh HBW) (by omega)
   have hcs:=qJ7 (by rw [List.length_reverse];exact uh HN) (uh HBW) j hjn
   obtain ⟨x0,x1⟩:=hcs
   have hb1:=uh HSB (j+1) (by omega)
   have hb2:=uh HSB j (by omega)
   have hb3:=uh HDR (n-(j+1))
   have hb4:=uh HDR (n-j)
   have HS:=hide (show sumE q.reverse (m-a) (j+1)=sumE q.reverse (m-a) j+(if m-a<(bkAt q.reverse j).t then (bkAt q.reverse j).sz else 0) from rfl)
   have HH:=hide (show qIb q.reverse (m-a) (j+1)=if m-a<(bkAt q.reverse j).t then (bkAt q.reverse j).sz/2 else qIb q.reverse (m-a) j from rfl)
   obtain ⟨z1,z2⟩:=uh HONE j hjn
   have hj0:(0:Int)≤(j:Int):=by omega
   have hj1:(j:Int)<(n:Int):=by omega
   generalize hsj:sumE q.reverse (m-a) j=sj at *
   generalize hhj:qIb q.reverse (m-a) j=hj' at *
   generalize bkAt q.reverse j=x at *
   clear hsj hhj hcap hmx
   by_cases ht:m-a<x.t
   ·have hs1:sj+x.sz≤4398046511104∧0≤sj+x.sz:=by
     have h1:=uh HS
     rw [if_pos ht] at h1
     omega
    obtain ⟨hs2,hs3⟩:=hs1
    have hws:IntKind.i64.wrap (sj+x.sz)=sj+x.sz:=by rw [IntKind.wrap_i64];omega
    have HT:=hide ht
    clear hb1 hb2 hb3 hb4
    go_wp2
    go_round
    case rel=>exact ⟨j+1,by go_num,by omega,by rw [uh HS,if_pos (uh HT)],by rw [uh HH,if_pos (uh HT)]⟩
    case measure=>simp [intOf];omega
   ·have HT:=hide ht
    clear hb1 hb2 hb3 hb4
    go_wp2
    go_round
    case rel=>exact ⟨j+1,by go_num,by omega,by rw [uh HS,if_neg (by have:=uh HT;omega),Int.add_zero],by rw [uh HH,if_neg (by have:=uh HT;omega)]⟩
    case measure=>simp [intOf];omega
  ·have hjn':j=n:=by omega
   subst hjn'
   have hb1:=uh HSB j (Nat.le_refl _)
   have hb2:=uh HHB j (Nat.le_refl _)
   have hb3:=uh HDR (j-j)
   have HE:=hide (uh HES)
   generalize sumE q.reverse (m-a) j=sj at *
   generalize qIb q.reverse (m-a) j=hj' at *
   have hw1:IntKind.i64.wrap (sj-hj')=sj-hj':=by rw [IntKind.wrap_i64];omega
   clear hb1 hb2 hb3
   go_wp2
   go_ret
   refine ⟨w1.heap.size,rfl,(uh HK).size,?_,(uh HK).alloc _⟩
   rw [←uh HE]
   exact Blk.new w1 [_] 3
end Go.Proofs.YtahnliehdjncdaaGreatDoor
