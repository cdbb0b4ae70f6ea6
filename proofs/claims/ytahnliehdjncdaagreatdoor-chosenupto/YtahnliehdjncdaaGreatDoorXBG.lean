import Derived.Test.YtahnliehdjncdaaGreatDoorXBF
import Derived.Test.YtahnliehdjncdaaGreatDoorXAY
import Derived.Test.YtahnliehdjncdaaGreatDoorXAX
import Derived.Laws.MathBits
import Derived.Lib.Tables
import Derived.Test.YtahnliehdjncdaaGreatDoorXAK
set_option maxRecDepth 100000
set_option maxHeartbeats 16000000
namespace Go.Proofs.YtahnliehdjncdaaGreatDoor
section
open Go.RowKit
attribute [local go_sem ↓] qAd qAe
attribute [local go_sem] qAh qAi qAb qAc qAp qAo qAf qAl
def qCf(k:Nat)(c:Cfg): List Int:=c.kind::([1,2,3].map c.num++((qDg k).map c.num++(qB8 (qB1 k c).toNat).map c.num))
theorem qJr{w:World}{cb:Nat}{c:Cfg}{l:List Nat}(h:Blk w cb c.cells 38)(hl:∀o,o∈l->o<20): PartsAt w (at' cb l) (l.map c.num):=by
 refine⟨by simp[at'],λi p n hp hn=>?_⟩
 unfold at' at hp
 rw[List.getElem?_map]at hp hn
 cases ho:l[i]? with
 | none=>rw[ho]at hp;cases hp
 | some o =>
  rw[ho]at hp hn
  simp only[Option.map_some,Option.some.injEq]at hp hn
  subst hp hn
  have h20:=hl o (List.mem_of_getElem? ho)
  refine h.cell ?_
  rw[Cfg.cells_nums,List.getElem?_map]
  unfold Cfg.num
  rw[List.getD_eq_getElem?_getD,List.getElem?_eq_getElem (by simpa[Cfg.nums] using h20)]
  rfl
theorem qUm(k:Nat): ∀o,o∈qDg k->o<20:=by
 unfold qDg
 split <;> simp
theorem qVc(n:Nat)(hn:n<=3): ∀o,o∈qB8 n->o<20:=by
 unfold qB8
 intro o ho
 simp at ho
 obtain⟨i,hi,rfl⟩:=ho
 omega
theorem qEs(b:Nat)(v:Value)(bs:List Nat)(pv:Value)(base cb:Nat)(l:List Nat)(ns:List Int)(w:World)(h:WRep w b v bs)(hp:w.ownsRow base 167 1 pv (at' cb l).length (qDv (at' cb l)))(ha:PartsAt w (at' cb l) ns)(hd:¬qBv b v cb)(hbase:∀i,base<=i->¬qBv b v i)(hn:∀n,n∈ns->0<=n/\n<=9223372036854775807)(hl:bs.length+10*ns.length<=140737488355300)(hl2:ns.length<=1000):
  Calls Tryz.prog 98 #[.pointer (some ⟨b,0,none⟩),pv] w λe w'=>e=.returned (.tuple #[])/\Wrote w b v (bs++qCv ns) w' :=
 qUo b v bs pv base (at' cb l) ns w h hp ha (λp hp h=>hd (by
      unfold at' at hp
      obtain⟨o,_,rfl⟩:=List.mem_map.1 hp
      exact h)) (λi hi=>hbase i (hp.lt i hi).1) hn hl hl2
structure SC (w:World) (cb kb b:Nat) (v:Value) (c:Cfg) (k:Nat) (w':World) (v':Value) (bs:List Nat):Prop where
 blk:Blk w' cb c.cells 38
 knd:Blk w' kb [.func (.func (qCb k)) #[] #[],.func (.func (qBe k)) #[] #[],.func (.func (qBf k)) #[] #[],.func (.func (qAz k)) #[] #[],.func (.func (qBd k)) #[] #[],.func (.func (qBk k)) #[] #[]] 82
 wr:WRep w' b v' bs
 ft:∀i,qBv b v' i->i<cb\/kb<i
 vv:∀i,v'.ownBlock=some i->v.ownBlock=some i\/w.heap.size<=i
 kp:Keeps (qBv b v) w w'
 le:cb<=kb
theorem SC.still{w:World}{cb kb b:Nat}{v:Value}{c:Cfg}{k:Nat}{w' w'':World}{v':Value}{bs:List Nat}(h:SC w cb kb b v c k w' v' bs)(hk:Keeps (λ_=>False) w' w''): SC w cb kb b v c k w'' v' bs :=
 ⟨h.blk.keeps hk (λh=>h),h.knd.keeps hk (λh=>h),h.wr.still hk,h.ft,h.vv,h.kp.trans hk (λ_ h=>h.elim),h.le⟩
theorem SC.not{w:World}{cb kb b:Nat}{v:Value}{c:Cfg}{k:Nat}{w':World}{v':Value}{bs:List Nat}(h:SC w cb kb b v c k w' v' bs)(i:Nat)(h1:cb<=i)(h2:i<=kb): ¬qBv b v' i:=λhf=>by
 rcases h.ft i hf with h | h <;> omega
theorem SC.wrote{w:World}{cb kb b:Nat}{v:Value}{c:Cfg}{k:Nat}{w' w'':World}{v':Value}{bs bs2:List Nat}(h:SC w cb kb b v c k w' v' bs)(hw:Wrote w' b v' bs2 w''): ∃v'',SC w cb kb b v c k w'' v'' bs2:=by
 obtain⟨v2,hw2,hv2,hk2⟩:=hw
 have hl:=h.knd.lt
 have hs:=h.kp.size
 refine⟨v2,h.blk.keeps hk2 (h.not cb (Nat.le_refl _) h.le),h.knd.keeps hk2 (h.not kb h.le (Nat.le_refl _)),hw2,λi hi=>?_,λi hi=>?_,h.kp.trans hk2 (λi hi hlt=>?_),h.le⟩
 ·rcases hi with hi | hi
  ·exact h.ft i (.inl hi)
  ·rcases hv2 i hi with h1 | h1
   ·exact h.ft i (.inr h1)
   ·exact .inr (by omega)
 ·rcases hv2 i hi with h1 | h1
  ·exact h.vv i h1
  ·exact .inr (by omega)
 ·rcases hi with hi | hi
  ·exact .inl hi
  ·rcases h.vv i hi with h1 | h1
   ·exact .inr h1
   ·omega
theorem qMr(bs:List Nat)(a b:List Int): bs++qCv a++qCv b=bs++qCv (a++b):=by rw[List.append_assoc,qAw]
theorem qK8(b:Nat)(v:Value)(bs:List Nat)(c:Cfg)(k:Nat)(w:World)(h:WRep w b v bs)(hkd:c.kind=k)(h1:1<=k)(h5:k<=5)(p0:0<=qB1 k c)(p3:qB1 k c<=3)(hn:∀n,n∈qCf k c->0<=n/\n<=9223372036854775807)(hl:bs.length<=140737488354000):
  Calls Tryz.prog 96 #[.pointer (some ⟨b,0,none⟩),c.val] w λe w'=>e=.returned (.tuple #[])/\Wrote w b v (bs++qCv (qCf k c)) w':=by
 obtain⟨W,hW⟩:∃W,W=w.alloc (.cells c.cells.toArray 38):=⟨_,rfl⟩
 have HB:=hide (show Blk W w.heap.size c.cells 38 by rw[hW];exact Blk.new w _ _)
 have HK:=hide (show Keeps (λ_=>False) w W by rw[hW];exact(Keeps.refl _ _).alloc _)
 have HW0:=hide (show w.alloc (.cells #[.int .i64 c.kind,.int .i64 c.lag,.int .i64 c.skew,.int .i64 c.cap,.int .i64 c.k,.int .i64 c.window,.int .i64 c.bits,.int .i64 c.rows,.int .i64 c.width,.int .i64 c.panes,.int .i64 c.size,.int .i64 c.degree,.int .i64 c.half,.int .i64 c.mark,.int .i64 c.s00,.int .i64 c.s01,.int .i64 c.s10,.int .i64 c.s11,.int .i64 c.s20,.int .i64 c.s21] 38)=W from hW.symm)
 have HW:=hide (h.still (uh HK))
 have HLT:=hide (show ∀i,qBv b v i->i<w.heap.size from h.lt)
 have HN:=hide hn
 have HKD:=hide hkd
 have HP:=hide (show ∃n:Nat,qB1 k c=n/\n<=3 from⟨(qB1 k c).toNat,by omega,by omega⟩)
 have HF:=hide (qH1 c.kind k W hkd h1 h5)
 have HCN:=hide (show qCf k c=c.kind::([1,2,3].map c.num++((qDg k).map c.num++(qB8 (qB1 k c).toNat).map c.num)) from rfl)
 have c0:W.cell? ⟨w.heap.size,0,none⟩=some (.int .i64 c.kind):=(uh HB).cell rfl
 clear hW h hn hkd p0 p3
 unfold Cfg.val
 go_enter Tryz.func96,Tryz.ntmps96
 go_wp2_with fail
 rw[uh HW0]
 refine(uh HF).mono ?_
 rintro e w1 ⟨rfl,hk1⟩
 unfold qA6 fn
 have HT1:=hide (Blk.new w1 [.func (.func (qCb k)) #[] #[],.func (.func (qBe k)) #[] #[],.func (.func (qBf k)) #[] #[],.func (.func (qAz k)) #[] #[],.func (.func (qBd k)) #[] #[],.func (.func (qBk k)) #[] #[]] 82)
 have hka:=hk1.alloc (.cells #[.func (.func (qCb k)) #[] #[],.func (.func (qBe k)) #[] #[],.func (.func (qBf k)) #[] #[],.func (.func (qAz k)) #[] #[],.func (.func (qBd k)) #[] #[],.func (.func (qBk k)) #[] #[]] 82)
 have HB1:=hide ((uh HB).keeps hka (λh=>h))
 have HW1:=hide ((uh HW).still hka)
 have HK1:=hide ((uh HK).then hka)
 have hc1:w1.cell? ⟨w.heap.size,0,none⟩=some (.int .i64 c.kind):=((uh HB).keeps hk1 (λh=>h)).cell rfl
 have hlt1:w.heap.size<w1.heap.size:=((uh HB).keeps hk1 (λh=>h)).lt
 clear hk1 hka c0 HW0 HF HB HW HK
 go_wp2_with fail
 clear hc1
 generalize hkb:w1.heap.size=kb at *
 generalize w1.alloc (.cells #[.func (.func (qCb k)) #[] #[],.func (.func (qBe k)) #[] #[],.func (.func (qBf k)) #[] #[],.func (.func (qAz k)) #[] #[],.func (.func (qBd k)) #[] #[],.func (.func (qBk k)) #[] #[]] 82)=w2 at *
 clear hkb w1
 generalize hcb:w.heap.size=cb at *
 have HCB:=hide hcb
 clear hcb
 have HSZ2:=hide (show kb+1<=w2.heap.size from(uh HT1).lt)
 have hb1:=uh HN c.kind (by rw[uh HCN];simp)
 -- the kind
 have HS2:=hide (show SC w cb kb b v c k w2 v bs from⟨uh HB1,uh HT1,uh HW1,λi hi=>.inl (uh HLT i hi),λi hi=>.inl hi,(uh HK1).mono (λ_ _ h=>h.elim),by omega⟩)
 clear HB1 HT1 HW1 HK1 HSZ2
 have HLK:=hide (show(qDg k).length<=4 by unfold qDg;split <;> simp)
 obtain⟨pn,hpn,hpn3⟩:=uh HP
 have HPN:=hide hpn
 have HLS:=hide (show(qB8 pn).length<=6 by simp[qB8];omega)
 have HC2:=hide (show qCf k c=[c.kind]++[1,2,3].map c.num++(qDg k).map c.num++(qB8 pn).map c.num by rw[uh HCN,hpn,Int.toNat_natCast];simp)
 clear hpn HCN
 refine(qC2 b v bs c.kind w2 (uh HS2).wr hb1.1 hb1.2 (by omega)).mono ?_
 rintro e w3 ⟨rfl,hw3⟩
 obtain⟨v3,hs3⟩:=(uh HS2).wrote hw3
 rw[<-qCp]at hs3
 have HS3:=hide hs3
 clear hw3 hs3 HS2
 go_wp2_with fail
 refine(qO0 cb w3).mono ?_
 rintro e w4 ⟨pv,rfl,hown4,hk4⟩
 obtain⟨pa,pcap,hpv,_⟩:=qDb hown4
 subst hpv
 have HL3:=hide (uh HS3).wr.lt
 have HS4:=hide ((uh HS3).still hk4)
 have HO4:=hide hown4
 clear hown4 hk4 HS3
 go_wp2_with fail
 refine(qEs b v3 _ _ w3.heap.size cb [1,2,3] ([1,2,3].map c.num) w4 (uh HS4).wr (uh HO4) (qJr (uh HS4).blk (by simp)) ((uh HS4).not cb (Nat.le_refl _) (uh HS4).le) (λi hi h=>by have:=uh HL3 i h;omega) (λn hn=>uh HN n (by rw[uh HC2];simp only[List.mem_append];exact .inl (.inl (.inr hn)))) (by have:=qAv [c.kind];simp[qCp]at this ⊢;have h2:=qAv [c.kind];simp at h2;omega) (by simp)).mono ?_
 rintro e w5 ⟨rfl,hw5⟩
 obtain⟨v5,hs5⟩:=(uh HS4).wrote hw5
 rw[qMr]at hs5
 have HS5:=hide hs5
 clear hw5 hs5 HS4 HO4 HL3
 have k1:w5.cell? ⟨kb,1,none⟩=some (.func (.func (qBe k)) #[] #[]):=(uh HS5).knd.cell rfl
 have hown1:=qT3 k h1 h5
 go_wp2_with fail
 refine(qWk k cb w5 h1 h5).mono ?_
 rintro e w6 ⟨pv,rfl,hown6,hk6⟩
 obtain⟨pa6,pcap6,hpv,_⟩:=qDb hown6
 subst hpv
 have HL5:=hide (uh HS5).wr.lt
 have HS6:=hide ((uh HS5).still hk6)
 have HO6:=hide hown6
 clear hown6 hk6 HS5 k1 hown1
 go_wp2_with fail
 refine(qEs b v5 _ _ w5.heap.size cb (qDg k) ((qDg k).map c.num) w6 (uh HS6).wr (by have:=uh HO6;exact this) (qJr (uh HS6).blk (qUm k)) ((uh HS6).not cb (Nat.le_refl _) (uh HS6).le) (λi hi h=>by have:=uh HL5 i h;omega) (λn hn=>uh HN n (by rw[uh HC2];simp only[List.mem_append];exact .inl (.inr hn))) (by have h2:=qAv ([c.kind]++[1,2,3].map c.num);have h3:=uh HLK;simp at h2 ⊢;omega) (by have h3:=uh HLK;simp;omega)).mono ?_
 rintro e w7 ⟨rfl,hw7⟩
 obtain⟨v7,hs7⟩:=(uh HS6).wrote hw7
 rw[qMr]at hs7
 have HS7:=hide hs7
 clear hw7 hs7 HS6 HO6 HL5
 have k2:w7.cell? ⟨kb,2,none⟩=some (.func (.func (qBf k)) #[] #[]):=(uh HS7).knd.cell rfl
 obtain⟨hv7,hh7⟩:=qBq (uh HS7).blk 20 rfl
 have hown2:=qU9 k h1 h5
 go_wp2_with fail
 refine(qVf k c w7 h1 h5).mono ?_
 rintro e w8 ⟨rfl,hk8⟩
 rw[uh HPN]
 have HS8:=hide ((uh HS7).still hk8)
 clear hk8 HS7 k2 hown2 hv7 hh7
 go_wp2_with fail
 refine(qUr cb pn w8 hpn3).mono ?_
 rintro e w9 ⟨pv,rfl,hown9,hk9⟩
 obtain⟨pa9,pcap9,hpv,_⟩:=qDb hown9
 subst hpv
 have HL8:=hide (uh HS8).wr.lt
 have HS9:=hide ((uh HS8).still hk9)
 have HO9:=hide hown9
 clear hown9 hk9 HS8
 go_wp2_with fail
 refine(qEs b v7 _ _ w8.heap.size cb (qB8 pn) ((qB8 pn).map c.num) w9 (uh HS9).wr (by have:=uh HO9;exact this) (qJr (uh HS9).blk (qVc pn hpn3)) ((uh HS9).not cb (Nat.le_refl _) (uh HS9).le) (λi hi h=>by have:=uh HL8 i h;omega) (λn hn=>uh HN n (by rw[uh HC2];simp only[List.mem_append];exact .inr hn)) (by have h2:=qAv ([c.kind]++[1,2,3].map c.num++(qDg k).map c.num);have h3:=uh HLK;have h4:=uh HLS;simp at h2 ⊢;omega) (by have h4:=uh HLS;simp;omega)).mono ?_
 rintro e wa ⟨rfl,hwa⟩
 obtain⟨va,hsa⟩:=(uh HS9).wrote hwa
 rw[qMr,<-uh HC2]at hsa
 have HSA:=hide hsa
 clear hwa hsa HS9 HO9 HL8
 go_wp2
 go_end0
 exact⟨rfl,va,(uh HSA).wr,(uh HSA).vv,(uh HSA).kp⟩
end
section
open Go.RowKit
theorem qEm{b:Nat}{v v1:Value}{s cb:Nat}(h0:¬qBv b v cb)(hv:∀i,v1.ownBlock=some i->v.ownBlock=some i\/s<=i)(hc:cb<s): ¬qBv b v1 cb:=by
 rintro (h | h)
 ·exact h0 (.inl h)
 ·rcases hv cb h with h | h
  ·exact h0 (.inr h)
  ·omega
theorem Wrote.pre{w w1 w2:World}{b:Nat}{v:Value}{bs:List Nat}(hk:Keeps (λ_=>False) w w1)(h:Wrote w1 b v bs w2): Wrote w b v bs w2 :=
 Wrote.then (λ_ hi=>.inl hi) (hk.mono (λ_ _ h=>h.elim)) h
def qLg(l:List Dr.It): List Int:=l.flatMap λx=>[x.n,x.t,x.k,x.d]
theorem qJo(a b:List Dr.It): qLg (a++b)=qLg a++qLg b:=by simp[qLg]
theorem qKh(l:List Dr.It): (qLg l).length=4*l.length:=by
 induction l with
 | nil=>rfl
 | cons x l ih=>simp[qLg]at ih ⊢;omega
theorem qPe(r:List Dr.It)(k:Nat)(hk:k<r.length): qLg (r.take (k+1))=qLg (r.take k)++[(Dr.itAt r k).n,(Dr.itAt r k).t,(Dr.itAt r k).k,(Dr.itAt r k).d]:=by
 rw[List.take_add_one,qJo,List.getElem?_eq_getElem hk]
 simp[qLg,Dr.itAt,List.getD_eq_getElem?_getD,List.getElem?_eq_getElem hk]
theorem qSs{w:World}{cb:Nat}{t k d:Int}{l:List Value}{T:Nat}(h:Blk w cb (.int .i64 t::.int .i64 k::.int .i64 d::l) T): PartsAt w (at' cb [0,1,2]) [t,k,d]:=by
 refine⟨by simp[at'],λi p n hp hn=>?_⟩
 match i with
 | 0=>simp[at']at hp hn;subst hp hn;exact h.cell rfl
 | 1=>simp[at']at hp hn;subst hp hn;exact h.cell rfl
 | 2=>simp[at']at hp hn;subst hp hn;exact h.cell rfl
 | i+3=>simp[at']at hp
theorem qQl(d q:Nat)(og:Option Nat)(c:Cfg)(l:List Dr.It)(b:Nat)(v:Value)(bs:List Nat)(m:Int)(w:World)(h:TRep w d q og c l)(hw:WRep w b v bs)(hl:l.length<=6)(hn:∀n,n∈qLg (Dr.allL (l.length+1) l)->0<=n/\n<=9223372036854775807)(hbl:bs.length<=140737488354000):
  Calls Tryz.prog 185 #[.pointer (some ⟨d,0,none⟩),.pointer (some ⟨b,0,none⟩),.int .i64 m] w λe w'=>e=.returned (.tuple #[])/\Wrote w b v (bs++qCv (qLg (Dr.allL (l.length+1) l))) w':=by
 have c20:w.cell? ⟨d,20,none⟩=some (.pointer (some ⟨q,0,none⟩)):=h.blk.cell rfl
 have hA:=qT7 q og l w h.que (by omega)
 clear h
 generalize Dr.allL (l.length+1) l=r at *
 generalize l.length=n at *
 have HA:=hide hA
 have HW:=hide hw
 have HNR:=hide hn
 clear hw hn hA
 go_enter Tryz.func185,Tryz.ntmps185
 go_wp2_with fail
 refine(uh HA).mono ?_
 rintro e W1 ⟨g,cp,rfl,hg,hr1,hlen,hk1⟩
 have HR:=hide hr1
 have HLN:=hide hlen
 have HK1:=hide hk1
 have HG:=hide (show ¬qBv b v g from λhf=>by have:=(uh HW).lt g hf;omega)
 have HW1:=hide ((uh HW).still hk1)
 have hn6:n<=6:=by omega
 clear hr1 hlen hk1 hg c20 HA
 go_wp2_with fail
 go_loopw [14] (λi wr=>∃(k:Nat),i=.int .i64 k/\k<=n/\Hid (Wrote W1 b v (bs++qCv (qLg (r.take k))) wr)) (λi _=>n-(intOf i).toNat)
 case atStart=>exact⟨0,rfl,Nat.zero_le _,by show Wrote _ _ _ _ _;simp only[List.take_zero,qLg,List.flatMap_nil,qC1,List.append_nil];exact Wrote.refl (uh HW1)⟩
 case round =>
  obtain⟨k,rfl,hk,HO⟩:=hrel
  by_cases hlk:k<n
  ·obtain⟨v',hwr,hvr,hkr⟩:=uh HO
   have hkn:k<r.length:=by rw[uh HLN];exact hlk
   obtain⟨x0,x1,x2,x3,x4⟩:=((uh HR).keeps hkr (uh HG)).cells k hkn
   have HTK:=hide (qPe r k hkn)
   have HNX:=hide (show ∀n,n∈[(Dr.itAt r k).n,(Dr.itAt r k).t,(Dr.itAt r k).k,(Dr.itAt r k).d]->0<=n/\n<=9223372036854775807 from λn hn=>uh HNR n (by
        have e:qLg (r.take (k+1)++r.drop (k+1))=qLg r:=by rw[List.take_append_drop]
        rw[<-e,qJo,qPe r k hkn]
        simp only[List.mem_append]
        exact .inl (.inr hn)))
   have HLT:=hide hwr.lt
   have HWr:=hide hwr
   have HVr:=hide hvr
   have HKr:=hide hkr
   have hk0:(0:Int)<=(k:Int):=by omega
   have hkE:(k:Int)<(n:Int):=by omega
   generalize Dr.itAt r k=x at *
   have hlb:(bs++qCv (qLg (r.take k))).length<=140737488354240:=by
    have h1:=qAv (qLg (r.take k))
    rw[qKh,List.length_take]at h1
    rw[List.length_append];omega
   clear hwr hvr hkr HO
   obtain⟨wa,hwa⟩:∃wa,wa=wr.alloc (.cells #[.int .i64 x.t,.int .i64 x.k,.int .i64 x.d,.int .i64 x.n,.int .i64 x.v] 251):=⟨_,rfl⟩
   have HBa:=hide (show Blk wa wr.heap.size [.int .i64 x.t,.int .i64 x.k,.int .i64 x.d,.int .i64 x.n,.int .i64 x.v] 251 by rw[hwa];exact Blk.new wr _ _)
   have HKa:=hide (show Keeps (λ_=>False) wr wa by rw[hwa];exact(Keeps.refl _ _).alloc _)
   have HWa:=hide ((uh HWr).still (uh HKa))
   have HNF:=hide (show ¬qBv b v' wr.heap.size from λhf=>by have:=uh HLT _ hf;omega)
   obtain⟨n0,n1⟩:=uh HNX x.n (by simp)
   have hc3:wa.cell? ⟨wr.heap.size,3,none⟩=some (.int .i64 x.n):=(uh HBa).cell rfl
   have HEQ:=hide hwa.symm
   clear hwa
   go_wp2_with fail
   rw[uh HEQ]
   refine(qC2 b v' _ x.n wa (uh HWa) n0 n1 (by omega)).mono ?_
   rintro e w2 ⟨rfl,v2,hw2,hv2,hk2⟩
   have hlt2:wr.heap.size<wa.heap.size:=(uh HBa).lt
   have HB2:=hide ((uh HBa).keeps hk2 (uh HNF))
   have HNF2:=hide (qEm (uh HNF) hv2 hlt2)
   have HW2:=hide hw2
   have HV2:=hide hv2
   have HK2:=hide hk2
   have HL2:=hide hw2.lt
   clear hw2 hv2 hk2 hc3 HBa
   go_wp2_with fail
   refine(qR6 wr.heap.size w2).mono ?_
   rintro e w3 ⟨pv,rfl,hown3,hk3⟩
   obtain⟨pa,pcap,hpv,_⟩:=qDb hown3
   subst hpv
   have HW3:=hide ((uh HW2).still hk3)
   have HB3:=hide ((uh HB2).keeps hk3 (λh=>h))
   have HO3:=hide hown3
   have HK3:=hide hk3
   clear hown3 hk3
   go_wp2_with fail
   refine(qEs b v2 _ _ w2.heap.size wr.heap.size [0,1,2] [x.t,x.k,x.d] w3 (uh HW3) (uh HO3) (qSs (uh HB3)) (uh HNF2) (λi hi h=>by have:=uh HL2 i h;omega) (λn hn=>uh HNX n (by simp at hn ⊢;exact .inr hn)) (by have:=qBc x.n;rw[List.length_append];show _+10*3<=_;omega) (by simp)).mono ?_
   rintro e w4 ⟨rfl,hw4⟩
   have HF:=hide (show Wrote W1 b v (bs++qCv (qLg (r.take (k+1)))) w4 by
      have hA:=Wrote.then (uh HVr) (uh HKr) (Wrote.pre (uh HKa) (Wrote.then (uh HV2) (uh HK2) (Wrote.pre (uh HK3) hw4)))
      rw[uh HTK,qAw]
      have e:qCv [x.n,x.t,x.k,x.d]=enc x.n++qCv [x.t,x.k,x.d]:=qBz _ _
      rw[e]
      simp only[List.append_assoc]at hA ⊢
      exact hA)
   clear hw4
   go_wp2
   go_roundw
   case rel=>exact⟨k+1,by go_num,by omega,HF⟩
   case measure=>simp[intOf];omega
  ·have hkE:k=n:=by omega
   subst hkE
   go_wp2
   go_end0
   refine⟨rfl,?_⟩
   have h:=uh HO
   rw[<-uh HLN,List.take_length]at h
   exact Wrote.pre (uh HK1) h
end
section
open Go.RowKit
attribute [local go_sem ↓] Mk.execOp_fieldMk
attribute [local go_sem] Mk.run_fieldMk0 Mk.run_fieldMk1
theorem Wrote.kp{w w1:World}{b:Nat}{v:Value}{bs:List Nat}(h:Wrote w b v bs w1): Keeps (qBv b v) w w1:=by obtain⟨_,_,_,hk⟩:=h;exact hk
theorem Wrote.still{w w1 w2:World}{b:Nat}{v:Value}{bs:List Nat}(h:Wrote w b v bs w1)(hk:Keeps (λ_=>False) w1 w2): Wrote w b v bs w2:=by
 obtain⟨v',a,c,d⟩:=h
 exact⟨v',a.still hk,c,d.trans hk (λ_ h=>h.elim)⟩
theorem qBp(b:Nat)(v:Value)(bs:List Nat)(n:Int)(w w1:World)(h:Wrote w b v bs w1)(n0:0<=n)(n1:n<=9223372036854775807)(hl:bs.length<=140737488355300):
  Calls Tryz.prog 71 #[.pointer (some ⟨b,0,none⟩),.int .i64 n] w1 λe w'=>e=.returned (.tuple #[])/\Wrote w b v (bs++enc n) w':=by
 obtain⟨v',a,c,d⟩:=h
 exact(qC2 b v' bs n w1 a n0 n1 hl).mono λe w' ⟨he,hw⟩=>⟨he,Wrote.then c d hw⟩
def qEr(l:List Bk): List Int:=l.flatMap λb=>[b.sz,b.t]
theorem qNx(a b:List Bk): qEr (a++b)=qEr a++qEr b:=by simp[qEr]
theorem qHk(l:List Bk): (qEr l).length=2*l.length:=by
 induction l with
 | nil=>rfl
 | cons x l ih=>simp[qEr]at ih ⊢;omega
def zAr(l:List Bk)(t:Int): List Int:=((l.length-Mk.pastN l t:Nat):Int)::qEr (l.drop (Mk.pastN l t))
theorem qQe(l:List Bk)(t:Int): (zAr l t).length<=1+2*l.length:=by
 unfold zAr
 rw[List.length_cons,qHk,List.length_drop];omega
def qSd(ls:Nat->List Bk)(n:Nat)(t:Int): List Int:=(List.range n).flatMap λi=>zAr (ls i) t
theorem qPh(ls:Nat->List Bk)(n:Nat)(t:Int): qSd ls (n+1) t=qSd ls n t++zAr (ls n) t:=by
 simp[qSd,List.range_succ]
theorem qKf(ls:Nat->List Bk)(n:Nat)(t:Int)(h:∀i,(ls i).length<=40): (qSd ls n t).length<=81*n:=by
 induction n with
 | zero=>simp[qSd]
 | succ n ih=>have h1:=qQe (ls n) t;have h2:=h n;rw[qPh,List.length_append];omega
theorem qS6(l:List Bk)(p j:Nat)(x:Bk)(h:p+j<l.length)(hx:qCh l (p+j)=x): qEr ((l.drop p).take (j+1))=qEr ((l.drop p).take j)++[x.sz,x.t]:=by
 have hj:j<(l.drop p).length:=by rw[List.length_drop];omega
 rw[List.take_add_one,qNx,List.getElem?_eq_getElem hj]
 subst hx
 simp[qEr,qCh,List.getD_eq_getElem?_getD,List.getElem?_eq_getElem h]
theorem qYd{l:List Bk}{i:Nat}(h:i<l.length): qCh l i∈l:=by
 have:qCh l i=l[i]:=by simp[qCh,List.getD_eq_getElem?_getD,List.getElem?_eq_getElem h]
 rw[this];exact List.getElem_mem h
theorem qRa(d rg:Nat)(qs:List (Nat×Option Nat))(c:Cfg)(ls:Nat->List Bk)(b:Nat)(v:Value)(bs:List Nat)(m:Int)(w:World)(h:DRep w d rg qs c ls)(hw:WRep w b v bs)(hf:∀i,qBv b v i->i≠d/\i≠rg/\∀j,j<qs.length->¬qf (qAt qs j) i)(hq2:qs.length<=16)(w0:0<=c.window)(w1:c.window<=1000)(m0:-100<=m)(m1:m<=4611686018427387904)(hl:∀i,(ls i).length<=40)(hr:∀i,∀b∈ls i,0<=b.sz/\b.sz<=4611686018427387904/\1<=b.t/\b.t<=40)(hbl:bs.length<=140737488300000):
  Calls Tryz.prog 169 #[.pointer (some ⟨d,0,none⟩),.pointer (some ⟨b,0,none⟩),.int .i64 m] w λe w'=>e=.returned (.tuple #[])/\Wrote w b v (bs++qCv (qSd ls qs.length (m-c.window))) w':=by
 obtain⟨n,hn⟩:∃n,n=qs.length:=⟨_,rfl⟩
 have c20:w.cell? ⟨d,20,none⟩=some (.slice (some ⟨rg,0,none⟩) n n):=by rw[hn];exact h.blk.cell rfl
 have HD:=hide (show ∀w',Keeps (qBv b v) w w'->DRep w' d rg qs c ls from λw' hk=>h.keeps hk (λhi=>(hf d hi).1 rfl) (λhi=>(hf rg hi).2.1 rfl) (λj a hj hq hi=>(hf a hi).2.2 j hj hq))
 have HW:=hide hw
 have HL:=hide hl
 have HR:=hide hr
 have HN:=hide hn
 rw[<-hn]at hq2 ⊢
 obtain⟨t,ht⟩:∃t,m-c.window=t:=⟨_,rfl⟩
 rw[ht]
 have hsub:IntKind.i64.wrap (m-c.window)=t:=by rw[IntKind.wrap_i64];omega
 clear h hw hf hl hr hn
 have hn0:(0:Int)<=(n:Int):=by omega
 go_enter Tryz.func169,Tryz.ntmps169
 go_wp2_with fail
 clear c20
 go_loopw [15] (λi wr=>∃(k:Nat),i=.int .i64 k/\k<=n/\Hid (Wrote w b v (bs++qCv (qSd ls k t)) wr)) (λi _=>n-(intOf i).toNat)
 case atStart=>exact⟨0,rfl,Nat.zero_le _,by show Wrote _ _ _ _ _;simp only[qSd,List.range_zero,List.flatMap_nil,qC1,List.append_nil];exact Wrote.refl (uh HW)⟩
 case round =>
  obtain⟨k,rfl,hk,HO⟩:=hrel
  have hk0:(0:Int)<=(k:Int):=by omega
  by_cases hlt:k<n
  ·have hkn:(k:Int)<(n:Int):=by omega
   have hkq:k<qs.length:=by have:=uh HN;omega
   have HDr:=hide (uh HD wr (uh HO).kp)
   obtain⟨q,hq'⟩:∃q,qAt qs k=q:=⟨_,rfl⟩
   have cr:wr.cell? ⟨rg,k,none⟩=some (.pointer (some ⟨q.1,0,none⟩)):=by rw[<-hq'];exact(uh HDr).reg.cell (qH2 hkq)
   have c5:wr.cell? ⟨d,5,none⟩=some (.int .i64 c.window):=(uh HDr).blk.cell rfl
   have HRow:=hide (show ∀w',Keeps (qBv b v) w w'->Mk.RowRep w' q.1 q.2 (ls k) from λw' hk'=>by rw[<-hq'];exact(uh HD w' hk').row k hkq)
   have HP:=hide (Mk.past_any q.1 q.2 (ls k) t wr (uh HRow wr (uh HO).kp) (by have:=uh HL k;omega))
   have HLk:=hide (qPh ls k t)
   have HLN:=hide (qKf ls k t (uh HL))
   obtain⟨l,hl⟩:∃l,ls k=l:=⟨_,rfl⟩
   have HRl:=hide (uh HR k)
   have hlk:=uh HL k
   rw[hl]at HRl HP HRow HLk hlk
   have hple:=Mk.pastN_le l t
   obtain⟨len,hlen⟩:∃len,l.length=len:=⟨_,rfl⟩
   obtain⟨p,hp⟩:∃p,Mk.pastN l t=p:=⟨_,rfl⟩
   have HSR:=hide (show zAr l t=((len-p:Nat):Int)::qEr (l.drop p) by unfold zAr;rw[hp,hlen])
   rw[hp]at HP hple
   rw[hlen]at hple hlk
   have HLE:=hide hlen
   obtain⟨r,hr⟩:∃r:Nat,len-p=r:=⟨_,rfl⟩
   have hrI:(len:Int)-(p:Int)=(r:Int):=by omega
   have hwr1:IntKind.i64.wrap ((len:Int)-(p:Int))=(r:Int):=by rw[IntKind.wrap_i64];omega
   rw[hr]at HSR
   clear hl hlen hp hq' hkq HDr
   go_wp2_with fail
   refine(uh HP).mono ?_
   rintro e W1 ⟨rfl,hk1⟩
   have HO1:=hide ((uh HO).still hk1)
   clear hk1 cr c5 HP
   go_wp2_with (go_at_call 211;refine(Mk.rowLen_int q.1 q.2 l len _ (uh HRow _ (uh HO1).kp) (by rw[uh HLE])).mono ?_;rintro e w' ⟨rfl,hw'⟩;rw[hw'];clear hw' w')
   have hlb:(bs++qCv (qSd ls k t)).length<=140737488320000:=by
    have h1:=qAv (qSd ls k t)
    have h2:=uh HLN
    rw[List.length_append];omega
   refine(qBp b v _ r w W1 (uh HO1) (by omega) (by omega) (by omega)).mono ?_
   rintro e W2 ⟨rfl,hw2⟩
   have HO2:=hide hw2
   clear hw2 HO1 HO
   go_wp2_with fail
   go_loopw [9] (λi wr=>∃(j:Nat),i=.int .i64 ((p+j:Nat):Int)/\j<=r/\Hid (Wrote w b v (bs++qCv (qSd ls k t)++enc r++qCv (qEr ((l.drop p).take j))) wr)) (λi _=>len-(intOf i).toNat)
   case atStart=>exact⟨0,rfl,Nat.zero_le _,by show Wrote _ _ _ _ _;simp only[List.take_zero,qEr,List.flatMap_nil,qC1,List.append_nil];exact uh HO2⟩
   case round =>
    obtain⟨j,rfl,hj,HOr⟩:=hrel
    obtain⟨pj,hpj⟩:∃pj,p+j=pj:=⟨_,rfl⟩
    rw[hpj]
    by_cases hjr:j<r
    ·have hpl:pj<len:=by omega
     have hplI:(pj:Int)<(len:Int):=by omega
     have hpl2:pj<l.length:=by rw[uh HLE];exact hpl
     obtain⟨x,hx⟩:∃x,qCh l pj=x:=⟨_,rfl⟩
     have HX:=hide hx
     have HNX:=hide (qS6 l p j x (by rw[hpj];exact hpl2) (by rw[hpj];exact hx))
     obtain⟨x0,x1,x2,x3⟩:=uh HRl x (by rw[<-hx];exact qYd hpl2)
     have HPL:=hide hpl2
     have hlb2:(bs++qCv (qSd ls k t)++enc r++qCv (qEr ((l.drop p).take j))).length<=140737488330000:=by
      have h1:=qAv (qEr ((l.drop p).take j))
      have h2:=qBc r
      rw[qHk,List.length_take,List.length_drop,uh HLE]at h1
      rw[List.length_append,List.length_append]
      omega
     clear hx hpl2
     go_wp2_with (first
        | (go_at_call 211;refine(Mk.rowLen_int q.1 q.2 l len _ (uh HRow _ (uh HOr).kp) (by rw[uh HLE])).mono ?_;rintro e w' ⟨rfl,hw'⟩;rw[hw'];clear hw' w')
        | (go_at_call 212;fail))
     refine(Mk.rowAt_is q.1 q.2 l pj x _ (uh HRow _ (uh HOr).kp) (uh HPL) (uh HX)).mono ?_
     rintro e W3 ⟨rfl,hk3⟩
     have HO3:=hide ((uh HOr).still hk3)
     clear hk3
     go_wp2_with fail
     refine(qBp b v _ x.sz w W3 (uh HO3) (by omega) (by omega) (by omega)).mono ?_
     rintro e W4 ⟨rfl,hw4⟩
     have HO4:=hide hw4
     clear hw4 HO3
     go_wp2_with fail
     refine(Mk.rowAt_is q.1 q.2 l pj x _ (uh HRow _ (uh HO4).kp) (uh HPL) (uh HX)).mono ?_
     rintro e W5 ⟨rfl,hk5⟩
     have HO5:=hide ((uh HO4).still hk5)
     clear hk5 HO4
     go_wp2_with fail
     refine(qBp b v _ x.t w W5 (uh HO5) (by omega) (by omega) (by have:=qBc x.sz;rw[List.length_append];omega)).mono ?_
     rintro e W6 ⟨rfl,hw6⟩
     have HO6:=hide hw6
     clear hw6 HO5
     go_wp2
     go_roundw
     case rel =>
      refine⟨j+1,by go_num,by omega,?_⟩
      show Wrote _ _ _ _ _
      have:=uh HO6
      rw[uh HNX,qAw,qBz,qCp]
      simp only[List.append_assoc]at this ⊢
      exact this
     case measure=>simp[intOf];omega
    ·have hjE:j=r:=by omega
     have hpl:pj=len:=by omega
     clear hpj
     subst hpl
     have hf:decide ((pj:Int)<(pj:Int))=false:=by simp
     go_wp2_with (go_at_call 211;refine(Mk.rowLen_int q.1 q.2 l pj _ (uh HRow _ (uh HOr).kp) (by rw[uh HLE])).mono ?_;rintro e w' ⟨rfl,hw'⟩;rw[hw'];clear hw' w')
     go_roundw
     case rel =>
      refine⟨k+1,by go_num,by omega,?_⟩
      show Wrote _ _ _ _ _
      have:=uh HOr
      rw[uh HLk,uh HSR,qAw,qBz]
      rw[List.take_of_length_le (by rw[List.length_drop,uh HLE];omega)]at this
      simp only[List.append_assoc]at this ⊢
      exact this
     case measure=>simp[intOf];omega
  ·have hkE:k=n:=by omega
   subst hkE
   go_wp2
   go_end0
   exact⟨rfl,uh HO⟩
end
section
open Go.RowKit
attribute [local go_sem ↓] Pa.execOp_loadP Pa.execOp_storeP qDi qC0 qCz qEc
attribute [local go_sem] Pa.run_loadP qFe qEf qEd qA1 qAb qAc qGz qFd
def qTe(wd:Nat)(cs:List Int)(r:Nat): List Int:=(List.range wd).map λj=>cs.getD (r*16+j) 0
def qGl(rs wd:Nat)(cs:List Int): List Int:=(List.range rs).flatMap (qTe wd cs)
def qQa(c:Cfg)(p:Pa.Pn): List Int:=p.no::qGl c.rows.toNat c.width.toNat p.cs
def qDl(c:Cfg)(l:List Pa.Pn): List Int:=l.flatMap (qQa c)
def savO(c:Cfg)(o:Pa.Pn)(cl:List Pa.Pn)(t:Int): List Int:=((qC4 c o cl t).length:Int)::qDl c (qC4 c o cl t)
theorem qWq(wd:Nat)(cs:List Int)(r:Nat): qTe (wd+1) cs r=qTe wd cs r++[cs.getD (r*16+wd) 0]:=by simp[qTe,List.range_succ]
theorem qJ4(rs wd:Nat)(cs:List Int): qGl (rs+1) wd cs=qGl rs wd cs++qTe wd cs rs:=by simp[qGl,List.range_succ]
theorem qJ3(wd:Nat)(cs:List Int)(r:Nat): (qTe wd cs r).length=wd:=by simp[qTe]
theorem qHx(rs wd:Nat)(cs:List Int): (qGl rs wd cs).length=rs*wd:=by
 induction rs with
 | zero=>simp[qGl]
 | succ n ih=>rw[qJ4,List.length_append,qJ3,ih,Nat.succ_mul]
theorem qMn(c:Cfg)(a b:List Pa.Pn): qDl c (a++b)=qDl c a++qDl c b:=by simp[qDl]
theorem qN9(c:Cfg)(p:Pa.Pn)(h3:c.rows.toNat<=3)(h16:c.width.toNat<=16): (qQa c p).length<=49:=by
 unfold qQa
 rw[List.length_cons,qHx]
 have:=Nat.mul_le_mul h3 h16
 omega
theorem qH5(c:Cfg)(l:List Pa.Pn)(h3:c.rows.toNat<=3)(h16:c.width.toNat<=16): (qDl c l).length<=49*l.length:=by
 induction l with
 | nil=>simp[qDl]
 | cons p l ih =>
  have h1:=qN9 c p h3 h16
  have e:qDl c (p::l)=qQa c p++qDl c l:=by simp[qDl]
  rw[e,List.length_append,List.length_cons];omega
theorem qRe(c:Cfg)(L:List Pa.Pn)(k:Nat)(h:k<L.length): qDl c (L.take (k+1))=qDl c (L.take k)++qQa c (Pa.pnAt L k):=by
 rw[List.take_succ_eq_append_getElem h,qMn]
 congr 1
 simp[qDl,Pa.pnAt,List.getD_eq_getElem?_getD,List.getElem?_eq_getElem h]
theorem qQ8(d q:Nat)(og:Option Nat)(c:Cfg)(o:Pa.Pn)(cl:List Pa.Pn)(b:Nat)(v:Value)(bs:List Nat)(m:Int)(w:World)(h:ORep w d q og c o cl)(hw:WRep w b v bs)(hfd:¬qBv b v d)(hc:c.paned)(hl:cl.length<=1000)(hp:∀p∈cl,OkP c p)(ho:OkP c o)(hcs:∀x∈o.cs,0<=x/\x<=4611686018427387904)(hls:∀p∈cl,∀x∈p.cs,0<=x/\x<=4611686018427387904)(r0:0<=c.rows)(r3:c.rows<=3)(wd0:0<=c.width)(wd1:c.width<=16)(m0:-100<=m)(m1:m<=4611686018427387904)(hbl:bs.length<=140737480000000):
  Calls Tryz.prog 174 #[.pointer (some ⟨d,0,none⟩),.pointer (some ⟨b,0,none⟩),.int .i64 m] w λe w'=>e=.returned (.tuple #[])/\Wrote w b v (bs++qCv (savO c o cl (m-c.window))) w':=by
 have c5:w.cell? ⟨d,5,none⟩=some (.int .i64 c.window):=h.blk.cell (by rw[qBu c o q 5 (by omega)];rfl)
 have c7:w.cell? ⟨d,7,none⟩=some (.int .i64 c.rows):=h.blk.cell (by rw[qBu c o q 7 (by omega)];rfl)
 have c8:w.cell? ⟨d,8,none⟩=some (.int .i64 c.width):=h.blk.cell (by rw[qBu c o q 8 (by omega)];rfl)
 have hdl:=h.blk.lt
 have hw0:=hc.w0
 have hw1:=hc.w1
 obtain⟨t,ht⟩:∃t,m-c.window=t:=⟨_,rfl⟩
 have hsub:IntKind.i64.wrap (m-c.window)=t:=by rw[IntKind.wrap_i64];omega
 rw[ht]
 have HPN:=hide (qOh d q og c o cl t w h hc hl hp ho)
 have HSO:=hide (show savO c o cl t=((qC4 c o cl t).length:Int)::qDl c (qC4 c o cl t) from rfl)
 have HPL:=hide (show(qC4 c o cl t).length<=1001 by
    unfold qC4
    rw[List.length_append,List.length_drop]
    split <;> simp <;> omega)
 have HLS:=hide (show ∀p∈qC4 c o cl t,OkP c p/\∀x∈p.cs,0<=x/\x<=4611686018427387904 from λp hp'=>by
    unfold qC4 at hp'
    rcases List.mem_append.1 hp' with h1 | h1
    ·exact⟨hp p (List.mem_of_mem_drop h1),hls p (List.mem_of_mem_drop h1)⟩
    ·split at h1
     ·rw[List.mem_singleton]at h1;rw[h1];exact⟨ho,hcs⟩
     ·cases h1)
 generalize qC4 c o cl t=L at *
 have HW:=hide hw
 have HFD:=hide hfd
 have HTN:=hide ht
 obtain⟨rs,hrs⟩:∃rs:Nat,c.rows=rs:=⟨c.rows.toNat,by omega⟩
 obtain⟨wd,hwd⟩:∃wd:Nat,c.width=wd:=⟨c.width.toNat,by omega⟩
 have HPA:=hide (show ∀p,qQa c p=p.no::qGl rs wd p.cs from λp=>by unfold qQa;rw[hrs,hwd];rfl)
 have HR3:=hide (show c.rows.toNat<=3/\c.width.toNat<=16 by omega)
 rw[hrs]at c7 r3
 rw[hwd]at c8 wd1
 clear hc hp ho hcs hls h hl hw hfd ht hrs hwd r0 wd0
 have hrs3:rs<=3:=by omega
 have hwd16:wd<=16:=by omega
 go_enter Tryz.func174,Tryz.ntmps174
 go_wp2_with fail
 refine(uh HPN).mono ?_
 rintro e W1 ⟨pv,rfl,hown1,hk1⟩
 obtain⟨va,vcap,hv,hva⟩:=qDb hown1
 subst hv
 have HLT:=hide (uh HW).lt
 have HW1:=hide (Wrote.refl ((uh HW).still hk1))
 have HK1:=hide hk1
 have HOW:=hide hown1
 have HVA:=hide hva
 have d7:W1.cell? ⟨d,7,none⟩=some (.int .i64 rs):=hk1.cell c7 (λh=>h)
 have d8:W1.cell? ⟨d,8,none⟩=some (.int .i64 wd):=hk1.cell c8 (λh=>h)
 have hdl1:d<W1.heap.size:=Nat.lt_of_lt_of_le hdl hk1.size
 have HSZ:=hide hk1.size
 have HD7:=hide d7
 have HD8:=hide d8
 clear hk1 HPN hown1 hva c5 c7 c8 d7 d8 hdl hsub
 generalize hn:L.length=n at *
 have HN:=hide hn
 clear hn
 have hn1:n<=1001:=uh HPL
 go_wp2_with fail
 refine(qBp b v bs n W1 W1 (uh HW1) (by omega) (by omega) (by omega)).mono ?_
 rintro e W2 ⟨rfl,hw2⟩
 have HO2:=hide hw2
 clear hw2 HW1
 have hlen0:(bs++enc (n:Int)).length<=140737480000010:=by have:=qBc (n:Int);rw[List.length_append];omega
 obtain⟨bs0,hbs0⟩:∃bs0,bs++enc (n:Int)=bs0:=⟨_,rfl⟩
 rw[hbs0]at hlen0 HO2
 have HB0:=hide hbs0
 clear hbs0
 go_wp2_with fail
 go_loopw [26] (λi wr=>∃k:Nat,i=.int .i64 k/\k<=n/\Hid (Wrote W1 b v (bs0++qCv (qDl c (L.take k))) wr)) (λi _=>n-(intOf i).toNat)
 case atStart=>exact⟨0,rfl,Nat.zero_le _,by show Wrote _ _ _ _ _;simp only[List.take_zero,qDl,List.flatMap_nil,qC1,List.append_nil];exact uh HO2⟩
 case round =>
  obtain⟨k,rfl,hk2,HO⟩:=hrel
  have hk0:(0:Int)<=(k:Int):=by omega
  by_cases hlk:k<n
  ·obtain⟨g,hg,hgb⟩:=uh HVA (by omega)
   subst hg
   have hkl:k<L.length:=by rw[uh HN];exact hlk
   obtain⟨v',hwr,hvr,hkr⟩:=uh HO
   have HBW:=hide (show Pa.BRow wr g vcap L from by
      refine Pa.brow_of_owns (uh HN) (qN6 (qTr (uh HOW) hkr (λi hi h=>?_)))
      have:g=i:=by simpa[Value.ownBlock] using hi
      have:=uh HLT i h
      omega)
   have hrg:=qAm ((uh HBW).range k hkl)
   rw[Pa.Pn.cells_length]at hrg
   have hbv:qAn wr g (k*49) 49=.agg (Pa.pnAt L k).cells.toArray:=by unfold qAn;rw[hrg.1]
   have hbh:qAr wr g (k*49) 49=true:=hrg.2
   have HTK:=hide (qRe c L k hkl)
   have HM:=hide (uh HLS (Pa.pnAt L k) (by
        have:Pa.pnAt L k=L[k]:=by simp[Pa.pnAt,List.getD_eq_getElem?_getD,List.getElem?_eq_getElem hkl]
        rw[this];exact List.getElem_mem hkl))
   have HLK:=hide (show(bs0++qCv (qDl c (L.take k))).length<=140737481000000 by
      have h1:=qAv (qDl c (L.take k))
      have h2:=qH5 c (L.take k) (uh HR3).1 (uh HR3).2
      rw[List.length_take]at h2
      rw[List.length_append]
      omega)
   obtain⟨bk,hbk⟩:∃bk,bs0++qCv (qDl c (L.take k))=bk:=⟨_,rfl⟩
   rw[hbk]at HLK hwr
   have HBK:=hide hbk
   have HWr:=hide hwr
   have HVr:=hide hvr
   have HKr:=hide hkr
   have HLTr:=hide hwr.lt
   clear hrg hkl hbk hwr hvr hkr HO
   generalize Pa.pnAt L k=x at *
   obtain⟨W2,hst,hb2,hk2w⟩:=qKu x wr
   have HB2:=hide hb2
   have hxl:=x.len
   have hxc:=x.cells_length
   have HKa:=hide hk2w
   have HWa:=hide ((uh HWr).still hk2w)
   have HNF:=hide (show ¬qBv b v' wr.heap.size from λhf=>by have:=uh HLTr _ hf;omega)
   have HNFd:=hide (qEm (uh HFD) (uh HVr) hdl1)
   have hgs:g≠wr.heap.size:=by have:=(uh HBW).lt;omega
   have hin:(k:Int)<(n:Int):=by omega
   have hno:W2.cell? ⟨wr.heap.size,0,none⟩=some (.int .i64 x.no):=hb2.cell rfl
   have HC7:=hide (show ∀w',Keeps (qBv b v') W2 w'->w'.cell? ⟨d,7,none⟩=some (.int .i64 rs) from λw' hk'=>hk'.cell (hk2w.cell ((uh HKr).cell (uh HD7) (uh HFD)) (λh=>h)) (uh HNFd))
   have HC8:=hide (show ∀w',Keeps (qBv b v') W2 w'->w'.cell? ⟨d,8,none⟩=some (.int .i64 wd) from λw' hk'=>hk'.cell (hk2w.cell ((uh HKr).cell (uh HD8) (uh HFD)) (λh=>h)) (uh HNFd))
   have hno0:=(uh HM).1.1
   have hno1:=(uh HM).1.2.1
   have HXB:=hide (uh HM).2
   have hbk1:=uh HLK
   clear hb2 hk2w
   go_wp2_with fail
   refine(qC2 b v' bk x.no W2 (uh HWa) hno0 (by omega) (by omega)).mono ?_
   rintro e W3 ⟨rfl,hw3⟩
   have HO3:=hide hw3
   clear hw3 hno hbv hbh hst
   have e7:W3.cell? ⟨d,7,none⟩=some (.int .i64 rs):=uh HC7 W3 (uh HO3).kp
   go_wp2_with fail
   clear e7
   generalize hxb:wr.heap.size=xb at *
   obtain⟨wo,hwo⟩:∃wo,wo=wr:=⟨_,rfl⟩
   rw[<-hwo]at HKa HKr HBW
   clear hwo hxb HWr HLTr
   go_loopw [39] (λi wr=>∃r:Nat,i=.int .i64 r/\r<=rs/\Hid (Wrote W2 b v' (bk++enc x.no++qCv (qGl r wd x.cs)) wr)) (λi _=>rs-(intOf i).toNat)
   case atStart=>exact⟨0,rfl,Nat.zero_le _,by show Wrote _ _ _ _ _;simp only[qGl,List.range_zero,List.flatMap_nil,qC1,List.append_nil];exact uh HO3⟩
   case round =>
    obtain⟨r,rfl,hr2,HOr⟩:=hrel
    have hr0:(0:Int)<=(r:Int):=by omega
    by_cases hrl:r<rs
    ·have hrI:(r:Int)<(rs:Int):=by omega
     have hr3:(r:Int)<3:=by omega
     have e8:wr.cell? ⟨d,8,none⟩=some (.int .i64 wd):=uh HC8 wr (uh HOr).kp
     obtain⟨bk2,hbk2⟩:∃bk2,bk++enc x.no++qCv (qGl r wd x.cs)=bk2:=⟨_,rfl⟩
     have hbl2:bk2.length<=140737481001000:=by
      have h1:=qAv (qGl r wd x.cs)
      have h2:=qBc x.no
      rw[qHx]at h1
      have:=Nat.mul_le_mul (show r<=3 by omega) hwd16
      rw[<-hbk2,List.length_append,List.length_append];omega
     rw[hbk2]at HOr
     have HBK2:=hide hbk2
     clear hbk2
     go_wp2_with fail
     clear e8
     obtain⟨wp,hwp⟩:∃wp,wp=wr:=⟨_,rfl⟩
     clear hwp
     go_loopw [47] (λi wr=>∃j:Nat,i=.int .i64 j/\j<=wd/\Hid (Wrote W2 b v' (bk2++qCv (qTe j x.cs r)) wr)) (λi _=>wd-(intOf i).toNat)
     case atStart=>exact⟨0,rfl,Nat.zero_le _,by show Wrote _ _ _ _ _;simp only[qTe,List.range_zero,List.map_nil,qC1,List.append_nil];exact uh HOr⟩
     case round =>
      obtain⟨j,rfl,hj2,HOj⟩:=hrel
      have hj0:(0:Int)<=(j:Int):=by omega
      by_cases hjl:j<wd
      ·have hjI:(j:Int)<(wd:Int):=by omega
       have hj16:(j:Int)<16:=by omega
       have hil:r*16+j<x.cs.length:=by omega
       obtain⟨y,hy⟩:∃y,x.cs.getD (r*16+j) 0=y:=⟨_,rfl⟩
       have hy2:x.cs[r*16+j]?=some y:=by rw[<-hy,List.getD_eq_getElem?_getD,List.getElem?_eq_getElem hil];rfl
       obtain⟨y0,y1⟩:=uh HXB y (List.mem_of_getElem? hy2)
       have hcy:wr.cell? ⟨xb,1+r*16+j,none⟩=some (.int .i64 y):=(uh HOj).kp.cell ((uh HB2).cell (by
            unfold Pa.Pn.cells
            rw[show 1+r*16+j=(r*16+j)+1 by omega,List.getElem?_cons_succ,List.getElem?_map,hy2]
            rfl)) (uh HNF)
       have HNX:=hide (show qTe (j+1) x.cs r=qTe j x.cs r++[y] by rw[qWq,hy])
       have hbl3:(bk2++qCv (qTe j x.cs r)).length<=140737481002000:=by
        have h1:=qAv (qTe j x.cs r)
        rw[qJ3]at h1
        rw[List.length_append];omega
       clear hy hy2 hil
       go_wp2_with fail
       refine(qBp b v' _ y W2 wr (uh HOj) y0 (by omega) (by omega)).mono ?_
       rintro e W5 ⟨rfl,hw5⟩
       have HO5:=hide hw5
       clear hw5 hcy
       go_wp2
       go_roundw
       case rel =>
        refine⟨j+1,by go_num,by omega,?_⟩
        show Wrote _ _ _ _ _
        have:=uh HO5
        rw[uh HNX,qAw,qCp]
        simp only[List.append_assoc]at this ⊢
        exact this
       case measure=>simp[intOf];omega
      ·have hjE:j=wd:=by omega
       subst hjE
       go_wp2
       go_roundw
       case rel =>
        refine⟨r+1,by go_num,by omega,?_⟩
        show Wrote _ _ _ _ _
        have:=uh HOj
        rw[<-uh HBK2]at this
        rw[qJ4,qAw]
        simp only[List.append_assoc]at this ⊢
        exact this
       case measure=>simp[intOf];omega
    ·have hrE:r=rs:=by omega
     subst hrE
     go_wp2
     go_roundw
     case rel =>
      refine⟨k+1,by go_num,by omega,?_⟩
      show Wrote _ _ _ _ _
      have h5:=Wrote.then (uh HVr) (uh HKr) (Wrote.pre (uh HKa) (uh HOr))
      rw[uh HTK,qAw,uh HPA,qBz]
      rw[<-uh HBK]at h5
      simp only[List.append_assoc]at h5 ⊢
      exact h5
     case measure=>simp[intOf];omega
  ·have hkE:k=n:=by omega
   subst hkE
   go_wp2
   go_end0
   refine⟨rfl,Wrote.pre (uh HK1) ?_⟩
   have h5:=uh HO
   rw[List.take_of_length_le (by rw[uh HN];omega),<-uh HB0]at h5
   rw[uh HSO,qBz,<-List.append_assoc]
   exact h5
end
section
open Go.RowKit
theorem qFv(i:Nat)(h:i<256): Lib.len8 (i:Int)=(bitLen i:Int):=by
 have:∀i:Fin 256,Lib.len8 ((i.val:Nat):Int)=(bitLen i.val:Int):=by decide +kernel
 exact this ⟨i,h⟩
theorem qGm(i:Nat)(h:i<256): 0<=Lib.len8 (i:Int)/\Lib.len8 (i:Int)<=8:=by
 rw[qFv i h];have:=bitLen_le8 i h;omega
theorem qVb(x:Nat)(w:World)(hx:x<9223372036854775808):
  Calls Tryz.prog 241 #[.int .u64 x] w λe w'=>e=.returned (.int .i64 (bitLen x))/\w'=w:=by
 by_cases h0:4294967296<=x
 ·have d0:decide ((4294967296:Int)<=(x:Int))=true:=by simp;omega
  have s0:=bitLen_shift x 32 (by omega)
  obtain⟨y,hy⟩:∃y,x/4294967296=y:=⟨_,rfl⟩
  have e0:(x:Int)/4294967296=(y:Int):=by omega
  rw[show x/2 ^ 32=y from hy]at s0
  have b0:y<2147483648:=by omega
  by_cases h1:65536<=y
  ·have d1:decide ((65536:Int)<=(y:Int))=true:=by simp;omega
   have s1:=bitLen_shift y 16 (by omega)
   obtain⟨z,hz⟩:∃z,y/65536=z:=⟨_,rfl⟩
   have e1:(y:Int)/65536=(z:Int):=by omega
   rw[show y/2 ^ 16=z from hz]at s1
   have b1:z<32768:=by omega
   by_cases h2:256<=z
   ·have d2:decide ((256:Int)<=(z:Int))=true:=by simp;omega
    have s2:=bitLen_shift z 8 (by omega)
    obtain⟨u,hu⟩:∃u,z/256=u:=⟨_,rfl⟩
    have e2:(z:Int)/256=(u:Int):=by omega
    rw[show z/2 ^ 8=u from hu]at s2
    have b2:u<128:=by omega
    have u0:(0:Int)<=(u:Int):=by omega
    have u1:(u:Int)<=255:=by omega
    have w8:IntKind.u8.wrap (u:Int)=(u:Int):=by rw[IntKind.wrap_u8'];omega
    obtain⟨l0,l8⟩:=qGm u (by omega)
    have HF:=hide (show(bitLen x:Int)=56+Lib.len8 (u:Int) by rw[s0,s1,s2,qFv u (by omega)];omega)
    go_enter Tryz.func241,Tryz.ntmps241
    go_wp2
    go_ret
    exact⟨qA7 (by rw[uh HF];try omega),rfl⟩
   ·have d2:decide ((256:Int)<=(z:Int))=false:=by simp;omega
    have u0:(0:Int)<=(z:Int):=by omega
    have u1:(z:Int)<=255:=by omega
    have w8:IntKind.u8.wrap (z:Int)=(z:Int):=by rw[IntKind.wrap_u8'];omega
    obtain⟨l0,l8⟩:=qGm z (by omega)
    have HF:=hide (show(bitLen x:Int)=48+Lib.len8 (z:Int) by rw[s0,s1,qFv z (by omega)];omega)
    go_enter Tryz.func241,Tryz.ntmps241
    go_wp2
    go_ret
    exact⟨qA7 (by rw[uh HF];try omega),rfl⟩
  ·have d1:decide ((65536:Int)<=(y:Int))=false:=by simp;omega
   by_cases h2:256<=y
   ·have d2:decide ((256:Int)<=(y:Int))=true:=by simp;omega
    have s2:=bitLen_shift y 8 (by omega)
    obtain⟨u,hu⟩:∃u,y/256=u:=⟨_,rfl⟩
    have e2:(y:Int)/256=(u:Int):=by omega
    rw[show y/2 ^ 8=u from hu]at s2
    have b2:u<18446744073709551616:=by omega
    have u0:(0:Int)<=(u:Int):=by omega
    have u1:(u:Int)<=255:=by omega
    have w8:IntKind.u8.wrap (u:Int)=(u:Int):=by rw[IntKind.wrap_u8'];omega
    obtain⟨l0,l8⟩:=qGm u (by omega)
    have HF:=hide (show(bitLen x:Int)=40+Lib.len8 (u:Int) by rw[s0,s2,qFv u (by omega)];omega)
    go_enter Tryz.func241,Tryz.ntmps241
    go_wp2
    go_ret
    exact⟨qA7 (by rw[uh HF];try omega),rfl⟩
   ·have d2:decide ((256:Int)<=(y:Int))=false:=by simp;omega
    have u0:(0:Int)<=(y:Int):=by omega
    have u1:(y:Int)<=255:=by omega
    have w8:IntKind.u8.wrap (y:Int)=(y:Int):=by rw[IntKind.wrap_u8'];omega
    obtain⟨l0,l8⟩:=qGm y (by omega)
    have HF:=hide (show(bitLen x:Int)=32+Lib.len8 (y:Int) by rw[s0,qFv y (by omega)];omega)
    go_enter Tryz.func241,Tryz.ntmps241
    go_wp2
    go_ret
    exact⟨qA7 (by rw[uh HF];try omega),rfl⟩
 ·have d0:decide ((4294967296:Int)<=(x:Int))=false:=by simp;omega
  by_cases h1:65536<=x
  ·have d1:decide ((65536:Int)<=(x:Int))=true:=by simp;omega
   have s1:=bitLen_shift x 16 (by omega)
   obtain⟨z,hz⟩:∃z,x/65536=z:=⟨_,rfl⟩
   have e1:(x:Int)/65536=(z:Int):=by omega
   rw[show x/2 ^ 16=z from hz]at s1
   have b1:z<18446744073709551616:=by omega
   by_cases h2:256<=z
   ·have d2:decide ((256:Int)<=(z:Int))=true:=by simp;omega
    have s2:=bitLen_shift z 8 (by omega)
    obtain⟨u,hu⟩:∃u,z/256=u:=⟨_,rfl⟩
    have e2:(z:Int)/256=(u:Int):=by omega
    rw[show z/2 ^ 8=u from hu]at s2
    have b2:u<18446744073709551616:=by omega
    have u0:(0:Int)<=(u:Int):=by omega
    have u1:(u:Int)<=255:=by omega
    have w8:IntKind.u8.wrap (u:Int)=(u:Int):=by rw[IntKind.wrap_u8'];omega
    obtain⟨l0,l8⟩:=qGm u (by omega)
    have HF:=hide (show(bitLen x:Int)=24+Lib.len8 (u:Int) by rw[s1,s2,qFv u (by omega)];omega)
    go_enter Tryz.func241,Tryz.ntmps241
    go_wp2
    go_ret
    exact⟨qA7 (by rw[uh HF];try omega),rfl⟩
   ·have d2:decide ((256:Int)<=(z:Int))=false:=by simp;omega
    have u0:(0:Int)<=(z:Int):=by omega
    have u1:(z:Int)<=255:=by omega
    have w8:IntKind.u8.wrap (z:Int)=(z:Int):=by rw[IntKind.wrap_u8'];omega
    obtain⟨l0,l8⟩:=qGm z (by omega)
    have HF:=hide (show(bitLen x:Int)=16+Lib.len8 (z:Int) by rw[s1,qFv z (by omega)];omega)
    go_enter Tryz.func241,Tryz.ntmps241
    go_wp2
    go_ret
    exact⟨qA7 (by rw[uh HF];try omega),rfl⟩
  ·have d1:decide ((65536:Int)<=(x:Int))=false:=by simp;omega
   by_cases h2:256<=x
   ·have d2:decide ((256:Int)<=(x:Int))=true:=by simp;omega
    have s2:=bitLen_shift x 8 (by omega)
    obtain⟨u,hu⟩:∃u,x/256=u:=⟨_,rfl⟩
    have e2:(x:Int)/256=(u:Int):=by omega
    rw[show x/2 ^ 8=u from hu]at s2
    have b2:u<18446744073709551616:=by omega
    have u0:(0:Int)<=(u:Int):=by omega
    have u1:(u:Int)<=255:=by omega
    have w8:IntKind.u8.wrap (u:Int)=(u:Int):=by rw[IntKind.wrap_u8'];omega
    obtain⟨l0,l8⟩:=qGm u (by omega)
    have HF:=hide (show(bitLen x:Int)=8+Lib.len8 (u:Int) by rw[s2,qFv u (by omega)];omega)
    go_enter Tryz.func241,Tryz.ntmps241
    go_wp2
    go_ret
    exact⟨qA7 (by rw[uh HF];try omega),rfl⟩
   ·have d2:decide ((256:Int)<=(x:Int))=false:=by simp;omega
    have u0:(0:Int)<=(x:Int):=by omega
    have u1:(x:Int)<=255:=by omega
    have w8:IntKind.u8.wrap (x:Int)=(x:Int):=by rw[IntKind.wrap_u8'];omega
    obtain⟨l0,l8⟩:=qGm x (by omega)
    have HF:=hide (show(bitLen x:Int)=0+Lib.len8 (x:Int) by rw[qFv x (by omega)];omega)
    go_enter Tryz.func241,Tryz.ntmps241
    go_wp2
    go_ret
    exact⟨qA7 (by rw[uh HF];try omega),rfl⟩
theorem qP9(x:Nat)(w:World)(hx:x<9223372036854775808):
  Calls Tryz.prog 201 #[.int .u64 x] w λe w'=>e=.returned (.int .i64 (bitLen x))/\w'=w:=by
 have HL:=hide (qVb x w hx)
 go_enter Tryz.func201,Tryz.ntmps201
 go_wp2_with fail
 refine(uh HL).mono ?_
 rintro e w' ⟨rfl,rfl⟩
 go_wp2
 go_ret
 exact⟨rfl,rfl⟩
end
end Go.Proofs.YtahnliehdjncdaaGreatDoor
