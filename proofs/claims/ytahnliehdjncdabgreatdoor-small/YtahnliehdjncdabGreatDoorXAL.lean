import Derived.Test.YtahnliehdjncdabGreatDoorXAG
import Derived.Test.YtahnliehdjncdabGreatDoorXAK
set_option maxRecDepth 100000
set_option maxHeartbeats 16000000
namespace Go.Proofs.YtahnliehdjncdabGreatDoor
section
open Go.RowKit
attribute [local go_sem ↓] qAb qAe
attribute [local go_sem] qAg qAl qAd qAc qAo qAn qAf qAi
theorem qQm(k b:Nat)(w:World)(h1:1<=k)(h5:k<=5): Calls Tryz.prog (qA0 k) #[.pointer (some ⟨b,0,none⟩)] w (qCu w b (qCd k)):=by
 have hk:k=1\/k=2\/k=3\/k=4\/k=5:=by omega
 rcases hk with hk | hk | hk | hk | hk <;> subst hk
 ·exact qS6 b w
 ·exact qLr b w
 ·exact qSh b w
 ·exact qKa b w
 ·exact qRl b w
def qE3: Nat->List Nat | 1=>[0] | 2=>[0,1] | 3=>[0,1] | 4=>[0] | _=>[0,1,2]
theorem qW1(k b:Nat)(w:World)(h1:1<=k)(h5:k<=5): Calls Tryz.prog (qA1 k) #[.pointer (some ⟨b,0,none⟩)] w (qCu w b (qE3 k)):=by
 have hk:k=1\/k=2\/k=3\/k=4\/k=5:=by omega
 rcases hk with hk | hk | hk | hk | hk <;> subst hk
 ·exact qTj b w
 ·exact qXq b w
 ·exact qXq b w
 ·exact qTj b w
 ·exact qTl b w
def qBp(k:Nat)(c:Cfg): Int:=match k with | 2=>1 | 3=>c.rows | _=>0
theorem qHq(c:Cfg)(w:World): Calls Tryz.prog 104 #[c.val] w λe w'=>e=.returned (.int .i64 0)/\Keeps (λ_=>False) w w':=by
 unfold Cfg.val
 go_enter Tryz.func104,Tryz.ntmps104
 go_wp2
 go_ret
 exact⟨rfl,by first | exact Keeps.refl _ _ | exact(Keeps.refl _ _).alloc _⟩
theorem qRt(c:Cfg)(w:World): Calls Tryz.prog 110 #[c.val] w λe w'=>e=.returned (.int .i64 1)/\Keeps (λ_=>False) w w':=by
 unfold Cfg.val
 go_enter Tryz.func110,Tryz.ntmps110
 go_wp2
 go_ret
 exact⟨rfl,by first | exact Keeps.refl _ _ | exact(Keeps.refl _ _).alloc _⟩
theorem qPb(c:Cfg)(w:World): Calls Tryz.prog 116 #[c.val] w λe w'=>e=.returned (.int .i64 c.rows)/\Keeps (λ_=>False) w w':=by
 unfold Cfg.val
 go_enter Tryz.func116,Tryz.ntmps116
 go_wp2
 go_ret
 exact⟨rfl,(Keeps.refl _ _).alloc _⟩
theorem qPs(k:Nat)(c:Cfg)(w:World)(h1:1<=k)(h5:k<=5): Calls Tryz.prog (qA2 k) #[c.val] w λe w'=>e=.returned (.int .i64 (qBp k c))/\Keeps (λ_=>False) w w':=by
 have hk:k=1\/k=2\/k=3\/k=4\/k=5:=by omega
 rcases hk with hk | hk | hk | hk | hk <;> subst hk
 ·exact qHq c w
 ·exact qRt c w
 ·exact qPb c w
 ·exact qHq c w
 ·exact qHq c w
def qBt(n:Nat): List Nat:=(List.range (2*n)).map (14+·)
theorem qR9(n:Nat): qBt (n+1)=qBt n++[14+2*n,15+2*n]:=by
 unfold qBt
 rw[show 2*(n+1)=2*n+1+1 by omega,List.range_succ,List.range_succ]
 simp
 omega
theorem qOm(a b:List (Nat×Nat)): qC4 (a++b)=qC4 a++qC4 b:=by simp[qC4]
attribute [local go_sem ↓ 2000] qKo
attribute [local go_sem ↓] Go.wp_at_zero Go.wp_at_succ
theorem qP8(b n:Nat)(w:World)(hn:n<=3):
  Calls Tryz.prog 130 #[.pointer (some ⟨b,0,none⟩),.int .i64 n] w (qCu w b (qBt n)):=by
 go_enter Tryz.func130,Tryz.ntmps130
 go_wp2
 go_loopw [5,8] (λv i wr=>∃k:Nat,i=.int .i64 k/\k<=n/\Hid (wr.ownsRow w.heap.size 170 1 v (2*k) (qC4 (at' b (qBt k))))/\Hid (Keeps (λ_=>False) w wr)) (λ_ i _=>n-(intOf i).toNat)
 case atStart=>exact⟨0,rfl,Nat.zero_le _,World.ownsRow_nil _ _ _ _,Keeps.refl _ _⟩
 case round =>
  obtain⟨k,rfl,hk,HO,HK⟩:=hrel
  generalize u5=v at *
  by_cases hlk:k<n
  ·obtain⟨va,vcap,hv,_⟩:=qB4 (uh HO)
   subst hv
   have hsz:w.heap.size<=wr.heap.size:=(uh HK).size
   have HO1:=hide (show(wr.alloc (.cells #[.pointer (some ⟨b,14+k*2,none⟩),.pointer (some ⟨b,14+k*2+1,none⟩)] 170)).drew.ownsRow w.heap.size 170 1 (.slice va (2*k) vcap) (2*k) (qC4 (at' b (qBt k))) from(uh HO).alloc _)
   obtain⟨gg,cap',w3,hrun,hown,hgr⟩:=qNd (wr.alloc (.cells #[.pointer (some ⟨b,14+k*2,none⟩),.pointer (some ⟨b,14+k*2+1,none⟩)] 170)).drew w.heap.size _ (2*k) wr.heap.size _ [.pointer (some ⟨b,14+k*2,none⟩),.pointer (some ⟨b,14+k*2+1,none⟩)] (uh HO1) (heap_alloc_new wr _) (by simp[Value.oneCell']) (by simp) (by simp;omega) (by show w.heap.size<=(wr.alloc _).heap.size;simp;omega)
   have hrun':∀t,(zBr t (.slice va (2*k) vcap) (.slice (some ⟨wr.heap.size,0,none⟩) 2 2)).run Tryz.prog (wr.alloc (.cells #[.pointer (some ⟨b,14+k*2,none⟩),.pointer (some ⟨b,14+k*2+1,none⟩)] 170)).drew=.ok (.value (.slice (some ⟨gg,0,none⟩) (2*k+2) cap')) w3:=hrun
   clear hrun
   have HOW:=hide hown
   have HGR:=hide hgr
   clear hown hgr HO1
   have hk0:(0:Int)<=(k:Int):=by omega
   have hkn:(k:Int)<(n:Int):=by omega
   have hk3:(k:Int)<3:=by omega
   go_wp2_with fail
   go_region
   go_wp2
   go_roundw
   case rel =>
    refine⟨k+1,by go_num,by omega,?_,?_⟩
    ·show World.ownsRow _ _ _ _ _ _ _
     rw[qR9]
     have e1:at' b (qBt k++[14+2*k,15+2*k])=at' b (qBt k)++[(b,14+2*k),(b,15+2*k)]:=by simp[at']
     rw[e1,qOm,show 2*(k+1)=2*k+2 by omega]
     have h:=uh HOW
     rw[show 14+k*2=14+2*k by omega,show 14+2*k+1=15+2*k by omega]at h
     exact h
    ·exact(((uh HK).alloc _).drew).grown (uh HGR) (λj hj=>Or.inr ((uh HO).lt j hj).1)
   case measure=>simp[intOf];omega
  ·have hkn:k=n:=by omega
   subst hkn
   go_wp2
   go_ret
   refine⟨v,rfl,?_,uh HK⟩
   have:(at' b (qBt k)).length=2*k:=by simp[at',qBt]
   rw[this]
   exact uh HO
end
section
open Go.RowKit
attribute [local go_sem ↓] qAb qAe
attribute [local go_sem] qAg qAl qAd qAc qAo qAn qAf qAi
def qBu(k:Nat)(c:Cfg): List Int:=c.kind::([1,2,3].map c.num++((qCd k).map c.num++(qBt (qBp k c).toNat).map c.num))
theorem qKg{w:World}{cb:Nat}{c:Cfg}{l:List Nat}(h:Blk w cb c.cells 32)(hl:∀o,o∈l->o<20): PartsAt w (at' cb l) (l.map c.num):=by
 refine⟨by simp[at'],λi p n hp hn=>?_⟩
 unfold at' at hp
 rw[List.getElem?_map]at hp hn
 cases ho:l[i]? with
 | none=>rw[ho]at hp;cases hp
 | some o =>
  rw[ho]at hp hn
  simp only[Option.map_some,Option.some.injEq]at hp hn
  subst hp hn
  have h20:=hl o (List.mem_of_getElem? ho)
  refine h.cell ?_
  rw[Cfg.cells_nums,List.getElem?_map]
  unfold Cfg.num
  rw[List.getD_eq_getElem?_getD,List.getElem?_eq_getElem (by simpa[Cfg.nums] using h20)]
  rfl
theorem qQ4(k:Nat): ∀o,o∈qCd k->o<20:=by
 unfold qCd
 split <;> simp
theorem qP7(n:Nat)(hn:n<=3): ∀o,o∈qBt n->o<20:=by
 unfold qBt
 intro o ho
 simp at ho
 obtain⟨i,hi,rfl⟩:=ho
 omega
theorem qEq(b:Nat)(v:Value)(bs:List Nat)(pv:Value)(base cb:Nat)(l:List Nat)(ns:List Int)(w:World)(h:WRep w b v bs)(hp:w.ownsRow base 170 1 pv (at' cb l).length (qC4 (at' cb l)))(ha:PartsAt w (at' cb l) ns)(hd:¬qB3 b v cb)(hbase:∀i,base<=i->¬qB3 b v i)(hn:∀n,n∈ns->0<=n/\n<=9223372036854775807)(hl:bs.length+10*ns.length<=140737488355300)(hl2:ns.length<=1000):
  Calls Tryz.prog 85 #[.pointer (some ⟨b,0,none⟩),pv] w λe w'=>e=.returned (.tuple #[])/\Wrote w b v (bs++qB2 ns) w' :=
 qYb b v bs pv base (at' cb l) ns w h hp ha (λp hp h=>hd (by
      unfold at' at hp
      obtain⟨o,_,rfl⟩:=List.mem_map.1 hp
      exact h)) (λi hi=>hbase i (hp.lt i hi).1) hn hl hl2
structure SC (w:World) (cb kb b:Nat) (v:Value) (c:Cfg) (k:Nat) (w':World) (v':Value) (bs:List Nat):Prop where
 blk:Blk w' cb c.cells 32
 knd:Blk w' kb [.func (.func (qBq k)) #[] #[],.func (.func (qA0 k)) #[] #[],.func (.func (qA2 k)) #[] #[],.func (.func (qAq k)) #[] #[],.func (.func (qA1 k)) #[] #[],.func (.func (qA4 k)) #[] #[]] 83
 wr:WRep w' b v' bs
 ft:∀i,qB3 b v' i->i<cb\/kb<i
 vv:∀i,v'.ownBlock=some i->v.ownBlock=some i\/w.heap.size<=i
 kp:Keeps (qB3 b v) w w'
 le:cb<=kb
theorem SC.still{w:World}{cb kb b:Nat}{v:Value}{c:Cfg}{k:Nat}{w' w'':World}{v':Value}{bs:List Nat}(h:SC w cb kb b v c k w' v' bs)(hk:Keeps (λ_=>False) w' w''): SC w cb kb b v c k w'' v' bs :=
 ⟨h.blk.keeps hk (λh=>h),h.knd.keeps hk (λh=>h),h.wr.still hk,h.ft,h.vv,h.kp.trans hk (λ_ h=>h.elim),h.le⟩
theorem SC.not{w:World}{cb kb b:Nat}{v:Value}{c:Cfg}{k:Nat}{w':World}{v':Value}{bs:List Nat}(h:SC w cb kb b v c k w' v' bs)(i:Nat)(h1:cb<=i)(h2:i<=kb): ¬qB3 b v' i:=λhf=>by
 rcases h.ft i hf with h | h <;> omega
theorem SC.wrote{w:World}{cb kb b:Nat}{v:Value}{c:Cfg}{k:Nat}{w' w'':World}{v':Value}{bs bs2:List Nat}(h:SC w cb kb b v c k w' v' bs)(hw:Wrote w' b v' bs2 w''): ∃v'',SC w cb kb b v c k w'' v'' bs2:=by
 obtain⟨v2,hw2,hv2,hk2⟩:=hw
 have hl:=h.knd.lt
 have hs:=h.kp.size
 refine⟨v2,h.blk.keeps hk2 (h.not cb (Nat.le_refl _) h.le),h.knd.keeps hk2 (h.not kb h.le (Nat.le_refl _)),hw2,λi hi=>?_,λi hi=>?_,h.kp.trans hk2 (λi hi hlt=>?_),h.le⟩
 ·rcases hi with hi | hi
  ·exact h.ft i (.inl hi)
  ·rcases hv2 i hi with h1 | h1
   ·exact h.ft i (.inr h1)
   ·exact .inr (by omega)
 ·rcases hv2 i hi with h1 | h1
  ·exact h.vv i h1
  ·exact .inr (by omega)
 ·rcases hi with hi | hi
  ·exact .inl hi
  ·rcases h.vv i hi with h1 | h1
   ·exact .inr h1
   ·omega
theorem qN3(bs:List Nat)(a b:List Int): bs++qB2 a++qB2 b=bs++qB2 (a++b):=by rw[List.append_assoc,qAr]
theorem qLk(b:Nat)(v:Value)(bs:List Nat)(c:Cfg)(k:Nat)(w:World)(h:WRep w b v bs)(hkd:c.kind=k)(h1:1<=k)(h5:k<=5)(p0:0<=qBp k c)(p3:qBp k c<=3)(hn:∀n,n∈qBu k c->0<=n/\n<=9223372036854775807)(hl:bs.length<=140737488354000):
  Calls Tryz.prog 83 #[.pointer (some ⟨b,0,none⟩),c.val] w λe w'=>e=.returned (.tuple #[])/\Wrote w b v (bs++qB2 (qBu k c)) w':=by
 obtain⟨W,hW⟩:∃W,W=w.alloc (.cells c.cells.toArray 32):=⟨_,rfl⟩
 have HB:=hide (show Blk W w.heap.size c.cells 32 by rw[hW];exact Blk.new w _ _)
 have HK:=hide (show Keeps (λ_=>False) w W by rw[hW];exact(Keeps.refl _ _).alloc _)
 have HW0:=hide (show w.alloc (.cells #[.int .i64 c.kind,.int .i64 c.lag,.int .i64 c.skew,.int .i64 c.cap,.int .i64 c.k,.int .i64 c.window,.int .i64 c.bits,.int .i64 c.rows,.int .i64 c.width,.int .i64 c.panes,.int .i64 c.size,.int .i64 c.degree,.int .i64 c.half,.int .i64 c.mark,.int .i64 c.s00,.int .i64 c.s01,.int .i64 c.s10,.int .i64 c.s11,.int .i64 c.s20,.int .i64 c.s21] 32)=W from hW.symm)
 have HW:=hide (h.still (uh HK))
 have HLT:=hide (show ∀i,qB3 b v i->i<w.heap.size from h.lt)
 have HN:=hide hn
 have HKD:=hide hkd
 have HP:=hide (show ∃n:Nat,qBp k c=n/\n<=3 from⟨(qBp k c).toNat,by omega,by omega⟩)
 have HF:=hide (qGt c.kind k W hkd h1 h5)
 have HCN:=hide (show qBu k c=c.kind::([1,2,3].map c.num++((qCd k).map c.num++(qBt (qBp k c).toNat).map c.num)) from rfl)
 have c0:W.cell? ⟨w.heap.size,0,none⟩=some (.int .i64 c.kind):=(uh HB).cell rfl
 clear hW h hn hkd p0 p3
 unfold Cfg.val
 go_enter Tryz.func83,Tryz.ntmps83
 go_wp2_with fail
 rw[uh HW0]
 refine(uh HF).mono ?_
 rintro e w1 ⟨rfl,hk1⟩
 unfold qA7 fn
 have HT1:=hide (Blk.new w1 [.func (.func (qBq k)) #[] #[],.func (.func (qA0 k)) #[] #[],.func (.func (qA2 k)) #[] #[],.func (.func (qAq k)) #[] #[],.func (.func (qA1 k)) #[] #[],.func (.func (qA4 k)) #[] #[]] 83)
 have hka:=hk1.alloc (.cells #[.func (.func (qBq k)) #[] #[],.func (.func (qA0 k)) #[] #[],.func (.func (qA2 k)) #[] #[],.func (.func (qAq k)) #[] #[],.func (.func (qA1 k)) #[] #[],.func (.func (qA4 k)) #[] #[]] 83)
 have HB1:=hide ((uh HB).keeps hka (λh=>h))
 have HW1:=hide ((uh HW).still hka)
 have HK1:=hide ((uh HK).then hka)
 have hc1:w1.cell? ⟨w.heap.size,0,none⟩=some (.int .i64 c.kind):=((uh HB).keeps hk1 (λh=>h)).cell rfl
 have hlt1:w.heap.size<w1.heap.size:=((uh HB).keeps hk1 (λh=>h)).lt
 clear hk1 hka c0 HW0 HF HB HW HK
 go_wp2_with fail
 clear hc1
 generalize hkb:w1.heap.size=kb at *
 generalize w1.alloc (.cells #[.func (.func (qBq k)) #[] #[],.func (.func (qA0 k)) #[] #[],.func (.func (qA2 k)) #[] #[],.func (.func (qAq k)) #[] #[],.func (.func (qA1 k)) #[] #[],.func (.func (qA4 k)) #[] #[]] 83)=w2 at *
 clear hkb w1
 generalize hcb:w.heap.size=cb at *
 have HCB:=hide hcb
 clear hcb
 have HSZ2:=hide (show kb+1<=w2.heap.size from(uh HT1).lt)
 have hb1:=uh HN c.kind (by rw[uh HCN];simp)
 -- the kind
 have HS2:=hide (show SC w cb kb b v c k w2 v bs from⟨uh HB1,uh HT1,uh HW1,λi hi=>.inl (uh HLT i hi),λi hi=>.inl hi,(uh HK1).mono (λ_ _ h=>h.elim),by omega⟩)
 clear HB1 HT1 HW1 HK1 HSZ2
 have HLK:=hide (show(qCd k).length<=4 by unfold qCd;split <;> simp)
 obtain⟨pn,hpn,hpn3⟩:=uh HP
 have HPN:=hide hpn
 have HLS:=hide (show(qBt pn).length<=6 by simp[qBt];omega)
 have HC2:=hide (show qBu k c=[c.kind]++[1,2,3].map c.num++(qCd k).map c.num++(qBt pn).map c.num by rw[uh HCN,hpn,Int.toNat_natCast];simp)
 clear hpn HCN
 refine(qDa b v bs c.kind w2 (uh HS2).wr hb1.1 hb1.2 (by omega)).mono ?_
 rintro e w3 ⟨rfl,hw3⟩
 obtain⟨v3,hs3⟩:=(uh HS2).wrote hw3
 rw[<-qCo]at hs3
 have HS3:=hide hs3
 clear hw3 hs3 HS2
 go_wp2_with fail
 refine(qJe cb w3).mono ?_
 rintro e w4 ⟨pv,rfl,hown4,hk4⟩
 obtain⟨pa,pcap,hpv,_⟩:=qB4 hown4
 subst hpv
 have HL3:=hide (uh HS3).wr.lt
 have HS4:=hide ((uh HS3).still hk4)
 have HO4:=hide hown4
 clear hown4 hk4 HS3
 go_wp2_with fail
 refine(qEq b v3 _ _ w3.heap.size cb [1,2,3] ([1,2,3].map c.num) w4 (uh HS4).wr (uh HO4) (qKg (uh HS4).blk (by simp)) ((uh HS4).not cb (Nat.le_refl _) (uh HS4).le) (λi hi h=>by have:=uh HL3 i h;omega) (λn hn=>uh HN n (by rw[uh HC2];simp only[List.mem_append];exact .inl (.inl (.inr hn)))) (by have:=qAv [c.kind];simp[qCo]at this ⊢;have h2:=qAv [c.kind];simp at h2;omega) (by simp)).mono ?_
 rintro e w5 ⟨rfl,hw5⟩
 obtain⟨v5,hs5⟩:=(uh HS4).wrote hw5
 rw[qN3]at hs5
 have HS5:=hide hs5
 clear hw5 hs5 HS4 HO4 HL3
 have k1:w5.cell? ⟨kb,1,none⟩=some (.func (.func (qA0 k)) #[] #[]):=(uh HS5).knd.cell rfl
 have hown1:=qQg k h1 h5
 go_wp2_with fail
 refine(qQm k cb w5 h1 h5).mono ?_
 rintro e w6 ⟨pv,rfl,hown6,hk6⟩
 obtain⟨pa6,pcap6,hpv,_⟩:=qB4 hown6
 subst hpv
 have HL5:=hide (uh HS5).wr.lt
 have HS6:=hide ((uh HS5).still hk6)
 have HO6:=hide hown6
 clear hown6 hk6 HS5 k1 hown1
 go_wp2_with fail
 refine(qEq b v5 _ _ w5.heap.size cb (qCd k) ((qCd k).map c.num) w6 (uh HS6).wr (by have:=uh HO6;exact this) (qKg (uh HS6).blk (qQ4 k)) ((uh HS6).not cb (Nat.le_refl _) (uh HS6).le) (λi hi h=>by have:=uh HL5 i h;omega) (λn hn=>uh HN n (by rw[uh HC2];simp only[List.mem_append];exact .inl (.inr hn))) (by have h2:=qAv ([c.kind]++[1,2,3].map c.num);have h3:=uh HLK;simp at h2 ⊢;omega) (by have h3:=uh HLK;simp;omega)).mono ?_
 rintro e w7 ⟨rfl,hw7⟩
 obtain⟨v7,hs7⟩:=(uh HS6).wrote hw7
 rw[qN3]at hs7
 have HS7:=hide hs7
 clear hw7 hs7 HS6 HO6 HL5
 have k2:w7.cell? ⟨kb,2,none⟩=some (.func (.func (qA2 k)) #[] #[]):=(uh HS7).knd.cell rfl
 obtain⟨hv7,hh7⟩:=qBj (uh HS7).blk 20 rfl
 have hown2:=qPk k h1 h5
 go_wp2_with fail
 refine(qPs k c w7 h1 h5).mono ?_
 rintro e w8 ⟨rfl,hk8⟩
 rw[uh HPN]
 have HS8:=hide ((uh HS7).still hk8)
 clear hk8 HS7 k2 hown2 hv7 hh7
 go_wp2_with fail
 refine(qP8 cb pn w8 hpn3).mono ?_
 rintro e w9 ⟨pv,rfl,hown9,hk9⟩
 obtain⟨pa9,pcap9,hpv,_⟩:=qB4 hown9
 subst hpv
 have HL8:=hide (uh HS8).wr.lt
 have HS9:=hide ((uh HS8).still hk9)
 have HO9:=hide hown9
 clear hown9 hk9 HS8
 go_wp2_with fail
 refine(qEq b v7 _ _ w8.heap.size cb (qBt pn) ((qBt pn).map c.num) w9 (uh HS9).wr (by have:=uh HO9;exact this) (qKg (uh HS9).blk (qP7 pn hpn3)) ((uh HS9).not cb (Nat.le_refl _) (uh HS9).le) (λi hi h=>by have:=uh HL8 i h;omega) (λn hn=>uh HN n (by rw[uh HC2];simp only[List.mem_append];exact .inr hn)) (by have h2:=qAv ([c.kind]++[1,2,3].map c.num++(qCd k).map c.num);have h3:=uh HLK;have h4:=uh HLS;simp at h2 ⊢;omega) (by have h4:=uh HLS;simp;omega)).mono ?_
 rintro e wa ⟨rfl,hwa⟩
 obtain⟨va,hsa⟩:=(uh HS9).wrote hwa
 rw[qN3,<-uh HC2]at hsa
 have HSA:=hide hsa
 clear hwa hsa HS9 HO9 HL8
 go_wp2
 go_end0
 exact⟨rfl,va,(uh HSA).wr,(uh HSA).vv,(uh HSA).kp⟩
end
section
open Go.RowKit
theorem qFe{w:World}{g cap n j:Nat}{l:List Bk}{cur:List Value}(hn:l.length=n)(hb:Blk w g cur 214)(hl:cur.length=cap*2)(hle:n<=cap)(hmax:cap<=maxLen)(hj:j<=n):
  BRow ((w.setCells g 0 (qBn (l.drop j))).setCells g ((n-j)*2) (qCa j)) g cap (l.drop j):=by
 have h1:(qBn (l.drop j)).length=(n-j)*2:=by rw[qCk];simp[hn]
 have hb1:=Blk.setCells (qBn (l.drop j)) 0 w cur hb (by rw[h1];omega)
 have hl1:(over cur 0 (qBn (l.drop j))).length=cap*2:=by rw[qBa (by rw[h1];omega),hl]
 have hb2:=Blk.setCells (qCa j) ((n-j)*2) _ _ hb1 (by rw[hl1,qBe];omega)
 refine⟨⟨_,hb2,by rw[qBa (by rw[hl1,qBe];omega),hl1],?_⟩,by simp[hn];omega,hmax⟩
 have hlen:(l.drop j).length*2=(n-j)*2:=by simp[hn]
 rw[hlen]
 unfold over
 rw[List.append_assoc,List.take_append_of_le_length (by simp[h1])]
 rw[List.take_take,Nat.min_self]
 simp only[List.take_zero,List.nil_append]
 rw[List.take_append_of_le_length (by omega),List.take_of_length_le (by omega)]
theorem qD4(w:World):
  Calls Tryz.prog 223 #[.slice none 0 0,.int .i64 0,.int .i64 0] w λe w'=>e=.returned (.slice none 0 0)/\w'=w:=by
 go_enter Tryz.func223,Tryz.ntmps223
 go_wp2
 go_ret
 exact⟨rfl,rfl⟩
theorem qDk(g cap n:Nat)(w:World)(hle:n<=cap):
  Calls Tryz.prog 223 #[.slice (some ⟨g,0,none⟩) n cap,.int .i64 0,.int .i64 0] w λe w'=>e=.returned (.slice (some ⟨g,0,none⟩) n cap)/\w'=w:=by
 have h0:(0:Int)<=(n:Int):=by omega
 have h1:(n:Int)<=(cap:Int):=by omega
 go_enter Tryz.func223,Tryz.ntmps223
 go_wp2
 go_ret
 exact⟨rfl,rfl⟩
theorem qFh(g cap n j:Nat)(l:List Bk)(w:World)(hn:l.length=n)(hr:BRow w g cap l)(hj0:0<j)(hj:j<=n):
  Calls Tryz.prog 223 #[.slice (some ⟨g,0,none⟩) n cap,.int .i64 0,.int .i64 j] w λe w'=>e=.returned (.slice (some ⟨g,0,none⟩) (n-j) cap)/\BRow w' g cap (l.drop j)/\Keeps (·=g) w w':=by
 obtain⟨cur,hb,hl,ht⟩:=hr.ex
 have hle:=hr.le
 rw[hn]at hle
 have hmax:=hr.max
 have hcap:cap<=9223372036854775807:=by unfold maxLen at hmax;omega
 have HFIN:=hide (qFe (w:=w.drew) hn (by exact hb.drew) hl hle hmax hj)
 obtain⟨news,hnews⟩:∃news,news=qBn (l.drop j):=⟨_,rfl⟩
 rw[<-hnews]at HFIN
 have hlen:news.length=(n-j)*2:=by rw[hnews,qCk];simp[hn]
 have hget:∀t u,news[t]?=some u->w.cell? ⟨g,j*2+t,none⟩=some u:=by
  intro t u hu
  refine hb.cell ?_
  have htl:t<(n-j)*2:=by have:=(List.getElem?_eq_some_iff.1 hu).1;omega
  rw[hnews,qI5,List.getElem?_drop,<-ht,List.getElem?_take,if_pos (by omega)]at hu
  exact hu
 obtain⟨A,hA,hsrc⟩:∃A:Addr,(if cap=j then some (⟨g,0,none⟩:Addr) else some ⟨g,j*2,none⟩)=some A/\Hid (∀t u,news[t]?=some u->w.drew.cell? (A.add t)=some u):=by
  by_cases h:cap=j
  ·refine⟨⟨g,0,none⟩,by simp[h],λt u hu=>?_⟩
   have h0:news.length=0:=by omega
   rw[List.length_eq_zero_iff.1 h0]at hu
   simp at hu
  ·refine⟨⟨g,j*2,none⟩,by simp[h],λt u hu=>?_⟩
   rw[Addr.add_lit]
   exact hget t u hu
 have s1:Hid (news.length=(n-j)*2):=hlen
 have s2:Hid (∀u∈news,u.oneCell'=true):=by rw[hnews];exact qKn _
 have s3:Hid (∀t,t<news.length->(w.drew.cell? ⟨g,0+0*2+t,none⟩).isSome=true/\w.drew.frozen? ⟨g,0+0*2+t,none⟩=false):=by
  intro t ht'
  exact⟨hb.some (by omega),hb.frozen _⟩
 obtain⟨W1,hW1⟩:∃W1,W1=w.drew.setCells g 0 news:=⟨_,rfl⟩
 have hbW:Blk W1 g (over cur 0 news) 214:=by rw[hW1];exact Blk.setCells _ _ _ _ hb.drew (by omega)
 have hcl:∀ty,(Builtin.clear_ #[265] ty #[.slice (some ⟨g,(n-j)*2,none⟩) (n-(n-j)) (cap-(n-j))]).run Tryz.prog W1=.ok (.tuple #[]) (W1.setCells g ((n-j)*2) (qCa (n-(n-j)))) :=
  λty=>qB8 W1 ty g _ _ _ _ hbW (by omega) (by rw[qBa (by omega)];omega)
 have hW:Hid (W1=w.drew.setCells g (0+0*2) news):=hW1
 have HK:=hide (show Keeps (·=g) w W1 by rw[hW1];exact Keeps.setCells (M:=λx=>x=g) (Or.inl rfl) _ _ _ (Keeps.refl _ _).drew)
 rw[<-hW1]at HFIN
 obtain⟨i0,hi0,hz0,hz1,hz2⟩:=info_parts infoBk
 have hjc:j<=cap:=by omega
 have HNJ:=hide (show n-(n-j)=j by omega)
 clear hW1 hbW hget hnews hlen hb ht hl hr hn hmax hz0 hz2
 go_enter Tryz.func223,Tryz.ntmps223
 go_wp2_with fail
 go_region_law (refine step_append_room rfl (.tmp 22) (.tmp 25) 265 rfl 214 i0 2 Tryz.underlying265 hi0 hz1 g 0 0 cap (by simp[Act.eval,Act.put]) A (n-j) (cap-j) news (by simp[Act.eval,Act.put]) s1.out hsrc.out s2.out (by omega) s3.out ?_;rw[<-hW.out])
 go_wp2
 go_ret
 refine⟨by simp,?_,?_⟩
 ·have:=uh HFIN;rw[uh HNJ];exact this
 ·exact Keeps.setCells (M:=λx=>x=g) (Or.inl rfl) _ _ _ (uh HK)
def qB6(l:List Bk)(i:Nat)(x:Bk): List Bk:=l.take i++[x]++l.drop (i+2)
theorem qCq{l:List Bk}{i:Nat}(x:Bk)(h:i+2<=l.length): (qB6 l i x).length=l.length-1:=by simp[qB6];omega
theorem qKy{L vs:List Value}{o k:Nat}(h:k<=o)(ho:o<=L.length): (over L o vs).take k=L.take k:=by
 unfold over
 rw[List.append_assoc,List.take_append_of_le_length (by simp;omega),List.take_take,Nat.min_eq_left h]
theorem qGh{L vs:List Value}{o:Nat}(ho:o<=L.length): (over L o vs).take (o+vs.length)=L.take o++vs:=by
 unfold over
 rw[List.take_append_of_le_length (by simp;omega),List.take_of_length_le (by simp;omega)]
theorem qLh{w:World}{g cap n i:Nat}{l:List Bk}{x:Bk}{cur:List Value}(hn:l.length=n)(hb:Blk w g cur 214)(hl:cur.length=cap*2)(ht:cur.take (l.length*2)=qBn l)(hle:n<=cap)(hmax:cap<=maxLen)(hi:i+2=n):
  BRow ((w.setCells g (i*2) [.int .i64 x.sz,.int .i64 x.t]).setCells g ((i+1)*2) (qCa 1)) g cap (qB6 l i x):=by
 have hb1:=Blk.setCells [.int .i64 x.sz,.int .i64 x.t] (i*2) w cur hb (by simp;omega)
 have hl1:(over cur (i*2) [.int .i64 x.sz,.int .i64 x.t]).length=cap*2:=by rw[qBa (by simp;omega),hl]
 have hb2:=Blk.setCells (qCa 1) ((i+1)*2) _ _ hb1 (by rw[hl1,qBe];omega)
 have hjl:=qCq x (l:=l) (i:=i) (by omega)
 refine⟨⟨_,hb2,by rw[qBa (by rw[hl1,qBe];omega),hl1],?_⟩,by omega,hmax⟩
 rw[hjl,qKy (by omega) (by omega),show(l.length-1)*2=i*2+[Value.int .i64 x.sz,.int .i64 x.t].length by simp;omega,qGh (by omega)]
 have hd:l.drop (i+2)=[]:=List.drop_eq_nil_of_le (by omega)
 have h3:cur.take (i*2)=(qBn l).take (i*2):=by rw[<-ht,List.take_take,Nat.min_eq_left (by omega)]
 unfold qB6
 rw[hd,List.append_nil,qEg,qIv,h3];rfl
theorem qLs{w:World}{g cap n i:Nat}{l:List Bk}{x:Bk}{cur:List Value}(hn:l.length=n)(hb:Blk w g cur 214)(hl:cur.length=cap*2)(ht:cur.take (l.length*2)=qBn l)(hle:n<=cap)(hmax:cap<=maxLen)(hi:i+2<n):
  BRow (((w.setCells g (i*2) [.int .i64 x.sz,.int .i64 x.t]).setCells g ((i+1)*2) (qBn (l.drop (i+2)))).setCells g ((n-1)*2) (qCa 1)) g cap (qB6 l i x):=by
 have hb1:=Blk.setCells [.int .i64 x.sz,.int .i64 x.t] (i*2) w cur hb (by simp;omega)
 have hl1:(over cur (i*2) [.int .i64 x.sz,.int .i64 x.t]).length=cap*2:=by rw[qBa (by simp;omega),hl]
 have hfl:(qBn (l.drop (i+2))).length=(n-(i+2))*2:=by rw[qCk];simp[hn]
 have hb2:=Blk.setCells (qBn (l.drop (i+2))) ((i+1)*2) _ _ hb1 (by rw[hl1,hfl];omega)
 have hl2:(over (over cur (i*2) [.int .i64 x.sz,.int .i64 x.t]) ((i+1)*2) (qBn (l.drop (i+2)))).length=cap*2:=by rw[qBa (by rw[hl1,hfl];omega),hl1]
 have hb3:=Blk.setCells (qCa 1) ((n-1)*2) _ _ hb2 (by rw[hl2,qBe];omega)
 have hjl:=qCq x (l:=l) (i:=i) (by omega)
 refine⟨⟨_,hb3,by rw[qBa (by rw[hl2,qBe];omega),hl2],?_⟩,by omega,hmax⟩
 rw[hjl,qKy (by omega) (by rw[hl2];omega),show(l.length-1)*2=(i+1)*2+(qBn (l.drop (i+2))).length by rw[hfl];omega,qGh (by rw[hl1];omega)]
 rw[show(i+1)*2=i*2+[Value.int .i64 x.sz,.int .i64 x.t].length by simp;omega,qGh (by omega)]
 have h3:cur.take (i*2)=(qBn l).take (i*2):=by rw[<-ht,List.take_take,Nat.min_eq_left (by omega)]
 unfold qB6
 rw[qEg,qEg,qIv,h3];rfl
theorem qId{w:World}{ops:Array Oper}{rest:List Oper}{o:Oper}{a:Act}{Q:Exit->Act->World->Prop}(hgd:o.guard=none)(s x:Operand)(ho:o.op=.call { callee:=.builtin .append,args:=#[s,x],argTypes:=#[265,265] })(g off n cap:Nat)(hs:a.eval s=.slice (some ⟨g,off,none⟩) n cap)(ad:Addr)(m c:Nat)(hx:a.eval x=.slice (some ad) m c)(cs news:List Value)(hb:Blk w g cs 214)(hn:news.length=m*2)(hc:∀j u,news[j]?=some u->w.cell? (ad.add j)=some u)(h1:∀u∈news,u.oneCell'=true)(hroom:n+m<=cap)(hfit:off+n*2+news.length<=cs.length)(h:wpList Tryz.prog ops Q rest (a.put o.dst (.slice (some ⟨g,off,none⟩) (n+m) cap)) (w.setCells g (off+n*2) news)): wpList Tryz.prog ops Q (o::rest) a w:=by
 refine wpList_plain hgd λK hK=>?_
 obtain⟨i0,hi0,hz0,hz1,hz2⟩:=info_parts infoBk
 have hrun:=run_append_room_cells (P:=Tryz.prog) w 265 o.type 214 i0 Tryz.underlying265 hi0 g off n cap ad m c news (by rw[hz1];exact hn) hc h1 hroom (λj hj=>hb.some (by rw[hz1];omega)) (λj _=>hb.frozen _)
 rw[hz1]at hrun
 unfold Oper.wp
 simp[execOp,ho,resolve,invoke,builtin,hs,hx,hrun,Result.andThen]
 exact hK _ _ h
theorem qLe{w:World}{ops:Array Oper}{o:Oper}{a:Act}{K:Act->World->Prop}{Q:Exit->Act->World->Prop}{E:Prop}(hgd:o.guard=none)(s x:Operand)(ho:o.op=.call { callee:=.builtin .copy,args:=#[s,x],argTypes:=#[265,265] })(g off n cap:Nat)(hs:a.eval s=.slice (some ⟨g,off,none⟩) n cap)(ad:Addr)(m c:Nat)(hx:a.eval x=.slice (some ad) m c)(cs news:List Value)(hb:Blk w g cs 214)(hn:news.length=Nat.min m n*2)(hc:∀j u,news[j]?=some u->w.cell? (ad.add j)=some u)(h1:∀u∈news,u.oneCell'=true)(hfit:off+news.length<=cs.length)(h:K (a.put o.dst (goInt (Nat.min m n))) (w.setCells g off news)): if Region.wanted o (yielded ops a.tmps)=true then Oper.wp Tryz.prog o a w K Q else E:=by
 have hw:Region.wanted o (yielded ops a.tmps)=true:=by simp[Region.wanted,hgd]
 rw[if_pos hw]
 have hrun:=qIh w o.type g off n cap ad m c cs news hb hn hc hfit h1
 unfold Oper.wp
 simp[execOp,ho,resolve,invoke,builtin,hs,hx,hrun,Result.andThen]
 exact h
theorem qLd(g cap n i sb:Nat)(l:List Bk)(x:Bk)(w:World)(hn:l.length=n)(hr:BRow w g cap l)(hi:i+2=n)(hx0:w.cell? ⟨sb,0,none⟩=some (.int .i64 x.sz))(hx1:w.cell? ⟨sb,1,none⟩=some (.int .i64 x.t)):
  Calls Tryz.prog 245 #[.slice (some ⟨g,0,none⟩) n cap,.int .i64 i,.int .i64 ((i:Int)+2),.slice (some ⟨sb,0,none⟩) 1 1] w λe w'=>e=.returned (.slice (some ⟨g,0,none⟩) (n-1) cap)/\BRow w' g cap (qB6 l i x)/\Keeps (·=g) w w':=by
 obtain⟨cur,hb,hl,ht⟩:=hr.ex
 have hle:=hr.le
 rw[hn]at hle
 have hmax:=hr.max
 have hcap:cap<=9223372036854775807:=by unfold maxLen at hmax;omega
 have HFIN:=hide (qLh (x:=x) hn hb hl ht hle hmax hi)
 have HB:=hide hb
 have HL:=hide hl
 have HX:=hide (show ∀j u,[Value.int .i64 x.sz,.int .i64 x.t][j]?=some u->w.cell? ((⟨sb,0,none⟩:Addr).add j)=some u from λj u hu=>by
    rw[Addr.add_lit]
    match j,hu with
    | 0,hu=>injection hu with hu;rw[<-hu];exact hx0
    | 1,hu=>injection hu with hu;rw[<-hu];exact hx1)
 obtain⟨W1,hW1⟩:∃W1,W1=w.setCells g (i*2) [.int .i64 x.sz,.int .i64 x.t]:=⟨_,rfl⟩
 have hbW:Blk W1 g (over cur (i*2) [.int .i64 x.sz,.int .i64 x.t]) 214:=by rw[hW1];exact Blk.setCells _ _ _ _ hb (by simp;omega)
 have hcl:∀ty,(Builtin.clear_ #[265] ty #[.slice (some ⟨g,(i+1)*2,none⟩) (n-(i+1)) (cap-(i+1))]).run Tryz.prog W1=.ok (.tuple #[]) (W1.setCells g ((i+1)*2) (qCa (n-(i+1)))) :=
  λty=>qB8 W1 ty g _ _ _ _ hbW (by omega) (by rw[qBa (by simp;omega)];omega)
 have HW:=hide (show w.setCells g (0+i*2) [.int .i64 x.sz,.int .i64 x.t]=W1 by rw[hW1,Nat.zero_add])
 have HK:=hide (show Keeps (λk=>k=g) w W1 by rw[hW1];exact Keeps.setCells (M:=λx=>x=g) (Or.inl rfl) _ _ _ (Keeps.refl _ _))
 rw[<-hW1]at HFIN
 have HNJ:=hide (show n-(i+1)=1 by omega)
 have HN1:=hide (show n-1=i+1 by omega)
 clear hW1 hbW hb ht hl hr hn hmax hx0 hx1
 have hic:i<=cap:=by omega
 have hi0:(0:Int)<=(i:Int):=by omega
 have hin:(i:Int)+2=(n:Int):=by omega
 rw[hin]
 have hne:((i:Int)==(n:Int))=false:=by simp;omega
 have hlt:decide ((i:Int)+1<(n:Int))=true:=by simp;omega
 clear hin
 go_enter Tryz.func245,Tryz.ntmps245
 go_wp2_with (at_builtin;refine qId rfl _ _ rfl g 0 i cap rfl ⟨sb,0,none⟩ 1 1 rfl cur [.int .i64 x.sz,.int .i64 x.t] (uh HB) rfl (uh HX) (by simp[Value.oneCell']) (by omega) (by have:=uh HL;simp;omega) ?_;rw[uh HW])
 go_ret
 refine⟨by rw[uh HN1];rfl,?_,?_⟩
 ·rw[uh HNJ];exact uh HFIN
 ·exact Keeps.setCells (M:=λx=>x=g) (Or.inl rfl) _ _ _ (uh HK)
theorem qH4(b:Nat): ∀(vs:List Value) (o:Nat) (w:World),(w.setCells b o vs).drew=w.drew.setCells b o vs
 | [],_,_=>rfl
 | v::vs,o,w=>qH4 b vs (o+1) (w.setCell ⟨b,o,none⟩ v)
theorem qLt(g cap n i sb:Nat)(l:List Bk)(x:Bk)(w:World)(hn:l.length=n)(hr:BRow w g cap l)(hi:i+2<n)(hx0:w.cell? ⟨sb,0,none⟩=some (.int .i64 x.sz))(hx1:w.cell? ⟨sb,1,none⟩=some (.int .i64 x.t)):
  Calls Tryz.prog 245 #[.slice (some ⟨g,0,none⟩) n cap,.int .i64 i,.int .i64 ((i:Int)+2),.slice (some ⟨sb,0,none⟩) 1 1] w λe w'=>e=.returned (.slice (some ⟨g,0,none⟩) (n-1) cap)/\BRow w' g cap (qB6 l i x)/\Keeps (·=g) w w':=by
 obtain⟨cur,hb,hl,ht⟩:=hr.ex
 have hle:=hr.le
 rw[hn]at hle
 have hmax:=hr.max
 have hcap:cap<=9223372036854775807:=by unfold maxLen at hmax;omega
 have HFIN:=hide (qLs (w:=w.drew.drew) (x:=x) hn (by exact hb.drew.drew) hl ht hle hmax hi)
 obtain⟨j,hj⟩:∃j,j=i+2:=⟨_,rfl⟩
 obtain⟨W1,hW1⟩:∃W1,W1=w.drew.setCells g (i*2) [.int .i64 x.sz,.int .i64 x.t]:=⟨_,rfl⟩
 have hb1:Blk W1 g (over cur (i*2) [.int .i64 x.sz,.int .i64 x.t]) 214:=by rw[hW1];exact Blk.setCells _ _ _ _ hb.drew (by simp;omega)
 have hl1:(over cur (i*2) [.int .i64 x.sz,.int .i64 x.t]).length=cap*2:=by rw[qBa (by simp;omega),hl]
 obtain⟨news,hnews⟩:∃news,news=qBn (l.drop (i+2)):=⟨_,rfl⟩
 have hlen:news.length=(n-j)*2:=by rw[hnews,qCk];simp[hn,hj]
 have hsrc:∀t u,news[t]?=some u->W1.drew.cell? ((⟨g,j*2,none⟩:Addr).add t)=some u:=by
  intro t u hu
  have htl:t<(n-j)*2:=by have:=(List.getElem?_eq_some_iff.1 hu).1;omega
  rw[Addr.add_lit]
  refine hb1.cell ?_
  rw[hnews,qI5,List.getElem?_drop,<-ht,List.getElem?_take,if_pos (by omega)]at hu
  unfold over
  rw[List.getElem?_append_right (by simp;omega),List.getElem?_drop]
  rw[<-hu]
  congr 1
  simp
  omega
 obtain⟨W2,hW2⟩:∃W2,W2=W1.drew.setCells g ((i+1)*2) news:=⟨_,rfl⟩
 have hb2:Blk W2 g (over (over cur (i*2) [.int .i64 x.sz,.int .i64 x.t]) ((i+1)*2) news) 214:=by rw[hW2];exact Blk.setCells _ _ _ _ hb1.drew (by rw[hl1];omega)
 have hcl:∀ty,(Builtin.clear_ #[265] ty #[.slice (some ⟨g,(i+1+(n-j))*2,none⟩) (n-(i+1+(n-j))) (cap-(i+1+(n-j)))]).run Tryz.prog W2=.ok (.tuple #[]) (W2.setCells g ((i+1+(n-j))*2) (qCa (n-(i+1+(n-j))))) :=
  λty=>qB8 W2 ty g _ _ _ _ hb2 (by omega) (by rw[qBa (by rw[hl1];omega),hl1];omega)
 have HK:=hide (show Keeps (λk=>k=g) w W2 by
    rw[hW2,hW1]
    exact Keeps.setCells (M:=λx=>x=g) (Or.inl rfl) _ _ _ (Keeps.setCells (M:=λx=>x=g) (Or.inl rfl) _ _ _ (Keeps.refl _ _).drew).drew)
 have HFIN2:=hide (show BRow (W2.setCells g ((i+1+(n-j))*2) (qCa (n-(i+1+(n-j))))) g cap (qB6 l i x) by
    have:=uh HFIN
    rw[hW2,hW1,qH4,hnews,show i+1+(n-j)=n-1 by omega,show n-(n-1)=1 by omega]
    exact this)
 have HB:=hide hb.drew
 have HB1:=hide hb1.drew
 have HX:=hide (show ∀j u,[Value.int .i64 x.sz,.int .i64 x.t][j]?=some u->w.drew.cell? ((⟨sb,0,none⟩:Addr).add j)=some u from λj u hu=>by
    rw[Addr.add_lit]
    match j,hu with
    | 0,hu=>injection hu with hu;rw[<-hu];exact hx0
    | 1,hu=>injection hu with hu;rw[<-hu];exact hx1)
 have hcp:∀ty,(Builtin.copy_ #[265,265] ty #[.slice (some ⟨g,i*2,none⟩) (i+1+(n-j)-i) (cap-i),.slice (some ⟨sb,0,none⟩) 1 1]).run Tryz.prog w.drew=.ok (goInt (Nat.min 1 (i+1+(n-j)-i))) W1 :=
  λty=>by rw[hW1];exact qIh w.drew ty g (i*2) _ _ ⟨sb,0,none⟩ 1 1 cur [.int .i64 x.sz,.int .i64 x.t] (uh HB) (by have h1:Nat.min 1 (i+1+(n-j)-i)=1:=Nat.min_eq_left (by omega);rw[h1];rfl) (uh HX) (by simp;omega) (by simp[Value.oneCell'])
 have HL1:=hide hl1
 have HSRC:=hide hsrc
 have HLEN:=hide hlen
 have HONE:=hide (show ∀u∈news,u.oneCell'=true by rw[hnews];exact qKn _)
 have HW2:=hide hW2.symm
 have hic:i<=cap:=by omega
 have hi0:(0:Int)<=(i:Int):=by omega
 have hin:(i:Int)+2=(j:Int):=by omega
 rw[hin]
 have hjn:j<n:=by omega
 have hij:i<j:=by omega
 have hjc:j<=cap:=by omega
 have hic1:¬cap=i+1:=by omega
 have hcj:¬cap=j:=by omega
 have hjn2:j<=n:=by omega
 have hct:¬cap=i+1+(n-j):=by omega
 have hw1:IntKind.i64.wrap ((i:Int)+1)=(i:Int)+1:=by rw[IntKind.wrap_i64];omega
 have hp1:0<=(i:Int)+1:=by omega
 have hp2:(i:Int)+1<=(i:Int)+1+((n-j:Nat):Int):=by omega
 have hne:((i:Int)==(j:Int))=false:=by simp;omega
 have hne2:((j:Int)==(n:Int))=false:=by simp;omega
 have hle2:decide ((i:Int)+1<=(j:Int))=true:=by simp;omega
 have HN1:=hide (show n-1=i+1+(n-j) by omega)
 clear hin hj hW1 hW2 hb hb1 hb2 hl hl1 ht hnews hlen hsrc HFIN hr hn hmax hx0 hx1
 go_enter Tryz.func245,Tryz.ntmps245
 go_wp2_with fail
 go_region
 go_wp2_with fail
 go_region_law (refine qLe rfl _ _ rfl g ((i+1)*2) (i+1+(n-j)-(i+1)) (cap-(i+1)) (by simp[Act.eval,Act.put]) ⟨g,j*2,none⟩ (n-j) (cap-j) (by simp[Act.eval,Act.put]) _ news (uh HB1) (by have h1:Nat.min (n-j) (i+1+(n-j)-(i+1))=n-j:=Nat.min_eq_left (by omega);rw[h1];exact uh HLEN) (uh HSRC) (uh HONE) (by rw[uh HL1,uh HLEN];omega) ?_;rw[uh HW2])
 go_wp2
 go_ret
 exact⟨by rw[uh HN1];rfl,uh HFIN2,Keeps.setCells (M:=λx=>x=g) (Or.inl rfl) _ _ _ (uh HK)⟩
end
end Go.Proofs.YtahnliehdjncdabGreatDoor
