import Derived.Test.YtahnliehdjncdabGreatDoorXBB
import Derived.Test.YtahnliehdjncdabGreatDoorXBJ
import Derived.Test.YtahnliehdjncdabGreatDoorXBD
import Derived.Test.YtahnliehdjncdabGreatDoorXBE
import Derived.Test.YtahnliehdjncdabGreatDoorXBI
set_option maxRecDepth 100000
set_option maxHeartbeats 16000000
namespace Go.Proofs.YtahnliehdjncdabGreatDoor
section
open Go.RowKit
def cfgA(c:Cfg): Cfg:={ qU1 with kind:=c.kind }
def zBs(c:Cfg): Cfg:={ qU1 with kind:=c.kind,lag:=c.lag,skew:=c.skew,cap:=c.cap }
def qOh(k:Nat)(c:Cfg): Cfg:=match k with
 | 1=>{ zBs c with k:=c.k,window:=c.window }
 | 2=>{ zBs c with bits:=c.bits,window:=c.window }
 | 3=>{ zBs c with rows:=c.rows,width:=c.width,panes:=c.panes,window:=c.window }
 | 4=>{ zBs c with degree:=c.degree,half:=c.half,mark:=c.mark }
 | _=>{ zBs c with degree:=c.degree,half:=c.half,mark:=c.mark,size:=c.size }
def qUe(p:Nat)(d c:Cfg): Cfg:={ d with s00:=if 1<=p then c.s00 else 0,s01:=if 1<=p then c.s01 else 0,s10:=if 2<=p then c.s10 else 0,s11:=if 2<=p then c.s11 else 0,s20:=if 3<=p then c.s20 else 0,s21:=if 3<=p then c.s21 else 0 }
def qCd(k:Nat)(c:Cfg): Cfg:=qUe (qBt k c).toNat (qOh k c) c
theorem qXv(c:Cfg): qQi qU1.cells [0] [c.kind]=(cfgA c).cells:=rfl
theorem qS3(c:Cfg): qQi (cfgA c).cells [1,2,3] ([1,2,3].map c.num)=(zBs c).cells:=rfl
theorem qWc(k:Nat)(c:Cfg)(h1:1<=k)(h5:k<=5): qQi (zBs c).cells (qCp k) ((qCp k).map c.num)=(qOh k c).cells:=by
 rcases five h1 h5 with e | e | e | e | e <;> subst e <;> rfl
theorem qWr(k p:Nat)(c:Cfg)(h1:1<=k)(h5:k<=5)(hp:p<=3): qQi (qOh k c).cells (qBs p) ((qBs p).map c.num)=(qUe p (qOh k c) c).cells:=by
 have hp':p=0\/p=1\/p=2\/p=3:=by omega
 rcases five h1 h5 with e | e | e | e | e <;> subst e <;> rcases hp' with e | e | e | e <;> subst e <;> rfl
theorem qTo(k:Nat)(c:Cfg)(h1:1<=k)(h5:k<=5): qBt k (qOh k c)=qBt k c:=by
 rcases five h1 h5 with e | e | e | e | e <;> subst e <;> rfl
theorem zD1(k p:Nat)(c:Cfg)(hp:qBt k c=p): qUe p (qOh k c) c=qCd k c:=by unfold qCd;rw[hp];rfl
theorem zFb(c:Cfg): c.cells.toArray.all (·.oneCell')=true:=by simp[Cfg.cells,Value.oneCell']
theorem qHg{w:World}{b:Nat}{zs:List Value}(c:Cfg)(h:Blk w b zs 32)(hz:zs.length=20): (qDc 32 (.pointer (some ⟨b,0,none⟩)) (.agg c.cells.toArray)).run Tryz.prog w=.ok .skip (w.setCells b 0 c.cells):=by
 unfold qDc
 have ht:w.there b 0 c.cells.toArray.size:=by
  intro j hj
  have hj':j<20:=hj
  rw[Nat.zero_add]
  exact⟨h.some (by omega),h.frozen j⟩
 rw[Sem.run_bind,run_storeAt_mid _ b 0 32 c.cells.toArray ht (by rw[qVv];rfl) (zFb c),List.toList_toArray]
 rfl
theorem zHa: (Tryz.prog.info? 83).map (·.size)=some 6:=by kernel_rfl
theorem qQc(cs:List Value): ∀zs:List Value,zs.length=cs.length->over zs 0 cs=cs:=λzs h=>by
 unfold over
 rw[List.take_zero,List.nil_append,Nat.zero_add,List.drop_eq_nil_iff.2 (by omega),List.append_nil]
structure LC (w:World) (r cb:Nat) (d:Cfg) (tl:List Nat) (w':World):Prop where
 cfg:Blk w' cb d.cells 32
 rcf:Blk w' w.heap.size qU1.cells 32
 rkd:Blk w' (w.heap.size+1) [.nilFunc,.nilFunc,.nilFunc,.nilFunc,.nilFunc,.nilFunc] 83
 rd:RdRep w' r tl
 kp:Keeps (λi=>i=r) w w'
 cbe:cb=w.heap.size+1+1
 rl:r<w.heap.size
theorem LC.still{w:World}{r cb:Nat}{d:Cfg}{tl:List Nat}{w' w'':World}(h:LC w r cb d tl w')(hk:Keeps (λ_=>False) w' w''): LC w r cb d tl w'' :=
 ⟨h.cfg.keeps hk (λh=>h),h.rcf.keeps hk (λh=>h),h.rkd.keeps hk (λh=>h),h.rd.keeps hk (λh=>h),h.kp.trans hk (λ_ h _=>h.elim),h.cbe,h.rl⟩
theorem qLa{w:World}{r cb:Nat}{d d':Cfg}{os:List Nat}{ns:List Int}{tl:List Nat}{w':World}{pv:Value}{base:Nat}(h:LC w r cb d (qBe ns++tl) w')(hp:w'.ownsRow base 170 1 pv (at' cb os).length (qDh (at' cb os)))(hd:qQi d.cells os ns=d'.cells)(hlen:os.length=ns.length)(ho:∀o,o∈os->o<20)(hpv:∀i,pv.ownBlock=some i->w.heap.size+1+1<i)(hn:∀n,n∈ns->0<=n/\n<=9223372036854775807)(hl:os.length<=1000):
  Calls Tryz.prog 139 #[.pointer (some ⟨r,0,none⟩),pv] w' λe w''=>e=.returned (.tuple #[])/\LC w r cb d' tl w''/\Keeps (λi=>i=r\/i=cb) w' w'':=by
 have h1:=h.rl
 have h2:=h.cbe
 refine(qJx r cb os ns d.cells 32 pv base tl w' h.rd (by have:=hp;unfold at' at this ⊢;rw[List.length_map]at this;exact this) h.cfg hlen (λo hm=>ho o hm) (by omega) (λi hi=>by have:=hpv i hi;omega) hn hl).mono ?_
 rintro e w2 ⟨rfl,hr,hb,hk⟩
 rw[hd]at hb
 exact⟨rfl,⟨hb,h.rcf.keeps hk (by omega),h.rkd.keeps hk (by omega),hr,h.kp.trans hk (λi hi hlt=>by omega),h.cbe,h.rl⟩,hk⟩
attribute [local go_sem ↓] qAd qC9
attribute [local go_sem] qAg
theorem qIk(r:Nat)(c:Cfg)(k:Nat)(tl:List Nat)(w:World)(h:RdRep w r (qBe (qBo k c)++tl))(hkd:c.kind=k)(h1:1<=k)(h5:k<=5)(p0:0<=qBt k c)(p3:qBt k c<=3)(hn:∀n,n∈qBo k c->0<=n/\n<=9223372036854775807)(hv:qA7 (qCd k c)=true):
  Calls Tryz.prog 136 #[.pointer (some ⟨r,0,none⟩)] w λe w'=>e=.returned (.tuple #[(qCd k c).val,.agg (qBa k).toArray,.bool true])/\RdRep w' r tl/\Keeps (λi=>i=r) w w':=by
 have HP:=hide (show ∃n:Nat,qBt k c=n/\n<=3 from⟨(qBt k c).toNat,by omega,by omega⟩)
 obtain⟨pn,hpn,hpn3⟩:=uh HP
 have HPN:=hide hpn
 have HC2:=hide (show qBo k c=[c.kind]++([1,2,3].map c.num++((qCp k).map c.num++(qBs pn).map c.num)) by unfold qBo;rw[hpn,Int.toNat_natCast];rfl)
 have HN:=hide hn
 have HV:=hide hv
 have HKD:=hide hkd
 obtain⟨W,hW⟩:∃W,W=(((w.alloc (.cells qU1.cells.toArray 32)).alloc (.cells #[.nilFunc,.nilFunc,.nilFunc,.nilFunc,.nilFunc,.nilFunc] 83)).alloc (.cells qU1.cells.toArray 32)).alloc (.cells (qDh (at' (w.heap.size+1+1) [0])).toArray 170):=⟨_,rfl⟩
 have hkW:Keeps (λ_=>False) w W:=by rw[hW];exact((((Keeps.refl _ _).alloc _).alloc _).alloc _).alloc _
 have HLC:=hide (show LC w r (w.heap.size+1+1) qU1 (qBe [c.kind]++(qBe ([1,2,3].map c.num++((qCp k).map c.num++(qBs pn).map c.num))++tl)) W from
    ⟨by rw[hW];exact(Blk.newAt (by simp) _ _).alloc _,by rw[hW];exact(((Blk.new w _ _).alloc _).alloc _).alloc _,by rw[hW];exact((Blk.newAt (by simp) _ _).alloc _).alloc _,by
       have:=h.keeps hkW (λh=>h)
       rw[uh HC2,qAk,List.append_assoc]at this
       exact this,hkW.mono (λ_ _ h=>h.elim),rfl,h.blk.lt⟩)
 have HOW:=hide (show W.ownsRow (w.heap.size+1+1+1) 170 1 (.slice (some ⟨w.heap.size+1+1+1,0,none⟩) 1 1) (at' (w.heap.size+1+1) [0]).length (qDh (at' (w.heap.size+1+1) [0])) by
    have hz:(((w.alloc (.cells qU1.cells.toArray 32)).alloc (.cells #[.nilFunc,.nilFunc,.nilFunc,.nilFunc,.nilFunc,.nilFunc] 83)).alloc (.cells qU1.cells.toArray 32)).heap.size=w.heap.size+1+1+1:=by simp
    have:=qEd (w:=((w.alloc (.cells qU1.cells.toArray 32)).alloc (.cells #[.nilFunc,.nilFunc,.nilFunc,.nilFunc,.nilFunc,.nilFunc] 83)).alloc (.cells qU1.cells.toArray 32)) (w':=W) (ps:=at' (w.heap.size+1+1) [0]) (n:=1) rfl (by omega) (by rw[hW];exact heap_alloc_new _ _)
    rw[hz]at this
    exact this)
 have HW0:=hide (show(((w.alloc (.cells #[.int .i64 0,.int .i64 0,.int .i64 0,.int .i64 0,.int .i64 0,.int .i64 0,.int .i64 0,.int .i64 0,.int .i64 0,.int .i64 0,.int .i64 0,.int .i64 0,.int .i64 0,.int .i64 0,.int .i64 0,.int .i64 0,.int .i64 0,.int .i64 0,.int .i64 0,.int .i64 0] 32)).alloc (.cells #[.nilFunc,.nilFunc,.nilFunc,.nilFunc,.nilFunc,.nilFunc] 83)).alloc (.cells #[.int .i64 0,.int .i64 0,.int .i64 0,.int .i64 0,.int .i64 0,.int .i64 0,.int .i64 0,.int .i64 0,.int .i64 0,.int .i64 0,.int .i64 0,.int .i64 0,.int .i64 0,.int .i64 0,.int .i64 0,.int .i64 0,.int .i64 0,.int .i64 0,.int .i64 0,.int .i64 0] 32)).alloc (.cells #[.pointer (some ⟨w.heap.size+1+1,0,none⟩)] 170)=W from hW.symm)
 clear hW hkW h hn hv hkd hpn p0 p3
 go_enter Tryz.func136,Tryz.ntmps136
 go_wp2_with fail
 rw[uh HW0]
 refine(qLa (d':=cfgA c) (uh HLC) (uh HOW) (qXv c) rfl (by simp) (λi hi=>by have:w.heap.size+1+1+1=i:=(by simpa[Value.ownBlock] using hi);omega) (λn hn=>uh HN n (by rw[uh HC2];exact List.mem_append.2 (.inl hn))) (by simp)).mono ?_
 rintro e w1 ⟨rfl,hl1,hk1⟩
 have HL1:=hide hl1
 clear hl1 hk1 HLC HOW HW0
 generalize hcb:w.heap.size+1+1=cb at *
 have HCB:=hide hcb
 have c0:w1.cell? ⟨cb,0,none⟩=some (.int .i64 c.kind):=(uh HL1).cfg.cell rfl
 clear hcb
 go_wp2_with fail
 refine(qHu c.kind k w1 (uh HKD) h1 h5).mono ?_
 rintro e w2 ⟨rfl,hk2⟩
 unfold qBa fn
 have HT2:=hide (Blk.new w2 [.func (.func (qBn k)) #[] #[],.func (.func (qA1 k)) #[] #[],.func (.func (qA0 k)) #[] #[],.func (.func (qAq k)) #[] #[],.func (.func (qAz k)) #[] #[],.func (.func (qA4 k)) #[] #[]] 83)
 have HL2:=hide ((uh HL1).still (hk2.alloc (.cells #[.func (.func (qBn k)) #[] #[],.func (.func (qA1 k)) #[] #[],.func (.func (qA0 k)) #[] #[],.func (.func (qAq k)) #[] #[],.func (.func (qAz k)) #[] #[],.func (.func (qA4 k)) #[] #[]] 83)))
 have hlt2:cb<w2.heap.size:=((uh HL1).cfg.keeps hk2 (λh=>h)).lt
 have HKB:=hide (show cb+1<=w2.heap.size by omega)
 clear hk2 c0 HL1
 go_wp2_with fail
 generalize hkb:w2.heap.size=kb at *
 generalize w2.alloc (.cells #[.func (.func (qBn k)) #[] #[],.func (.func (qA1 k)) #[] #[],.func (.func (qA0 k)) #[] #[],.func (.func (qAq k)) #[] #[],.func (.func (qAz k)) #[] #[],.func (.func (qA4 k)) #[] #[]] 83)=w3 at *
 clear hkb w2
 refine(qKk cb w3).mono ?_
 rintro e w4 ⟨pv,rfl,hown4,hk4⟩
 obtain⟨pa,pcap,hpv,_⟩:=qCi hown4
 subst hpv
 have HLT4:=hide (show ∀i,(Value.slice pa (at' cb [1,2,3]).length pcap).ownBlock=some i->w3.heap.size<=i from λi hi=>(hown4.lt i hi).1)
 have HL4:=hide ((uh HL2).still hk4)
 have HT4:=hide ((uh HT2).keeps hk4 (λh=>h))
 have HZ4:=hide (show cb+1<w3.heap.size from by have:=(uh HT2).lt;omega)
 have HO4:=hide hown4
 clear hown4 hk4 HL2 HT2
 go_wp2_with fail
 refine(qLa (d':=zBs c) (ns:=[1,2,3].map c.num) (tl:=qBe ((qCp k).map c.num++(qBs pn).map c.num)++tl) (by have:=uh HL4;rw[qAk,List.append_assoc]at this;exact this) (uh HO4) (qS3 c) (by simp) (by simp) (λi hi=>by have h1:=uh HLT4 i hi;have h2:=uh HZ4;have h3:=uh HCB;omega) (λn hn=>uh HN n (by rw[uh HC2];exact List.mem_append.2 (.inr (List.mem_append.2 (.inl hn))))) (by simp)).mono ?_
 rintro e w5 ⟨rfl,hl5,hk5⟩
 have HL5:=hide hl5
 have HT5:=hide ((uh HT4).keeps hk5 (by have h1:=uh HKB;have h2:=hl5.rl;have h3:=uh HCB;omega))
 clear hl5 hk5 HL4 HT4 HO4 HLT4 HZ4
 have k1:w5.cell? ⟨kb,1,none⟩=some (.func (.func (qA1 k)) #[] #[]):=(uh HT5).cell rfl
 have hown1:=qSa k h1 h5
 go_wp2_with fail
 refine(qQw k cb w5 h1 h5).mono ?_
 rintro e w6 ⟨pv,rfl,hown6,hk6⟩
 obtain⟨pa6,pcap6,hpv,_⟩:=qCi hown6
 subst hpv
 have HLT6:=hide (show ∀i,(Value.slice pa6 (at' cb (qCp k)).length pcap6).ownBlock=some i->w5.heap.size<=i from λi hi=>(hown6.lt i hi).1)
 have HL6:=hide ((uh HL5).still hk6)
 have HT6:=hide ((uh HT5).keeps hk6 (λh=>h))
 have HZ6:=hide (show cb<w5.heap.size from(uh HL5).cfg.lt)
 have HO6:=hide hown6
 clear hown6 hk6 HL5 HT5 k1 hown1
 go_wp2_with fail
 refine(qLa (d':=qOh k c) (ns:=(qCp k).map c.num) (tl:=qBe ((qBs pn).map c.num)++tl) (by have:=uh HL6;rw[qAk,List.append_assoc]at this;exact this) (by have:=uh HO6;exact this) (qWc k c h1 h5) (by simp) (qRb k) (λi hi=>by have h1:=uh HLT6 i hi;have h2:=uh HZ6;have h3:=uh HCB;omega) (λn hn=>uh HN n (by rw[uh HC2];exact List.mem_append.2 (.inr (List.mem_append.2 (.inr (List.mem_append.2 (.inl hn))))))) (by unfold qCp;split <;> simp)).mono ?_
 rintro e w7 ⟨rfl,hl7,hk7⟩
 have HL7:=hide hl7
 have HT7:=hide ((uh HT6).keeps hk7 (by have h1:=uh HKB;have h2:=hl7.rl;have h3:=uh HCB;omega))
 clear hl7 hk7 HL6 HT6 HO6 HLT6 HZ6
 have k2:w7.cell? ⟨kb,2,none⟩=some (.func (.func (qA0 k)) #[] #[]):=(uh HT7).cell rfl
 obtain⟨hv7,hh7⟩:=qBm (uh HL7).cfg 20 rfl
 have hown2:=qQk k h1 h5
 have hmin:(if (3:Int)<(pn:Int) then(3:Int) else(pn:Int))=(pn:Int):=by rw[if_neg (by omega)]
 go_wp2_with fail
 refine(qSi k (qOh k c) w7 h1 h5).mono ?_
 rintro e w8 ⟨rfl,hk8⟩
 rw[qTo k c h1 h5,uh HPN]
 have HL8:=hide ((uh HL7).still hk8)
 have HT8:=hide ((uh HT7).keeps hk8 (λh=>h))
 clear hk8 HL7 HT7 k2 hown2 hv7 hh7
 go_wp2_with fail
 refine(qR9 cb pn w8 hpn3).mono ?_
 rintro e w9 ⟨pv,rfl,hown9,hk9⟩
 obtain⟨pa9,pcap9,hpv,_⟩:=qCi hown9
 subst hpv
 have HLT9:=hide (show ∀i,(Value.slice pa9 (at' cb (qBs pn)).length pcap9).ownBlock=some i->w8.heap.size<=i from λi hi=>(hown9.lt i hi).1)
 have HL9:=hide ((uh HL8).still hk9)
 have HT9:=hide ((uh HT8).keeps hk9 (λh=>h))
 have HZ9:=hide (show cb<w8.heap.size from(uh HL8).cfg.lt)
 have HO9:=hide hown9
 clear hown9 hk9 HL8 HT8 hmin
 go_wp2_with fail
 refine(qLa (d':=qUe pn (qOh k c) c) (ns:=(qBs pn).map c.num) (tl:=tl) (uh HL9) (by have:=uh HO9;exact this) (qWr k pn c h1 h5 hpn3) (by simp) (qRy pn hpn3) (λi hi=>by have h1:=uh HLT9 i hi;have h2:=uh HZ9;have h3:=uh HCB;omega) (λn hn=>uh HN n (by rw[uh HC2];exact List.mem_append.2 (.inr (List.mem_append.2 (.inr (List.mem_append.2 (.inr hn))))))) (by simp[qBs];omega)).mono ?_
 rintro e wa ⟨rfl,hla,hka⟩
 rw[zD1 k pn c (uh HPN)]at hla
 have HLA:=hide hla
 have HTA:=hide ((uh HT9).keeps hka (by have h1:=uh HKB;have h2:=hla.rl;have h3:=uh HCB;omega))
 clear hla hka HL9 HT9 HO9 HLT9 HZ9
 obtain⟨hva,hha⟩:=qBm (uh HLA).cfg 20 rfl
 have HKC:=hide (show(qCd k c).kind=k by have:=uh HKD;rcases five h1 h5 with e | e | e | e | e <;> subst e <;> exact this)
 obtain⟨k',hk'1,_,_,hcm,hft⟩:=qFb (uh HV)
 have hkk':k'=k:=by have:=uh HKC;omega
 subst hkk'
 go_wp2_with fail
 refine(qIn (qCd k' c) k' wa (uh HKC) h1 h5 hcm hft).mono ?_
 rintro e wb ⟨rfl,hkb⟩
 unfold qBa fn
 have HLB:=hide ((uh HLA).still hkb)
 have HTB:=hide ((uh HTA).keeps hkb (λh=>h))
 clear hkb hva hha HLA HTA
 have t0:=(uh HTB).cell (i:=0) rfl
 have t1:=(uh HTB).cell (i:=1) rfl
 have t2:=(uh HTB).cell (i:=2) rfl
 have t3:=(uh HTB).cell (i:=3) rfl
 have t4:=(uh HTB).cell (i:=4) rfl
 have t5:=(uh HTB).cell (i:=5) rfl
 have tf:=(uh HTB).frozen
 have hKB:=uh HKB
 have hCB:=uh HCB
 have hRL:=(uh HLB).rl
 have HTC:=hide ((((((((uh HTB).setCell 0 (.func (.func (qBn k')) #[] #[])).setCell 1 (.func (.func (qA1 k')) #[] #[])).setCell 2 (.func (.func (qA0 k')) #[] #[])).setCell 3 (.func (.func (qAq k')) #[] #[])).setCell 4 (.func (.func (qAz k')) #[] #[])).setCell 5 (.func (.func (qA4 k')) #[] #[])))
 have HKC2:=hide (show Keeps (λi=>i=kb) wb _ from(((((((Keeps.refl (λi=>i=kb) wb).setCell (p:=⟨kb,0,none⟩) (Or.inl rfl) (.func (.func (qBn k')) #[] #[])).setCell (p:=⟨kb,1,none⟩) (Or.inl rfl) (.func (.func (qA1 k')) #[] #[])).setCell (p:=⟨kb,2,none⟩) (Or.inl rfl) (.func (.func (qA0 k')) #[] #[])).setCell (p:=⟨kb,3,none⟩) (Or.inl rfl) (.func (.func (qAq k')) #[] #[])).setCell (p:=⟨kb,4,none⟩) (Or.inl rfl) (.func (.func (qAz k')) #[] #[])).setCell (p:=⟨kb,5,none⟩) (Or.inl rfl) (.func (.func (qA4 k')) #[] #[])))
 go_wp2_with fail
 generalize(((((wb.setCell ⟨kb,0,none⟩ (.func (.func (qBn k')) #[] #[])).setCell ⟨kb,1,none⟩ (.func (.func (qA1 k')) #[] #[])).setCell ⟨kb,2,none⟩ (.func (.func (qA0 k')) #[] #[])).setCell ⟨kb,3,none⟩ (.func (.func (qAq k')) #[] #[])).setCell ⟨kb,4,none⟩ (.func (.func (qAz k')) #[] #[])).setCell ⟨kb,5,none⟩ (.func (.func (qA4 k')) #[] #[])=wc at *
 clear t0 t1 t2 t3 t4 t5 tf
 have HKC3:=hide ((uh HKC2).drew)
 have HCC:=hide (show Blk wc.drew cb (qCd k' c).cells 32 from(uh HLB).cfg.keeps (uh HKC3) (show ¬(cb=kb) by omega))
 have HRC:=hide (show Blk wc.drew w.heap.size qU1.cells 32 from(uh HLB).rcf.keeps (uh HKC3) (show ¬(w.heap.size=kb) by omega))
 have HRK:=hide (show Blk wc.drew (w.heap.size+1) [.nilFunc,.nilFunc,.nilFunc,.nilFunc,.nilFunc,.nilFunc] 83 from(uh HLB).rkd.keeps (uh HKC3) (show ¬(w.heap.size+1=kb) by omega))
 have HRD:=hide (show RdRep wc.drew r tl from(uh HLB).rd.keeps (uh HKC3) (show ¬(r=kb) by omega))
 have HKP:=hide (show Keeps (λi=>i=r) w wc.drew from(uh HLB).kp.trans (uh HKC3) (λi hi hlt=>by have hi2:i=kb:=hi;omega))
 have HTD:=hide (show Blk wc.drew kb [.func (.func (qBn k')) #[] #[],.func (.func (qA1 k')) #[] #[],.func (.func (qA0 k')) #[] #[],.func (.func (qAq k')) #[] #[],.func (.func (qAz k')) #[] #[],.func (.func (qA4 k')) #[] #[]] 83 from uh HTC)
 obtain⟨hva,hha⟩:=qBm (uh HCC) 20 rfl
 have hst:=qHg (qCd k' c) (uh HRC) rfl
 have hBD:=Blk.setCells (qCd k' c).cells 0 wc.drew _ (uh HRC) (by show 0+20<=20;omega)
 rw[qQc _ _ (by rfl)]at hBD
 have hKD:Keeps (λi=>i=w.heap.size) wc.drew (wc.drew.setCells w.heap.size 0 (qCd k' c).cells):=Keeps.setCells (M:=λi=>i=w.heap.size) (b:=w.heap.size) (Or.inl rfl) _ _ _ (Keeps.refl _ _)
 have HKD2:=hide hKD
 have HBD:=hide hBD
 have HTE:=hide ((uh HTD).keeps hKD (show ¬(kb=w.heap.size) by omega))
 have HRE:=hide ((uh HRK).keeps hKD (show ¬(w.heap.size+1=w.heap.size) by omega))
 generalize wc.drew.setCells w.heap.size 0 (qCd k' c).cells=wd at *
 clear hBD hKD
 have t0:wc.cell? ⟨kb,0,none⟩=some (.func (.func (qBn k')) #[] #[]):=(uh HTD).cell (i:=0) rfl
 have t1:wc.cell? ⟨kb,1,none⟩=some (.func (.func (qA1 k')) #[] #[]):=(uh HTD).cell (i:=1) rfl
 have t2:wc.cell? ⟨kb,2,none⟩=some (.func (.func (qA0 k')) #[] #[]):=(uh HTD).cell (i:=2) rfl
 have t3:wc.cell? ⟨kb,3,none⟩=some (.func (.func (qAq k')) #[] #[]):=(uh HTD).cell (i:=3) rfl
 have t4:wc.cell? ⟨kb,4,none⟩=some (.func (.func (qAz k')) #[] #[]):=(uh HTD).cell (i:=4) rfl
 have t5:wc.cell? ⟨kb,5,none⟩=some (.func (.func (qA4 k')) #[] #[]):=(uh HTD).cell (i:=5) rfl
 have u0:=(uh HTE).cell (i:=0) rfl
 have u1:=(uh HTE).cell (i:=1) rfl
 have u2:=(uh HTE).cell (i:=2) rfl
 have u3:=(uh HTE).cell (i:=3) rfl
 have u4:=(uh HTE).cell (i:=4) rfl
 have u5:=(uh HTE).cell (i:=5) rfl
 have r0:=(uh HRE).cell (i:=0) rfl
 have r1:=(uh HRE).cell (i:=1) rfl
 have r2:=(uh HRE).cell (i:=2) rfl
 have r3:=(uh HRE).cell (i:=3) rfl
 have r4:=(uh HRE).cell (i:=4) rfl
 have r5:=(uh HRE).cell (i:=5) rfl
 have rf:=(uh HRE).frozen
 have HFK:=hide (((((((uh HRE).setCell 0 (.func (.func (qBn k')) #[] #[])).setCell 1 (.func (.func (qA1 k')) #[] #[])).setCell 2 (.func (.func (qA0 k')) #[] #[])).setCell 3 (.func (.func (qAq k')) #[] #[])).setCell 4 (.func (.func (qAz k')) #[] #[])).setCell 5 (.func (.func (qA4 k')) #[] #[]))
 have HFP:=hide (show Keeps (λi=>i=w.heap.size+1) wd _ from(((((((Keeps.refl (λi=>i=w.heap.size+1) wd).setCell (p:=⟨w.heap.size+1,0,none⟩) (Or.inl rfl) (.func (.func (qBn k')) #[] #[])).setCell (p:=⟨w.heap.size+1,1,none⟩) (Or.inl rfl) (.func (.func (qA1 k')) #[] #[])).setCell (p:=⟨w.heap.size+1,2,none⟩) (Or.inl rfl) (.func (.func (qA0 k')) #[] #[])).setCell (p:=⟨w.heap.size+1,3,none⟩) (Or.inl rfl) (.func (.func (qAq k')) #[] #[])).setCell (p:=⟨w.heap.size+1,4,none⟩) (Or.inl rfl) (.func (.func (qAz k')) #[] #[])).setCell (p:=⟨w.heap.size+1,5,none⟩) (Or.inl rfl) (.func (.func (qA4 k')) #[] #[])))
 go_region
 go_wp2
 clear t0 t1 t2 t3 t4 t5 u0 u1 u2 u3 u4 u5 r0 r1 r2 r3 r4 r5 rf hst hva hha
 generalize(((((wd.setCell ⟨w.heap.size+1,0,none⟩ (.func (.func (qBn k')) #[] #[])).setCell ⟨w.heap.size+1,1,none⟩ (.func (.func (qA1 k')) #[] #[])).setCell ⟨w.heap.size+1,2,none⟩ (.func (.func (qA0 k')) #[] #[])).setCell ⟨w.heap.size+1,3,none⟩ (.func (.func (qAq k')) #[] #[])).setCell ⟨w.heap.size+1,4,none⟩ (.func (.func (qAz k')) #[] #[])).setCell ⟨w.heap.size+1,5,none⟩ (.func (.func (qA4 k')) #[] #[])=we at *
 have HFC:=hide ((uh HBD).keeps (uh HFP) (show ¬(w.heap.size=w.heap.size+1) by omega))
 have hrd1:=(uh HRD).keeps (uh HKD2) (show ¬(r=w.heap.size) by omega)
 have HFR:=hide (hrd1.keeps (uh HFP) (show ¬(r=w.heap.size+1) by omega))
 have HFQ:=hide (((uh HKP).trans (uh HKD2) (λi hi hlt=>by have hi2:i=w.heap.size:=hi;omega)).trans (uh HFP) (λi hi hlt=>by have hi2:i=w.heap.size+1:=hi;omega))
 have HLV:=hide (show(loadVar 32 ⟨w.heap.size,0,none⟩).run Tryz.prog we=.ok (.agg (qCd k' c).cells.toArray) we from run_loadVar_mid we w.heap.size 0 32 (qCd k' c).cells _ (λj v hv=>by rw[Nat.zero_add];exact(uh HFC).cell hv) Tryz.underlying32 rfl (by rw[qVv];rfl))
 have HLK:=hide (show(loadVar 83 ⟨w.heap.size+1,0,none⟩).run Tryz.prog we=.ok (.agg #[.func (.func (qBn k')) #[] #[],.func (.func (qA1 k')) #[] #[],.func (.func (qA0 k')) #[] #[],.func (.func (qAq k')) #[] #[],.func (.func (qAz k')) #[] #[],.func (.func (qA4 k')) #[] #[]]) we from run_loadVar_mid we (w.heap.size+1) 0 83 [.func (.func (qBn k')) #[] #[],.func (.func (qA1 k')) #[] #[],.func (.func (qA0 k')) #[] #[],.func (.func (qAq k')) #[] #[],.func (.func (qAz k')) #[] #[],.func (.func (qA4 k')) #[] #[]] _ (λj v hv=>by rw[Nat.zero_add];exact(uh HFK).cell hv) Tryz.underlying83 rfl (by rw[zHa];rfl))
 refine bodyPost_ret (v:=.tuple #[(qCd k' c).val,.agg #[.func (.func (qBn k')) #[] #[],.func (.func (qA1 k')) #[] #[],.func (.func (qA0 k')) #[] #[],.func (.func (qAq k')) #[] #[],.func (.func (qAz k')) #[] #[],.func (.func (qA4 k')) #[] #[]],.bool true]) (by simp[results,Tryz.results136,asAddr,uh HLV,uh HLK];rfl) rfl ?_
 exact⟨rfl,uh HFR,uh HFQ⟩
end
section
open Go.RowKit
def qEl(m acc rel:Int)(nv:Value): List Value:=[.int .i64 m,.int .i64 acc,.int .i64 rel,nv]
theorem qMz(d r kn:Nat)(c:Cfg)(q e m acc rel:Int)(nv:Value)(tl:List Nat)(w:World)(hb:Blk w d (qDv c 0 0) 201)(h:RdRep w r (qBe [q,e]++tl))(hk:Blk w kn (qEl m acc rel nv) 184)(hdr:d≠r)(hkr:kn≠r)(hkd:kn≠d)(q0:0<=q)(q1:q<=rel)(e0:0<=e)(e1:e<=2305843009213693951)(r1:rel<=4611686018427387904)(hc1:q<rel\/e=0)(hc2:0<q\/rel<=e):
  Calls Tryz.prog 167 #[.pointer (some ⟨d,0,none⟩),.pointer (some ⟨r,0,none⟩),.pointer (some ⟨kn,0,none⟩)] w λx w'=>x=.returned (.tuple #[])/\Blk w' d (qDv c q e) 201/\RdRep w' r tl/\Keeps (λi=>i=r\/i=d) w w':=by
 rw[qAy,qC4,List.append_assoc]at h
 have HB:=hide hb
 have HK:=hide hk
 have k2:w.cell? ⟨kn,2,none⟩=some (.int .i64 rel):=hk.cell rfl
 have HN:=hide (qB3 r q 0 rel (enc e++tl) w h q0 (by omega) q0 q1)
 clear h hb hk
 go_enter Tryz.func167,Tryz.ntmps167
 go_wp2_with fail
 refine(uh HN).mono ?_
 rintro x w1 ⟨rfl,hr1,hk1⟩
 have HB1:=hide ((uh HB).keeps hk1 hdr)
 have HK1:=hide ((uh HK).keeps hk1 hkr)
 have hd20:w1.cell? ⟨d,20,none⟩=some (.int .i64 0):=(uh HB1).cell rfl
 have hf1:=(uh HB1).frozen
 have HB2:=hide (show Blk (w1.setCell ⟨d,20,none⟩ (.int .i64 q)) d (qDv c q 0) 201 from(uh HB1).setCell 20 (.int .i64 q))
 have HR2:=hide (hr1.keeps ((Keeps.refl (λi=>i=d) w1).setCell (p:=⟨d,20,none⟩) (Or.inl rfl) (.int .i64 q)) (λh=>hdr h.symm))
 have HK2:=hide ((uh HK1).setCell_far (p:=⟨d,20,none⟩) (λh=>hkd h.symm) (.int .i64 q))
 have HP2:=hide (show Keeps (λi=>i=r\/i=d) w (w1.setCell ⟨d,20,none⟩ (.int .i64 q)) from(hk1.mono (λ_ _ h=>.inl h)).setCell (p:=⟨d,20,none⟩) (Or.inl (.inr rfl)) _)
 clear hr1 hk1 k2 HN HB HK
 go_wp2_with fail
 clear hd20 hf1
 generalize w1.setCell ⟨d,20,none⟩ (.int .i64 q)=w2 at *
 refine(qB3 r e 0 2305843009213693951 tl w2 (uh HR2) e0 (by omega) e0 e1).mono ?_
 rintro x w3 ⟨rfl,hr3,hk3⟩
 have HB3:=hide ((uh HB2).keeps hk3 hdr)
 have HK3:=hide ((uh HK2).keeps hk3 hkr)
 have hd21:w3.cell? ⟨d,21,none⟩=some (.int .i64 0):=(uh HB3).cell rfl
 have hf3:=(uh HB3).frozen
 have HB4:=hide (show Blk (w3.setCell ⟨d,21,none⟩ (.int .i64 e)) d (qDv c q e) 201 from(uh HB3).setCell 21 (.int .i64 e))
 have HR4:=hide (hr3.keeps ((Keeps.refl (λi=>i=d) w3).setCell (p:=⟨d,21,none⟩) (Or.inl rfl) (.int .i64 e)) (λh=>hdr h.symm))
 have HK4:=hide ((uh HK3).setCell_far (p:=⟨d,21,none⟩) (λh=>hkd h.symm) (.int .i64 e))
 have HP4:=hide (show Keeps (λi=>i=r\/i=d) w (w3.setCell ⟨d,21,none⟩ (.int .i64 e)) from((uh HP2).trans hk3 (λ_ h _=>.inl h)).setCell (p:=⟨d,21,none⟩) (Or.inl (.inr rfl)) _)
 clear hr3 hk3 HB2 HR2 HK2 HP2
 go_wp2_with fail
 clear hd21 hf3
 generalize w3.setCell ⟨d,21,none⟩ (.int .i64 e)=w4 at *
 have a1:w4.cell? ⟨d,20,none⟩=some (.int .i64 q):=(uh HB4).cell rfl
 have a2:w4.cell? ⟨d,21,none⟩=some (.int .i64 e):=(uh HB4).cell rfl
 have a3:w4.cell? ⟨kn,2,none⟩=some (.int .i64 rel):=(uh HK4).cell rfl
 have HC:=hide (show ∀W n,Calls Tryz.prog 135 #[.pointer (some ⟨r,0,none⟩),.bool true] (World.drewN W n) λe w''=>e=.returned (.tuple #[])/\w''=World.drewN W n from λW n=>qEr r _)
 have hg1:(decide (q<rel)=true)\/(decide (q<rel)=false/\(e==0)=true):=by
  by_cases h:q<rel
  ·exact .inl (by simpa using h)
  ·refine .inr ⟨by simpa using h,?_⟩
   rcases hc1 with h2 | h2
   ·exact absurd h2 h
   ·simpa using h2
 have hg2:(decide (0<q)=true)\/(decide (0<q)=false/\decide (rel<=e)=true):=by
  by_cases h:0<q
  ·exact .inl (by simpa using h)
  ·refine .inr ⟨by simpa using h,?_⟩
   rcases hc2 with h2 | h2
   ·exact absurd h2 h
   ·simpa using h2
 clear hc1 hc2
 rcases hg1 with g1 | ⟨g1,g1'⟩
 all_goals
  go_quiet (first | (go_at_call 135;refine Calls.quiet_of_same (uh HC w4 _)))
  have b1:(w4.drewN nq).cell? ⟨d,20,none⟩=some (.int .i64 q):=a1
  have b2:(w4.drewN nq).cell? ⟨d,21,none⟩=some (.int .i64 e):=a2
  have b3:(w4.drewN nq).cell? ⟨kn,2,none⟩=some (.int .i64 rel):=a3
  have HB5:=hide (show Blk (w4.drewN nq) d (qDv c q e) 201 from uh HB4)
  have HR5:=hide (show RdRep (w4.drewN nq) r tl from⟨(uh HR4).blk,(uh HR4).len⟩)
  have HP5:=hide ((uh HP4).trans (Keeps.drewN (λ_=>False) w4 nq) (λ_ h _=>h.elim))
  generalize w4.drewN nq=w5 at *
  go_wp2_with fail
  rcases hg2 with g2 | ⟨g2,g2'⟩
  all_goals
   go_quiet (first | (go_at_call 135;refine Calls.quiet_of_same (uh HC w5 _)))
   go_wp2
   go_end0
   exact⟨rfl,uh HB5,⟨(uh HR5).blk,(uh HR5).len⟩,(uh HP5).trans (Keeps.drewN (λ_=>False) w5 _) (λ_ h _=>h.elim)⟩
end
section
open Go.RowKit
attribute [local go_sem ↓] qAd qC9
attribute [local go_sem] qAg qAb qAc qAn qAo qAi qAh qAf qAl
theorem ixk(k j:Nat)(h:qB1[k]?=some j)(w:World): (Instr.index 134 (.agg #[.int .i64 5,.int .i64 6,.int .i64 7,.int .i64 8,.int .i64 10,.int .i64 9,.int .i64 11]) (.int .i64 (k:Int))).run Tryz.prog w=.ok (.int .i64 (j:Int)) w:=by
 have hk:k<7:=by have:=(List.getElem?_eq_some_iff.1 h).1;exact this
 have hk7:k=0\/k=1\/k=2\/k=3\/k=4\/k=5\/k=6:=by omega
 rcases hk7 with e | e | e | e | e | e | e
 all_goals
  subst e
  have hj:=Option.some.inj h
  rw[<-hj]
  clear hj h
 ·exact ix0 w
 ·exact ix1 w
 ·exact ix2 w
 ·exact ix3 w
 ·exact ix4 w
 ·exact ix5 w
 ·exact ix6 w
def qGg(c:Cfg)(clock:Int): Int :=
 let t:=if 0<(if clock-c.lag+1<clock then clock-c.lag+1 else clock) then(if clock-c.lag+1<clock then clock-c.lag+1 else clock) else 0
 if 4611686018427387904/c.cap<t then 4611686018427387904 else c.cap*t
theorem qR1(sb:SB)(x:Ser)(clock:Int)(w:World)(h:SRep w sb x)(l0:0<=x.c.lag)(l1:x.c.lag<=100)(p0:1<=x.c.cap)(p1:x.c.cap<=8)(c0:0<=clock)(c1:clock<=4611686018427387904):
  Calls Tryz.prog 137 #[.pointer (some ⟨sb.s,0,none⟩),.int .i64 clock] w λe w'=>e=.returned (.int .i64 (qGg x.c clock))/\w'=w:=by
 have hl:w.cell? ⟨sb.s,2,none⟩=some (.int .i64 x.c.lag):=h.blk.cell rfl
 have hp:w.cell? ⟨sb.s,4,none⟩=some (.int .i64 x.c.cap):=h.blk.cell rfl
 have HW:=hide (qI3 sb.s x.c.lag clock w hl l0 l1 c0 c1)
 clear h hl
 obtain⟨m,hm,hm1⟩:∃m,(if clock-x.c.lag+1<clock then clock-x.c.lag+1 else clock)=m/\m<=clock:=⟨_,rfl,by split <;> omega⟩
 obtain⟨t,ht,ht1,ht0⟩:∃t,(if 0<m then m else 0)=t/\t<=clock/\0<=t:=⟨_,rfl,by split <;> omega,by split <;> omega⟩
 have HM:=hide (show qGg x.c clock=if 4611686018427387904/x.c.cap<t then 4611686018427387904 else x.c.cap*t by unfold qGg;simp only;rw[hm,ht])
 have wa:IntKind.i64.wrap (clock-x.c.lag+1)=clock-x.c.lag+1:=by rw[IntKind.wrap_i64];omega
 have hq:(4611686018427387904:Int).tdiv x.c.cap=4611686018427387904/x.c.cap:=Int.tdiv_eq_ediv_of_nonneg (by omega)
 generalize x.c.cap=cp at *
 generalize x.c.lag=lg at *
 have hD0:0<=4611686018427387904/cp:=Int.ediv_nonneg (by omega) (by omega)
 have hD1:4611686018427387904/cp<=4611686018427387904:=Int.ediv_le_self _ (by omega)
 have hwq:wrap64 (4611686018427387904/cp)=4611686018427387904/cp:=by
  have:=IntKind.wrap_i64 (4611686018427387904/cp)
  unfold wrap64
  omega
 have hcd:4611686018427387904/cp<t\/(t<=4611686018427387904/cp/\IntKind.i64.wrap (cp*t)=cp*t):=by
  by_cases h:4611686018427387904/cp<t
  ·exact .inl h
  ·refine .inr ⟨by omega,?_⟩
   have h1:cp*t<=4611686018427387904:=by
    have h2:t<=4611686018427387904/cp:=by omega
    have h3:=Int.mul_le_mul_of_nonneg_left h2 (show 0<=cp by omega)
    have h4:=Int.mul_ediv_self_le (x:=4611686018427387904) (k:=cp) (by omega)
    omega
   have h0:0<=cp*t:=Int.mul_nonneg (by omega) ht0
   rw[IntKind.wrap_i64];omega
 by_cases h1:clock-lg+1<clock
 all_goals
  by_cases h2:0<m
  all_goals
   rcases hcd with h3 | ⟨h3,h4⟩
   all_goals
    first | rw[if_pos h1]at hm | rw[if_neg h1]at hm
    first | rw[if_pos h2]at ht | rw[if_neg h2]at ht
    subst ht
    subst hm
   all_goals
    first
     | (exfalso;omega)
     | (go_enter Tryz.func137,Tryz.ntmps137
        go_wp2_with fail
        refine(uh HW).mono ?_
        rintro e w1 ⟨rfl,hw1⟩
        rw[hw1]
        clear hw1 w1
        go_wp2
        go_ret
        exact⟨by rw[uh HM];first | (rw[if_pos (by omega)];rfl) | (rw[if_neg (by omega)];simp[go_sem];done),rfl⟩)
structure LSt (w:World) (r:Nat) (sb:SB) (x:Ser) (tl:List Nat) (w':World):Prop where
 ser:SRep w' sb x
 rd:RdRep w' r tl
 kp:Keeps (λi=>i=r) w w'
 new:∀i,sb.foot x.k i->w.heap.size<=i
 rl:r<w.heap.size
theorem LSt.apart{w:World}{r:Nat}{sb:SB}{x:Ser}{tl:List Nat}{w':World}(h:LSt w r sb x tl w')(i:Nat)(hi:sb.foot x.k i): ¬i=r:=λe=>by
 have h1:=h.new i hi
 have h2:=h.rl
 omega
theorem LSt.still{w:World}{r:Nat}{sb:SB}{x:Ser}{tl:List Nat}{w' w'':World}(h:LSt w r sb x tl w')(hk:Keeps (λ_=>False) w' w''): LSt w r sb x tl w'' :=
 ⟨h.ser.still hk,h.rd.keeps hk (λh=>h),h.kp.trans hk (λ_ h _=>h.elim),h.new,h.rl⟩
theorem LSt.number{w:World}{r:Nat}{sb:SB}{x:Ser}{n lo hi:Int}{tl:List Nat}{w':World}(h:LSt w r sb x (enc n++tl) w')(n0:0<=n)(n1:n<=9223372036854775807)(h1:lo<=n)(h2:n<=hi):
  Calls Tryz.prog 88 #[.pointer (some ⟨r,0,none⟩),.int .i64 lo,.int .i64 hi] w' λe w''=>e=.returned (.int .i64 n)/\LSt w r sb x tl w''/\Keeps (λi=>i=r) w' w'':=by
 refine(qB3 r n lo hi tl w' h.rd n0 n1 h1 h2).mono ?_
 rintro e w2 ⟨rfl,hr,hk⟩
 exact⟨rfl,⟨h.ser.keeps hk (λi hi=>h.apart i hi),hr,h.kp.then hk,h.new,h.rl⟩,hk⟩
theorem LSt.set{w:World}{r:Nat}{sb:SB}{x x2:Ser}{tl:List Nat}{w':World}(h:LSt w r sb x tl w')(o:Nat)(v:Value)(he:(qB9 sb x).set o v=qB9 sb x2)(hl:x2.l=x.l)(hk:x2.k=x.k)(hc:x2.c=x.c)(hn:x2.nt=x.nt): LSt w r sb x2 tl (w'.setCell ⟨sb.s,o,none⟩ v):=by
 have hkp:Keeps (λi=>i=sb.s) w' (w'.setCell ⟨sb.s,o,none⟩ v):=(Keeps.refl (λi=>i=sb.s) w').setCell (p:=⟨sb.s,o,none⟩) (Or.inl rfl) v
 have hsn:=h.new sb.s (.inl rfl)
 have hrl:=h.rl
 refine⟨⟨?_,?_,?_,h.ser.sq,h.ser.sg,?_⟩,h.rd.keeps hkp (show ¬(r=sb.s) by omega),h.kp.trans hkp (λi hi hlt=>by have hi2:i=sb.s:=hi;omega),?_,h.rl⟩
 ·rw[<-he];exact h.ser.blk.setCell o v
 ·rw[hl];exact h.ser.que.keeps hkp (λe=>h.ser.sq e.symm) (λg hg e=>h.ser.sg g hg e.symm)
 ·rw[hk,hc,hn];exact h.ser.note.keeps hkp (λi hi=>(h.ser.sn i hi).1)
 ·rw[hk];exact h.ser.sn
 ·rw[hk];exact h.new
end
end Go.Proofs.YtahnliehdjncdabGreatDoor
