import Derived.Laws.BytesArg
import Derived.Lib.SlBytesConst
import Derived.Test.YtahnliehdjncdaaGreatDoorXAA
import Derived.Test.YtahnliehdjncdaaGreatDoorXBB
import Derived.Test.YtahnliehdjncdaaGreatDoorXAW
import Derived.Test.YtahnliehdjncdaaGreatDoorXAY
import Derived.Deep.DrawnRows
import Derived.Test.YtahnliehdjncdaaGreatDoorXAD
import Derived.Test.YtahnliehdjncdaaGreatDoorXAX
set_option maxRecDepth 100000
set_option maxHeartbeats 16000000
namespace Go.Proofs.YtahnliehdjncdaaGreatDoor
section
open Go.RowKit
theorem qZg(hi lo:Int)(w:World)(h0:0<=hi)(h1:hi<=1099511627776)(l0:0<=lo)(l1:lo<18446744073709551616):
  Calls Tryz.prog 191 #[.int .u64 hi,.int .u64 lo,.int .u64 2305843009213693951] w λe w'=>e=.returned (.int .u64 ((hi*18446744073709551616+lo)%2305843009213693951))/\Keeps (λ_=>False) w w':=by
 have hm:hi.tmod 2305843009213693951=hi:=by rw[Int.tmod_eq_emod_of_nonneg h0];omega
 have HD:=hide (qXo hi lo w h0 h1 l0 l1)
 go_enter Tryz.func191,Tryz.ntmps191
 go_wp2_with fail
 refine(uh HD).mono ?_
 rintro e w1 ⟨⟨q,rfl⟩,hk⟩
 have HK:=hide hk
 clear hk
 go_wp2
 go_ret
 exact⟨rfl,uh HK⟩
theorem zAd(a b key:Int)(w:World)(a0:0<=a)(a1:a<=1099511627776)(b0:0<=b)(b1:b<2305843009213693951)(k0:0<=key)(k1:key<=2305843009213693951):
  Calls Tryz.prog 145 #[.agg #[.int .i64 a,.int .i64 b],.int .i64 key] w λe w'=>e=.returned (.int .i64 (qDp a b key))/\Keeps (λ_=>False) w w':=by
 have p0:0<=a*key:=Int.mul_nonneg a0 k0
 have p1:a*key<=1099511627776*2305843009213693951:=Int.mul_le_mul a1 k1 k0 (by omega)
 have wa:IntKind.u64.wrap a=a:=by rw[IntKind.wrap_u64];omega
 have wb:IntKind.u64.wrap b=b:=by rw[IntKind.wrap_u64];omega
 have wk:IntKind.u64.wrap key=key:=by rw[IntKind.wrap_u64];omega
 have HM:=hide (λw=>qKb a key a0 (by omega) k0 (by omega) w)
 go_enter Tryz.func145,Tryz.ntmps145
 go_wp2_with fail
 refine(uh HM _).mono ?_
 rintro e w' ⟨rfl,rfl⟩
 have hadd:=λW=>qQ7 (a*key%18446744073709551616) b (by omega) b0 W
 have HP:=hide (show qDp a b key=(a*key+b)%2305843009213693951 from rfl)
 have HK:=hide ((Keeps.refl (λ_=>False) w).alloc (.cells #[.int .i64 a,.int .i64 b] 35))
 have hx:(w.alloc (.cells #[.int .i64 a,.int .i64 b] 35)).cell? ⟨w.heap.size,1,none⟩=some (.int .i64 b):=(Blk.new w [.int .i64 a,.int .i64 b] 35).cell rfl
 generalize w.alloc (.cells #[.int .i64 a,.int .i64 b] 35)=W at *
 generalize a*key=p at *
 go_wp2_with fail
 refine(qZg _ _ _ (by omega) (by omega) (by omega) (by omega)).mono ?_
 rintro e w1 ⟨rfl,hk⟩
 have HK2:=hide ((uh HK).then hk)
 clear hk
 have hf:IntKind.i64.wrap (((p/18446744073709551616+(p%18446744073709551616+b)/18446744073709551616)*18446744073709551616+(p+b)%18446744073709551616)%2305843009213693951)=(p+b)%2305843009213693951:=by
  rw[IntKind.wrap_i64];omega
 go_wp2
 go_ret
 exact⟨by rw[uh HP];rfl,uh HK2⟩
def qI5: List Nat:=[115,107,101,116,99,104,32,49]
theorem qXb: Tryz.prog.underlying 5=some (.int .u8):=by kernel_rfl
theorem qIt{w:World}{base T n:Nat}{v:Value}{xs:List Value}(h:w.ownsRow base T 1 v n xs): (n=0/\v=.slice none 0 0)\/∃g cap,v=.slice (some ⟨g,0,none⟩) n cap/\∀(i:Nat) u,xs[i]?=some u->w.cell? ⟨g,i,none⟩=some u:=by
 rcases h.2 with ⟨h1,h2⟩ | ⟨g,cap,cur,h1,_,h3,h4,h5,h6,h7⟩
 ·exact .inl ⟨h2,h1⟩
 ·refine .inr ⟨g,cap,h1,λi u hu=>?_⟩
  have hi:i<n:=by have:=(List.getElem?_eq_some_iff.1 hu).1;have:=h.1;omega
  have:cur[i]?=some u:=by
   rw[<-h7]at hu
   rw[List.getElem?_take]at hu
   rw[if_pos (by omega)]at hu
   simpa using hu
  simp[World.cell?,h3,this]
theorem qTq: ∀x∈qI5,x<256:=by decide
theorem qNn(w:World):
  Calls Tryz.prog 70 #[] w λe w'=>∃b v,e=.returned (.pointer (some ⟨b,0,none⟩))/\WRep w' b v qI5/\(∀i,qB2 b v i->w.heap.size<=i)/\Keeps (λ_=>False) w w':=by
 have kc:=λ(w:World) (C:Array Value) (n c:Nat)=>Lib.run_convert_bytes_const (P:=Tryz.prog) w 134 5 C n c Tryz.underlying134 qXb
 go_enter Tryz.func70,Tryz.ntmps70
 go_wp2
 go_ret
 have hk1:Keeps (λ_=>False) w (w.alloc (.cells (qC7 qI5).toArray 5 (8,9))):=(Keeps.refl _ _).alloc _
 refine⟨w.heap.size+1,.slice (some ⟨w.heap.size,0,none⟩) 8 8,rfl,⟨Blk.newAt (by simp) [_] _,.inr ⟨w.heap.size,rfl,?_⟩,by simp[Value.ownBlock],qTq⟩,λi hi=>?_,hk1.alloc _⟩
 ·rw[Below.heap_alloc _ _ _ (by simp)]
  exact heap_alloc_new w _
 ·rcases hi with hi | hi
  ·omega
  ·have:w.heap.size=i:=by simpa[Value.ownBlock] using hi
   omega
def qCt(ps:List (Nat×Nat)): List Value:=ps.map λp=>.pointer (some ⟨p.1,p.2,none⟩)
def PartsAt(w:World)(ps:List (Nat×Nat))(ns:List Int): Prop:=ps.length=ns.length/\∀(i:Nat) p n,ps[i]?=some p->ns[i]?=some n->w.cell? ⟨p.1,p.2,none⟩=some (.int .i64 n)
theorem qYa(b:Nat)(v:Value)(bs:List Nat)(pv:Value)(base:Nat)(ps:List (Nat×Nat))(ns:List Int)(w:World)(h:WRep w b v bs)(hp:w.ownsRow base 167 1 pv ps.length (qCt ps))(ha:PartsAt w ps ns)(hd:∀p,p∈ps->¬qB2 b v p.1)(hpv:∀i,pv.ownBlock=some i->¬qB2 b v i)(hn:∀n,n∈ns->0<=n/\n<=9223372036854775807)(hl:bs.length+10*ns.length<=140737488355300)(hl2:ns.length<=1000):
  Calls Tryz.prog 98 #[.pointer (some ⟨b,0,none⟩),pv] w λe w'=>e=.returned (.tuple #[])/\Wrote w b v (bs++qC4 ns) w':=by
 have HW:=hide h
 have HP:=hide hp
 have HA:=hide ha
 have HD:=hide hd
 have HPV:=hide hpv
 have HN:=hide hn
 have HLE:=hide ha.1
 obtain⟨va,vcap,hv,hva⟩:=qB7 hp
 have HVA:=hide hva
 have hlen:ps.length=ns.length:=ha.1
 clear h hp ha hd hpv hn hva
 subst hv
 generalize hm:ps.length=m at *
 have HM:=hide hm
 have HLM:=hide hlen
 clear hm hlen
 have hm3:m<=1000:=by have:=uh HLM;omega
 go_enter Tryz.func98,Tryz.ntmps98
 go_wp2
 go_loopw [8] (λi wr=>∃(k:Nat) (v':Value),i=.int .i64 k/\k<=m/\Hid (WRep wr b v' (bs++qC4 (ns.take k)))/\Hid (∀i,v'.ownBlock=some i->v.ownBlock=some i\/w.heap.size<=i)/\Hid (Keeps (qB2 b v) w wr)) (λi _=>m-(intOf i).toNat)
 case atStart=>exact⟨0,v,rfl,Nat.zero_le _,by show WRep _ _ _ _;rw[List.take_zero,qC8,List.append_nil];exact uh HW,λi hi=>.inl hi,Keeps.refl _ _⟩
 case round =>
  obtain⟨k,v',rfl,hk,HWr,HVr,HKr⟩:=hrel
  by_cases hlk:k<m
  ·obtain⟨g,hg,hgb⟩:=uh HVA (by omega)
   subst hg
   have hkp:k<ps.length:=by rw[uh HM];exact hlk
   have hkn:k<ns.length:=by rw[<-uh HLM];exact hlk
   obtain⟨p,hpk⟩:∃p,ps[k]?=some p:=⟨_,List.getElem?_eq_getElem hkp⟩
   obtain⟨n,hnk⟩:∃n,ns[k]?=some n:=⟨_,List.getElem?_eq_getElem hkn⟩
   have hrow:=qL4 (uh HP) (uh HKr) (uh HPV)
   have hck:wr.cell? ⟨g,k,none⟩=some (.pointer (some ⟨p.1,p.2,none⟩)):=by
    rcases qIt hrow with ⟨h0,_⟩ | ⟨g',cap',hv',hc⟩
    ·omega
    ·cases hv';exact hc k _ (by unfold qCt;rw[List.getElem?_map,hpk];rfl)
   have hcp:wr.cell? ⟨p.1,p.2,none⟩=some (.int .i64 n):=(uh HKr).cell ((uh HA).2 k p n hpk hnk) (uh HD p (List.mem_of_getElem? hpk))
   obtain⟨n0,n1⟩:=uh HN n (List.mem_of_getElem? hnk)
   have HNX:=hide (show bs++qC4 (ns.take k)++enc n=bs++qC4 (ns.take (k+1)) by
      rw[List.append_assoc]
      congr 1
      rw[List.take_add_one,hnk,qAx]
      simp[qC4])
   have hlb:(bs++qC4 (ns.take k)).length<=140737488355300:=by
    have:=qAw (ns.take k)
    have h2:(ns.take k).length<=ns.length:=by rw[List.length_take];omega
    rw[List.length_append];omega
   have hk0:(0:Int)<=(k:Int):=by omega
   have hkm:(k:Int)<(m:Int):=by omega
   clear hrow hpk hnk hkp hkn
   go_wp2_with fail
   refine(qDc b v' (bs++qC4 (ns.take k)) n wr (uh HWr) n0 n1 hlb).mono ?_
   rintro e w1 ⟨rfl,hw1⟩
   have HW1:=hide (Wrote.then (uh HVr) (uh HKr) hw1)
   clear hw1 hck hcp
   go_wp2
   go_roundw
   case rel =>
    obtain⟨v2,hw2,hv2,hk2⟩:=uh HW1
    rw[uh HNX]at hw2
    exact⟨k+1,v2,by go_num,by omega,hw2,hv2,hk2⟩
   case measure=>simp[intOf];omega
  ·have hkm:k=m:=by omega
   subst hkm
   go_wp2
   go_end0
   refine⟨rfl,v',?_,uh HVr,uh HKr⟩
   have:=uh HWr
   rwa [List.take_of_length_le (by rw[<-uh HLM];omega)]at this
def qOe(l:List Nat): Int:=l.foldl (λa (b:Nat)=>qDp 1000003000007 b a) 1
theorem qZf(l:List Nat)(b:Nat): qOe (l++[b])=qDp 1000003000007 b (qOe l):=by simp[qOe]
theorem qPg(l:List Nat)(a:Int)(h0:0<=a)(h1:a<2305843009213693951): 0<=l.foldl (λa (b:Nat)=>qDp 1000003000007 b a) a/\l.foldl (λa (b:Nat)=>qDp 1000003000007 b a) a<2305843009213693951:=by
 induction l generalizing a with
 | nil=>exact⟨h0,h1⟩
 | cons b l ih=>have:=qIo 1000003000007 b a;exact ih _ this.1 this.2
theorem qYp(l:List Nat): 0<=qOe l/\qOe l<2305843009213693951:=qPg l 1 (by omega) (by omega)
theorem zEf(v:Value)(bs:List Nat)(w:World)(h:WRow w v bs)(hs:∀x∈bs,x<256)(hl:bs.length<=140737488355320):
  Calls Tryz.prog 99 #[v] w λe w'=>e=.returned (.int .i64 (qOe bs))/\Keeps (λ_=>False) w w':=by
 have HW:=hide h
 have HS:=hide hs
 obtain⟨va,vcap,hv⟩:=h.form
 subst hv
 clear h hs
 generalize hn:bs.length=n at *
 have HN:=hide hn
 clear hn
 go_enter Tryz.func99,Tryz.ntmps99
 go_wp2
 go_loopw [3,8] (λa i wr=>∃k:Nat,i=.int .i64 k/\k<=n/\a=.int .i64 (qOe (bs.take k))/\Hid (Keeps (λ_=>False) w wr)) (λ_ i _=>n-(intOf i).toNat)
 case atStart=>exact⟨0,rfl,Nat.zero_le _,rfl,Keeps.refl _ _⟩
 case round =>
  obtain⟨k,rfl,hk,rfl,HK⟩:=hrel
  by_cases hlk:k<n
  ·have hkb:k<bs.length:=by rw[uh HN];exact hlk
   obtain⟨y,hy⟩:∃y,bs[k]?=some y:=⟨_,List.getElem?_eq_getElem hkb⟩
   have hy6:=uh HS y (List.mem_of_getElem? hy)
   have HNX:=hide (show qOe (bs.take (k+1))=qDp 1000003000007 y (qOe (bs.take k)) by rw[List.take_add_one,hy];exact qZf _ _)
   obtain⟨g,cap,hv,hc⟩:∃g cap,(Value.slice va n vcap)=.slice (some ⟨g,0,none⟩) n cap/\∀(i:Nat) u,(qC7 bs)[i]?=some u->w.cell? ⟨g,i,none⟩=some u:=by
    rcases(uh HW).cells with ⟨h0,_⟩ | ⟨g,cap,hv,hc⟩
    ·omega
    ·exact⟨g,cap,by rw[hv,uh HN],hc⟩
   injection hv with hv1 _ hv2
   subst hv1 hv2
   have hck:wr.cell? ⟨g,k,none⟩=some (.int .u8 (y:Int)):=(uh HK).cell (hc k _ (by unfold qC7;rw[List.getElem?_map,hy];rfl)) (λh=>h)
   have hwb:IntKind.i64.wrap (y:Int)=(y:Int):=(by rw[IntKind.wrap_i64];omega)
   have hb:=qYp (bs.take k)
   generalize qOe (bs.take k)=S at *
   have hk0:(0:Int)<=(k:Int):=by omega
   have hkm:(k:Int)<(n:Int):=by omega
   clear hc hy hkb
   go_wp2_with fail
   refine(zAd 1000003000007 (y:Int) S wr (by omega) (by omega) (by omega) (by omega) hb.1 (by omega)).mono ?_
   rintro e w1 ⟨rfl,hk1⟩
   have HK1:=hide ((uh HK).then hk1)
   clear hk1 hck
   go_wp2
   go_roundw
   case rel=>exact⟨k+1,by go_num,by omega,by rw[uh HNX],uh HK1⟩
   case measure=>simp[intOf];omega
  ·have hkn:k=n:=by omega
   subst hkn
   have HT:=hide (show bs.take k=bs from List.take_of_length_le (by rw[uh HN];omega))
   go_wp2
   go_ret
   exact⟨by rw[uh HT];rfl,uh HK⟩
def qF3(l:List Nat): ByteArray:=strOfNums (l.map λ(n:Nat)=>(n:Int))
theorem qV3(l:List Nat)(i:Nat)(hi:i<l.length): (qC7 l)[i]?=some (.int .u8 ((l.map λ(n:Nat)=>(n:Int)).getD i 0)):=by
 unfold qC7
 rw[List.getElem?_map,List.getD_eq_getElem?_getD,List.getElem?_map,List.getElem?_eq_getElem hi]
 rfl
theorem qYw(b:Nat)(v:Value)(bs:List Nat)(w:World)(h:WRep w b v bs)(hl:bs.length<=140737488355300):
  Calls Tryz.prog 73 #[.pointer (some ⟨b,0,none⟩)] w λe w'=>e=.returned (.string (qF3 (bs++enc (qOe bs))))/\Keeps (qB2 b v) w w':=by
 have hc0:w.cell? ⟨b,0,none⟩=some v:=h.blk.cell rfl
 have HS:=hide (zEf v bs w h.row h.small (by omega))
 have HB:=hide (qYp bs)
 have HW:=hide h
 have hlt:=h.blk.lt
 obtain⟨va,vcap,hv⟩:=h.row.form
 subst hv
 clear h
 go_enter Tryz.func73,Tryz.ntmps73
 go_wp2_with fail
 refine(uh HS).mono ?_
 rintro e w1 ⟨rfl,hk1⟩
 have HK1:=hide hk1
 have HN:=hide (qDc b (.slice va bs.length vcap) bs (qOe bs) w1 ((uh HW).still hk1) (uh HB).1 (by have:=(uh HB).2;omega) hl)
 clear hk1 hc0 HS
 go_wp2_with fail
 refine(uh HN).mono ?_
 rintro e w2 ⟨rfl,v2,hw2,hv2,hk2⟩
 have HK2:=hide (((uh HK1).mono (M':=qB2 b (.slice va bs.length vcap)) (λ_ _ h=>h.elim)).then hk2)
 have hc2:w2.cell? ⟨b,0,none⟩=some v2:=hw2.blk.cell rfl
 have hlt2:=hw2.blk.lt
 obtain⟨g,cap,hv,hcv⟩:∃g cap,v2=.slice (some ⟨g,0,none⟩) (bs++enc (qOe bs)).length cap/\(convert 134 9 (.slice (some ⟨g,0,none⟩) (bs++enc (qOe bs)).length cap)).run Tryz.prog w2=.ok (.string (qF3 (bs++enc (qOe bs)))) w2:=by
  rcases hw2.row.cells with ⟨h0,_⟩ | ⟨g,cap,hv,hc⟩
  ·exfalso
   have h1:0<(enc (qOe bs)).length:=by
    unfold enc qRs
    split <;> simp
   rw[List.length_append]at h0
   omega
  ·refine⟨g,cap,hv,run_convert_bytes_arg w2 134 5 Tryz.underlying134 qXb g 0 _ cap _ (by simp) (λi hi=>?_) 9 Tryz.underlying9⟩
   rw[Nat.zero_add]
   exact hc i _ (qV3 _ i hi)
 subst hv
 generalize(bs++enc (qOe bs)).length=n2 at *
 clear hw2 hv2 hk2 HN
 go_wp2
 go_ret
 exact⟨rfl,uh HK2⟩
theorem qSk(d b:Nat)(c:Cfg)(q r m:Int)(v:Value)(bs:List Nat)(w:World)(hb:Blk w d (qCz c q r) 198)(h:WRep w b v bs)(hd:¬qB2 b v d)(q0:0<=q)(q1:q<=9223372036854775807)(r0:0<=r)(r1:r<=9223372036854775807)(hl:bs.length<=140737488355000):
  Calls Tryz.prog 179 #[.pointer (some ⟨d,0,none⟩),.pointer (some ⟨b,0,none⟩),.int .i64 m] w λe w'=>e=.returned (.tuple #[])/\Wrote w b v (bs++qC4 [q,r]) w':=by
 have hd20:w.cell? ⟨d,20,none⟩=some (.int .i64 q):=hb.cell rfl
 have HB:=hide hb
 have HW:=hide h
 have HD:=hide hd
 have HN:=hide (qDc b v bs q w h q0 q1 (by omega))
 clear hb h hd
 go_enter Tryz.func179,Tryz.ntmps179
 go_wp2_with fail
 refine(uh HN).mono ?_
 rintro e w1 ⟨rfl,v1,hw1,hv1,hk1⟩
 have hd21:w1.cell? ⟨d,21,none⟩=some (.int .i64 r):=hk1.cell ((uh HB).cell rfl) (uh HD)
 have HV1:=hide hv1
 have HK1:=hide hk1
 have HN1:=hide (qDc b v1 (bs++enc q) r w1 hw1 r0 r1 (by have:=qBk q;rw[List.length_append];omega))
 clear hd20 hw1 hv1 hk1 HN
 go_wp2_with fail
 refine(uh HN1).mono ?_
 rintro e w2 ⟨rfl,hw2⟩
 have HF:=hide (Wrote.then (uh HV1) (uh HK1) hw2)
 clear hw2 HN1
 go_wp2
 go_end0
 refine⟨rfl,?_⟩
 have h:=uh HF
 rw[List.append_assoc]at h
 rw[qB3,qCy]
 exact h
end
section
open Go.RowKit
attribute [local go_sem ↓] qAd qAe
attribute [local go_sem] qAf qAl qAc qAb qAn qAm qAg qAk
def Cfg.nums(c:Cfg): List Int:=[c.kind,c.lag,c.skew,c.cap,c.k,c.window,c.bits,c.rows,c.width,c.panes,c.size,c.degree,c.half,c.mark,c.s00,c.s01,c.s10,c.s11,c.s20,c.s21]
theorem Cfg.cells_nums(c:Cfg): c.cells=c.nums.map (.int .i64 ·):=rfl
def Cfg.num(c:Cfg)(o:Nat): Int:=c.nums.getD o 0
def qB5: Nat->List Nat | 1=>[4,5] | 2=>[6,5] | 3=>[7,8,9,5] | 4=>[11,12,13] | _=>[11,12,13,10]
def at'(b:Nat)(l:List Nat): List (Nat×Nat):=l.map λo=>(b,o)
theorem zDh: (Tryz.prog.info? 167).map (λi=>(i.zero,i.size,i.bytes))=some (some (.pointer none),1,8):=by kernel_rfl
theorem qDi{w w':World}{ps:List (Nat×Nat)}{n:Nat}(hn:ps.length=n)(hm:n<=100)(h:w'.heap[w.heap.size]?=some (.cells (qCt ps).toArray 167)): w'.ownsRow w.heap.size 167 1 (.slice (some ⟨w.heap.size,0,none⟩) n n) ps.length (qCt ps):=by
 subst hn
 exact⟨by simp[qCt],.inr ⟨w.heap.size,ps.length,(qCt ps).toArray,rfl,Nat.le_refl _,h,Nat.le_refl _,by unfold maxLen;omega,by simp[qCt],by rw[List.toList_toArray,List.take_of_length_le (by simp[qCt])]⟩⟩
def qCs(w:World)(b:Nat)(l:List Nat)(e:Ending)(w':World): Prop:=∃v,e=.returned v/\w'.ownsRow w.heap.size 167 1 v (at' b l).length (qCt (at' b l))/\Keeps (λ_=>False) w w'
theorem qJm(b:Nat)(w:World): Calls Tryz.prog 142 #[.pointer (some ⟨b,0,none⟩)] w (qCs w b [1,2,3]):=by
 go_enter Tryz.func142,Tryz.ntmps142
 go_wp2_with fail
 go_region
 go_wp2
 go_ret
 exact⟨_,rfl,qDi rfl (by omega) (heap_alloc_new w _),((Keeps.refl _ _).alloc _).drew⟩
theorem qSg(b:Nat)(w:World): Calls Tryz.prog 116 #[.pointer (some ⟨b,0,none⟩)] w (qCs w b [4,5]):=by
 go_enter Tryz.func116,Tryz.ntmps116
 go_wp2_with fail
 go_region
 go_wp2
 go_ret
 exact⟨_,rfl,qDi rfl (by omega) (heap_alloc_new w _),((Keeps.refl _ _).alloc _).drew⟩
theorem qLs(b:Nat)(w:World): Calls Tryz.prog 122 #[.pointer (some ⟨b,0,none⟩)] w (qCs w b [6,5]):=by
 go_enter Tryz.func122,Tryz.ntmps122
 go_wp2_with fail
 go_region
 go_wp2
 go_ret
 exact⟨_,rfl,qDi rfl (by omega) (heap_alloc_new w _),((Keeps.refl _ _).alloc _).drew⟩
theorem qSy(b:Nat)(w:World): Calls Tryz.prog 128 #[.pointer (some ⟨b,0,none⟩)] w (qCs w b [7,8,9,5]):=by
 go_enter Tryz.func128,Tryz.ntmps128
 go_wp2_with fail
 go_region
 go_wp2
 go_ret
 exact⟨_,rfl,qDi rfl (by omega) (heap_alloc_new w _),((Keeps.refl _ _).alloc _).drew⟩
theorem qKq(b:Nat)(w:World): Calls Tryz.prog 132 #[.pointer (some ⟨b,0,none⟩)] w (qCs w b [11,12,13]):=by
 go_enter Tryz.func132,Tryz.ntmps132
 go_wp2_with fail
 go_region
 go_wp2
 go_ret
 exact⟨_,rfl,qDi rfl (by omega) (heap_alloc_new w _),((Keeps.refl _ _).alloc _).drew⟩
theorem zCy{w:World}{base base':Nat}{t size:Nat}{v:Value}{n:Nat}{xs:List Value}(h:w.ownsRow base t size v n xs)(hb:base'<=base): w.ownsRow base' t size v n xs:=by
 refine⟨h.1,?_⟩
 rcases h.2 with h2 | ⟨g,cap,cur,rfl,hbb,r⟩
 ·exact .inl h2
 ·exact .inr ⟨g,cap,cur,rfl,Nat.le_trans hb hbb,r⟩
def zDl(t:TypeId)(x y:Value): Sem Next:=do pure (.value (<-Builtin.append_ #[142,142] t #[x,y]))
theorem qKd(ρ:Operand->Value)(dst:Option Tmp)(x y:Operand)(ty:TypeId)(pos:String)(after:Array Edge)(guard:Option (Nat×Bool)):
  execOp ρ { dst,op:=.call { callee:=.builtin .append,args:=#[x,y],argTypes:=#[142,142] },type:=ty,pos,after,guard }=zDl ty (ρ x) (ρ y):=by
 rw[BigFrame.execOp_builtin,BigFrame.builtin_append]
 simp[zDl]
theorem qNe(w:World)(base:Nat)(v:Value)(m g0:Nat)(xs us:List Value)(hown:w.ownsRow base 167 1 v m xs)(hu:w.heap[g0]?=some (.cells us.toArray 167))(h1:∀u∈us,u.oneCell'=true)(hl:0<us.length)(hm:m+us.length<=100)(hb:base<=w.heap.size):
  ∃gg cap' w3,(∀t,(zDl t v (.slice (some ⟨g0,0,none⟩) us.length us.length)).run Tryz.prog w=.ok (.value (.slice (some ⟨gg,0,none⟩) (m+us.length) cap')) w3) /\
   w3.ownsRow base 167 1 (.slice (some ⟨gg,0,none⟩) (m+us.length) cap') (m+us.length) (xs++us)/\w.grownBy w3 v.ownBlock:=by
 obtain⟨i0,hi0,hz0,hz1,hz2⟩:=info_parts zDh
 obtain⟨gg,cap',w3,e1,e2,e3,_,_⟩:=run_append_lies (P:=Tryz.prog) w 142 142 base 167 i0 _ 1 8 Tryz.underlying142 hi0 hz0 hz1 hz2 rfl (by omega) v m xs hown ⟨g0,0,none⟩ us.length us.length us (by simp) (World.news_of_block hu) h1 hl (by unfold maxLen;omega) (by omega) hb w.heap.size rfl
 refine⟨gg,cap',w3,λt=>?_,e2,e3⟩
 unfold zDl
 rw[Sem.run_bind]
 have ht:Builtin.append_ #[142,142] t #[v,.slice (some ⟨g0,0,none⟩) us.length us.length]=Builtin.append_ #[142,142] 142 #[v,.slice (some ⟨g0,0,none⟩) us.length us.length]:=rfl
 rw[ht,e1]
 rfl
theorem qLa(b:Nat)(w:World): Calls Tryz.prog 132 #[.pointer (some ⟨b,0,none⟩)] w λe w1=>∃va vcap,e=.returned (.slice va 3 vcap)/\Keeps (λ_=>False) w w1 /\
  (∃gg cap' w3,(∀t,(zDl t (.slice va 3 vcap) (.slice (some ⟨w1.heap.size,0,none⟩) 1 1)).run Tryz.prog (w1.alloc (.cells #[.pointer (some ⟨b,10,none⟩)] 167))=.ok (.value (.slice (some ⟨gg,0,none⟩) 4 cap')) w3) /\
     w3.ownsRow w.heap.size 167 1 (.slice (some ⟨gg,0,none⟩) 4 cap') 4 (qCt (at' b [11,12,13,10]))/\Keeps (λ_=>False) w w3) /\
  (∀g0,w.heap[g0]?=some (.cells #[.pointer (some ⟨b,10,none⟩)] 167)->∃gg cap' w3,(∀t,(zDl t (.slice va 3 vcap) (.slice (some ⟨g0,0,none⟩) 1 1)).run Tryz.prog w1=.ok (.value (.slice (some ⟨gg,0,none⟩) 4 cap')) w3) /\
     w3.ownsRow w.heap.size 167 1 (.slice (some ⟨gg,0,none⟩) 4 cap') 4 (qCt (at' b [11,12,13,10]))/\Keeps (λ_=>False) w w3):=by
 refine(qKq b w).mono ?_
 rintro e w1 ⟨v,rfl,hown,hk⟩
 obtain⟨va,vcap,hv,_⟩:=qB7 hown
 subst hv
 have hsz:=hk.size
 refine⟨va,vcap,rfl,hk,?_,λg0 hg0=>?_⟩
 ·obtain⟨gg,cap',w3,h1,h2,h3⟩:=qNe (w1.alloc (.cells #[.pointer (some ⟨b,10,none⟩)] 167)) w.heap.size _ 3 w1.heap.size _ [.pointer (some ⟨b,10,none⟩)] (hown.alloc _) (heap_alloc_new w1 _) (by simp[Value.oneCell']) (by simp) (by simp) (by simp;omega)
  exact⟨gg,cap',w3,h1,h2,(hk.alloc _).grown h3 (λk hk'=>.inr (hown.lt k hk').1)⟩
 ·obtain⟨gg,cap',w3,h1,h2,h3⟩:=qNe w1 w.heap.size _ 3 g0 _ [.pointer (some ⟨b,10,none⟩)] hown (by rw[hk.block g0 (Array.getElem?_eq_some_iff.1 hg0).1 (λh=>h)];exact hg0) (by simp[Value.oneCell']) (by simp) (by simp) hsz
  exact⟨gg,cap',w3,h1,h2,hk.grown h3 (λk hk'=>.inr (hown.lt k hk').1)⟩
attribute [local go_sem ↓ 2000] qKd
attribute [local go_sem ↓] Go.wp_at_zero Go.wp_at_succ
theorem qR8(b:Nat)(w:World): Calls Tryz.prog 136 #[.pointer (some ⟨b,0,none⟩)] w (qCs w b [11,12,13,10]):=by
 go_enter Tryz.func136,Tryz.ntmps136
 go_wp2_with fail
 have hnew1:(w.alloc (.cells #[.pointer (some ⟨b,10,none⟩)] 167)).drew.heap[w.heap.size]?=some (.cells #[.pointer (some ⟨b,10,none⟩)] 167):=heap_alloc_new w _
 go_region_with (first | (go_at_call 132;refine(qLa b _).mono ?_;rintro e w1 ⟨va,vcap,rfl,hk1,⟨gg,cap',w3,hrun,hown,hk3⟩,hB⟩;try (have hB1:=hB w.heap.size hnew1;obtain⟨gg2,cap2,w4,hrun2,hown2,hk4⟩:=hB1)))
 ·go_wp2
  go_ret
  exact⟨.slice (some ⟨gg,0,none⟩) 4 cap',rfl,hown,((Keeps.refl (λ_=>False) w).drew).then hk3⟩
 all_goals
  go_wp2
  go_ret
  refine⟨.slice (some ⟨gg2,0,none⟩) 4 cap2,rfl,zCy hown2 (by show w.heap.size<=(w.alloc _).heap.size;simp),?_⟩
  first
   | exact(((Keeps.refl (λ_=>False) w).alloc _).drew).then hk4
   | exact(((Keeps.refl (λ_=>False) w).drew).alloc _).then hk4
theorem qU1(b:Nat)(w:World): Calls Tryz.prog 119 #[.pointer (some ⟨b,0,none⟩)] w (qCs w b [0]):=by
 go_enter Tryz.func119,Tryz.ntmps119
 go_wp2
 go_ret
 exact⟨_,rfl,qDi rfl (by omega) (heap_alloc_new w _),(Keeps.refl _ _).alloc _⟩
theorem qZo(b:Nat)(w:World): Calls Tryz.prog 125 #[.pointer (some ⟨b,0,none⟩)] w (qCs w b [0,1]):=by
 go_enter Tryz.func125,Tryz.ntmps125
 go_wp2_with fail
 go_region
 go_wp2
 go_ret
 exact⟨_,rfl,qDi rfl (by omega) (heap_alloc_new w _),((Keeps.refl _ _).alloc _).drew⟩
theorem qN6(b:Nat)(w:World): Calls Tryz.prog 138 #[.pointer (some ⟨b,0,none⟩)] w (qCs w b [0,1,2]):=by
 go_enter Tryz.func138,Tryz.ntmps138
 go_wp2_with fail
 go_region
 go_wp2
 go_ret
 exact⟨_,rfl,qDi rfl (by omega) (heap_alloc_new w _),((Keeps.refl _ _).alloc _).drew⟩
end
section
open Go.RowKit
attribute [local go_sem ↓] qAd qAe
attribute [local go_sem] qAf qAl qAc qAb qAn qAm qAg qAk
theorem qQ4(k b:Nat)(w:World)(h1:1<=k)(h5:k<=5): Calls Tryz.prog (qA4 k) #[.pointer (some ⟨b,0,none⟩)] w (qCs w b (qB5 k)):=by
 have hk:k=1\/k=2\/k=3\/k=4\/k=5:=by omega
 rcases hk with hk | hk | hk | hk | hk <;> subst hk
 ·exact qSg b w
 ·exact qLs b w
 ·exact qSy b w
 ·exact qKq b w
 ·exact qR8 b w
def qCo: Nat->List Nat | 1=>[0] | 2=>[0,1] | 3=>[0,1] | 4=>[0] | _=>[0,1,2]
theorem qQ3(k b:Nat)(w:World)(h1:1<=k)(h5:k<=5): Calls Tryz.prog (qA1 k) #[.pointer (some ⟨b,0,none⟩)] w (qCs w b (qCo k)):=by
 have hk:k=1\/k=2\/k=3\/k=4\/k=5:=by omega
 rcases hk with hk | hk | hk | hk | hk <;> subst hk
 ·exact qU1 b w
 ·exact qZo b w
 ·exact qZo b w
 ·exact qU1 b w
 ·exact qN6 b w
def qBj(k:Nat)(c:Cfg): Int:=match k with | 2=>1 | 3=>c.rows | _=>0
theorem qH0(c:Cfg)(w:World): Calls Tryz.prog 117 #[c.val] w λe w'=>e=.returned (.int .i64 0)/\Keeps (λ_=>False) w w':=by
 unfold Cfg.val
 go_enter Tryz.func117,Tryz.ntmps117
 go_wp2
 go_ret
 exact⟨rfl,by first | exact Keeps.refl _ _ | exact(Keeps.refl _ _).alloc _⟩
theorem qTu(c:Cfg)(w:World): Calls Tryz.prog 123 #[c.val] w λe w'=>e=.returned (.int .i64 1)/\Keeps (λ_=>False) w w':=by
 unfold Cfg.val
 go_enter Tryz.func123,Tryz.ntmps123
 go_wp2
 go_ret
 exact⟨rfl,by first | exact Keeps.refl _ _ | exact(Keeps.refl _ _).alloc _⟩
theorem qQl(c:Cfg)(w:World): Calls Tryz.prog 129 #[c.val] w λe w'=>e=.returned (.int .i64 c.rows)/\Keeps (λ_=>False) w w':=by
 unfold Cfg.val
 go_enter Tryz.func129,Tryz.ntmps129
 go_wp2
 go_ret
 exact⟨rfl,(Keeps.refl _ _).alloc _⟩
theorem qP1(k:Nat)(c:Cfg)(w:World)(h1:1<=k)(h5:k<=5): Calls Tryz.prog (qA3 k) #[c.val] w λe w'=>e=.returned (.int .i64 (qBj k c))/\Keeps (λ_=>False) w w':=by
 have hk:k=1\/k=2\/k=3\/k=4\/k=5:=by omega
 rcases hk with hk | hk | hk | hk | hk <;> subst hk
 ·exact qH0 c w
 ·exact qTu c w
 ·exact qQl c w
 ·exact qH0 c w
 ·exact qH0 c w
def qBt(n:Nat): List Nat:=(List.range (2*n)).map (14+·)
theorem qT1(n:Nat): qBt (n+1)=qBt n++[14+2*n,15+2*n]:=by
 unfold qBt
 rw[show 2*(n+1)=2*n+1+1 by omega,List.range_succ,List.range_succ]
 simp
 omega
theorem qNh(a b:List (Nat×Nat)): qCt (a++b)=qCt a++qCt b:=by simp[qCt]
attribute [local go_sem ↓ 2000] qKd
attribute [local go_sem ↓] Go.wp_at_zero Go.wp_at_succ
theorem qRj(b n:Nat)(w:World)(hn:n<=3):
  Calls Tryz.prog 143 #[.pointer (some ⟨b,0,none⟩),.int .i64 n] w (qCs w b (qBt n)):=by
 go_enter Tryz.func143,Tryz.ntmps143
 go_wp2
 go_loopw [5,8] (λv i wr=>∃k:Nat,i=.int .i64 k/\k<=n/\Hid (wr.ownsRow w.heap.size 167 1 v (2*k) (qCt (at' b (qBt k))))/\Hid (Keeps (λ_=>False) w wr)) (λ_ i _=>n-(intOf i).toNat)
 case atStart=>exact⟨0,rfl,Nat.zero_le _,World.ownsRow_nil _ _ _ _,Keeps.refl _ _⟩
 case round =>
  obtain⟨k,rfl,hk,HO,HK⟩:=hrel
  generalize u5=v at *
  by_cases hlk:k<n
  ·obtain⟨va,vcap,hv,_⟩:=qB7 (uh HO)
   subst hv
   have hsz:w.heap.size<=wr.heap.size:=(uh HK).size
   have HO1:=hide (show(wr.alloc (.cells #[.pointer (some ⟨b,14+k*2,none⟩),.pointer (some ⟨b,14+k*2+1,none⟩)] 167)).drew.ownsRow w.heap.size 167 1 (.slice va (2*k) vcap) (2*k) (qCt (at' b (qBt k))) from(uh HO).alloc _)
   obtain⟨gg,cap',w3,hrun,hown,hgr⟩:=qNe (wr.alloc (.cells #[.pointer (some ⟨b,14+k*2,none⟩),.pointer (some ⟨b,14+k*2+1,none⟩)] 167)).drew w.heap.size _ (2*k) wr.heap.size _ [.pointer (some ⟨b,14+k*2,none⟩),.pointer (some ⟨b,14+k*2+1,none⟩)] (uh HO1) (heap_alloc_new wr _) (by simp[Value.oneCell']) (by simp) (by simp;omega) (by show w.heap.size<=(wr.alloc _).heap.size;simp;omega)
   have hrun':∀t,(zDl t (.slice va (2*k) vcap) (.slice (some ⟨wr.heap.size,0,none⟩) 2 2)).run Tryz.prog (wr.alloc (.cells #[.pointer (some ⟨b,14+k*2,none⟩),.pointer (some ⟨b,14+k*2+1,none⟩)] 167)).drew=.ok (.value (.slice (some ⟨gg,0,none⟩) (2*k+2) cap')) w3:=hrun
   clear hrun
   have HOW:=hide hown
   have HGR:=hide hgr
   clear hown hgr HO1
   have hk0:(0:Int)<=(k:Int):=by omega
   have hkn:(k:Int)<(n:Int):=by omega
   have hk3:(k:Int)<3:=by omega
   go_wp2_with fail
   go_region
   go_wp2
   go_roundw
   case rel =>
    refine⟨k+1,by go_num,by omega,?_,?_⟩
    ·show World.ownsRow _ _ _ _ _ _ _
     rw[qT1]
     have e1:at' b (qBt k++[14+2*k,15+2*k])=at' b (qBt k)++[(b,14+2*k),(b,15+2*k)]:=by simp[at']
     rw[e1,qNh,show 2*(k+1)=2*k+2 by omega]
     have h:=uh HOW
     rw[show 14+k*2=14+2*k by omega,show 14+2*k+1=15+2*k by omega]at h
     exact h
    ·exact(((uh HK).alloc _).drew).grown (uh HGR) (λj hj=>Or.inr ((uh HO).lt j hj).1)
   case measure=>simp[intOf];omega
  ·have hkn:k=n:=by omega
   subst hkn
   go_wp2
   go_ret
   refine⟨v,rfl,?_,uh HK⟩
   have:(at' b (qBt k)).length=2*k:=by simp[at',qBt]
   rw[this]
   exact uh HO
end
section
open Go.RowKit
attribute [local go_sem ↓] qAd qAe
attribute [local go_sem] qAf qAl qAc qAb qAn qAm qAg qAk
def qCk(k:Nat)(c:Cfg): List Int:=c.kind::([1,2,3].map c.num++((qB5 k).map c.num++(qBt (qBj k c).toNat).map c.num))
theorem qK7{w:World}{cb:Nat}{c:Cfg}{l:List Nat}(h:Blk w cb c.cells 38)(hl:∀o,o∈l->o<20): PartsAt w (at' cb l) (l.map c.num):=by
 refine⟨by simp[at'],λi p n hp hn=>?_⟩
 unfold at' at hp
 rw[List.getElem?_map]at hp hn
 cases ho:l[i]? with
 | none=>rw[ho]at hp;cases hp
 | some o =>
  rw[ho]at hp hn
  simp only[Option.map_some,Option.some.injEq]at hp hn
  subst hp hn
  have h20:=hl o (List.mem_of_getElem? ho)
  refine h.cell ?_
  rw[Cfg.cells_nums,List.getElem?_map]
  unfold Cfg.num
  rw[List.getD_eq_getElem?_getD,List.getElem?_eq_getElem (by simpa[Cfg.nums] using h20)]
  rfl
theorem qP0(k:Nat): ∀o,o∈qB5 k->o<20:=by
 unfold qB5
 split <;> simp
theorem qQe(n:Nat)(hn:n<=3): ∀o,o∈qBt n->o<20:=by
 unfold qBt
 intro o ho
 simp at ho
 obtain⟨i,hi,rfl⟩:=ho
 omega
theorem qEy(b:Nat)(v:Value)(bs:List Nat)(pv:Value)(base cb:Nat)(l:List Nat)(ns:List Int)(w:World)(h:WRep w b v bs)(hp:w.ownsRow base 167 1 pv (at' cb l).length (qCt (at' cb l)))(ha:PartsAt w (at' cb l) ns)(hd:¬qB2 b v cb)(hbase:∀i,base<=i->¬qB2 b v i)(hn:∀n,n∈ns->0<=n/\n<=9223372036854775807)(hl:bs.length+10*ns.length<=140737488355300)(hl2:ns.length<=1000):
  Calls Tryz.prog 98 #[.pointer (some ⟨b,0,none⟩),pv] w λe w'=>e=.returned (.tuple #[])/\Wrote w b v (bs++qC4 ns) w' :=
 qYa b v bs pv base (at' cb l) ns w h hp ha (λp hp h=>hd (by
      unfold at' at hp
      obtain⟨o,_,rfl⟩:=List.mem_map.1 hp
      exact h)) (λi hi=>hbase i (hp.lt i hi).1) hn hl hl2
structure SC (w:World) (cb kb b:Nat) (v:Value) (c:Cfg) (k:Nat) (w':World) (v':Value) (bs:List Nat):Prop where
 blk:Blk w' cb c.cells 38
 knd:Blk w' kb [.func (.func (qBo k)) #[] #[],.func (.func (qA4 k)) #[] #[],.func (.func (qA3 k)) #[] #[],.func (.func (qAq k)) #[] #[],.func (.func (qA1 k)) #[] #[],.func (.func (qA5 k)) #[] #[]] 82
 wr:WRep w' b v' bs
 ft:∀i,qB2 b v' i->i<cb\/kb<i
 vv:∀i,v'.ownBlock=some i->v.ownBlock=some i\/w.heap.size<=i
 kp:Keeps (qB2 b v) w w'
 le:cb<=kb
theorem SC.still{w:World}{cb kb b:Nat}{v:Value}{c:Cfg}{k:Nat}{w' w'':World}{v':Value}{bs:List Nat}(h:SC w cb kb b v c k w' v' bs)(hk:Keeps (λ_=>False) w' w''): SC w cb kb b v c k w'' v' bs :=
 ⟨h.blk.keeps hk (λh=>h),h.knd.keeps hk (λh=>h),h.wr.still hk,h.ft,h.vv,h.kp.trans hk (λ_ h=>h.elim),h.le⟩
theorem SC.not{w:World}{cb kb b:Nat}{v:Value}{c:Cfg}{k:Nat}{w':World}{v':Value}{bs:List Nat}(h:SC w cb kb b v c k w' v' bs)(i:Nat)(h1:cb<=i)(h2:i<=kb): ¬qB2 b v' i:=λhf=>by
 rcases h.ft i hf with h | h <;> omega
theorem SC.wrote{w:World}{cb kb b:Nat}{v:Value}{c:Cfg}{k:Nat}{w' w'':World}{v':Value}{bs bs2:List Nat}(h:SC w cb kb b v c k w' v' bs)(hw:Wrote w' b v' bs2 w''): ∃v'',SC w cb kb b v c k w'' v'' bs2:=by
 obtain⟨v2,hw2,hv2,hk2⟩:=hw
 have hl:=h.knd.lt
 have hs:=h.kp.size
 refine⟨v2,h.blk.keeps hk2 (h.not cb (Nat.le_refl _) h.le),h.knd.keeps hk2 (h.not kb h.le (Nat.le_refl _)),hw2,λi hi=>?_,λi hi=>?_,h.kp.trans hk2 (λi hi hlt=>?_),h.le⟩
 ·rcases hi with hi | hi
  ·exact h.ft i (.inl hi)
  ·rcases hv2 i hi with h1 | h1
   ·exact h.ft i (.inr h1)
   ·exact .inr (by omega)
 ·rcases hv2 i hi with h1 | h1
  ·exact h.vv i h1
  ·exact .inr (by omega)
 ·rcases hi with hi | hi
  ·exact .inl hi
  ·rcases h.vv i hi with h1 | h1
   ·exact .inr h1
   ·omega
theorem qN5(bs:List Nat)(a b:List Int): bs++qC4 a++qC4 b=bs++qC4 (a++b):=by rw[List.append_assoc,qAx]
theorem qLt(b:Nat)(v:Value)(bs:List Nat)(c:Cfg)(k:Nat)(w:World)(h:WRep w b v bs)(hkd:c.kind=k)(h1:1<=k)(h5:k<=5)(p0:0<=qBj k c)(p3:qBj k c<=3)(hn:∀n,n∈qCk k c->0<=n/\n<=9223372036854775807)(hl:bs.length<=140737488354000):
  Calls Tryz.prog 96 #[.pointer (some ⟨b,0,none⟩),c.val] w λe w'=>e=.returned (.tuple #[])/\Wrote w b v (bs++qC4 (qCk k c)) w':=by
 obtain⟨W,hW⟩:∃W,W=w.alloc (.cells c.cells.toArray 38):=⟨_,rfl⟩
 have HB:=hide (show Blk W w.heap.size c.cells 38 by rw[hW];exact Blk.new w _ _)
 have HK:=hide (show Keeps (λ_=>False) w W by rw[hW];exact(Keeps.refl _ _).alloc _)
 have HW0:=hide (show w.alloc (.cells #[.int .i64 c.kind,.int .i64 c.lag,.int .i64 c.skew,.int .i64 c.cap,.int .i64 c.k,.int .i64 c.window,.int .i64 c.bits,.int .i64 c.rows,.int .i64 c.width,.int .i64 c.panes,.int .i64 c.size,.int .i64 c.degree,.int .i64 c.half,.int .i64 c.mark,.int .i64 c.s00,.int .i64 c.s01,.int .i64 c.s10,.int .i64 c.s11,.int .i64 c.s20,.int .i64 c.s21] 38)=W from hW.symm)
 have HW:=hide (h.still (uh HK))
 have HLT:=hide (show ∀i,qB2 b v i->i<w.heap.size from h.lt)
 have HN:=hide hn
 have HKD:=hide hkd
 have HP:=hide (show ∃n:Nat,qBj k c=n/\n<=3 from⟨(qBj k c).toNat,by omega,by omega⟩)
 have HF:=hide (qGt c.kind k W hkd h1 h5)
 have HCN:=hide (show qCk k c=c.kind::([1,2,3].map c.num++((qB5 k).map c.num++(qBt (qBj k c).toNat).map c.num)) from rfl)
 have c0:W.cell? ⟨w.heap.size,0,none⟩=some (.int .i64 c.kind):=(uh HB).cell rfl
 clear hW h hn hkd p0 p3
 unfold Cfg.val
 go_enter Tryz.func96,Tryz.ntmps96
 go_wp2_with fail
 rw[uh HW0]
 refine(uh HF).mono ?_
 rintro e w1 ⟨rfl,hk1⟩
 unfold qA8 fn
 have HT1:=hide (Blk.new w1 [.func (.func (qBo k)) #[] #[],.func (.func (qA4 k)) #[] #[],.func (.func (qA3 k)) #[] #[],.func (.func (qAq k)) #[] #[],.func (.func (qA1 k)) #[] #[],.func (.func (qA5 k)) #[] #[]] 82)
 have hka:=hk1.alloc (.cells #[.func (.func (qBo k)) #[] #[],.func (.func (qA4 k)) #[] #[],.func (.func (qA3 k)) #[] #[],.func (.func (qAq k)) #[] #[],.func (.func (qA1 k)) #[] #[],.func (.func (qA5 k)) #[] #[]] 82)
 have HB1:=hide ((uh HB).keeps hka (λh=>h))
 have HW1:=hide ((uh HW).still hka)
 have HK1:=hide ((uh HK).then hka)
 have hc1:w1.cell? ⟨w.heap.size,0,none⟩=some (.int .i64 c.kind):=((uh HB).keeps hk1 (λh=>h)).cell rfl
 have hlt1:w.heap.size<w1.heap.size:=((uh HB).keeps hk1 (λh=>h)).lt
 clear hk1 hka c0 HW0 HF HB HW HK
 go_wp2_with fail
 clear hc1
 generalize hkb:w1.heap.size=kb at *
 generalize w1.alloc (.cells #[.func (.func (qBo k)) #[] #[],.func (.func (qA4 k)) #[] #[],.func (.func (qA3 k)) #[] #[],.func (.func (qAq k)) #[] #[],.func (.func (qA1 k)) #[] #[],.func (.func (qA5 k)) #[] #[]] 82)=w2 at *
 clear hkb w1
 generalize hcb:w.heap.size=cb at *
 have HCB:=hide hcb
 clear hcb
 have HSZ2:=hide (show kb+1<=w2.heap.size from(uh HT1).lt)
 have hb1:=uh HN c.kind (by rw[uh HCN];simp)
 -- the kind
 have HS2:=hide (show SC w cb kb b v c k w2 v bs from⟨uh HB1,uh HT1,uh HW1,λi hi=>.inl (uh HLT i hi),λi hi=>.inl hi,(uh HK1).mono (λ_ _ h=>h.elim),by omega⟩)
 clear HB1 HT1 HW1 HK1 HSZ2
 have HLK:=hide (show(qB5 k).length<=4 by unfold qB5;split <;> simp)
 obtain⟨pn,hpn,hpn3⟩:=uh HP
 have HPN:=hide hpn
 have HLS:=hide (show(qBt pn).length<=6 by simp[qBt];omega)
 have HC2:=hide (show qCk k c=[c.kind]++[1,2,3].map c.num++(qB5 k).map c.num++(qBt pn).map c.num by rw[uh HCN,hpn,Int.toNat_natCast];simp)
 clear hpn HCN
 refine(qDc b v bs c.kind w2 (uh HS2).wr hb1.1 hb1.2 (by omega)).mono ?_
 rintro e w3 ⟨rfl,hw3⟩
 obtain⟨v3,hs3⟩:=(uh HS2).wrote hw3
 rw[<-qCy]at hs3
 have HS3:=hide hs3
 clear hw3 hs3 HS2
 go_wp2_with fail
 refine(qJm cb w3).mono ?_
 rintro e w4 ⟨pv,rfl,hown4,hk4⟩
 obtain⟨pa,pcap,hpv,_⟩:=qB7 hown4
 subst hpv
 have HL3:=hide (uh HS3).wr.lt
 have HS4:=hide ((uh HS3).still hk4)
 have HO4:=hide hown4
 clear hown4 hk4 HS3
 go_wp2_with fail
 refine(qEy b v3 _ _ w3.heap.size cb [1,2,3] ([1,2,3].map c.num) w4 (uh HS4).wr (uh HO4) (qK7 (uh HS4).blk (by simp)) ((uh HS4).not cb (Nat.le_refl _) (uh HS4).le) (λi hi h=>by have:=uh HL3 i h;omega) (λn hn=>uh HN n (by rw[uh HC2];simp only[List.mem_append];exact .inl (.inl (.inr hn)))) (by have:=qAw [c.kind];simp[qCy]at this ⊢;have h2:=qAw [c.kind];simp at h2;omega) (by simp)).mono ?_
 rintro e w5 ⟨rfl,hw5⟩
 obtain⟨v5,hs5⟩:=(uh HS4).wrote hw5
 rw[qN5]at hs5
 have HS5:=hide hs5
 clear hw5 hs5 HS4 HO4 HL3
 have k1:w5.cell? ⟨kb,1,none⟩=some (.func (.func (qA4 k)) #[] #[]):=(uh HS5).knd.cell rfl
 have hown1:=qQh k h1 h5
 go_wp2_with fail
 refine(qQ4 k cb w5 h1 h5).mono ?_
 rintro e w6 ⟨pv,rfl,hown6,hk6⟩
 obtain⟨pa6,pcap6,hpv,_⟩:=qB7 hown6
 subst hpv
 have HL5:=hide (uh HS5).wr.lt
 have HS6:=hide ((uh HS5).still hk6)
 have HO6:=hide hown6
 clear hown6 hk6 HS5 k1 hown1
 go_wp2_with fail
 refine(qEy b v5 _ _ w5.heap.size cb (qB5 k) ((qB5 k).map c.num) w6 (uh HS6).wr (by have:=uh HO6;exact this) (qK7 (uh HS6).blk (qP0 k)) ((uh HS6).not cb (Nat.le_refl _) (uh HS6).le) (λi hi h=>by have:=uh HL5 i h;omega) (λn hn=>uh HN n (by rw[uh HC2];simp only[List.mem_append];exact .inl (.inr hn))) (by have h2:=qAw ([c.kind]++[1,2,3].map c.num);have h3:=uh HLK;simp at h2 ⊢;omega) (by have h3:=uh HLK;simp;omega)).mono ?_
 rintro e w7 ⟨rfl,hw7⟩
 obtain⟨v7,hs7⟩:=(uh HS6).wrote hw7
 rw[qN5]at hs7
 have HS7:=hide hs7
 clear hw7 hs7 HS6 HO6 HL5
 have k2:w7.cell? ⟨kb,2,none⟩=some (.func (.func (qA3 k)) #[] #[]):=(uh HS7).knd.cell rfl
 obtain⟨hv7,hh7⟩:=qBf (uh HS7).blk 20 rfl
 have hown2:=qQ8 k h1 h5
 go_wp2_with fail
 refine(qP1 k c w7 h1 h5).mono ?_
 rintro e w8 ⟨rfl,hk8⟩
 rw[uh HPN]
 have HS8:=hide ((uh HS7).still hk8)
 clear hk8 HS7 k2 hown2 hv7 hh7
 go_wp2_with fail
 refine(qRj cb pn w8 hpn3).mono ?_
 rintro e w9 ⟨pv,rfl,hown9,hk9⟩
 obtain⟨pa9,pcap9,hpv,_⟩:=qB7 hown9
 subst hpv
 have HL8:=hide (uh HS8).wr.lt
 have HS9:=hide ((uh HS8).still hk9)
 have HO9:=hide hown9
 clear hown9 hk9 HS8
 go_wp2_with fail
 refine(qEy b v7 _ _ w8.heap.size cb (qBt pn) ((qBt pn).map c.num) w9 (uh HS9).wr (by have:=uh HO9;exact this) (qK7 (uh HS9).blk (qQe pn hpn3)) ((uh HS9).not cb (Nat.le_refl _) (uh HS9).le) (λi hi h=>by have:=uh HL8 i h;omega) (λn hn=>uh HN n (by rw[uh HC2];simp only[List.mem_append];exact .inr hn)) (by have h2:=qAw ([c.kind]++[1,2,3].map c.num++(qB5 k).map c.num);have h3:=uh HLK;have h4:=uh HLS;simp at h2 ⊢;omega) (by have h4:=uh HLS;simp;omega)).mono ?_
 rintro e wa ⟨rfl,hwa⟩
 obtain⟨va,hsa⟩:=(uh HS9).wrote hwa
 rw[qN5,<-uh HC2]at hsa
 have HSA:=hide hsa
 clear hwa hsa HS9 HO9 HL8
 go_wp2
 go_end0
 exact⟨rfl,va,(uh HSA).wr,(uh HSA).vv,(uh HSA).kp⟩
end
section
open Go.RowKit
theorem qEx{b:Nat}{v v1:Value}{s cb:Nat}(h0:¬qB2 b v cb)(hv:∀i,v1.ownBlock=some i->v.ownBlock=some i\/s<=i)(hc:cb<s): ¬qB2 b v1 cb:=by
 rintro (h | h)
 ·exact h0 (.inl h)
 ·rcases hv cb h with h | h
  ·exact h0 (.inr h)
  ·omega
theorem Wrote.pre{w w1 w2:World}{b:Nat}{v:Value}{bs:List Nat}(hk:Keeps (λ_=>False) w w1)(h:Wrote w1 b v bs w2): Wrote w b v bs w2 :=
 Wrote.then (λ_ hi=>.inl hi) (hk.mono (λ_ _ h=>h.elim)) h
def qL1(l:List Dr.It): List Int:=l.flatMap λx=>[x.n,x.t,x.k,x.d]
theorem qKo(a b:List Dr.It): qL1 (a++b)=qL1 a++qL1 b:=by simp[qL1]
theorem qKg(l:List Dr.It): (qL1 l).length=4*l.length:=by
 induction l with
 | nil=>rfl
 | cons x l ih=>simp[qL1]at ih ⊢;omega
theorem qP3(r:List Dr.It)(k:Nat)(hk:k<r.length): qL1 (r.take (k+1))=qL1 (r.take k)++[(Dr.itAt r k).n,(Dr.itAt r k).t,(Dr.itAt r k).k,(Dr.itAt r k).d]:=by
 rw[List.take_add_one,qKo,List.getElem?_eq_getElem hk]
 simp[qL1,Dr.itAt,List.getD_eq_getElem?_getD,List.getElem?_eq_getElem hk]
theorem qVi{w:World}{cb:Nat}{t k d:Int}{l:List Value}{T:Nat}(h:Blk w cb (.int .i64 t::.int .i64 k::.int .i64 d::l) T): PartsAt w (at' cb [0,1,2]) [t,k,d]:=by
 refine⟨by simp[at'],λi p n hp hn=>?_⟩
 match i with
 | 0=>simp[at']at hp hn;subst hp hn;exact h.cell rfl
 | 1=>simp[at']at hp hn;subst hp hn;exact h.cell rfl
 | 2=>simp[at']at hp hn;subst hp hn;exact h.cell rfl
 | i+3=>simp[at']at hp
theorem qSh(d q:Nat)(og:Option Nat)(c:Cfg)(l:List Dr.It)(b:Nat)(v:Value)(bs:List Nat)(m:Int)(w:World)(h:TRep w d q og c l)(hw:WRep w b v bs)(hl:l.length<=6)(hn:∀n,n∈qL1 (Dr.allL (l.length+1) l)->0<=n/\n<=9223372036854775807)(hbl:bs.length<=140737488354000):
  Calls Tryz.prog 185 #[.pointer (some ⟨d,0,none⟩),.pointer (some ⟨b,0,none⟩),.int .i64 m] w λe w'=>e=.returned (.tuple #[])/\Wrote w b v (bs++qC4 (qL1 (Dr.allL (l.length+1) l))) w':=by
 have c20:w.cell? ⟨d,20,none⟩=some (.pointer (some ⟨q,0,none⟩)):=h.blk.cell rfl
 have hA:=qY9 q og l w h.que (by omega)
 clear h
 generalize Dr.allL (l.length+1) l=r at *
 generalize l.length=n at *
 have HA:=hide hA
 have HW:=hide hw
 have HNR:=hide hn
 clear hw hn hA
 go_enter Tryz.func185,Tryz.ntmps185
 go_wp2_with fail
 refine(uh HA).mono ?_
 rintro e W1 ⟨g,cp,rfl,hg,hr1,hlen,hk1⟩
 have HR:=hide hr1
 have HLN:=hide hlen
 have HK1:=hide hk1
 have HG:=hide (show ¬qB2 b v g from λhf=>by have:=(uh HW).lt g hf;omega)
 have HW1:=hide ((uh HW).still hk1)
 have hn6:n<=6:=by omega
 clear hr1 hlen hk1 hg c20 HA
 go_wp2_with fail
 go_loopw [14] (λi wr=>∃(k:Nat),i=.int .i64 k/\k<=n/\Hid (Wrote W1 b v (bs++qC4 (qL1 (r.take k))) wr)) (λi _=>n-(intOf i).toNat)
 case atStart=>exact⟨0,rfl,Nat.zero_le _,by show Wrote _ _ _ _ _;simp only[List.take_zero,qL1,List.flatMap_nil,qC8,List.append_nil];exact Wrote.refl (uh HW1)⟩
 case round =>
  obtain⟨k,rfl,hk,HO⟩:=hrel
  by_cases hlk:k<n
  ·obtain⟨v',hwr,hvr,hkr⟩:=uh HO
   have hkn:k<r.length:=by rw[uh HLN];exact hlk
   obtain⟨x0,x1,x2,x3,x4⟩:=((uh HR).keeps hkr (uh HG)).cells k hkn
   have HTK:=hide (qP3 r k hkn)
   have HNX:=hide (show ∀n,n∈[(Dr.itAt r k).n,(Dr.itAt r k).t,(Dr.itAt r k).k,(Dr.itAt r k).d]->0<=n/\n<=9223372036854775807 from λn hn=>uh HNR n (by
        have e:qL1 (r.take (k+1)++r.drop (k+1))=qL1 r:=by rw[List.take_append_drop]
        rw[<-e,qKo,qP3 r k hkn]
        simp only[List.mem_append]
        exact .inl (.inr hn)))
   have HLT:=hide hwr.lt
   have HWr:=hide hwr
   have HVr:=hide hvr
   have HKr:=hide hkr
   have hk0:(0:Int)<=(k:Int):=by omega
   have hkE:(k:Int)<(n:Int):=by omega
   generalize Dr.itAt r k=x at *
   have hlb:(bs++qC4 (qL1 (r.take k))).length<=140737488354240:=by
    have h1:=qAw (qL1 (r.take k))
    rw[qKg,List.length_take]at h1
    rw[List.length_append];omega
   clear hwr hvr hkr HO
   obtain⟨wa,hwa⟩:∃wa,wa=wr.alloc (.cells #[.int .i64 x.t,.int .i64 x.k,.int .i64 x.d,.int .i64 x.n,.int .i64 x.v] 251):=⟨_,rfl⟩
   have HBa:=hide (show Blk wa wr.heap.size [.int .i64 x.t,.int .i64 x.k,.int .i64 x.d,.int .i64 x.n,.int .i64 x.v] 251 by rw[hwa];exact Blk.new wr _ _)
   have HKa:=hide (show Keeps (λ_=>False) wr wa by rw[hwa];exact(Keeps.refl _ _).alloc _)
   have HWa:=hide ((uh HWr).still (uh HKa))
   have HNF:=hide (show ¬qB2 b v' wr.heap.size from λhf=>by have:=uh HLT _ hf;omega)
   obtain⟨n0,n1⟩:=uh HNX x.n (by simp)
   have hc3:wa.cell? ⟨wr.heap.size,3,none⟩=some (.int .i64 x.n):=(uh HBa).cell rfl
   have HEQ:=hide hwa.symm
   clear hwa
   go_wp2_with fail
   rw[uh HEQ]
   refine(qDc b v' _ x.n wa (uh HWa) n0 n1 (by omega)).mono ?_
   rintro e w2 ⟨rfl,v2,hw2,hv2,hk2⟩
   have hlt2:wr.heap.size<wa.heap.size:=(uh HBa).lt
   have HB2:=hide ((uh HBa).keeps hk2 (uh HNF))
   have HNF2:=hide (qEx (uh HNF) hv2 hlt2)
   have HW2:=hide hw2
   have HV2:=hide hv2
   have HK2:=hide hk2
   have HL2:=hide hw2.lt
   clear hw2 hv2 hk2 hc3 HBa
   go_wp2_with fail
   refine(qN6 wr.heap.size w2).mono ?_
   rintro e w3 ⟨pv,rfl,hown3,hk3⟩
   obtain⟨pa,pcap,hpv,_⟩:=qB7 hown3
   subst hpv
   have HW3:=hide ((uh HW2).still hk3)
   have HB3:=hide ((uh HB2).keeps hk3 (λh=>h))
   have HO3:=hide hown3
   have HK3:=hide hk3
   clear hown3 hk3
   go_wp2_with fail
   refine(qEy b v2 _ _ w2.heap.size wr.heap.size [0,1,2] [x.t,x.k,x.d] w3 (uh HW3) (uh HO3) (qVi (uh HB3)) (uh HNF2) (λi hi h=>by have:=uh HL2 i h;omega) (λn hn=>uh HNX n (by simp at hn ⊢;exact .inr hn)) (by have:=qBk x.n;rw[List.length_append];show _+10*3<=_;omega) (by simp)).mono ?_
   rintro e w4 ⟨rfl,hw4⟩
   have HF:=hide (show Wrote W1 b v (bs++qC4 (qL1 (r.take (k+1)))) w4 by
      have hA:=Wrote.then (uh HVr) (uh HKr) (Wrote.pre (uh HKa) (Wrote.then (uh HV2) (uh HK2) (Wrote.pre (uh HK3) hw4)))
      rw[uh HTK,qAx]
      have e:qC4 [x.n,x.t,x.k,x.d]=enc x.n++qC4 [x.t,x.k,x.d]:=qB3 _ _
      rw[e]
      simp only[List.append_assoc]at hA ⊢
      exact hA)
   clear hw4
   go_wp2
   go_roundw
   case rel=>exact⟨k+1,by go_num,by omega,HF⟩
   case measure=>simp[intOf];omega
  ·have hkE:k=n:=by omega
   subst hkE
   go_wp2
   go_end0
   refine⟨rfl,?_⟩
   have h:=uh HO
   rw[<-uh HLN,List.take_length]at h
   exact Wrote.pre (uh HK1) h
end
end Go.Proofs.YtahnliehdjncdaaGreatDoor
