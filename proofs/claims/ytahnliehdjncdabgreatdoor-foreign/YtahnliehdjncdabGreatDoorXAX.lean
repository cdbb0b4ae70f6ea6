import Derived.Test.YtahnliehdjncdabGreatDoorXAN
import Derived.Laws.BytesArg
import Derived.Lib.SlBytesConst
import Derived.Test.YtahnliehdjncdabGreatDoorXAA
import Derived.Test.YtahnliehdjncdabGreatDoorXAS
import Derived.Test.YtahnliehdjncdabGreatDoorXAT
set_option maxRecDepth 100000
set_option maxHeartbeats 16000000
namespace Go.Proofs.YtahnliehdjncdabGreatDoor
section
open Go.RowKit
theorem qV3(hi lo u v z m q1 n q:Int)(hU:u=hi*8+lo/2305843009213693952)(hV:v=lo*8%18446744073709551616)(hZ:z=v%4294967296)(hM:m=u*4294967296+v/4294967296)(hN:n=m-q1*18446744073709551608)(h1:q*18446744073709551608<=n*4294967296+z)(h2:n*4294967296+z<(q+1)*18446744073709551608):
  IntKind.u64.wrap (IntKind.u64.wrap (IntKind.u64.wrap (n*4294967296)+z)-IntKind.u64.wrap (q*18446744073709551608))/8=(hi*18446744073709551616+lo)%2305843009213693951:=by
 simp only[IntKind.wrap_u64];have e:m*4294967296+z=8*(hi*18446744073709551616+lo):=by omega
 omega
theorem qZ2(hi lo:Int)(w:World)(h0:0<=hi)(h1:hi<=1099511627776)(l0:0<=lo)(l1:lo<18446744073709551616):
  Calls Tryz.prog 221 #[.int .u64 hi,.int .u64 lo,.int .u64 2305843009213693951] w λe w'=>(∃q,e=.returned (.tuple #[.int .u64 q,.int .u64 ((hi*18446744073709551616+lo)%2305843009213693951)]))/\Keeps (λ_=>False) w w':=by
 by_cases hz:hi=0
 ·subst hz
  exact qSg 0 lo w (by omega) (by omega) l0 l1
 ·have hzb:(hi==0)=false:=by simp[hz]
  have hle:¬(2305843009213693951<=hi):=by omega
  have hand:bits .and .u64 18446744073709551608 4294967295=4294967288:=by decide +kernel
  obtain⟨u,hu,HU⟩:∃u,bits .or .u64 (hi*8) (lo/2305843009213693952)=u/\Hid (u=hi*8+lo/2305843009213693952):=⟨_,zFk hi (lo/2305843009213693952) h0 (by omega) (by omega) (by omega),rfl⟩;obtain⟨v,hv,HV⟩:∃v,IntKind.u64.wrap (lo*8)=v/\Hid (v=lo*8%18446744073709551616):=⟨_,IntKind.wrap_u64 _,rfl⟩;have u0:0<=u:=by have:=uh HU;omega
  have u1:u<=8796093022217:=by have:=uh HU;omega
  have v0:0<=v:=by have:=uh HV;omega
  have v1:v<18446744073709551616:=by have:=uh HV;omega
  obtain⟨z,hzz,HZ⟩:∃z,bits .and .u64 v 4294967295=z/\Hid (z=v%4294967296):=by
   obtain⟨x,rfl⟩:=Int.eq_ofNat_of_zero_le v0;exact⟨_,Mul64.maskN x (by omega),by show _=_;omega⟩
  have z0:0<=z:=by have:=uh HZ;omega
  have z1:z<4294967296:=by have:=uh HZ;omega
  have hd:u.tdiv 4294967295=u/4294967295:=Int.tdiv_eq_ediv_of_nonneg u0;obtain⟨y,HY⟩:∃y,Hid (y=v/4294967296):=⟨_,rfl⟩;have hy:v/4294967296=y:=(uh HY).symm;have y0:0<=y:=by omega
  have y1:y<4294967296:=by omega
  go_enter Tryz.func221,Tryz.ntmps221
  go_wp2_with (go_at_call 244;refine(qWy _).mono ?_;rintro e w' ⟨rfl,rfl⟩)
  go_loop [15,16] (λa b=>∃q r:Int,a=.int .u64 q/\b=.int .u64 r/\0<=q/\q<=4096/\0<=r/\r<4294967296/\Hid (q*4294967295+r=u)/\Hid (u*4294967296+y<(q+1)*18446744073709551608)) (λa _=>(intOf a).toNat)
  case atStart=>exact⟨u/4294967295,u-u/4294967295*4294967295,by first | rfl | go_num,by first | rfl | go_num,by omega,by omega,by omega,by omega,by show _=_;omega,by show _<_;omega⟩
  case round =>
   obtain⟨q,r,rfl,rfl,q0,q1,r0,r1,HQ,HT⟩:=hrel
   by_cases hc:4294967296*r+y<q*4294967288
   ·have q2:1<=q:=by omega
    by_cases hb:4294967296<=r+4294967295
    ·have HT2:=hide (show u*4294967296+y<q*18446744073709551608 by have:=uh HQ;omega)
     have HQ2:=hide (show(q-1)*18446744073709551608<=u*4294967296+y by have:=uh HQ;omega);clear HQ HT;have HQ:=HQ2;have HT:=HT2;obtain⟨n,HN⟩:∃n,Hid (n=u*4294967296+y-(q-1)*18446744073709551608):=⟨_,rfl⟩;have n0:0<=n:=by have:=uh HN;have:=uh HQ;have:=uh HT;omega
     have n1:n<18446744073709551608:=by have:=uh HN;have:=uh HQ;have:=uh HT;omega
     have hn:IntKind.u64.wrap (IntKind.u64.wrap (IntKind.u64.wrap (u*4294967296)+y)-IntKind.u64.wrap ((q-1)*18446744073709551608))=n:=by
      have:=uh HN;simp only[IntKind.wrap_u64];omega
     have hnd:n.tdiv 4294967295=n/4294967295:=Int.tdiv_eq_ediv_of_nonneg n0;have HFIN:=hide (λq0 a b=>qV3 hi lo u v z (u*4294967296+y) (q-1) n q0 (uh HU) (uh HV) (uh HZ) (by rw[uh HY]) (uh HN) a b);go_wp2_with (first | simp only[hn] | simp only[hnd])
     go_loop [16,18] (λb a=>∃q r:Int,a=.int .u64 q/\b=.int .u64 r/\0<=q/\q<=4294967296/\0<=r/\r<4294967296/\Hid (q*4294967295+r=n)/\Hid (n*4294967296+z<(q+1)*18446744073709551608)) (λ_ a=>(intOf a).toNat)
     case atStart=>exact⟨n/4294967295,n-n/4294967295*4294967295,by first | rfl | go_num,by first | rfl | go_num,by omega,by omega,by omega,by omega,by show _=_;omega,by show _<_;omega⟩
     case round =>
      clear HQ HT hn;obtain⟨q,r,rfl,rfl,q0,q1,r0,r1,HQ,HT⟩:=hrel
      by_cases hbig:4294967296<=q
      ·by_cases hb:4294967296<=r+4294967295
       ·go_wp2
        go_ret2
        exact⟨⟨_,by rw[uh HFIN (q-1) (by have:=uh HQ;omega) (by have:=uh HQ;omega)];rfl⟩,Keeps.refl _ _⟩
       ·go_wp2
        go_round
        case rel=>exact⟨q-1,r+4294967295,by first | rfl | go_num,by first | rfl | go_num,by omega,by omega,by omega,by omega,by have:=uh HQ;show _=_;omega,by have:=uh HQ;show _<_;omega⟩
        case measure=>simp[intOf];omega
      ·by_cases hc:4294967296*r+z<q*4294967288
       ·have q2:1<=q:=by omega
        by_cases hb:4294967296<=r+4294967295
        ·go_wp2
         go_ret2
         exact⟨⟨_,by rw[uh HFIN (q-1) (by have:=uh HQ;omega) (by have:=uh HQ;omega)];rfl⟩,Keeps.refl _ _⟩
        ·go_wp2
         go_round
         case rel=>exact⟨q-1,r+4294967295,by first | rfl | go_num,by first | rfl | go_num,by omega,by omega,by omega,by omega,by have:=uh HQ;show _=_;omega,by have:=uh HQ;show _<_;omega⟩
         case measure=>simp[intOf];omega
       ·go_wp2
        go_ret2
        exact⟨⟨_,by rw[uh HFIN q (by have:=uh HQ;omega) (uh HT)];rfl⟩,Keeps.refl _ _⟩
    ·go_wp2
     go_round
     case rel=>exact⟨q-1,r+4294967295,by first | rfl | go_num,by first | rfl | go_num,by omega,by omega,by omega,by omega,by have:=uh HQ;show _=_;omega,by have:=uh HQ;show _<_;omega⟩
     case measure=>simp[intOf];omega
   ·have HQ2:=hide (show q*18446744073709551608<=u*4294967296+y by have:=uh HQ;omega)
    clear HQ;have HQ:=HQ2;obtain⟨n,HN⟩:∃n,Hid (n=u*4294967296+y-(q)*18446744073709551608):=⟨_,rfl⟩;have n0:0<=n:=by have:=uh HN;have:=uh HQ;have:=uh HT;omega
    have n1:n<18446744073709551608:=by have:=uh HN;have:=uh HQ;have:=uh HT;omega
    have hn:IntKind.u64.wrap (IntKind.u64.wrap (IntKind.u64.wrap (u*4294967296)+y)-IntKind.u64.wrap ((q)*18446744073709551608))=n:=by
     have:=uh HN;simp only[IntKind.wrap_u64];omega
    have hnd:n.tdiv 4294967295=n/4294967295:=Int.tdiv_eq_ediv_of_nonneg n0;have HFIN:=hide (λq0 a b=>qV3 hi lo u v z (u*4294967296+y) (q) n q0 (uh HU) (uh HV) (uh HZ) (by rw[uh HY]) (uh HN) a b);go_wp2_with (first | simp only[hn] | simp only[hnd])
    go_loop [16,18] (λb a=>∃q r:Int,a=.int .u64 q/\b=.int .u64 r/\0<=q/\q<=4294967296/\0<=r/\r<4294967296/\Hid (q*4294967295+r=n)/\Hid (n*4294967296+z<(q+1)*18446744073709551608)) (λ_ a=>(intOf a).toNat)
    case atStart=>exact⟨n/4294967295,n-n/4294967295*4294967295,by first | rfl | go_num,by first | rfl | go_num,by omega,by omega,by omega,by omega,by show _=_;omega,by show _<_;omega⟩
    case round =>
     clear HQ HT hn;obtain⟨q,r,rfl,rfl,q0,q1,r0,r1,HQ,HT⟩:=hrel
     by_cases hbig:4294967296<=q
     ·by_cases hb:4294967296<=r+4294967295
      ·go_wp2
       go_ret2
       exact⟨⟨_,by rw[uh HFIN (q-1) (by have:=uh HQ;omega) (by have:=uh HQ;omega)];rfl⟩,Keeps.refl _ _⟩
      ·go_wp2
       go_round
       case rel=>exact⟨q-1,r+4294967295,by first | rfl | go_num,by first | rfl | go_num,by omega,by omega,by omega,by omega,by have:=uh HQ;show _=_;omega,by have:=uh HQ;show _<_;omega⟩
       case measure=>simp[intOf];omega
     ·by_cases hc:4294967296*r+z<q*4294967288
      ·have q2:1<=q:=by omega
       by_cases hb:4294967296<=r+4294967295
       ·go_wp2
        go_ret2
        exact⟨⟨_,by rw[uh HFIN (q-1) (by have:=uh HQ;omega) (by have:=uh HQ;omega)];rfl⟩,Keeps.refl _ _⟩
       ·go_wp2
        go_round
        case rel=>exact⟨q-1,r+4294967295,by first | rfl | go_num,by first | rfl | go_num,by omega,by omega,by omega,by omega,by have:=uh HQ;show _=_;omega,by have:=uh HQ;show _<_;omega⟩
        case measure=>simp[intOf];omega
      ·go_wp2
       go_ret2
       exact⟨⟨_,by rw[uh HFIN q (by have:=uh HQ;omega) (uh HT)];rfl⟩,Keeps.refl _ _⟩
theorem zB3(hi lo:Int)(w:World)(h0:0<=hi)(h1:hi<=1099511627776)(l0:0<=lo)(l1:lo<18446744073709551616):
  Calls Tryz.prog 178 #[.int .u64 hi,.int .u64 lo,.int .u64 2305843009213693951] w λe w'=>e=.returned (.int .u64 ((hi*18446744073709551616+lo)%2305843009213693951))/\Keeps (λ_=>False) w w':=by
 have hm:hi.tmod 2305843009213693951=hi:=by rw[Int.tmod_eq_emod_of_nonneg h0];omega
 have HD:=hide (qZ2 hi lo w h0 h1 l0 l1);go_enter Tryz.func178,Tryz.ntmps178
 go_wp2_with fail
 refine(uh HD).mono ?_;rintro e w1 ⟨⟨q,rfl⟩,hk⟩;have HK:=hide hk;clear hk;go_wp2
 go_ret
 exact⟨rfl,uh HK⟩
theorem zE4(a b key:Int)(w:World)(a0:0<=a)(a1:a<=1099511627776)(b0:0<=b)(b1:b<2305843009213693951)(k0:0<=key)(k1:key<=2305843009213693951):
  Calls Tryz.prog 132 #[.agg #[.int .i64 a,.int .i64 b],.int .i64 key] w λe w'=>e=.returned (.int .i64 (qD8 a b key))/\Keeps (λ_=>False) w w':=by
 have p0:0<=a*key:=Int.mul_nonneg a0 k0;have p1:a*key<=1099511627776*2305843009213693951:=Int.mul_le_mul a1 k1 k0 (by omega);have wa:IntKind.u64.wrap a=a:=by rw[IntKind.wrap_u64];omega
 have wb:IntKind.u64.wrap b=b:=by rw[IntKind.wrap_u64];omega
 have wk:IntKind.u64.wrap key=key:=by rw[IntKind.wrap_u64];omega
 have HM:=hide (λw=>qL8 a key a0 (by omega) k0 (by omega) w);go_enter Tryz.func132,Tryz.ntmps132
 go_wp2_with fail
 refine(uh HM _).mono ?_;rintro e w' ⟨rfl,rfl⟩;have hadd:=λW=>qRv (a*key%18446744073709551616) b (by omega) b0 W
 have HP:=hide (show qD8 a b key=(a*key+b)%2305843009213693951 from rfl);have HK:=hide ((Keeps.refl (λ_=>False) w).alloc (.cells #[.int .i64 a,.int .i64 b] 29));have hx:(w.alloc (.cells #[.int .i64 a,.int .i64 b] 29)).cell? ⟨w.heap.size,1,none⟩=some (.int .i64 b):=(Blk.new w [.int .i64 a,.int .i64 b] 29).cell rfl;generalize w.alloc (.cells #[.int .i64 a,.int .i64 b] 29)=W at *;generalize a*key=p at *;go_wp2_with fail
 refine(zB3 _ _ _ (by omega) (by omega) (by omega) (by omega)).mono ?_;rintro e w1 ⟨rfl,hk⟩;have HK2:=hide ((uh HK).then hk);clear hk;have hf:IntKind.i64.wrap (((p/18446744073709551616+(p%18446744073709551616+b)/18446744073709551616)*18446744073709551616+(p+b)%18446744073709551616)%2305843009213693951)=(p+b)%2305843009213693951:=by
  rw[IntKind.wrap_i64];omega
 go_wp2
 go_ret
 exact⟨by rw[uh HP];rfl,uh HK2⟩
def qFi: List Nat:=[115,107,101,116,99,104,32,49]
theorem qZm: Tryz.prog.underlying 5=some (.int .u8):=by kernel_rfl
theorem qKj{w:World}{base T n:Nat}{v:Value}{xs:List Value}(h:w.ownsRow base T 1 v n xs): (n=0/\v=.slice none 0 0)\/∃g cap,v=.slice (some ⟨g,0,none⟩) n cap/\∀(i:Nat) u,xs[i]?=some u->w.cell? ⟨g,i,none⟩=some u:=by
 rcases h.2 with ⟨h1,h2⟩ | ⟨g,cap,cur,h1,_,h3,h4,h5,h6,h7⟩
 ·exact .inl ⟨h2,h1⟩
 ·refine .inr ⟨g,cap,h1,λi u hu=>?_⟩
  have hi:i<n:=by have:=(List.getElem?_eq_some_iff.1 hu).1;have:=h.1;omega
  have:cur[i]?=some u:=by
   rw[<-h7]at hu;rw[List.getElem?_take]at hu;rw[if_pos (by omega)]at hu;simpa using hu
  simp[World.cell?,h3,this]
theorem qM6: ∀x∈qFi,x<256:=by decide
theorem qQn(w:World):
  Calls Tryz.prog 57 #[] w λe w'=>∃b v,e=.returned (.pointer (some ⟨b,0,none⟩))/\WRep w' b v qFi/\(∀i,qCc b v i->w.heap.size<=i)/\Keeps (λ_=>False) w w':=by
 have kc:=λ(w:World) (C:Array Value) (n c:Nat)=>Lib.run_convert_bytes_const (P:=Tryz.prog) w 136 5 C n c Tryz.underlying136 qZm
 go_enter Tryz.func57,Tryz.ntmps57
 go_wp2
 go_ret
 have hk1:Keeps (λ_=>False) w (w.alloc (.cells (qDh qFi).toArray 5 (8,9))):=(Keeps.refl _ _).alloc _;refine⟨w.heap.size+1,.slice (some ⟨w.heap.size,0,none⟩) 8 8,rfl,⟨Blk.newAt (by simp) [_] _,.inr ⟨w.heap.size,rfl,?_⟩,by simp[Value.ownBlock],qM6⟩,λi hi=>?_,hk1.alloc _⟩
 ·rw[Below.heap_alloc _ _ _ (by simp)]
  exact heap_alloc_new w _
 ·rcases hi with hi | hi
  ·omega
  ·have:w.heap.size=i:=by simpa[Value.ownBlock] using hi
   omega
def qC7(ps:List (Nat×Nat)): List Value:=ps.map λp=>.pointer (some ⟨p.1,p.2,none⟩)
def PartsAt(w:World)(ps:List (Nat×Nat))(ns:List Int): Prop:=ps.length=ns.length/\∀(i:Nat) p n,ps[i]?=some p->ns[i]?=some n->w.cell? ⟨p.1,p.2,none⟩=some (.int .i64 n)
theorem zCl(b:Nat)(v:Value)(bs:List Nat)(pv:Value)(base:Nat)(ps:List (Nat×Nat))(ns:List Int)(w:World)(h:WRep w b v bs)(hp:w.ownsRow base 170 1 pv ps.length (qC7 ps))(ha:PartsAt w ps ns)(hd:∀p,p∈ps->¬qCc b v p.1)(hpv:∀i,pv.ownBlock=some i->¬qCc b v i)(hn:∀n,n∈ns->0<=n/\n<=9223372036854775807)(hl:bs.length+10*ns.length<=140737488355300)(hl2:ns.length<=1000):
  Calls Tryz.prog 85 #[.pointer (some ⟨b,0,none⟩),pv] w λe w'=>e=.returned (.tuple #[])/\Wrote w b v (bs++qBv ns) w':=by
 have HW:=hide h;have HP:=hide hp;have HA:=hide ha;have HD:=hide hd;have HPV:=hide hpv;have HN:=hide hn;have HLE:=hide ha.1;obtain⟨va,vcap,hv,hva⟩:=qCh hp;have HVA:=hide hva;have hlen:ps.length=ns.length:=ha.1;clear h hp ha hd hpv hn hva;subst hv;generalize hm:ps.length=m at *;have HM:=hide hm;have HLM:=hide hlen;clear hm hlen;have hm3:m<=1000:=by have:=uh HLM;omega
 go_enter Tryz.func85,Tryz.ntmps85
 go_wp2
 go_loopw [8] (λi wr=>∃(k:Nat) (v':Value),i=.int .i64 k/\k<=m/\Hid (WRep wr b v' (bs++qBv (ns.take k)))/\Hid (∀i,v'.ownBlock=some i->v.ownBlock=some i\/w.heap.size<=i)/\Hid (Keeps (qCc b v) w wr)) (λi _=>m-(intOf i).toNat)
 case atStart=>exact⟨0,v,rfl,Nat.zero_le _,by show WRep _ _ _ _;rw[List.take_zero,qB7,List.append_nil];exact uh HW,λi hi=>.inl hi,Keeps.refl _ _⟩
 case round =>
  obtain⟨k,v',rfl,hk,HWr,HVr,HKr⟩:=hrel
  by_cases hlk:k<m
  ·obtain⟨g,hg,hgb⟩:=uh HVA (by omega)
   subst hg;have hkp:k<ps.length:=by rw[uh HM];exact hlk
   have hkn:k<ns.length:=by rw[<-uh HLM];exact hlk
   obtain⟨p,hpk⟩:∃p,ps[k]?=some p:=⟨_,List.getElem?_eq_getElem hkp⟩;obtain⟨n,hnk⟩:∃n,ns[k]?=some n:=⟨_,List.getElem?_eq_getElem hkn⟩;have hrow:=qNn (uh HP) (uh HKr) (uh HPV);have hck:wr.cell? ⟨g,k,none⟩=some (.pointer (some ⟨p.1,p.2,none⟩)):=by
    rcases qKj hrow with ⟨h0,_⟩ | ⟨g',cap',hv',hc⟩
    ·omega
    ·cases hv';exact hc k _ (by unfold qC7;rw[List.getElem?_map,hpk];rfl)
   have hcp:wr.cell? ⟨p.1,p.2,none⟩=some (.int .i64 n):=(uh HKr).cell ((uh HA).2 k p n hpk hnk) (uh HD p (List.mem_of_getElem? hpk));obtain⟨n0,n1⟩:=uh HN n (List.mem_of_getElem? hnk)
   have HNX:=hide (show bs++qBv (ns.take k)++enc n=bs++qBv (ns.take (k+1)) by
      rw[List.append_assoc]
      congr 1
      rw[List.take_add_one,hnk,qAo]
      simp[qBv])
   have hlb:(bs++qBv (ns.take k)).length<=140737488355300:=by
    have:=qA0 (ns.take k);have h2:(ns.take k).length<=ns.length:=by rw[List.length_take];omega
    rw[List.length_append];omega
   have hk0:(0:Int)<=(k:Int):=by omega
   have hkm:(k:Int)<(m:Int):=by omega
   clear hrow hpk hnk hkp hkn;go_wp2_with fail
   refine(qDs b v' (bs++qBv (ns.take k)) n wr (uh HWr) n0 n1 hlb).mono ?_;rintro e w1 ⟨rfl,hw1⟩;have HW1:=hide (Wrote.then (uh HVr) (uh HKr) hw1);clear hw1 hck hcp;go_wp2
   go_roundw
   case rel =>
    obtain⟨v2,hw2,hv2,hk2⟩:=uh HW1;rw[uh HNX]at hw2;exact⟨k+1,v2,by go_num,by omega,hw2,hv2,hk2⟩
   case measure=>simp[intOf];omega
  ·have hkm:k=m:=by omega
   subst hkm;go_wp2
   go_end0
   refine⟨rfl,v',?_,uh HVr,uh HKr⟩;have:=uh HWr
   rwa [List.take_of_length_le (by rw[<-uh HLM];omega)]at this
def qNc(l:List Nat): Int:=l.foldl (λa (b:Nat)=>qD8 1000003000007 b a) 1
theorem zBe(l:List Nat)(b:Nat): qNc (l++[b])=qD8 1000003000007 b (qNc l):=by simp[qNc]
theorem qRs(l:List Nat)(a:Int)(h0:0<=a)(h1:a<2305843009213693951): 0<=l.foldl (λa (b:Nat)=>qD8 1000003000007 b a) a/\l.foldl (λa (b:Nat)=>qD8 1000003000007 b a) a<2305843009213693951:=by
 induction l generalizing a with
 | nil=>exact⟨h0,h1⟩
 | cons b l ih=>have:=qI9 1000003000007 b a;exact ih _ this.1 this.2
theorem qTh(l:List Nat): 0<=qNc l/\qNc l<2305843009213693951:=qRs l 1 (by omega) (by omega)
theorem zHk(v:Value)(bs:List Nat)(w:World)(h:WRow w v bs)(hs:∀x∈bs,x<256)(hl:bs.length<=140737488355320):
  Calls Tryz.prog 86 #[v] w λe w'=>e=.returned (.int .i64 (qNc bs))/\Keeps (λ_=>False) w w':=by
 have HW:=hide h;have HS:=hide hs;obtain⟨va,vcap,hv⟩:=h.form;subst hv;clear h hs;generalize hn:bs.length=n at *;have HN:=hide hn;clear hn;go_enter Tryz.func86,Tryz.ntmps86
 go_wp2
 go_loopw [3,8] (λa i wr=>∃k:Nat,i=.int .i64 k/\k<=n/\a=.int .i64 (qNc (bs.take k))/\Hid (Keeps (λ_=>False) w wr)) (λ_ i _=>n-(intOf i).toNat)
 case atStart=>exact⟨0,rfl,Nat.zero_le _,rfl,Keeps.refl _ _⟩
 case round =>
  obtain⟨k,rfl,hk,rfl,HK⟩:=hrel
  by_cases hlk:k<n
  ·have hkb:k<bs.length:=by rw[uh HN];exact hlk
   obtain⟨y,hy⟩:∃y,bs[k]?=some y:=⟨_,List.getElem?_eq_getElem hkb⟩;have hy6:=uh HS y (List.mem_of_getElem? hy);have HNX:=hide (show qNc (bs.take (k+1))=qD8 1000003000007 y (qNc (bs.take k)) by rw[List.take_add_one,hy];exact zBe _ _);obtain⟨g,cap,hv,hc⟩:∃g cap,(Value.slice va n vcap)=.slice (some ⟨g,0,none⟩) n cap/\∀(i:Nat) u,(qDh bs)[i]?=some u->w.cell? ⟨g,i,none⟩=some u:=by
    rcases(uh HW).cells with ⟨h0,_⟩ | ⟨g,cap,hv,hc⟩
    ·omega
    ·exact⟨g,cap,by rw[hv,uh HN],hc⟩
   injection hv with hv1 _ hv2;subst hv1 hv2;have hck:wr.cell? ⟨g,k,none⟩=some (.int .u8 (y:Int)):=(uh HK).cell (hc k _ (by unfold qDh;rw[List.getElem?_map,hy];rfl)) (λh=>h);have hwb:IntKind.i64.wrap (y:Int)=(y:Int):=(by rw[IntKind.wrap_i64];omega);have hb:=qTh (bs.take k);generalize qNc (bs.take k)=S at *;have hk0:(0:Int)<=(k:Int):=by omega
   have hkm:(k:Int)<(n:Int):=by omega
   clear hc hy hkb;go_wp2_with fail
   refine(zE4 1000003000007 (y:Int) S wr (by omega) (by omega) (by omega) (by omega) hb.1 (by omega)).mono ?_;rintro e w1 ⟨rfl,hk1⟩;have HK1:=hide ((uh HK).then hk1);clear hk1 hck;go_wp2
   go_roundw
   case rel=>exact⟨k+1,by go_num,by omega,by rw[uh HNX],uh HK1⟩
   case measure=>simp[intOf];omega
  ·have hkn:k=n:=by omega
   subst hkn;have HT:=hide (show bs.take k=bs from List.take_of_length_le (by rw[uh HN];omega));go_wp2
   go_ret
   exact⟨by rw[uh HT];rfl,uh HK⟩
def qE3(l:List Nat): ByteArray:=strOfNums (l.map λ(n:Nat)=>(n:Int))
theorem qXy(l:List Nat)(i:Nat)(hi:i<l.length): (qDh l)[i]?=some (.int .u8 ((l.map λ(n:Nat)=>(n:Int)).getD i 0)):=by
 unfold qDh;rw[List.getElem?_map,List.getD_eq_getElem?_getD,List.getElem?_map,List.getElem?_eq_getElem hi];rfl
theorem qZr(b:Nat)(v:Value)(bs:List Nat)(w:World)(h:WRep w b v bs)(hl:bs.length<=140737488355300):
  Calls Tryz.prog 60 #[.pointer (some ⟨b,0,none⟩)] w λe w'=>e=.returned (.string (qE3 (bs++enc (qNc bs))))/\Keeps (qCc b v) w w':=by
 have hc0:w.cell? ⟨b,0,none⟩=some v:=h.blk.cell rfl;have HS:=hide (zHk v bs w h.row h.small (by omega));have HB:=hide (qTh bs);have HW:=hide h;have hlt:=h.blk.lt;obtain⟨va,vcap,hv⟩:=h.row.form;subst hv;clear h;go_enter Tryz.func60,Tryz.ntmps60
 go_wp2_with fail
 refine(uh HS).mono ?_;rintro e w1 ⟨rfl,hk1⟩;have HK1:=hide hk1;have HN:=hide (qDs b (.slice va bs.length vcap) bs (qNc bs) w1 ((uh HW).still hk1) (uh HB).1 (by have:=(uh HB).2;omega) hl);clear hk1 hc0 HS;go_wp2_with fail
 refine(uh HN).mono ?_;rintro e w2 ⟨rfl,v2,hw2,hv2,hk2⟩;have HK2:=hide (((uh HK1).mono (M':=qCc b (.slice va bs.length vcap)) (λ_ _ h=>h.elim)).then hk2);have hc2:w2.cell? ⟨b,0,none⟩=some v2:=hw2.blk.cell rfl;have hlt2:=hw2.blk.lt;obtain⟨g,cap,hv,hcv⟩:∃g cap,v2=.slice (some ⟨g,0,none⟩) (bs++enc (qNc bs)).length cap/\(convert 136 9 (.slice (some ⟨g,0,none⟩) (bs++enc (qNc bs)).length cap)).run Tryz.prog w2=.ok (.string (qE3 (bs++enc (qNc bs)))) w2:=by
  rcases hw2.row.cells with ⟨h0,_⟩ | ⟨g,cap,hv,hc⟩
  ·exfalso
   have h1:0<(enc (qNc bs)).length:=by
    unfold enc qOo
    split <;> simp
   rw[List.length_append]at h0;omega
  ·refine⟨g,cap,hv,run_convert_bytes_arg w2 136 5 Tryz.underlying136 qZm g 0 _ cap _ (by simp) (λi hi=>?_) 9 Tryz.underlying9⟩
   rw[Nat.zero_add];exact hc i _ (qXy _ i hi)
 subst hv;generalize(bs++enc (qNc bs)).length=n2 at *;clear hw2 hv2 hk2 HN;go_wp2
 go_ret
 exact⟨rfl,uh HK2⟩
theorem qUk(d b:Nat)(c:Cfg)(q r m:Int)(v:Value)(bs:List Nat)(w:World)(hb:Blk w d (qDc c q r) 201)(h:WRep w b v bs)(hd:¬qCc b v d)(q0:0<=q)(q1:q<=9223372036854775807)(r0:0<=r)(r1:r<=9223372036854775807)(hl:bs.length<=140737488355000):
  Calls Tryz.prog 166 #[.pointer (some ⟨d,0,none⟩),.pointer (some ⟨b,0,none⟩),.int .i64 m] w λe w'=>e=.returned (.tuple #[])/\Wrote w b v (bs++qBv [q,r]) w':=by
 have hd20:w.cell? ⟨d,20,none⟩=some (.int .i64 q):=hb.cell rfl;have HB:=hide hb;have HW:=hide h;have HD:=hide hd;have HN:=hide (qDs b v bs q w h q0 q1 (by omega));clear hb h hd;go_enter Tryz.func166,Tryz.ntmps166
 go_wp2_with fail
 refine(uh HN).mono ?_;rintro e w1 ⟨rfl,v1,hw1,hv1,hk1⟩;have hd21:w1.cell? ⟨d,21,none⟩=some (.int .i64 r):=hk1.cell ((uh HB).cell rfl) (uh HD);have HV1:=hide hv1;have HK1:=hide hk1;have HN1:=hide (qDs b v1 (bs++enc q) r w1 hw1 r0 r1 (by have:=qBs q;rw[List.length_append];omega));clear hd20 hw1 hv1 hk1 HN;go_wp2_with fail
 refine(uh HN1).mono ?_;rintro e w2 ⟨rfl,hw2⟩;have HF:=hide (Wrote.then (uh HV1) (uh HK1) hw2);clear hw2 HN1;go_wp2
 go_end0
 refine⟨rfl,?_⟩;have h:=uh HF;rw[List.append_assoc]at h;rw[qAz,qC3];exact h
end
end Go.Proofs.YtahnliehdjncdabGreatDoor
