import Derived.Test.YtahnliehdjncdaaGreatDoorXAR
set_option maxRecDepth 100000
set_option maxHeartbeats 16000000
namespace Go.Proofs.YtahnliehdjncdaaGreatDoor
section
open Go.RowKit
theorem qRu(hi lo u v z m q1 n q:Int)(hU:u=hi*8+lo/2305843009213693952)(hV:v=lo*8%18446744073709551616)(hZ:z=v%4294967296)(hM:m=u*4294967296+v/4294967296)(hN:n=m-q1*18446744073709551608)(h1:q*18446744073709551608<=n*4294967296+z)(h2:n*4294967296+z<(q+1)*18446744073709551608):
  IntKind.u64.wrap (IntKind.u64.wrap (IntKind.u64.wrap (n*4294967296)+z)-IntKind.u64.wrap (q*18446744073709551608))/8=(hi*18446744073709551616+lo)%2305843009213693951:=by
 simp only[IntKind.wrap_u64]
 have e:m*4294967296+z=8*(hi*18446744073709551616+lo):=by omega
 omega
theorem qT1(hi lo:Int)(w:World)(h0:0<=hi)(h1:hi<=1099511627776)(l0:0<=lo)(l1:lo<18446744073709551616):
  Calls Tryz.prog 234 #[.int .u64 hi,.int .u64 lo,.int .u64 2305843009213693951] w λe w'=>(∃q,e=.returned (.tuple #[.int .u64 q,.int .u64 ((hi*18446744073709551616+lo)%2305843009213693951)]))/\Keeps (λ_=>False) w w':=by
 by_cases hz:hi=0
 ·subst hz
  exact qOu 0 lo w (by omega) (by omega) l0 l1
 ·have hzb:(hi==0)=false:=by simp[hz]
  have hle:¬(2305843009213693951<=hi):=by omega
  have hand:bits .and .u64 18446744073709551608 4294967295=4294967288:=by decide +kernel
  obtain⟨u,hu,HU⟩:∃u,bits .or .u64 (hi*8) (lo/2305843009213693952)=u/\Hid (u=hi*8+lo/2305843009213693952):=⟨_,qYp hi (lo/2305843009213693952) h0 (by omega) (by omega) (by omega),rfl⟩
  obtain⟨v,hv,HV⟩:∃v,IntKind.u64.wrap (lo*8)=v/\Hid (v=lo*8%18446744073709551616):=⟨_,IntKind.wrap_u64 _,rfl⟩
  have u0:0<=u:=by have:=uh HU;omega
  have u1:u<=8796093022217:=by have:=uh HU;omega
  have v0:0<=v:=by have:=uh HV;omega
  have v1:v<18446744073709551616:=by have:=uh HV;omega
  obtain⟨z,hzz,HZ⟩:∃z,bits .and .u64 v 4294967295=z/\Hid (z=v%4294967296):=by
   obtain⟨x,rfl⟩:=Int.eq_ofNat_of_zero_le v0
   exact⟨_,Mul64.maskN x (by omega),by show _=_;omega⟩
  have z0:0<=z:=by have:=uh HZ;omega
  have z1:z<4294967296:=by have:=uh HZ;omega
  have hd:u.tdiv 4294967295=u/4294967295:=Int.tdiv_eq_ediv_of_nonneg u0
  obtain⟨y,HY⟩:∃y,Hid (y=v/4294967296):=⟨_,rfl⟩
  have hy:v/4294967296=y:=(uh HY).symm
  have y0:0<=y:=by omega
  have y1:y<4294967296:=by omega
  go_enter Tryz.func234,Tryz.ntmps234
  go_wp2_with (go_at_call 257;refine(qR0 _).mono ?_;rintro e w' ⟨rfl,rfl⟩)
  go_loop [15,16] (λa b=>∃q r:Int,a=.int .u64 q/\b=.int .u64 r/\0<=q/\q<=4096/\0<=r/\r<4294967296/\Hid (q*4294967295+r=u)/\Hid (u*4294967296+y<(q+1)*18446744073709551608)) (λa _=>(intOf a).toNat)
  case atStart=>exact⟨u/4294967295,u-u/4294967295*4294967295,by first | rfl | go_num,by first | rfl | go_num,by omega,by omega,by omega,by omega,by show _=_;omega,by show _<_;omega⟩
  case round =>
   obtain⟨q,r,rfl,rfl,q0,q1,r0,r1,HQ,HT⟩:=hrel
   by_cases hc:4294967296*r+y<q*4294967288
   ·have q2:1<=q:=by omega
    by_cases hb:4294967296<=r+4294967295
    ·have HT2:=hide (show u*4294967296+y<q*18446744073709551608 by have:=uh HQ;omega)
     have HQ2:=hide (show(q-1)*18446744073709551608<=u*4294967296+y by have:=uh HQ;omega)
     clear HQ HT
     have HQ:=HQ2
     have HT:=HT2
     obtain⟨n,HN⟩:∃n,Hid (n=u*4294967296+y-(q-1)*18446744073709551608):=⟨_,rfl⟩
     have n0:0<=n:=by have:=uh HN;have:=uh HQ;have:=uh HT;omega
     have n1:n<18446744073709551608:=by have:=uh HN;have:=uh HQ;have:=uh HT;omega
     have hn:IntKind.u64.wrap (IntKind.u64.wrap (IntKind.u64.wrap (u*4294967296)+y)-IntKind.u64.wrap ((q-1)*18446744073709551608))=n:=by
      have:=uh HN
      simp only[IntKind.wrap_u64]
      omega
     have hnd:n.tdiv 4294967295=n/4294967295:=Int.tdiv_eq_ediv_of_nonneg n0
     have HFIN:=hide (λq0 a b=>qRu hi lo u v z (u*4294967296+y) (q-1) n q0 (uh HU) (uh HV) (uh HZ) (by rw[uh HY]) (uh HN) a b)
     go_wp2_with (first | simp only[hn] | simp only[hnd])
     go_loop [16,18] (λb a=>∃q r:Int,a=.int .u64 q/\b=.int .u64 r/\0<=q/\q<=4294967296/\0<=r/\r<4294967296/\Hid (q*4294967295+r=n)/\Hid (n*4294967296+z<(q+1)*18446744073709551608)) (λ_ a=>(intOf a).toNat)
     case atStart=>exact⟨n/4294967295,n-n/4294967295*4294967295,by first | rfl | go_num,by first | rfl | go_num,by omega,by omega,by omega,by omega,by show _=_;omega,by show _<_;omega⟩
     case round =>
      clear HQ HT hn
      obtain⟨q,r,rfl,rfl,q0,q1,r0,r1,HQ,HT⟩:=hrel
      by_cases hbig:4294967296<=q
      ·by_cases hb:4294967296<=r+4294967295
       ·go_wp2
        go_ret2
        exact⟨⟨_,by rw[uh HFIN (q-1) (by have:=uh HQ;omega) (by have:=uh HQ;omega)];rfl⟩,Keeps.refl _ _⟩
       ·go_wp2
        go_round
        case rel=>exact⟨q-1,r+4294967295,by first | rfl | go_num,by first | rfl | go_num,by omega,by omega,by omega,by omega,by have:=uh HQ;show _=_;omega,by have:=uh HQ;show _<_;omega⟩
        case measure=>simp[intOf];omega
      ·by_cases hc:4294967296*r+z<q*4294967288
       ·have q2:1<=q:=by omega
        by_cases hb:4294967296<=r+4294967295
        ·go_wp2
         go_ret2
         exact⟨⟨_,by rw[uh HFIN (q-1) (by have:=uh HQ;omega) (by have:=uh HQ;omega)];rfl⟩,Keeps.refl _ _⟩
        ·go_wp2
         go_round
         case rel=>exact⟨q-1,r+4294967295,by first | rfl | go_num,by first | rfl | go_num,by omega,by omega,by omega,by omega,by have:=uh HQ;show _=_;omega,by have:=uh HQ;show _<_;omega⟩
         case measure=>simp[intOf];omega
       ·go_wp2
        go_ret2
        exact⟨⟨_,by rw[uh HFIN q (by have:=uh HQ;omega) (uh HT)];rfl⟩,Keeps.refl _ _⟩
    ·go_wp2
     go_round
     case rel=>exact⟨q-1,r+4294967295,by first | rfl | go_num,by first | rfl | go_num,by omega,by omega,by omega,by omega,by have:=uh HQ;show _=_;omega,by have:=uh HQ;show _<_;omega⟩
     case measure=>simp[intOf];omega
   ·have HQ2:=hide (show q*18446744073709551608<=u*4294967296+y by have:=uh HQ;omega)
    clear HQ
    have HQ:=HQ2
    obtain⟨n,HN⟩:∃n,Hid (n=u*4294967296+y-(q)*18446744073709551608):=⟨_,rfl⟩
    have n0:0<=n:=by have:=uh HN;have:=uh HQ;have:=uh HT;omega
    have n1:n<18446744073709551608:=by have:=uh HN;have:=uh HQ;have:=uh HT;omega
    have hn:IntKind.u64.wrap (IntKind.u64.wrap (IntKind.u64.wrap (u*4294967296)+y)-IntKind.u64.wrap ((q)*18446744073709551608))=n:=by
     have:=uh HN
     simp only[IntKind.wrap_u64]
     omega
    have hnd:n.tdiv 4294967295=n/4294967295:=Int.tdiv_eq_ediv_of_nonneg n0
    have HFIN:=hide (λq0 a b=>qRu hi lo u v z (u*4294967296+y) (q) n q0 (uh HU) (uh HV) (uh HZ) (by rw[uh HY]) (uh HN) a b)
    go_wp2_with (first | simp only[hn] | simp only[hnd])
    go_loop [16,18] (λb a=>∃q r:Int,a=.int .u64 q/\b=.int .u64 r/\0<=q/\q<=4294967296/\0<=r/\r<4294967296/\Hid (q*4294967295+r=n)/\Hid (n*4294967296+z<(q+1)*18446744073709551608)) (λ_ a=>(intOf a).toNat)
    case atStart=>exact⟨n/4294967295,n-n/4294967295*4294967295,by first | rfl | go_num,by first | rfl | go_num,by omega,by omega,by omega,by omega,by show _=_;omega,by show _<_;omega⟩
    case round =>
     clear HQ HT hn
     obtain⟨q,r,rfl,rfl,q0,q1,r0,r1,HQ,HT⟩:=hrel
     by_cases hbig:4294967296<=q
     ·by_cases hb:4294967296<=r+4294967295
      ·go_wp2
       go_ret2
       exact⟨⟨_,by rw[uh HFIN (q-1) (by have:=uh HQ;omega) (by have:=uh HQ;omega)];rfl⟩,Keeps.refl _ _⟩
      ·go_wp2
       go_round
       case rel=>exact⟨q-1,r+4294967295,by first | rfl | go_num,by first | rfl | go_num,by omega,by omega,by omega,by omega,by have:=uh HQ;show _=_;omega,by have:=uh HQ;show _<_;omega⟩
       case measure=>simp[intOf];omega
     ·by_cases hc:4294967296*r+z<q*4294967288
      ·have q2:1<=q:=by omega
       by_cases hb:4294967296<=r+4294967295
       ·go_wp2
        go_ret2
        exact⟨⟨_,by rw[uh HFIN (q-1) (by have:=uh HQ;omega) (by have:=uh HQ;omega)];rfl⟩,Keeps.refl _ _⟩
       ·go_wp2
        go_round
        case rel=>exact⟨q-1,r+4294967295,by first | rfl | go_num,by first | rfl | go_num,by omega,by omega,by omega,by omega,by have:=uh HQ;show _=_;omega,by have:=uh HQ;show _<_;omega⟩
        case measure=>simp[intOf];omega
      ·go_wp2
       go_ret2
       exact⟨⟨_,by rw[uh HFIN q (by have:=uh HQ;omega) (uh HT)];rfl⟩,Keeps.refl _ _⟩
end
end Go.Proofs.YtahnliehdjncdaaGreatDoor
