import Derived.Laws.BitsAllLaws
import Derived.Laws.Externs
import Derived.Shelf.Bits.Mul64
import Derived.Test.YtahnliehdjncdaaGreatDoorXAA
import Derived.BigRegion
import Derived.Deep.RegionHeld3
import Derived.Shelf.Spec.TrailingZeros
import Derived.Test.YtahnliehdjncdaaGreatDoorXAD
import Derived.Test.YtahnliehdjncdaaGreatDoorXAQ
import Derived.Test.YtahnliehdjncdaaGreatDoorXAP
set_option maxRecDepth 100000
set_option maxHeartbeats 16000000
namespace Go.Proofs.YtahnliehdjncdaaGreatDoor
section
open Go.RowKit
theorem qT0(x y:Nat)(hx:x<18446744073709551616)(hy:y<18446744073709551616)(w:World):
  Calls Tryz.prog 189 #[.int .u64 x,.int .u64 y] w λe w'=>e=.returned (.tuple #[.int .u64 ((x*y/18446744073709551616:Nat):Int),.int .u64 ((x*y%18446744073709551616:Nat):Int)])/\w'=w:=by
 obtain⟨bd,bt,bw,hhi⟩:=Lib.mul64_hi x y hx hy
 have ba:=Lib.half_mul_le (a:=x/4294967296) (b:=y/4294967296) (by omega) (by omega)
 have bb:=Lib.half_mul_le (a:=x/4294967296) (b:=y%4294967296) (by omega) (by omega)
 have bc:=Lib.half_mul_le (a:=x%4294967296) (b:=y/4294967296) (by omega) (by omega)
 have ba':x/4294967296*(y/4294967296)<18446744073709551616:=by omega
 have bb':x/4294967296*(y%4294967296)<18446744073709551616:=by omega
 have bc':x%4294967296*(y/4294967296)<18446744073709551616:=by omega
 have bh1:x/4294967296*(y/4294967296)+(x/4294967296*(y%4294967296)+x%4294967296*(y%4294967296)/4294967296)/4294967296<18446744073709551616:=by omega
 have bh:x/4294967296*(y/4294967296)+(x/4294967296*(y%4294967296)+x%4294967296*(y%4294967296)/4294967296)/4294967296+((x/4294967296*(y%4294967296)+x%4294967296*(y%4294967296)/4294967296)%4294967296+x%4294967296*(y/4294967296))/4294967296<18446744073709551616:=by omega
 go_enter Tryz.func189,Tryz.ntmps189
 go_wp2
 simp only[Mul64.maskN x hx,Mul64.maskN y hy,Mul64.divN,Mul64.mulN,Mul64.addN,Mul64.wrapN _ bd,Mul64.wrapN _ bb',Mul64.wrapN _ bt,Mul64.maskN _ bt,Mul64.wrapN _ bc',Mul64.wrapN _ bw,Mul64.wrapN _ ba',Mul64.wrapN _ bh1,Mul64.wrapN _ bh,Mul64.wrapM (x*y)]
 rw[hhi]
 go_ret2
 exact⟨rfl,rfl⟩
theorem qKg(x y:Int)(x0:0<=x)(x1:x<18446744073709551616)(y0:0<=y)(y1:y<18446744073709551616)(w:World):
  Calls Tryz.prog 189 #[.int .u64 x,.int .u64 y] w λe w'=>e=.returned (.tuple #[.int .u64 (x*y/18446744073709551616),.int .u64 (x*y%18446744073709551616)])/\w'=w:=by
 obtain⟨a,rfl⟩:=Int.eq_ofNat_of_zero_le x0
 obtain⟨b,rfl⟩:=Int.eq_ofNat_of_zero_le y0
 refine(qT0 a b (by omega) (by omega) w).mono ?_
 rintro e w' ⟨rfl,rfl⟩
 refine⟨?_,rfl⟩
 simp
theorem qN4(x y:Int)(hx:0<=x)(hy:0<=y)(w:World):
  (callFunc 190 #[.int .u64 x,.int .u64 y,.int .u64 0]).run Tryz.prog w =
   .ok (.value (.tuple #[.int .u64 ((x+y)%18446744073709551616),.int .u64 ((x+y)/18446744073709551616)])) w:=by
 rw[run_callFunc_extern Tryz.func190 (by kernel_rfl) (by kernel_rfl) (by kernel_rfl) (e:=add64Entry) (by kernel_rfl),run_add64 x y 0 hx hy (by omega) (by omega)]
 simp only[Result.andThen,Int.add_zero]
theorem qR0(w:World):
  Calls Tryz.prog 257 #[.int .u64 2305843009213693951] w λe w'=>e=.returned (.int .i64 3)/\w'=w:=by
 have hl:∀w:World,Calls Tryz.prog 241 #[.int .u64 2305843009213693951] w λe w'=>e=.returned (.int .i64 61)/\w'=w:=by
  intro w
  go_enter Tryz.func241,Tryz.ntmps241
  go_wp2
  go_ret
  exact⟨by kernel_rfl,rfl⟩
 go_enter Tryz.func257,Tryz.ntmps257
 go_wp2_with (go_at_call 241;refine(hl _).mono ?_;rintro e w' ⟨rfl,rfl⟩)
 go_ret
 exact⟨rfl,rfl⟩
theorem qYp(a b:Int)(a0:0<=a)(a1:a<2305843009213693952)(b0:0<=b)(b1:b<8): bits .or .u64 (a*8) b=a*8+b:=by
 obtain⟨x,rfl⟩:=Int.eq_ofNat_of_zero_le a0
 obtain⟨y,rfl⟩:=Int.eq_ofNat_of_zero_le b0
 have h:(((x:Nat):Int)*8)=((x*8:Nat):Int):=by simp
 rw[h,bits_or_u64_nat _ _ (by omega) (by omega)]
 have h2:x*8 ||| y=x*8+y:=by
  have:=Nat.two_pow_add_eq_or_of_lt (i:=3) (b:=y) (by omega) x
  rw[show(2:Nat) ^ 3=8 by rfl,Nat.mul_comm 8 x]at this
  exact this.symm
 rw[h2];simp
theorem qU0(hi lo u v z n q:Int)(hU:u=hi*8+lo/2305843009213693952)(hV:v=lo*8%18446744073709551616)(hZ:z=v%4294967296)(hN:n=u*4294967296+v/4294967296)(h1:q*18446744073709551608<=n*4294967296+z)(h2:n*4294967296+z<(q+1)*18446744073709551608):
  IntKind.u64.wrap (IntKind.u64.wrap (IntKind.u64.wrap (n*4294967296)+z)-IntKind.u64.wrap (q*18446744073709551608))/8=(hi*18446744073709551616+lo)%2305843009213693951:=by
 simp only[IntKind.wrap_u64]
 have e:n*4294967296+z=8*(hi*18446744073709551616+lo):=by omega
 omega
theorem qOu(hi lo:Int)(w:World)(h0:0<=hi)(h1:hi<=268435456)(l0:0<=lo)(l1:lo<18446744073709551616):
  Calls Tryz.prog 234 #[.int .u64 hi,.int .u64 lo,.int .u64 2305843009213693951] w λe w'=>(∃q,e=.returned (.tuple #[.int .u64 q,.int .u64 ((hi*18446744073709551616+lo)%2305843009213693951)]))/\Keeps (λ_=>False) w w':=by
 by_cases hz:hi=0
 ·subst hz
  go_enter Tryz.func234,Tryz.ntmps234
  go_wp2
  go_region
  go_wp2
  go_ret2
  exact⟨⟨_,by simp;rfl⟩,(Keeps.refl _ _).drew⟩
 ·have hzb:(hi==0)=false:=by simp[hz]
  have hle:¬(2305843009213693951<=hi):=by omega
  have hand:bits .and .u64 18446744073709551608 4294967295=4294967288:=by decide +kernel
  obtain⟨u,hu,HU⟩:∃u,bits .or .u64 (hi*8) (lo/2305843009213693952)=u/\Hid (u=hi*8+lo/2305843009213693952):=⟨_,qYp hi (lo/2305843009213693952) h0 (by omega) (by omega) (by omega),rfl⟩
  obtain⟨v,hv,HV⟩:∃v,IntKind.u64.wrap (lo*8)=v/\Hid (v=lo*8%18446744073709551616):=⟨_,IntKind.wrap_u64 _,rfl⟩
  have u0:0<=u:=by have:=uh HU;omega
  have u1:u<=2147483660:=by have:=uh HU;omega
  have v0:0<=v:=by have:=uh HV;omega
  have v1:v<18446744073709551616:=by have:=uh HV;omega
  obtain⟨z,hzz,HZ⟩:∃z,bits .and .u64 v 4294967295=z/\Hid (z=v%4294967296):=by
   obtain⟨x,rfl⟩:=Int.eq_ofNat_of_zero_le v0
   exact⟨_,Mul64.maskN x (by omega),by show _=_;omega⟩
  have z0:0<=z:=by have:=uh HZ;omega
  have z1:z<4294967296:=by have:=uh HZ;omega
  have hd:u.tdiv 4294967295=0:=by rw[Int.tdiv_eq_ediv_of_nonneg u0];omega
  go_enter Tryz.func234,Tryz.ntmps234
  go_wp2_with (go_at_call 257;refine(qR0 _).mono ?_;rintro e w' ⟨rfl,rfl⟩)
  go_loop [15,16] (λa b=>a=.int .u64 0/\b=.int .u64 u) (λ_ _=>0)
  case atStart=>exact⟨by first | rfl | simp,by first | rfl | simp⟩
  case round =>
   obtain⟨rfl,rfl⟩:=hrel
   go_wp2
   obtain⟨n,HN⟩:∃n,Hid (n=u*4294967296+v/4294967296):=⟨_,rfl⟩
   have n0:0<=n:=by have:=uh HN;omega
   have n1:n<=9223372097000000000:=by have:=uh HN;omega
   have hn:u*4294967296+v/4294967296=n:=(uh HN).symm
   rw[hn]
   clear hn
   go_loop [16,18] (λb a=>∃q r:Int,a=.int .u64 q/\b=.int .u64 r/\0<=q/\q<=2147483700/\0<=r/\r<4294967296/\Hid (q*4294967295+r=n)/\Hid (n*4294967296+z<(q+1)*18446744073709551608)) (λ_ a=>(intOf a).toNat)
   case atStart=>exact⟨n/4294967295,n-n/4294967295*4294967295,rfl,rfl,by omega,by omega,by omega,by omega,by show _=_;omega,by show _<_;omega⟩
   case round =>
    obtain⟨q,r,rfl,rfl,q0,q1,r0,r1,HQ,HT⟩:=hrel
    by_cases hc:4294967296*r+z<q*4294967288
    ·have q2:1<=q:=by omega
     by_cases hb:4294967296<=r+4294967295
     ·go_wp2
      go_ret2
      exact⟨⟨_,by rw[qU0 hi lo u v z n (q-1) (uh HU) (uh HV) (uh HZ) (uh HN) (by have:=uh HQ;omega) (by have:=uh HQ;omega)];rfl⟩,Keeps.refl _ _⟩
     ·go_wp2
      go_round
      case rel=>exact⟨q-1,r+4294967295,by first | rfl | go_num,by first | rfl | go_num,by omega,by omega,by omega,by omega,by have:=uh HQ;show _=_;omega,by have:=uh HQ;show _<_;omega⟩
      case measure=>simp[intOf];omega
    ·go_wp2
     go_ret2
     exact⟨⟨_,by rw[qU0 hi lo u v z n q (uh HU) (uh HV) (uh HZ) (uh HN) (by have:=uh HQ;omega) (uh HT)];rfl⟩,Keeps.refl _ _⟩
theorem qUf(hi lo:Int)(w:World)(h0:0<=hi)(h1:hi<=268435456)(l0:0<=lo)(l1:lo<18446744073709551616):
  Calls Tryz.prog 191 #[.int .u64 hi,.int .u64 lo,.int .u64 2305843009213693951] w λe w'=>e=.returned (.int .u64 ((hi*18446744073709551616+lo)%2305843009213693951))/\Keeps (λ_=>False) w w':=by
 have hm:hi.tmod 2305843009213693951=hi:=by rw[Int.tmod_eq_emod_of_nonneg h0];omega
 have HD:=hide (qOu hi lo w h0 h1 l0 l1)
 go_enter Tryz.func191,Tryz.ntmps191
 go_wp2_with fail
 refine(uh HD).mono ?_
 rintro e w1 ⟨⟨q,rfl⟩,hk⟩
 have HK:=hide hk
 clear hk
 go_wp2
 go_ret
 exact⟨rfl,uh HK⟩
def qDf(a b key:Int): Int:=(a*key+b)%2305843009213693951
theorem qHw(a b key:Int): 0<=qDf a b key/\qDf a b key<2305843009213693951:=by unfold qDf;omega
theorem qJc(a b key:Int)(w:World)(a0:0<=a)(a1:a<2305843009213693951)(b0:0<=b)(b1:b<2305843009213693951)(k0:0<=key)(k1:key<=2147483648):
  Calls Tryz.prog 145 #[.agg #[.int .i64 a,.int .i64 b],.int .i64 key] w λe w'=>e=.returned (.int .i64 (qDf a b key))/\Keeps (λ_=>False) w w':=by
 have p0:0<=a*key:=Int.mul_nonneg a0 k0
 have p1:a*key<=2305843009213693950*2147483648:=Int.mul_le_mul (by omega) k1 k0 (by omega)
 have wa:IntKind.u64.wrap a=a:=by rw[IntKind.wrap_u64];omega
 have wb:IntKind.u64.wrap b=b:=by rw[IntKind.wrap_u64];omega
 have wk:IntKind.u64.wrap key=key:=by rw[IntKind.wrap_u64];omega
 have HM:=hide (λw=>qKg a key a0 (by omega) k0 (by omega) w)
 go_enter Tryz.func145,Tryz.ntmps145
 go_wp2_with fail
 refine(uh HM _).mono ?_
 rintro e w' ⟨rfl,rfl⟩
 have hadd:=λW=>qN4 (a*key%18446744073709551616) b (by omega) b0 W
 have HP:=hide (show qDf a b key=(a*key+b)%2305843009213693951 from rfl)
 have HK:=hide ((Keeps.refl (λ_=>False) w).alloc (.cells #[.int .i64 a,.int .i64 b] 35))
 have hx:(w.alloc (.cells #[.int .i64 a,.int .i64 b] 35)).cell? ⟨w.heap.size,1,none⟩=some (.int .i64 b):=(Blk.new w [.int .i64 a,.int .i64 b] 35).cell rfl
 generalize w.alloc (.cells #[.int .i64 a,.int .i64 b] 35)=W at *
 generalize a*key=p at *
 go_wp2_with fail
 refine(qUf _ _ _ (by omega) (by omega) (by omega) (by omega)).mono ?_
 rintro e w1 ⟨rfl,hk⟩
 have HK2:=hide ((uh HK).then hk)
 clear hk
 have hf:IntKind.i64.wrap (((p/18446744073709551616+(p%18446744073709551616+b)/18446744073709551616)*18446744073709551616+(p+b)%18446744073709551616)%2305843009213693951)=(p+b)%2305843009213693951:=by
  rw[IntKind.wrap_i64];omega
 go_wp2
 go_ret
 exact⟨by rw[uh HP];rfl,uh HK2⟩
def Tab(w:World): Prop:=TabAt 2 Lib.deBruijn64tab w
theorem Tab.keeps{M:Nat->Prop}{w w':World}(h:Tab w)(hk:Keeps M w w')(h0:¬M 2): Tab w':=λj hj=>hk.cell (h j hj) h0
theorem Tab.lt{w:World}(h:Tab w): 2<w.heap.size:=World.block_lt_of_cell? w _ (h 0 (by decide))
theorem tz64_core(x k idx:Nat)(w:World)(hx0:((x:Int)==0)=false)(key:IntKind.u64.wrap (bits BinOp.and IntKind.u64 (x:Int) (IntKind.u64.wrap (-(x:Int)))*285870213051353865)/288230376151711744=(idx:Int))(hi:idx<64)(hk:k<64)(hcell:w.cell? ⟨2,idx,none⟩=some (.int .u8 k)):
  Calls Tryz.prog 245 #[.int .u64 x] w λe w'=>e=.returned (.int .i64 k)/\w'=w:=by
 go_enter Tryz.func245,Tryz.ntmps245
 go_wp2_with (simp only[key])
 go_ret
 exact⟨rfl,rfl⟩
theorem tz64_zero(w:World):
  Calls Tryz.prog 245 #[.int .u64 0] w λe w'=>e=.returned (.int .i64 64)/\w'=w:=by
 go_enter Tryz.func245,Tryz.ntmps245
 go_wp2
 go_ret
 exact⟨rfl,rfl⟩
theorem qX4(x:Nat)(hx:x<18446744073709551616)(w:World)(hT:Tab w):
  Calls Tryz.prog 245 #[.int .u64 x] w λe w'=>e=.returned (.int .i64 (Lib.ctz 64 x))/\w'=w:=by
 by_cases hx0:x=0
 ·subst hx0
  exact tz64_zero w
 ·obtain⟨hlow,hk⟩:=Lib.lowest_bit 64 x hx0 hx
  obtain⟨hi,htab⟩:=Lib.deBruijn64_at _ hk
  have hcell:=hT _ hi
  rw[htab]at hcell
  exact tz64_core x _ _ w (by simp;omega) (tz64_key x _ hx hx0 hlow) hi hk hcell
def qI4(q:Int): Int:=min (1+(Lib.ctz 64 q.toNat:Int)) 40
theorem qX2(q:Int): 1<=qI4 q/\qI4 q<=40:=by unfold qI4;omega
theorem qW6(q:Int)(w:World)(q0:0<=q)(q1:q<9223372036854775808)(hT:Tab w):
  Calls Tryz.prog 209 #[.int .i64 q] w λe w'=>e=.returned (.int .i64 (qI4 q))/\w'=w:=by
 obtain⟨x,rfl⟩:=Int.eq_ofNat_of_zero_le q0
 have wq:IntKind.u64.wrap (x:Int)=(x:Int):=by rw[IntKind.wrap_u64];omega
 have HZ:=hide (qX4 x (by omega) w hT)
 have HR:=hide (show qI4 (x:Int)=min (1+(Lib.ctz 64 x:Int)) 40 by unfold qI4;rw[Int.toNat_natCast])
 have hz:Lib.ctz 64 x<=64:=by
  by_cases hx0:x=0
  ·subst hx0;decide
  ·exact Nat.le_of_lt (Lib.lowest_bit 64 x hx0 (by omega)).2
 generalize Lib.ctz 64 x=z at *
 clear hT
 go_enter Tryz.func209,Tryz.ntmps209
 go_wp2_with fail
 refine(uh HZ).mono ?_
 rintro e w' ⟨rfl,rfl⟩
 by_cases hc:(40:Int)<1+(z:Int)
 ·have HM:=hide (show qI4 (x:Int)=40 by rw[uh HR];omega)
  go_wp2
  go_ret
  exact⟨qA7 (uh HM).symm,rfl⟩
 ·have HM:=hide (show qI4 (x:Int)=1+(z:Int) by rw[uh HR];omega)
  go_wp2
  go_ret
  exact⟨qA7 (uh HM).symm,rfl⟩
end
section
open Go.RowKit
theorem Mk.drop_says: Mk.DropSays:=λq og l w h h0 hl=>Mk.rowDrop_any q og l w h h0 hl
theorem Mk.keep_any(q:Nat)(og:Option Nat)(l:List Bk)(x:Bk)(w:World)(h:Mk.RowRep w q og l)(hl:l.length<=4398046511103):
  Calls Tryz.prog 208 #[.pointer (some ⟨q,0,none⟩),x.val] w λe w'=>e=.returned (.tuple #[])/\∃og',Mk.RowRep w' q og' (qG3 l x)/\Keeps (λk=>k=q\/og=some k) w w'/\(og'=og\/∃k,og'=some k/\w.heap.size<=k) :=
 Mk.keep_of Mk.drop_says q og l x w h hl
attribute [local go_sem ↓] Mk.execOp_fieldMk
attribute [local go_sem] Mk.run_fieldMk0 Mk.run_fieldMk1
def qG6(l:List Bk)(t:Int): Int:=if Mk.pastN l t=l.length then 0 else(qCh l (Mk.pastN l t)).t
theorem qO7(q:Nat)(og:Option Nat)(l:List Bk)(t:Int)(w:World)(h:Mk.RowRep w q og l)(hl:l.length<=4398046511104):
  Calls Tryz.prog 210 #[.pointer (some ⟨q,0,none⟩),.int .i64 t] w λe w'=>e=.returned (.int .i64 (qG6 l t))/\Keeps (λ_=>False) w w':=by
 have HR:=hide h
 have HP:=hide (Mk.past_any q og l t w h hl)
 have hle:=Mk.pastN_le l t
 have HG:=hide (show qG6 l t=if Mk.pastN l t=l.length then 0 else(qCh l (Mk.pastN l t)).t from rfl)
 clear h
 generalize hp:Mk.pastN l t=p at *
 clear hp
 go_enter Tryz.func210,Tryz.ntmps210
 go_wp2_with fail
 refine(uh HP).mono ?_
 rintro e w1 ⟨rfl,hk⟩
 have HR1:=hide ((uh HR).still hk)
 have HK:=hide hk
 clear hk HP
 obtain⟨n,hn⟩:∃n,l.length=n:=⟨_,rfl⟩
 have HN:=hide hn
 rw[hn]at hle hl
 by_cases hc:p=n
 ·have hb:((p:Int)==(n:Int))=true:=by simp[hc]
  have HF:=hide (show qG6 l t=0 by rw[uh HG,if_pos (by rw[uh HN];exact hc)])
  clear hn hc
  go_wp2_with (go_at_call 211;refine(Mk.rowLen_int q og l n _ (uh HR1) (by rw[uh HN])).mono ?_;rintro e w' ⟨rfl,rfl⟩)
  go_ret
  exact⟨qA7 (uh HF).symm,uh HK⟩
 ·have hb:((p:Int)==(n:Int))=false:=by simp;omega
  obtain⟨x,hx⟩:∃x,qCh l p=x:=⟨_,rfl⟩
  have HF:=hide (show qG6 l t=x.t by rw[uh HG,if_neg (by rw[uh HN];exact hc),hx])
  have HX:=hide hx
  have hpn:p<n:=by omega
  clear hn hc hx
  go_wp2_with (first | (go_at_call 211;refine(Mk.rowLen_int q og l n _ (uh HR1) (by rw[uh HN])).mono ?_;rintro e w' ⟨rfl,rfl⟩) | (go_at_call 212;refine(Mk.rowAt_is q og l p x _ (uh HR1) (by rw[uh HN];exact hpn) (uh HX)).mono ?_;rintro e w2 ⟨rfl,hk2⟩;have HK2:=hide ((uh HK).then hk2);clear hk2))
  go_ret
  exact⟨qA7 (uh HF).symm,uh HK2⟩
def qAt(qs:List (Nat×Option Nat))(i:Nat): Nat×Option Nat:=qs.getD i (0,none)
def qf(p:Nat×Option Nat)(a:Nat): Prop:=a=p.1\/p.2=some a
def qMz(c:Cfg)(rg n:Nat): List Value:=c.cells++[.slice (some ⟨rg,0,none⟩) n n]
def qF6(qs:List (Nat×Option Nat)): List Value:=qs.map λp=>.pointer (some ⟨p.1,0,none⟩)
structure DRep (w:World) (d rg:Nat) (qs:List (Nat×Option Nat)) (c:Cfg) (ls:Nat->List Bk):Prop where
 blk:Blk w d (qMz c rg qs.length) 225
 reg:Blk w rg (qF6 qs) 219
 row:∀i,i<qs.length->Mk.RowRep w (qAt qs i).1 (qAt qs i).2 (ls i)
 dj:∀i j a,i<qs.length->j<qs.length->qf (qAt qs i) a->qf (qAt qs j) a->i=j
 nd:∀i,i<qs.length->¬qf (qAt qs i) d/\¬qf (qAt qs i) rg
 dr:d≠rg
theorem qH2{qs:List (Nat×Option Nat)}{i:Nat}(h:i<qs.length): (qF6 qs)[i]?=some (.pointer (some ⟨(qAt qs i).1,0,none⟩)):=by
 simp[qF6,qAt,List.getD_eq_getElem?_getD,List.getElem?_eq_getElem h]
theorem DRep.keeps{M:Nat->Prop}{w w':World}{d rg:Nat}{qs:List (Nat×Option Nat)}{c:Cfg}{ls:Nat->List Bk}(h:DRep w d rg qs c ls)(hk:Keeps M w w')(hd:¬M d)(hr:¬M rg)(hq:∀i a,i<qs.length->qf (qAt qs i) a->¬M a): DRep w' d rg qs c ls :=
 ⟨h.blk.keeps hk hd,h.reg.keeps hk hr,λi hi=>(h.row i hi).keeps hk (hq i _ hi (.inl rfl)) (λg hg=>hq i g hi (.inr hg)),h.dj,h.nd,h.dr⟩
theorem DRep.still{w w':World}{d rg:Nat}{qs:List (Nat×Option Nat)}{c:Cfg}{ls:Nat->List Bk}(h:DRep w d rg qs c ls)(hk:Keeps (λ_=>False) w w'): DRep w' d rg qs c ls:=h.keeps hk (λh=>h) (λh=>h) (λ_ _ _ _ h=>h)
end
end Go.Proofs.YtahnliehdjncdaaGreatDoor
