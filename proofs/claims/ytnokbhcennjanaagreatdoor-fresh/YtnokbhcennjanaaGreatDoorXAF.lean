import Derived.Test.YtnokbhcennjanaaGreatDoorXAD
import Derived.Laws.BitsAllLaws
import Derived.Laws.Externs
import Derived.Shelf.Bits.Mul64
import Derived.Shelf.Spec.TrailingZeros
open Go.RowKit Go.Proofs.Tryz
set_option maxRecDepth 100000
set_option maxHeartbeats 16000000
namespace Go.Proofs.YtnokbhcennjanaaGreatDoor.Mk
theorem rowDrop_any(c:Nat)(n:Option Nat)(l:List Bk)(w:World)(e:aH w c n l)(C:0<l.length)(E:l.length<=4398046511104):
  Calls prog 220 #[π c,ι 1] w λr u=>r=.returned (.tuple #[])/\aH u c n (l.take (l.length-1))/\aA (λa=>a=c\/n=some a) w u:=by
 cases n with
 | none=>obtain⟨rfl,m⟩:=e;simp at C
 | some g =>
  obtain⟨k,q,m,s⟩:=e;obtain⟨d,h⟩:∃d,l.length=d+1:=⟨l.length-1,by omega⟩;have F:κ w c 1 (σ g (d+1) q):=by rw[<-h];exact m.cell rfl
  have o:=Aa m;have x:=Aa (Sp g q d l w.drew h (s.keeps (M:=λ_=>False) (aA.refl _ _).drew id));have A:=Aa h;have H:IntKind.i64.wrap ((d:Int)+1-1)=(d:Int):=by rw[il];omega
  have I:IntKind.i64.wrap (d:Int)=(d:Int):=by rw[il];omega
  clear m s h;go_enter func220,ntmps220;go_wp2_with fail
  go_region_with (go_at_call 218;refine x.o.mono ?_;rintro r J ⟨rfl,t,j⟩;have G:=(o.o.drew.keeps j k).cell (i:=1) rfl;have D:=(o.o.drew.keeps j k).frozen)
  all_goals
   have v:=Aa (o.o.drew.keeps j k);have B:=Aa t;have z:=Aa ((aA.refl (λa=>a=g) w).drew.then j);clear t j;go_wp2;go_end0;have h:=A.o;refine⟨rfl,⟨k,q,?_,?_⟩,?_⟩
   ·rw[iG,show min (l.length-1) l.length=d by omega];exact v.o.setCell 1 _
   ·rw[h];exact B.o.keeps (M:=λa=>a=c) ((aA.refl (λa=>a=c) _).setCell (p:=⟨c,1,none⟩) (Or.inl rfl) _) (λe=>k e.symm)
   exact(z.o.mono (M':=λa=>a=c\/some g=some a) (λa _ e=>.inr (by rw[e]))).setCell (p:=⟨c,1,none⟩) (Or.inl (Or.inl rfl)) _
end Go.Proofs.YtnokbhcennjanaaGreatDoor.Mk
namespace Go.Proofs.YtnokbhcennjanaaGreatDoor
section
theorem WE(x y:Nat)(d:x<18446744073709551616)(e:y<18446744073709551616)(w:World):
  Calls prog 165 #[.int .u64 x,.int .u64 y] w λn q=>n=.returned (.tuple #[.int .u64 ((x*y/18446744073709551616:Nat):Int),.int .u64 ((x*y%18446744073709551616:Nat):Int)])/\q=w:=by
 obtain⟨k,c,bw,o⟩:=Lib.mul64_hi x y d e;have r:=Lib.half_mul_le (a:=x/4294967296) (b:=y/4294967296) (by omega) (by omega);have s:=Lib.half_mul_le (a:=x/4294967296) (b:=y%4294967296) (by omega) (by omega);have t:=Lib.half_mul_le (a:=x%4294967296) (b:=y/4294967296) (by omega) (by omega);have h:x/4294967296*(y/4294967296)<18446744073709551616:=by omega
 have i:x/4294967296*(y%4294967296)<18446744073709551616:=by omega
 have j:x%4294967296*(y/4294967296)<18446744073709551616:=by omega
 have m:x/4294967296*(y/4294967296)+(x/4294967296*(y%4294967296)+x%4294967296*(y%4294967296)/4294967296)/4294967296<18446744073709551616:=by omega
 have l:x/4294967296*(y/4294967296)+(x/4294967296*(y%4294967296)+x%4294967296*(y%4294967296)/4294967296)/4294967296+((x/4294967296*(y%4294967296)+x%4294967296*(y%4294967296)/4294967296)%4294967296+x%4294967296*(y/4294967296))/4294967296<18446744073709551616:=by omega
 go_enter func165,ntmps165;go_wp2;simp only[Mul64.maskN x d,Mul64.maskN y e,Mul64.divN,Mul64.mulN,Mul64.addN,Mul64.wrapN _ k,Mul64.wrapN _ i,Mul64.wrapN _ c,Mul64.maskN _ c,Mul64.wrapN _ j,Mul64.wrapN _ bw,Mul64.wrapN _ h,Mul64.wrapN _ m,Mul64.wrapN _ l,Mul64.wrapM (x*y)];rw[o];go_ret2;exact⟨rfl,rfl⟩
theorem Mw(x y:Int)(e:0<=x)(i:x<18446744073709551616)(h:0<=y)(j:y<18446744073709551616)(w:World):
  Calls prog 165 #[.int .u64 x,.int .u64 y] w λa c=>a=.returned (.tuple #[.int .u64 (x*y/18446744073709551616),.int .u64 (x*y%18446744073709551616)])/\c=w:=by
 obtain⟨d,rfl⟩:=jl e;obtain⟨b,rfl⟩:=jl h;refine(WE d b (by omega) (by omega) w).mono ?_;rintro a c ⟨rfl,rfl⟩;refine⟨?_,rfl⟩;simp
theorem Qa(x y:Int)(a:0<=x)(c:0<=y)(w:World):
  (callFunc 166 #[.int .u64 x,.int .u64 y,.int .u64 0]).run prog w =
   .ok (.value (.tuple #[.int .u64 ((x+y)%18446744073709551616),.int .u64 ((x+y)/18446744073709551616)])) w:=by
 rw[run_callFunc_extern func166 (by kernel_rfl) (by kernel_rfl) (by kernel_rfl) (e:=add64Entry) (by kernel_rfl),run_add64 x y 0 a c (by omega) (by omega)];simp only[Result.andThen,kW]
theorem Qx(w:World):
  Calls prog 233 #[.int .u64 2305843009213693951] w λa c=>a=.returned (ι 3)/\c=w:=by
 have d:∀w:World,Calls prog 217 #[.int .u64 2305843009213693951] w λa c=>a=.returned (ι 61)/\c=w:=by
  intro w;go_enter func217,ntmps217;go_wp2;go_ret;exact⟨by kernel_rfl,rfl⟩
 go_enter func233,ntmps233;go_wp2_with (go_at_call 217;refine(d _).mono ?_;rintro a c ⟨rfl,rfl⟩)
 go_ret;exact⟨rfl,rfl⟩
theorem Ro(a b:Int)(d:0<=a)(k:a<2305843009213693952)(e:0<=b)(l:b<8): bits .or .u64 (a*8) b=a*8+b:=by
 obtain⟨c,rfl⟩:=jl d;obtain⟨y,rfl⟩:=jl e;have h:(((c:Nat):Int)*8)=((c*8:Nat):Int):=by simp
 rw[h,bits_or_u64_nat _ _ (by omega) (by omega)];have j:c*8 ||| y=c*8+y:=by
  have:=Nat.two_pow_add_eq_or_of_lt (i:=3) (b:=y) (by omega) c;rw[show(2:Nat) ^ 3=8 by rfl,lF 8 c]at this;exact this.symm
 rw[j];simp
theorem QM(hi lo u v a n c:Int)(j:u=hi*8+lo/2305843009213693952)(k:v=lo*8%18446744073709551616)(l:a=v%4294967296)(i:n=u*4294967296+v/4294967296)(e:c*18446744073709551608<=n*4294967296+a)(h:n*4294967296+a<(c+1)*18446744073709551608):
  IntKind.u64.wrap (IntKind.u64.wrap (IntKind.u64.wrap (n*4294967296)+a)-IntKind.u64.wrap (c*18446744073709551608))/8=(hi*18446744073709551616+lo)%2305843009213693951:=by
 simp only[jF];have d:n*4294967296+a=8*(hi*18446744073709551616+lo):=by omega
 omega
theorem PP(hi lo:Int)(w:World)(v:0<=hi)(A:hi<=268435456)(J:0<=lo)(L:lo<18446744073709551616):
  Calls prog 210 #[.int .u64 hi,.int .u64 lo,.int .u64 2305843009213693951] w λq t=>(∃a,q=.returned (.tuple #[.int .u64 a,.int .u64 ((hi*18446744073709551616+lo)%2305843009213693951)]))/\lX w t:=by
 by_cases s:hi=0
 ·subst s;go_enter func210,ntmps210;go_wp2;go_region
  go_wp2;go_ret2;exact⟨⟨_,by simp;rfl⟩,(aA.refl _ _).drew⟩
 have H:(hi==0)=false:=by simp[s]
 have E:¬(2305843009213693951<=hi):=by omega
 have hand:bits .and .u64 18446744073709551608 4294967295=4294967288:=by decide +kernel
 obtain⟨d,F,m⟩:∃d,bits .or .u64 (hi*8) (lo/2305843009213693952)=d/\Hid (d=hi*8+lo/2305843009213693952):=⟨_,Ro hi (lo/2305843009213693952) v (by omega) (by omega) (by omega),rfl⟩;obtain⟨e,G,n⟩:∃e,IntKind.u64.wrap (lo*8)=e/\Hid (e=lo*8%18446744073709551616):=⟨_,jF _,rfl⟩;have u0:0<=d:=by have:=m.o;omega
 have u1:d<=2147483660:=by have:=m.o;omega
 have x:0<=e:=by have:=n.o;omega
 have T:e<18446744073709551616:=by have:=n.o;omega
 obtain⟨h,I,o⟩:∃h,bits .and .u64 e 4294967295=h/\Hid (h=e%4294967296):=by
  obtain⟨z,rfl⟩:=jl x;exact⟨_,Mul64.maskN z (by omega),by show _=_;omega⟩
 have U:0<=h:=by have:=o.o;omega
 have V:h<4294967296:=by have:=o.o;omega
 have D:d.tdiv 4294967295=0:=by rw[jd u0];omega
 go_enter func210,ntmps210;go_wp2_with (go_at_call 233;refine(Qx _).mono ?_;rintro q t ⟨rfl,rfl⟩)
 go_loop [15,16] (λl b=>l=.int .u64 0/\b=.int .u64 d) (λ_ _=>0)
 case atStart=>exact⟨by first | rfl | simp,by first | rfl | simp⟩
 case round =>
  obtain⟨rfl,rfl⟩:=hrel;go_wp2;obtain⟨c,j⟩:∃c,Hid (c=d*4294967296+e/4294967296):=⟨_,rfl⟩;have M:0<=c:=by have:=j.o;omega
  have N:c<=9223372097000000000:=by have:=j.o;omega
  have r:d*4294967296+e/4294967296=c:=j.o.symm;rw[r];clear r;go_loop [16,18] (λb l=>∃a i:Int,l=.int .u64 a/\b=.int .u64 i/\0<=a/\a<=2147483700/\0<=i/\i<4294967296/\Hid (a*4294967295+i=c)/\Hid (c*4294967296+h<(a+1)*18446744073709551608)) (λ_ l=>(intOf l).toNat)
  case atStart=>exact⟨c/4294967295,c-c/4294967295*4294967295,rfl,rfl,by omega,by omega,by omega,by omega,by show _=_;omega,by show _<_;omega⟩
  case round =>
   obtain⟨a,i,rfl,rfl,O,P,R,S,k,u⟩:=hrel;by_cases C:4294967296*i+h<a*4294967288
   ·have Q:1<=a:=by omega
    by_cases B:4294967296<=i+4294967295
    ·go_wp2;go_ret2;exact⟨⟨_,by rw[QM hi lo d e h c (a-1) m.o n.o o.o j.o (by have:=k.o;omega) (by have:=k.o;omega)];rfl⟩,aA.refl _ _⟩
    go_wp2;go_round;case rel=>exact⟨a-1,i+4294967295,by first | rfl | go_num,by first | rfl | go_num,by omega,by omega,by omega,by omega,by have:=k.o;show _=_;omega,by have:=k.o;show _<_;omega⟩
    case measure=>simp[intOf];omega
   go_wp2;go_ret2;exact⟨⟨_,by rw[QM hi lo d e h c a m.o n.o o.o j.o (by have:=k.o;omega) u.o];rfl⟩,aA.refl _ _⟩
theorem Xq(hi lo:Int)(w:World)(c:0<=hi)(i:hi<=268435456)(j:0<=lo)(k:lo<18446744073709551616):
  Calls prog 167 #[.int .u64 hi,.int .u64 lo,.int .u64 2305843009213693951] w λa l=>a=.returned (.int .u64 ((hi*18446744073709551616+lo)%2305843009213693951))/\lX w l:=by
 have m:hi.tmod 2305843009213693951=hi:=by rw[jY c];omega
 have e:=Aa (PP hi lo w c i j k);go_enter func167,ntmps167;go_wp2_with fail
 refine e.o.mono ?_;rintro a o ⟨⟨n,rfl⟩,d⟩;have h:=Aa d;clear d;go_wp2;go_ret;exact⟨rfl,h.o⟩
def AG(a b key:Int): Int:=(a*key+b)%2305843009213693951
theorem GO(a b key:Int): 0<=AG a b key/\AG a b key<2305843009213693951:=by unfold AG;omega
theorem K8(a b key:Int)(w:World)(h:0<=a)(r:a<2305843009213693951)(o:0<=b)(s:b<2305843009213693951)(d:0<=key)(q:key<=2147483648):
  Calls prog 121 #[.agg #[ι a,ι b],ι key] w λc j=>c=.returned (ι (AG a b key))/\lX w j:=by
 have x:0<=a*key:=kL h d;have z:a*key<=2305843009213693950*2147483648:=kT (by omega) q d (by omega);have B:IntKind.u64.wrap a=a:=by rw[jF];omega
 have C:IntKind.u64.wrap b=b:=by rw[jF];omega
 have D:IntKind.u64.wrap key=key:=by rw[jF];omega
 have m:=Aa (λw=>Mw a key h (by omega) d (by omega) w);go_enter func121,ntmps121;go_wp2_with fail
 refine(m.o _).mono ?_;rintro c j ⟨rfl,rfl⟩;have t:=λe=>Qa (a*key%18446744073709551616) b (by omega) o e;have n:=Aa (show AG a b key=(a*key+b)%2305843009213693951 from rfl);have k:=Aa ((aA.refl (λ_=>False) w).alloc (.cells #[ι a,ι b] 43));have v:κ (w.alloc (.cells #[ι a,ι b] 43)) w.heap.size 1 (ι b):=(aD.new w [ι a,ι b] 43).cell rfl;generalize w.alloc (.cells #[ι a,ι b] 43)=e at *
 generalize a*key=p at *
 go_wp2_with fail
 refine(Xq _ _ _ (by omega) (by omega) (by omega) (by omega)).mono ?_;rintro c A ⟨rfl,i⟩;have l:=Aa (k.o.then i);clear i;have u:IntKind.i64.wrap (((p/18446744073709551616+(p%18446744073709551616+b)/18446744073709551616)*18446744073709551616+(p+b)%18446744073709551616)%2305843009213693951)=(p+b)%2305843009213693951:=by
  rw[il];omega
 go_wp2;go_ret;exact⟨by rw[n.o];rfl,l.o⟩
def eG(w:World): Prop:=TabAt 2 Lib.deBruijn64tab w
theorem eG.keeps{M:Nat->Prop}{w w':World}(a:eG w)(e:aA M w w')(c:¬M 2): eG w':=λh d=>e.cell (a h d) c
theorem eG.lt{w:World}(a:eG w): 2<w.heap.size:=kG w _ (a 0 (by decide))
theorem tz64_core(x k a:Nat)(w:World)(i:((x:Int)==0)=false)(key:IntKind.u64.wrap (bits BinOp.and IntKind.u64 (x:Int) (IntKind.u64.wrap (-(x:Int)))*285870213051353865)/288230376151711744=(a:Int))(hi:a<64)(h:k<64)(e:w.cell? ⟨2,a,none⟩=some (.int .u8 k)):
  Calls prog 221 #[.int .u64 x] w λc d=>c=.returned (ι k)/\d=w:=by
 go_enter func221,ntmps221;go_wp2_with (simp only[key])
 go_ret;exact⟨rfl,rfl⟩
theorem tz64_zero(w:World):
  Calls prog 221 #[.int .u64 0] w λa c=>a=.returned (ι 64)/\c=w:=by
 go_enter func221,ntmps221;go_wp2;go_ret;exact⟨rfl,rfl⟩
theorem ZX(x:Nat)(h:x<18446744073709551616)(w:World)(j:eG w):
  Calls prog 221 #[.int .u64 x] w λi m=>i=.returned (ι (Lib.ctz 64 x))/\m=w:=by
 by_cases a:x=0
 ·subst a;exact tz64_zero w
 obtain⟨k,e⟩:=Lib.lowest_bit 64 x a h;obtain⟨d,l⟩:=Lib.deBruijn64_at _ e;have c:=j _ d;rw[l]at c;exact tz64_core x _ _ w (by simp;omega) (tz64_key x _ h a k) d e c
def Cr(q:Int): Int:=min (1+(Lib.ctz 64 q.toNat:Int)) 40
theorem K6(a:Int): 1<=Cr a/\Cr a<=40:=by unfold Cr;omega
theorem ZF(c:Int)(w:World)(n:0<=c)(r:c<9223372036854775808)(i:eG w):
  Calls prog 185 #[ι c] w λh k=>h=.returned (ι (Cr c))/\k=w:=by
 obtain⟨a,rfl⟩:=jl n;have s:IntKind.u64.wrap (a:Int)=(a:Int):=by rw[jF];omega
 have m:=Aa (ZX a (by omega) w i);have e:=Aa (show Cr (a:Int)=min (1+(Lib.ctz 64 a:Int)) 40 by unfold Cr;rw[iM]);have q:Lib.ctz 64 a<=64:=by
  by_cases j:a=0
  ·subst j;decide
  exact Nat.le_of_lt (Lib.lowest_bit 64 a j (by omega)).2
 generalize Lib.ctz 64 a=l at *
 clear i;go_enter func185,ntmps185;go_wp2_with fail
 refine m.o.mono ?_;rintro h k ⟨rfl,rfl⟩;by_cases o:(40:Int)<1+(l:Int)
 ·have d:=Aa (show Cr (a:Int)=40 by rw[e.o];omega);go_wp2;go_ret;exact⟨A9 d.o.symm,rfl⟩
 have d:=Aa (show Cr (a:Int)=1+(l:Int) by rw[e.o];omega);go_wp2;go_ret;exact⟨A9 d.o.symm,rfl⟩
