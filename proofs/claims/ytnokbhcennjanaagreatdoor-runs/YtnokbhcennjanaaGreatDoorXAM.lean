import Derived.Laws.BitsAllLaws
import Derived.Laws.Externs
import Derived.Shelf.Bits.Mul64
import Derived.Shelf.Spec.TrailingZeros
import Derived.Test.YtnokbhcennjanaaGreatDoorXAL
import Derived.Laws.MakeOwn
import Derived.Test.YtnokbhcennjanaaGreatDoorXAK
open Go.RowKit Go.Proofs.Tryz
set_option maxRecDepth 100000
set_option maxHeartbeats 16000000
namespace Go.Proofs.YtnokbhcennjanaaGreatDoor
section
theorem W9(x y:Nat)(d:x<18446744073709551616)(e:y<18446744073709551616)(w:World):
  Calls prog 165 #[.int .u64 x,.int .u64 y] w λn q=>n=.returned (.tuple #[.int .u64 ((x*y/18446744073709551616:Nat):Int),.int .u64 ((x*y%18446744073709551616:Nat):Int)])/\q=w:=by
 obtain⟨k,c,bw,o⟩:=Lib.mul64_hi x y d e;have r:=Lib.half_mul_le (a:=x/4294967296) (b:=y/4294967296) (by omega) (by omega);have s:=Lib.half_mul_le (a:=x/4294967296) (b:=y%4294967296) (by omega) (by omega);have t:=Lib.half_mul_le (a:=x%4294967296) (b:=y/4294967296) (by omega) (by omega);have h:x/4294967296*(y/4294967296)<18446744073709551616:=by omega
 have i:x/4294967296*(y%4294967296)<18446744073709551616:=by omega
 have j:x%4294967296*(y/4294967296)<18446744073709551616:=by omega
 have m:x/4294967296*(y/4294967296)+(x/4294967296*(y%4294967296)+x%4294967296*(y%4294967296)/4294967296)/4294967296<18446744073709551616:=by omega
 have l:x/4294967296*(y/4294967296)+(x/4294967296*(y%4294967296)+x%4294967296*(y%4294967296)/4294967296)/4294967296+((x/4294967296*(y%4294967296)+x%4294967296*(y%4294967296)/4294967296)%4294967296+x%4294967296*(y/4294967296))/4294967296<18446744073709551616:=by omega
 go_enter func165,ntmps165;go_wp2;simp only[Mul64.maskN x d,Mul64.maskN y e,Mul64.divN,Mul64.mulN,Mul64.addN,Mul64.wrapN _ k,Mul64.wrapN _ i,Mul64.wrapN _ c,Mul64.maskN _ c,Mul64.wrapN _ j,Mul64.wrapN _ bw,Mul64.wrapN _ h,Mul64.wrapN _ m,Mul64.wrapN _ l,Mul64.wrapM (x*y)];rw[o];go_ret2;exact⟨rfl,rfl⟩
theorem Mr(x y:Int)(e:0<=x)(i:x<18446744073709551616)(h:0<=y)(j:y<18446744073709551616)(w:World):
  Calls prog 165 #[.int .u64 x,.int .u64 y] w λa c=>a=.returned (.tuple #[.int .u64 (x*y/18446744073709551616),.int .u64 (x*y%18446744073709551616)])/\c=w:=by
 obtain⟨d,rfl⟩:=jd e;obtain⟨b,rfl⟩:=jd h;refine(W9 d b (by omega) (by omega) w).mono ?_;rintro a c ⟨rfl,rfl⟩;refine⟨?_,rfl⟩;simp
theorem Pz(x y:Int)(a:0<=x)(c:0<=y)(w:World):
  (callFunc 166 #[.int .u64 x,.int .u64 y,.int .u64 0]).run prog w =
   .ok (.value (.tuple #[.int .u64 ((x+y)%18446744073709551616),.int .u64 ((x+y)/18446744073709551616)])) w:=by
 rw[run_callFunc_extern func166 (by kernel_rfl) (by kernel_rfl) (by kernel_rfl) (e:=add64Entry) (by kernel_rfl),run_add64 x y 0 a c (by omega) (by omega)];simp only[Result.andThen,kO]
theorem PV(w:World):
  Calls prog 233 #[.int .u64 2305843009213693951] w λa c=>a=.returned (.int .i64 3)/\c=w:=by
 have d:∀w:World,Calls prog 217 #[.int .u64 2305843009213693951] w λa c=>a=.returned (.int .i64 61)/\c=w:=by
  intro w;go_enter func217,ntmps217;go_wp2;go_ret;exact⟨by kernel_rfl,rfl⟩
 go_enter func233,ntmps233;go_wp2_with (go_at_call 217;refine(d _).mono ?_;rintro a c ⟨rfl,rfl⟩)
 go_ret;exact⟨rfl,rfl⟩
theorem QQ(a b:Int)(d:0<=a)(k:a<2305843009213693952)(e:0<=b)(l:b<8): bits .or .u64 (a*8) b=a*8+b:=by
 obtain⟨c,rfl⟩:=jd d;obtain⟨y,rfl⟩:=jd e;have h:(((c:Nat):Int)*8)=((c*8:Nat):Int):=by simp
 rw[h,bits_or_u64_nat _ _ (by omega) (by omega)];have j:c*8 ||| y=c*8+y:=by
  have:=Nat.two_pow_add_eq_or_of_lt (i:=3) (b:=y) (by omega) c;rw[show(2:Nat) ^ 3=8 by rfl,ly 8 c]at this;exact this.symm
 rw[j];simp
theorem Qz(hi lo d v a n c:Int)(k:d=hi*8+lo/2305843009213693952)(l:v=lo*8%18446744073709551616)(m:a=v%4294967296)(j:n=d*4294967296+v/4294967296)(h:c*18446744073709551608<=n*4294967296+a)(i:n*4294967296+a<(c+1)*18446744073709551608):
  IntKind.u64.wrap (IntKind.u64.wrap (IntKind.u64.wrap (n*4294967296)+a)-IntKind.u64.wrap (c*18446744073709551608))/8=(hi*18446744073709551616+lo)%2305843009213693951:=by
 simp only[jC];have e:n*4294967296+a=8*(hi*18446744073709551616+lo):=by omega
 omega
theorem Pt(hi lo:Int)(w:World)(v:0<=hi)(A:hi<=268435456)(J:0<=lo)(L:lo<18446744073709551616):
  Calls prog 210 #[.int .u64 hi,.int .u64 lo,.int .u64 2305843009213693951] w λq t=>(∃a,q=.returned (.tuple #[.int .u64 a,.int .u64 ((hi*18446744073709551616+lo)%2305843009213693951)]))/\lO w t:=by
 by_cases s:hi=0
 ·subst s;go_enter func210,ntmps210;go_wp2;go_region
  go_wp2;go_ret2;exact⟨⟨_,by simp;rfl⟩,(aA.refl _ _).drew⟩
 have H:(hi==0)=false:=by simp[s]
 have E:¬(2305843009213693951<=hi):=by omega
 have hand:bits .and .u64 18446744073709551608 4294967295=4294967288:=by decide +kernel
 obtain⟨d,F,m⟩:∃d,bits .or .u64 (hi*8) (lo/2305843009213693952)=d/\Hid (d=hi*8+lo/2305843009213693952):=⟨_,QQ hi (lo/2305843009213693952) v (by omega) (by omega) (by omega),rfl⟩;obtain⟨e,G,n⟩:∃e,IntKind.u64.wrap (lo*8)=e/\Hid (e=lo*8%18446744073709551616):=⟨_,jC _,rfl⟩;have u0:0<=d:=by have:=m.o;omega
 have u1:d<=2147483660:=by have:=m.o;omega
 have x:0<=e:=by have:=n.o;omega
 have T:e<18446744073709551616:=by have:=n.o;omega
 obtain⟨h,I,o⟩:∃h,bits .and .u64 e 4294967295=h/\Hid (h=e%4294967296):=by
  obtain⟨z,rfl⟩:=jd x;exact⟨_,Mul64.maskN z (by omega),by show _=_;omega⟩
 have U:0<=h:=by have:=o.o;omega
 have V:h<4294967296:=by have:=o.o;omega
 have D:d.tdiv 4294967295=0:=by rw[jl u0];omega
 go_enter func210,ntmps210;go_wp2_with (go_at_call 233;refine(PV _).mono ?_;rintro q t ⟨rfl,rfl⟩)
 go_loop [15,16] (λl b=>l=.int .u64 0/\b=.int .u64 d) (λ_ _=>0)
 case atStart=>exact⟨by first | rfl | simp,by first | rfl | simp⟩
 case round =>
  obtain⟨rfl,rfl⟩:=hrel;go_wp2;obtain⟨c,j⟩:∃c,Hid (c=d*4294967296+e/4294967296):=⟨_,rfl⟩;have M:0<=c:=by have:=j.o;omega
  have N:c<=9223372097000000000:=by have:=j.o;omega
  have r:d*4294967296+e/4294967296=c:=j.o.symm;rw[r];clear r;go_loop [16,18] (λb l=>∃a i:Int,l=.int .u64 a/\b=.int .u64 i/\0<=a/\a<=2147483700/\0<=i/\i<4294967296/\Hid (a*4294967295+i=c)/\Hid (c*4294967296+h<(a+1)*18446744073709551608)) (λ_ l=>(intOf l).toNat)
  case atStart=>exact⟨c/4294967295,c-c/4294967295*4294967295,rfl,rfl,by omega,by omega,by omega,by omega,by show _=_;omega,by show _<_;omega⟩
  case round =>
   obtain⟨a,i,rfl,rfl,O,P,R,S,k,u⟩:=hrel;by_cases C:4294967296*i+h<a*4294967288
   ·have Q:1<=a:=by omega
    by_cases B:4294967296<=i+4294967295
    ·go_wp2;go_ret2;exact⟨⟨_,by rw[Qz hi lo d e h c (a-1) m.o n.o o.o j.o (by have:=k.o;omega) (by have:=k.o;omega)];rfl⟩,aA.refl _ _⟩
    go_wp2;go_round;case rel=>exact⟨a-1,i+4294967295,by first | rfl | go_num,by first | rfl | go_num,by omega,by omega,by omega,by omega,by have:=k.o;show _=_;omega,by have:=k.o;show _<_;omega⟩
    case measure=>simp[intOf];omega
   go_wp2;go_ret2;exact⟨⟨_,by rw[Qz hi lo d e h c a m.o n.o o.o j.o (by have:=k.o;omega) u.o];rfl⟩,aA.refl _ _⟩
theorem WK(hi lo:Int)(w:World)(c:0<=hi)(i:hi<=268435456)(j:0<=lo)(k:lo<18446744073709551616):
  Calls prog 167 #[.int .u64 hi,.int .u64 lo,.int .u64 2305843009213693951] w λa l=>a=.returned (.int .u64 ((hi*18446744073709551616+lo)%2305843009213693951))/\lO w l:=by
 have m:hi.tmod 2305843009213693951=hi:=by rw[jS c];omega
 have e:=Aa (Pt hi lo w c i j k);go_enter func167,ntmps167;go_wp2_with fail
 refine e.o.mono ?_;rintro a o ⟨⟨n,rfl⟩,d⟩;have h:=Aa d;clear d;go_wp2;go_ret;exact⟨rfl,h.o⟩
def AG(a b key:Int): Int:=(a*key+b)%2305843009213693951
theorem GD(a b key:Int): 0<=AG a b key/\AG a b key<2305843009213693951:=by unfold AG;omega
theorem Kn(a b key:Int)(w:World)(h:0<=a)(r:a<2305843009213693951)(o:0<=b)(s:b<2305843009213693951)(d:0<=key)(q:key<=2147483648):
  Calls prog 121 #[.agg #[.int .i64 a,.int .i64 b],.int .i64 key] w λc j=>c=.returned (.int .i64 (AG a b key))/\lO w j:=by
 have x:0<=a*key:=kF h d;have z:a*key<=2305843009213693950*2147483648:=kM (by omega) q d (by omega);have B:IntKind.u64.wrap a=a:=by rw[jC];omega
 have C:IntKind.u64.wrap b=b:=by rw[jC];omega
 have D:IntKind.u64.wrap key=key:=by rw[jC];omega
 have m:=Aa (λw=>Mr a key h (by omega) d (by omega) w);go_enter func121,ntmps121;go_wp2_with fail
 refine(m.o _).mono ?_;rintro c j ⟨rfl,rfl⟩;have t:=λe=>Pz (a*key%18446744073709551616) b (by omega) o e;have n:=Aa (show AG a b key=(a*key+b)%2305843009213693951 from rfl);have k:=Aa ((aA.refl (λ_=>False) w).alloc (.cells #[.int .i64 a,.int .i64 b] 43));have v:(w.alloc (.cells #[.int .i64 a,.int .i64 b] 43)).cell? ⟨w.heap.size,1,none⟩=some (.int .i64 b):=(aD.new w [.int .i64 a,.int .i64 b] 43).cell rfl;generalize w.alloc (.cells #[.int .i64 a,.int .i64 b] 43)=e at *
 generalize a*key=p at *
 go_wp2_with fail
 refine(WK _ _ _ (by omega) (by omega) (by omega) (by omega)).mono ?_;rintro c A ⟨rfl,i⟩;have l:=Aa (k.o.then i);clear i;have u:IntKind.i64.wrap (((p/18446744073709551616+(p%18446744073709551616+b)/18446744073709551616)*18446744073709551616+(p+b)%18446744073709551616)%2305843009213693951)=(p+b)%2305843009213693951:=by
  rw[ic];omega
 go_wp2;go_ret;exact⟨by rw[n.o];rfl,l.o⟩
def eE(w:World): Prop:=TabAt 2 Lib.deBruijn64tab w
theorem eE.keeps{M:Nat->Prop}{w w':World}(a:eE w)(e:aA M w w')(c:¬M 2): eE w':=λh d=>e.cell (a h d) c
theorem eE.lt{w:World}(a:eE w): 2<w.heap.size:=kA w _ (a 0 (by decide))
theorem tz64_core(x k a:Nat)(w:World)(i:((x:Int)==0)=false)(key:IntKind.u64.wrap (bits BinOp.and IntKind.u64 (x:Int) (IntKind.u64.wrap (-(x:Int)))*285870213051353865)/288230376151711744=(a:Int))(hi:a<64)(h:k<64)(e:w.cell? ⟨2,a,none⟩=some (.int .u8 k)):
  Calls prog 221 #[.int .u64 x] w λc d=>c=.returned (.int .i64 k)/\d=w:=by
 go_enter func221,ntmps221;go_wp2_with (simp only[key])
 go_ret;exact⟨rfl,rfl⟩
theorem tz64_zero(w:World):
  Calls prog 221 #[.int .u64 0] w λa c=>a=.returned (.int .i64 64)/\c=w:=by
 go_enter func221,ntmps221;go_wp2;go_ret;exact⟨rfl,rfl⟩
theorem ZT(x:Nat)(h:x<18446744073709551616)(w:World)(j:eE w):
  Calls prog 221 #[.int .u64 x] w λi m=>i=.returned (.int .i64 (Lib.ctz 64 x))/\m=w:=by
 by_cases a:x=0
 ·subst a;exact tz64_zero w
 obtain⟨k,e⟩:=Lib.lowest_bit 64 x a h;obtain⟨d,l⟩:=Lib.deBruijn64_at _ e;have c:=j _ d;rw[l]at c;exact tz64_core x _ _ w (by simp;omega) (tz64_key x _ h a k) d e c
def Cm(q:Int): Int:=min (1+(Lib.ctz 64 q.toNat:Int)) 40
theorem Ks(a:Int): 1<=Cm a/\Cm a<=40:=by unfold Cm;omega
theorem Zk(c:Int)(w:World)(n:0<=c)(r:c<9223372036854775808)(i:eE w):
  Calls prog 185 #[.int .i64 c] w λh k=>h=.returned (.int .i64 (Cm c))/\k=w:=by
 obtain⟨a,rfl⟩:=jd n;have s:IntKind.u64.wrap (a:Int)=(a:Int):=by rw[jC];omega
 have m:=Aa (ZT a (by omega) w i);have e:=Aa (show Cm (a:Int)=min (1+(Lib.ctz 64 a:Int)) 40 by unfold Cm;rw[iH]);have q:Lib.ctz 64 a<=64:=by
  by_cases j:a=0
  ·subst j;decide
  exact Nat.le_of_lt (Lib.lowest_bit 64 a j (by omega)).2
 generalize Lib.ctz 64 a=l at *
 clear i;go_enter func185,ntmps185;go_wp2_with fail
 refine m.o.mono ?_;rintro h k ⟨rfl,rfl⟩;by_cases o:(40:Int)<1+(l:Int)
 ·have d:=Aa (show Cm (a:Int)=40 by rw[e.o];omega);go_wp2;go_ret;exact⟨A9 d.o.symm,rfl⟩
 have d:=Aa (show Cm (a:Int)=1+(l:Int) by rw[e.o];omega);go_wp2;go_ret;exact⟨A9 d.o.symm,rfl⟩
theorem Mk.fD: Mk.DropSays:=λi h e j a c d=>Mk.rowDrop_any i h e j a c d
theorem Mk.fR(c:Nat)(d:Option Nat)(l:List Bk)(x:Bk)(w:World)(j:Mk.aH w c d l)(k:l.length<=4398046511103):
  Calls prog 184 #[.pointer (some ⟨c,0,none⟩),x.val] w λi h=>i=.returned (.tuple #[])/\∃e,Mk.aH h c e (CQ l x)/\aA (λa=>a=c\/d=some a) w h/\(e=d\/∃a,e=some a/\w.heap.size<=a) :=
 Mk.keep_of Mk.fD c d l x w j k
attribute [local go_sem ↓] Mk.execOp_fieldMk
attribute [local go_sem] Mk.run_fieldMk0 Mk.run_fieldMk1
def D5(l:List Bk)(t:Int): Int:=if Mk.pastN l t=l.length then 0 else(Ad l (Mk.pastN l t)).t
theorem T0(c:Nat)(i:Option Nat)(l:List Bk)(t:Int)(w:World)(o:Mk.aH w c i l)(A:l.length<=4398046511104):
  Calls prog 186 #[.pointer (some ⟨c,0,none⟩),.int .i64 t] w λe s=>e=.returned (.int .i64 (D5 l t))/\lO w s:=by
 have C:=Aa o;have x:=Aa (Mk.past_any c i l t w o A);have F:=Mk.pastN_le l t;have u:=Aa (show D5 l t=if Mk.pastN l t=l.length then 0 else(Ad l (Mk.pastN l t)).t from rfl);clear o;generalize G:Mk.pastN l t=p at *
 clear G;go_enter func186,ntmps186;go_wp2_with fail
 refine x.o.mono ?_;rintro e I ⟨rfl,q⟩;have n:=Aa (C.o.still q);have v:=Aa q;clear q x;obtain⟨a,j⟩:∃a,l.length=a:=⟨_,rfl⟩;have d:=Aa j;rw[j]at F A;by_cases h:p=a
 ·have E:((p:Int)==(a:Int))=true:=by simp[h]
  have m:=Aa (show D5 l t=0 by rw[u.o,h9 (by rw[d.o];exact h)]);clear j h;go_wp2_with (go_at_call 187;refine(Mk.rowLen_int c i l a _ n.o (by rw[d.o])).mono ?_;rintro e s ⟨rfl,rfl⟩)
  go_ret;exact⟨A9 m.o.symm,v.o⟩
 have E:((p:Int)==(a:Int))=false:=by simp;omega
 obtain⟨k,r⟩:∃k,Ad l p=k:=⟨_,rfl⟩;have m:=Aa (show D5 l t=k.t by rw[u.o,hZ (by rw[d.o];exact h),r]);have D:=Aa r;have H:p<a:=by omega
 clear j h r;go_wp2_with (first | (go_at_call 187;refine(Mk.rowLen_int c i l a _ n.o (by rw[d.o])).mono ?_;rintro e s ⟨rfl,rfl⟩) | (go_at_call 188;refine(Mk.rowAt_is c i l p k _ n.o (by rw[d.o];exact H) D.o).mono ?_;rintro e J ⟨rfl,z⟩;have B:=Aa (v.o.then z);clear z))
 go_ret;exact⟨A9 m.o.symm,B.o⟩
def Aq(qs:List (Nat×Option Nat))(i:Nat): Nat×Option Nat:=qs.getD i (0,none)
def qf(p:Nat×Option Nat)(a:Nat): Prop:=a=p.1\/p.2=some a
def M2(c:Cfg)(rg n:Nat): List Value:=c.cells++[.slice (some ⟨rg,0,none⟩) n n]
def CO(qs:List (Nat×Option Nat)): List Value:=qs.map λp=>.pointer (some ⟨p.1,0,none⟩)
structure cZ (w:World) (d rg:Nat) (qs:List (Nat×Option Nat)) (c:Cfg) (ls:Nat->List Bk):Prop where
 aF:aD w d (M2 c rg qs.length) 221
 fI:aD w rg (CO qs) 215
 row:∀i,i<qs.length->Mk.aH w (Aq qs i).1 (Aq qs i).2 (ls i)
 dj:∀i j a,i<qs.length->j<qs.length->qf (Aq qs i) a->qf (Aq qs j) a->i=j
 nd:∀i,i<qs.length->¬qf (Aq qs i) d/\¬qf (Aq qs i) rg
 dr:d≠rg
theorem H9{a:List (Nat×Option Nat)}{i:Nat}(c:i<a.length): (CO a)[i]?=some (.pointer (some ⟨(Aq a i).1,0,none⟩)):=by
 simp[CO,Aq,List.getD_eq_getElem?_getD,hX c]
theorem cZ.keeps{M:Nat->Prop}{w w':World}{h k:Nat}{e:List (Nat×Option Nat)}{c:Cfg}{n:Nat->List Bk}(a:cZ w h k e c n)(j:aA M w w')(o:¬M h)(r:¬M k)(m:∀d l,d<e.length->qf (Aq e d) l->¬M l): cZ w' h k e c n :=
 ⟨a.aF.keeps j o,a.fI.keeps j r,λd i=>(a.row d i).keeps j (m d _ i (.inl rfl)) (λg q=>m d g i (.inr q)),a.dj,a.nd,a.dr⟩
theorem cZ.still{w w':World}{d i:Nat}{h:List (Nat×Option Nat)}{c:Cfg}{e:Nat->List Bk}(a:cZ w d i h c e)(j:lO w w'): cZ w' d i h c e:=a.keeps j id id (λ_ _ _ _ a=>a)
end
section
def BZ(c:Cfg)(n:Nat)(key:Int): Nat:=(AG c.bV c.bW key%n).toNat
def BQ(c:Cfg)(n:Nat)(ls:Nat->List Bk)(y:It)(m:Int): Nat->List Bk:=λj =>
 if j=BZ c n y.k then CQ ((ls j).drop (Mk.pastN (ls j) (m-c.aB))) ⟨y.t,Cm (AG c.bV c.bW y.k/n)⟩ else ls j
structure Cfg.pair0 (c:Cfg):Prop where
 a0:0<=c.bV
 a1:c.bV<2305843009213693951
 b0:0<=c.bW
 b1:c.bW<2305843009213693951
theorem Se(n s:Nat)(k:List (Nat×Option Nat))(c:Cfg)(r:Nat->List Bk)(y:It)(m:Int)(w:World)(a:cZ w n s k c r)(bb:eE w)(bc:∀d,d<k.length->¬qf (Aq k d) 2)(cn:1<=k.length)(co:k.length<=16)(bd:c.pair0)(dl:0<=c.aB)(dm:c.aB<=1000)(dj:-100<=m)(dk:m<=4611686018427387904)(cs:0<=y.k)(ct:y.k<=2147483648)(be:∀d,(r d).length<=4398046511103):
  Calls prog 142 #[.pointer (some ⟨n,0,none⟩),y.val,.int .i64 m] w λH x=>H=.returned (.tuple #[])/\∃ah,cZ x n s ah c (BQ c k.length r y m)/\ah.length=k.length /\
   (∀d e,d<ah.length->qf (Aq ah d) e->(∃h,h<k.length/\qf (Aq k h) e)\/w.heap.size<=e)/\aA (λe=>∃h,h<k.length/\qf (Aq k h) e) w x:=by
 obtain⟨z,Y⟩:∃z,z=w.alloc (.cells y.cells 80):=⟨_,rfl⟩;have V:=Aa (show lO w z by rw[Y];exact(aA.refl _ _).alloc _);have av:aD z w.heap.size [.int .i64 y.t,.int .i64 y.k,.int .i64 y.d,.int .i64 y.n] 80:=by rw[Y];exact aD.new w _ _
 have b8:=Aa Y;have ai:=Aa (a.still V.o);have a4:=Aa (bb.keeps V.o id);clear Y;have Z:=ai.o.aF;have cc:z.cell? ⟨n,14,none⟩=some (.int .i64 c.bV):=Z.cell rfl;have cd:z.cell? ⟨n,15,none⟩=some (.int .i64 c.bW):=Z.cell rfl;have W:z.cell? ⟨n,20,none⟩=some (.slice (some ⟨s,0,none⟩) k.length k.length):=Z.cell rfl;have cu:=av.c1;have a6:=Aa av;have T:=Aa bd;have bn:=Aa be;have ax:=Aa a;have b2:=Aa bc;clear bc;clear Z a bb av bd be;obtain⟨j,aq⟩:∃j,j=k.length:=⟨_,rfl⟩;rw[<-aq]at cn co W;have ak:=Aa aq;clear aq;unfold It.val;go_enter func142,ntmps142;go_wp2_with fail
 rw[show w.alloc (.cells #[.int .i64 y.t,.int .i64 y.k,.int .i64 y.d,.int .i64 y.n] 80)=z from b8.o.symm];generalize bj:w.heap.size=D at *
 have ca:=Aa bj;clear bj;go_region_held3 (λx=>x.cell? ⟨n,14,none⟩=some (.int .i64 c.bV)/\x.cell? ⟨n,15,none⟩=some (.int .i64 c.bW)/\x.cell? ⟨n,20,none⟩=some (.slice (some ⟨s,0,none⟩) j j)/\x.cell? ⟨D,1,none⟩=some (.int .i64 y.k))
  (first | (go_split_ands;exact⟨by assumption,by assumption,by assumption,by assumption⟩) | (go_split_ands;exact⟨I.cell (by assumption) id,I.cell (by assumption) id,I.cell (by assumption) id,I.cell (by assumption) id⟩))
  (first | (go_at_call 121;refine(Kn c.bV c.bW y.k _ T.o.a0 T.o.a1 T.o.b0 T.o.b1 cs ct).mono ?_;rintro H E ⟨rfl,I⟩))
 have M:=Aa (((aA.refl (λ_=>False) z).drew).then I);have L:=Aa (ai.o.still M.o);have b3:=Aa (a4.o.keeps M.o id);have b9:=Aa (a6.o.keeps M.o id);have az:=Aa (V.o.then M.o);clear I cc cd W cu ai a4 a6 M V;obtain⟨aa,cx⟩:=GD c.bV c.bW y.k;have b0:=Aa (show ∀h,BQ c j r y m h=if h=(AG c.bV c.bW y.k%j).toNat then CQ ((r h).drop (Mk.pastN (r h) (m-c.aB))) ⟨y.t,Cm (AG c.bV c.bW y.k/j)⟩ else r h from λ_=>rfl);generalize AG c.bV c.bW y.k=o at *
 have cl:(0:Int)<(j:Int):=by omega
 obtain⟨d,ao⟩:∃d:Nat,o%(j:Int)=(d:Int):=⟨(o%(j:Int)).toNat,by have:=j8 o (show(j:Int)≠0 by omega);omega⟩;have db:d<j:=by have:=j1 o cl;omega
 have da:(d:Int)<(j:Int):=by omega
 have cy:(0:Int)<=(d:Int):=by omega
 have dc:o.tmod (j:Int)=(d:Int):=by rw[jS aa];exact ao
 have cp:0<=o/(j:Int):=jK aa (by omega);have df:o/(j:Int)<=o:=jN _ aa;have cq:o.tdiv (j:Int)=o/(j:Int):=jl aa;have de:¬j=0:=by omega
 have di:IntKind.i64.wrap (o.tdiv (j:Int))=o/(j:Int):=by rw[cq];rw[ic];omega
 have dh:IntKind.i64.wrap (o/(j:Int))=o/(j:Int):=by rw[ic];omega
 have dg:IntKind.i64.wrap (m-c.aB)=m-c.aB:=by rw[ic];omega
 have bo:=Aa ao;obtain⟨i,af⟩:∃i,(Aq k d)=i:=⟨_,rfl⟩;have al:=Aa af;have ad:d<k.length:=by have:=ak.o;omega
 have aj:=Aa ad;have W:E.cell? ⟨n,20,none⟩=some (.slice (some ⟨s,0,none⟩) j j):=by rw[ak.o];exact L.o.aF.cell rfl
 have ce:E.cell? ⟨s,d,none⟩=some (.pointer (some ⟨i.1,0,none⟩)):=by rw[<-af];exact L.o.fI.cell (H9 ad)
 have c5:=L.o.aF.c5;have bk:=b9.o.c0;have bu:=Aa (show Mk.aH E i.1 i.2 (r d) by rw[<-af];exact L.o.row d ad);clear af ao ad;go_wp2_with fail
 go_quiet (fail)
 have am:=Aa (aA.drewN (λ_=>False) E nq);have cf:(E.drewN nq).cell? ⟨n,5,none⟩=some (.int .i64 c.aB):=c5;have bl:(E.drewN nq).cell? ⟨D,0,none⟩=some (.int .i64 y.t):=bk;generalize E.drewN nq=cb at *
 have a2:=Aa (bu.o.still am.o);have b4:=Aa (b3.o.keeps am.o id);clear W ce c5 bk;obtain⟨p,ar⟩:∃p,Mk.pastN (r d) (m-c.aB)=p:=⟨_,rfl⟩;have a1:=Aa ar;have bf:p<=(r d).length:=by rw[<-ar];exact Mk.pastN_le _ _
 have bs:=Aa bf;have b7:=Aa (show ¬(2=i.1\/i.2=some 2) by rw[<-al.o];exact λa=>b2.o d aj.o a);have a0:=Aa (bn.o d)
 have a5:=Aa (show ¬(D=i.1\/i.2=some D) from λa=>by
    have F:=ca.o;have au:=ax.o.row d aj.o;rw[al.o]at au;rcases a with a | a
    ·have:=au.lt.1;omega
    have:=(au.lt.2 D a).1;omega)
 clear ar bf;go_wp2_with fail
 refine(Mk.past_any i.1 i.2 (r d) (m-c.aB) cb a2.o (by have:=a0.o;omega)).mono ?_;rintro H a7 ⟨rfl,P⟩;rw[a1.o];have bv:=Aa (a2.o.still P);have bp:=Aa (am.o.then P);have b5:=Aa (b4.o.keeps P id);have bm:a7.cell? ⟨D,0,none⟩=some (.int .i64 y.t):=P.cell bl id;clear P cf bl;go_wp2_with fail
 refine(Mk.lose_any i.1 i.2 (r d) p a7 bv.o bs.o).mono ?_;rintro H a8 ⟨rfl,bg,ae⟩;have bx:=Aa bg;have ay:=Aa ((bp.o.mono (M':=λe=>e=i.1\/i.2=some e) (λ_ _ a=>a.elim)).then ae);have bt:=Aa (show ¬(2=i.1\/i.2=some 2) from b7.o);have b6:=Aa (b5.o.keeps ae bt.o);have u0:a8.cell? ⟨D,0,none⟩=some (.int .i64 y.t):=ae.cell bm a5.o;clear bg ae bm;obtain⟨aw,bi⟩:∃aw,Cm (o/(j:Int))=aw:=⟨_,rfl⟩;have a3:=Aa bi;clear bi;have br:=Aa (Mk.fR i.1 i.2 ((r d).drop p) ⟨y.t,aw⟩);go_wp2_with fail
 go_region_held3 (λx=>x.cell? ⟨D,0,none⟩=some (.int .i64 y.t)) (first | (exact by assumption) | (exact ap.cell (by assumption) a5.o))
  (first | (go_at_call 185;refine(Zk (o/(j:Int)) _ cp (by omega) (by exact b6.o.keeps ((aA.refl (λ_=>False) _).drew) id)).mono ?_;rintro H x ⟨rfl,rfl⟩;rw[a3.o]) | (go_at_call 184;refine(br.o _ (by exact bx.o.still (aA.refl _ _).drew) (by have:=a0.o;simp;omega)).mono ?_;rintro H cv ⟨rfl,J,bh,ap,cm⟩))
 have U:=Aa (ay.o.drew.then ap);have bz:=Aa bh;have bq:=Aa (az.o.size);have b1:=Aa ay.o.size;clear bh ap;go_wp2;go_end0;have ba:=al.o;have ch:=ak.o;have t:=aj.o;have Q:∀h,h<k.length->Aq (k.set d (i.1,J)) h=if h=d then(i.1,J) else Aq k h:=λh l=>by
  unfold Aq;simp only[List.getD_eq_getElem?_getD,jE];by_cases a:d=h
  ·subst a;simp[l]
  simp[a,lx a]
 have q:=L.o;have N:∀e,qf (i.1,J) e->qf i e\/w.heap.size<=e:=λe G=>by
  rcases G with G | G
  ·exact .inl (.inl G)
  rcases cm with a | ⟨cr,a,ck⟩
  ·exact .inl (.inr (by rw[<-a];exact G))
  have an:J=some e:=G;rw[a]at an;injection an with an;have F:=bq.o;have A:=b1.o
  have cw:a8.heap.size<=cr:=ck;exact .inr (by omega)
 have ab:∀e,w.heap.size<=e->e≠n/\e≠s/\∀h,h<k.length->¬qf (Aq k h) e:=λe G=>by
  have ag:=ax.o;refine⟨λa=>?_,λa=>?_,λh l a=>?_⟩
  ·have:=ag.aF.lt;omega
  ·have:=ag.fI.lt;omega
  rcases a with a | a
  ·have:=(ag.row h l).lt.1;omega
  have:=((ag.row h l).lt.2 e a).1;omega
 have v:∀e,qf i e->qf (Aq k d) e:=λe a=>by rw[ba];exact a
 have a9:∀e,¬qf i e->¬(e=i.1\/i.2=some e):=λe a cg=>a cg;refine⟨rfl,k.set d (i.1,J),⟨?_,?_,?_,?_,?_,q.dr⟩,by simp,?_,?_⟩
 ·rw[jx];exact q.aF.keeps U.o (a9 n (λa=>(q.nd d t).1 (v n a)))
 ·have:CO (k.set d (i.1,J))=CO k:=by
   unfold CO;rw[kH];apply j4;intro h;rw[jE];split
   ·rename_i a;subst a;split
    ·rename_i A;have:=H9 t;unfold CO at this;rw[this,ba]
    rename_i A;simp at A;omega
   rfl
  rw[this];exact q.fI.keeps U.o (a9 s (λa=>(q.nd d t).2 (v s a)))
 ·intro h l;rw[jx]at l;rw[Q h l,<-ch,b0.o h];have cj:(o%(j:Int)).toNat=d:=by rw[bo.o];simp
  rw[cj];by_cases O:h=d
  ·subst O;rw[h9 rfl,h9 rfl,a1.o,a3.o];exact bz.o
  rw[hZ O,hZ O];exact(q.row h l).keeps U.o (λa=>O (q.dj h d _ l t (.inl rfl) (v _ a))) (λg ci a=>O (q.dj h d g l t (.inr ci) (v _ a)))
 ·intro R S e F A B C;rw[jx]at F A;rw[Q R F]at B;rw[Q S A]at C;by_cases u:R=d <;> by_cases X:S=d
  ·omega
  ·rw[h9 u]at B;rw[hZ X]at C;rcases N e B with a | a
   ·exact u.trans (q.dj d S e t A (v e a) C)
   exact((ab e a).2.2 S A C).elim
  ·rw[hZ u]at B;rw[h9 X]at C;rcases N e C with a | a
   ·exact(q.dj R d e F t B (v e a)).trans X.symm
   exact((ab e a).2.2 R F B).elim
  rw[hZ u]at B;rw[hZ X]at C;exact q.dj R S e F A B C
 ·intro h l;rw[jx]at l;rw[Q h l];by_cases u:h=d
  ·rw[h9 u];refine⟨λf=>?_,λf=>?_⟩
   ·rcases N n f with a | a
    ·exact(q.nd d t).1 (v n a)
    exact(ab n a).1 rfl
   rcases N s f with a | a
   ·exact(q.nd d t).2 (v s a)
   exact(ab s a).2.1 rfl
  rw[hZ u];exact q.nd h l
 ·intro h e l f;rw[jx]at l;rw[Q h l]at f;by_cases u:h=d
  ·rw[h9 u]at f;rcases N e f with a | a
   ·exact .inl ⟨d,t,v e a⟩
   exact .inr a
  rw[hZ u]at f;exact .inl ⟨h,l,f⟩
 exact(az.o.mono (λ_ _ a=>a.elim)).then (U.o.mono (λe _ a=>⟨d,t,v e a⟩))
def Af(l:List Int): List Value:=l.map (.int .i64 ·)
theorem To(l:List Int): (Af l).length=l.length:=by simp[Af]
theorem NA(a b:List Int): Af (a++b)=Af a++Af b:=by simp[Af]
theorem KM: (prog.info? 3).map (λa=>(a.zero,a.size,a.bytes))=some (some (.int .i64 0),1,8):=by kernel_rfl
theorem Fe{w:World}{t:Array Oper}{rest:List Oper}{o:Oper}{a:Act}{q:Exit->Act->World->Prop}(A:o.guard=none)(s x:Operand)(E:o.op=.call { callee:=.builtin .append,args:=#[s,x],argTypes:=#[37,37] })(base:Nat)(h:Value)(d:Nat)(m:List Int)(H:a.eval s=h)(F:w.ownsRow base 3 1 h d (Af m))(b c:Nat)(k:List Int)(V:k.length=c)(I:a.eval x=.slice (some ⟨b,0,none⟩) c c)(v:aD w b (Af k) 3)(J:0<c)(T:d+c<=1099511627776)(z:base<=w.heap.size)(l:∀g i n,n.ownsRow base 3 1 (.slice (some ⟨g,0,none⟩) (d+c) i) (d+c) (Af (m++k))->aA (λO=>h.ownBlock=some O) w n->(h.ownBlock=some g\/w.heap.size<=g)->wpList prog t q rest (a.put o.dst (.slice (some ⟨g,0,none⟩) (d+c) i)) n): wpList prog t q (o::rest) a w:=by
 obtain⟨P,B,L,M,N⟩:=jh KM;refine jf w A s x 37 E base 3 P (.int .i64 0) 1 8 underlying37 B L M N (by rfl) (by omega) h d (Af m) H F ⟨b,0,none⟩ c c (Af k) I (by rw[To];omega) ?_ ?_ J (by unfold maxLen;omega) (by omega) z w.heap.size rfl ?_
 ·intro W R j;rw[kv,ja];exact v.cell j
 ·intro R j;simp only[Af,iE]at j;obtain⟨y,_,rfl⟩:=j;rfl
 intro g i S G e u U;refine l g i S (by rw[NA];exact G) ⟨e.os,e.tape,e.output,e.size,λQ C D=>e.block Q C (λl=>D l.symm)⟩ ?_;rcases u with r | r
 ·exact .inl r
 exact .inr (by omega)
theorem DT{M:Nat->Prop}{w w':World}{base:Nat}{v:Value}{n:Nat}{i:List Value}(c:w.ownsRow base 3 1 v n i)(m:aA M w w')(q:∀h,v.ownBlock=some h->¬M h): w'.ownsRow base 3 1 v n i:=by
 rcases c.2 with ⟨a,d⟩ | ⟨g,j,k,a,d,e,l⟩
 ·exact⟨c.1,.inl ⟨a,d⟩⟩
 refine⟨c.1,.inr ⟨g,j,k,a,d,?_,l⟩⟩;have o:g<w.heap.size:=(jr.1 e).1;rw[m.block g o (q g (by rw[a];simp[Value.ownBlock]))];exact e
theorem Kb{w:World}{base:Nat}{v:Value}{n:Nat}{d:List Value}(c:w.ownsRow base 3 1 v n d)(i:Nat)(hi:v.ownBlock=some i): base<=i:=by
 rcases c.2 with ⟨a,_⟩ | ⟨g,e,h,a,j,_⟩
 ·rw[a]at hi;simp[Value.ownBlock]at hi
 rw[a]at hi;have:g=i:=by simpa[Value.ownBlock] using hi
 omega
def Cr(ls:Nat->List Bk)(n:Nat)(t:Int): List Int:=(List.range n).map λi=>D5 (ls i) t
def CG: List Int->Int
 | []=>0
 | g::l=>2 ^ (40-g).toNat+CG l
theorem NH(a b:List Int): CG (a++b)=CG a+CG b:=by
 induction a with
 | nil=>simp[CG]
 | cons e d c=>simp[CG,c];omega
def FT(c:Cfg)(n:Nat)(ls:Nat->List Bk)(a m:Int): Int×List Int :=
 if Ab a 1 c.aB=true then(0,Cr ls n (m-a)++[7*n*n*1099511627776/(10*CG (Cr ls n (m-a)))]) else(13,[])
theorem TO(a:Nat->List Bk)(n:Nat)(t:Int): Cr a (n+1) t=Cr a n t++[D5 (a n) t]:=by
 simp[Cr,j6]
theorem IP(a:Nat->List Bk)(n:Nat)(t:Int): (Cr a n t).length=n:=by simp[Cr]
theorem P6{l:List Bk}(c:∀b∈l,1<=b.t/\b.t<=40)(t:Int): 0<=D5 l t/\D5 l t<=40:=by
 unfold D5;split
 ·omega
 rename_i h;have e:=Mk.pastN_le l t;have d:Ad l (Mk.pastN l t)∈l:=by
  have a:Mk.pastN l t<l.length:=by omega
  have:Ad l (Mk.pastN l t)=l[Mk.pastN l t]:=by simp[Ad,List.getD_eq_getElem?_getD,hX a]
  rw[this];exact jc a
 have:=c _ d;omega
theorem QH{l:List Int}(c:∀g∈l,0<=g/\g<=40): (l.length:Int)<=CG l/\CG l<=1099511627776*l.length:=by
 induction l with
 | nil=>simp[CG]
 | cons a l h =>
  have i:=c a (by simp);have j:=h (λg e=>c g (by simp[e]));have d:(2:Int) ^ (40-a).toNat=((2 ^ (40-a).toNat:Nat):Int):=by simp
  have k:1<=2 ^ (40-a).toNat:=lI;have m:2 ^ (40-a).toNat<=2 ^ 40:=jk (by omega) (by omega);simp only[CG,iA];rw[d];omega
theorem Ub(d l:Nat)(k:List (Nat×Option Nat))(c:Cfg)(j:Nat->List Bk)(a m:Int)(w:World)(h:cZ w d l k c j)(n:Ab a 1 c.aB=false):
  Calls prog 143 #[.pointer (some ⟨d,0,none⟩),.int .i64 a,.int .i64 m] w λe i=>e=.returned (.tuple #[.slice none 0 0,.int .i64 13])/\lO w i:=by
 have o:=h.aF.c5;clear h;go_enter func143,ntmps143;go_wp2_with (go_at_call 34;refine(AK _ _ _ _).mono ?_;rintro e i ⟨rfl,rfl⟩)
 go_ret2;exact⟨rfl,aA.refl _ _⟩
theorem Tq(A F:Nat)(k:List (Nat×Option Nat))(c:Cfg)(j:Nat->List Bk)(a m:Int)(w:World)(q:cZ w A F k c j)(bh:Ab a 1 c.aB=true)(bp:1<=k.length)(bq:k.length<=16)(cl:c.aB<=1000)(ch:-100<=m)(ci:m<=4611686018427387904)(am:∀h,(j h).length<=4398046511103)(aq:∀h,∀b∈j h,1<=b.t/\b.t<=40):
  Calls prog 143 #[.pointer (some ⟨A,0,none⟩),.int .i64 a,.int .i64 m] w λu G=>∃g s,u=.returned (.tuple #[.slice (some ⟨g,0,none⟩) (k.length+1) s,.int .i64 0]) /\
   G.ownsRow w.heap.size 3 1 (.slice (some ⟨g,0,none⟩) (k.length+1) s) (k.length+1) (Af (Cr j k.length (m-a)++[7*k.length*k.length*1099511627776/(10*CG (Cr j k.length (m-a)))]))/\lO w G:=by
 have bk:=q.aF.c5;have bi:1<=a/\a<=c.aB:=by simpa[Ab] using bh
 obtain⟨b2,b3⟩:=bi;have av:IntKind.i64.wrap (m-a)=m-a:=by rw[ic];omega
 obtain⟨i,D⟩:∃i,i=k.length:=⟨_,rfl⟩;have az:=Aa q;have a3:=Aa D;have a2:=Aa am;have Z:=Aa aq;rw[<-D]at bp bq ⊢;have aa:w.cell? ⟨A,20,none⟩=some (.slice (some ⟨F,0,none⟩) i i):=by rw[D];exact q.aF.cell rfl
 obtain⟨bx,bo,bt,bu,bv⟩:=jh KM;clear q am aq D;have b8:(0:Int)<=(i:Int):=by omega
 obtain⟨ay,ao,ap,ai⟩:=lL (P:=prog) w w.heap.size 37 3 bx (.int .i64 0) 1 underlying37 bo bt bu .i64 .i64 (i+1) (by rw[bv];omega) (by unfold maxLen;omega) (il _);rw[Int.natCast_add,Int.natCast_one]at ao;have Y:=Aa (show lO w ay from(aA.refl (λ_=>False) w).grown ai (λd aj=>by cases aj));have a7:=Aa ap;have bd:ay.cell? ⟨A,20,none⟩=some (.slice (some ⟨F,0,none⟩) i i):=Y.o.cell aa id;clear ap ai;go_enter func143,ntmps143;go_wp2_with (first | (go_at_call 34;refine(AK _ _ _ _).mono ?_;rintro u G ⟨rfl,au⟩;rw[au];clear au G) | fail)
 obtain⟨n,ar⟩:∃n,m-a=n:=⟨_,rfl⟩;rw[ar]at av;have ba:=Aa ar;have cb:IntKind.i64.wrap (m-a)=n:=by rw[ic];omega
 clear av bd aa bk ao;go_loopw [9,10,35] (λb0 b1 h wr=>∃(d:Nat) (e:Int) (g s:Nat),h=.int .i64 d/\d<=i/\b0=.int .i64 e/\0<=e/\e<=1099511627776*(d:Int)/\b1=.slice (some ⟨g,0,none⟩) d s/\Hid (e=CG (Cr j d n))/\Hid (wr.ownsRow w.heap.size 3 1 (.slice (some ⟨g,0,none⟩) d s) d (Af (Cr j d n)))/\Hid (lO w wr)) (λ_ _ h _=>i-(intOf h).toNat)
 case atStart=>exact⟨0,0,w.heap.size,i+1,rfl,iM _,rfl,by omega,by omega,rfl,rfl,a7,Y⟩
 case round =>
  obtain⟨d,e,g,s,rfl,aj,rfl,b6,bg,rfl,L,J,x⟩:=hrel;have U:=Aa (az.o.still x.o);have b7:(0:Int)<=(d:Int):=by omega
  have ah:∀h,(Value.slice (some ⟨g,0,none⟩) d s).ownBlock=some h->w.heap.size<=h:=Kb J.o;have V:=Aa ah;clear ah;by_cases an:d<i
  ·have al:(d:Int)<(i:Int):=by omega
   have S:d<k.length:=by have:=a3.o;omega
   obtain⟨v,T⟩:∃v,Aq k d=v:=⟨_,rfl⟩;have bc:wr.cell? ⟨F,d,none⟩=some (.pointer (some ⟨v.1,0,none⟩)):=by rw[<-T];exact U.o.fI.cell (H9 S)
   have a0:=Aa (T0 v.1 v.2 (j d) n wr (by rw[<-T];exact U.o.row d S) (by have:=a2.o d;omega));obtain⟨be,bf⟩:=P6 (Z.o d) n;have W:=Aa (TO j d n);obtain⟨r,O⟩:∃r,D5 (j d) n=r:=⟨_,rfl⟩;rw[O]at be bf;have I:=Aa O;clear O T S;have ax:=Gp (40-r).toNat (by omega);have bz:(2:Int) ^ (40-r).toNat<=1099511627776:=by
    have b4:2 ^ (40-r).toNat<=2 ^ 40:=jk (by omega) (by omega);have u:(2:Int) ^ (40-r).toNat=((2 ^ (40-r).toNat:Nat):Int):=by simp
    rw[u];omega
   obtain⟨z,ad⟩:∃z,(2:Int) ^ (40-r).toNat=z:=⟨_,rfl⟩;have a8:=Aa ad;rw[ad]at ax bz;obtain⟨cj,ck⟩:=ax;go_wp2_with fail
   refine a0.o.mono ?_;rintro u M ⟨rfl,B⟩;rw[I.o];have X:=Aa (x.o.then B);have a5:=Aa (DT J.o B (λ_ _ q=>q));have cc:=X.o.size;have H:=Aa (aD.new M [.int .i64 r] 3);clear B bc;go_wp2_with (at_builtin;refine Fe rfl _ _ rfl w.heap.size _ d (Cr j d n) rfl (by exact DT a5.o ((aA.refl (λ_=>False) M).alloc _) (λ_ _ q=>q)) M.heap.size 1 [r] rfl rfl H.o (by omega) (by omega) (by simp;omega) ?_;intro N c2 bb E C ag)
   have a1:=Aa (((X.o.alloc (.cells #[.int .i64 r] 3))).trans C (λh R an=>by have:=V.o h R;omega));have a6:=Aa E;clear E C ag;refine⟨⟨d+1,e+z,N,c2,by go_num,by omega,rfl,by omega,by omega,rfl,?_,?_,a1⟩,by simp[intOf];omega⟩
   ·show _=_;rw[W.o,NH,<-L.o,I.o];simp only[CG];rw[a8.o];omega
   show World.ownsRow _ _ _ _ _ _ _;rw[W.o,I.o];exact a6.o
  have al:d=i:=by omega
  subst al;have B:1<=(d:Int):=by omega
  have ak:(d:Int)<=16:=by omega
  have b9:0<=(d:Int)*(d:Int):=kF (by omega) (by omega);have ca:(d:Int)*(d:Int)<=16*16:=kM ak ak (by omega) (by omega);have bj:7*(d:Int)*(d:Int)=7*((d:Int)*(d:Int)):=Int.mul_assoc _ _ _;have ce:IntKind.i64.wrap (7*(d:Int))=7*(d:Int):=by rw[ic];omega
  have cf:IntKind.i64.wrap (7*(d:Int)*(d:Int))=7*(d:Int)*(d:Int):=by rw[ic];omega
  have br:IntKind.i64.wrap (7*(d:Int)*(d:Int)*1099511627776)=7*(d:Int)*(d:Int)*1099511627776:=by rw[ic];omega
  have cg:IntKind.i64.wrap (10*e)=10*e:=by rw[ic];omega
  have af:=(QH (l:=Cr j d n) (λcm aw=>by
       simp only[Cr,iE]at aw;obtain⟨h,_,rfl⟩:=aw
       exact P6 (Z.o h) n)).1
  rw[IP,<-L.o]at af;have bg:1<=e:=by omega
  clear af;obtain⟨o,ab⟩:∃o,7*(d:Int)*(d:Int)*1099511627776=o:=⟨_,rfl⟩;have Q:0<=o:=by omega
  have b5:o<=1970324836974592:=by omega
  have bl:o.tdiv (10*e)=o/(10*e):=jl Q;have bm:0<=o/(10*e):=jK Q (by omega);have bn:o/(10*e)<=o:=jN _ Q;have bs:IntKind.i64.wrap (o/(10*e))=o/(10*e):=by rw[ic];omega
  rw[ab]at br;have a4:=Aa ab;obtain⟨t,ae⟩:∃t,o/(10*e)=t:=⟨_,rfl⟩;have a9:=Aa ae;clear bj;rw[ae]at bl bm bn bs;have H:=Aa (aD.new wr [.int .i64 t] 3);have cd:=x.o.size;go_wp2_with (at_builtin;refine Fe rfl _ _ rfl w.heap.size _ d (Cr j d n) rfl (by exact DT J.o ((aA.refl (λ_=>False) wr).alloc _) (λ_ _ q=>q)) wr.heap.size 1 [t] rfl rfl H.o (by omega) (by omega) (by simp;omega) ?_;intro N c2 bb E C ag)
  go_ret2;refine⟨N,c2,rfl,?_,?_⟩
  ·have:=E;rw[ba.o,<-L.o,a4.o,a9.o];exact this
  exact(x.o.alloc (.cells #[.int .i64 t] 3)).trans C (λh R an=>by have:=V.o h R;omega)
def addN(a b:List Int)(t:Nat): List Int:=(List.zipWith (·+·) a b).take t++a.drop t
theorem zLa{a b:List Int}(c:a.length=b.length)(t:Nat)(e:t<a.length): (addN a b t)[t]?=some a[t]:=by
 unfold addN;have d:((List.zipWith (·+·) a b).take t).length=t:=by simp[<-c];omega
 rw[iS (by omega),d,kf,j0,kg,hX e]
theorem XL{a b:List Int}(c:a.length=b.length)(t:Nat)(d:t<a.length): (addN a b t).set t (a[t]+b[t]'(by omega))=addN a b (t+1):=by
 have e:((List.zipWith (·+·) a b).take t).length=t:=by simp[<-c];omega
 have h:t<(List.zipWith (·+·) a b).length:=by simp[<-c];exact d
 unfold addN;rw[kK _ _ (by omega),e,kf,List.drop_eq_getElem_cons d,List.set_cons_zero,je h];simp
theorem WL(a b:List Int): addN a b 0=a:=by simp[addN]
theorem Yr{a b:List Int}(c:a.length=b.length): addN a b a.length=List.zipWith (·+·) a b:=by
 unfold addN;rw[kE,iz,iq (by simp[<-c])]
theorem zNd(h:Nat)(a b:List Int)(w:World)(A:a.length=48)(C:b.length=48)(u:aD w h (Af a) 228)(n:∀e∈a,0<=e)(D:∀e∈b,0<=e)(H:∀e∈List.zipWith (·+·) a b,e<=4611686018427387904):
  Calls prog 225 #[.pointer (some ⟨h,0,none⟩),.agg (Af b).toArray] w λX M=>X=.returned (.tuple #[])/\aD M h (Af (List.zipWith (·+·) a b)) 228/\aA (λj=>j=h) w M:=by
 obtain⟨k,m⟩:∃k,k=w.alloc (.cells (Af b).toArray 228):=⟨_,rfl⟩;have R:=Aa (show aA (λj=>j=h) w k by rw[m];exact(aA.refl _ _).alloc _);have U:=Aa (show aD k w.heap.size (Af b) 228 by rw[m];exact aD.new w _ _);have Q:=Aa (show aD k h (Af a) 228 by rw[m];exact u.alloc _);have ad:=u.lt;have W:=Aa m;have O:=Aa n;have P:=Aa D;have V:=Aa H;have o:=Aa A;have r:=Aa C;clear m u n D H A C;go_enter func225,ntmps225;go_wp2_with fail
 rw[show w.alloc (.cells (Af b).toArray 228)=k from W.o.symm];generalize am:w.heap.size=L at *
 have T:=Aa (show ∀c,c<48->∃e y,a[c]?=some e/\b[c]?=some y/\0<=e/\0<=y/\e+y<=4611686018427387904/\(addN a b c)[c]?=some e/\(addN a b c).set c (e+y)=addN a b (c+1) from λc I=>by
    have l:c<a.length:=by rw[o.o];exact I
    have t:c<b.length:=by rw[r.o];exact I
    have n:a.length=b.length:=by rw[o.o,r.o]
    have Y:=O.o a[c] (jc l);have Z:=P.o b[c] (jc t);have aa:=V.o (a[c]+b[c]) (iu (i:=c) (by rw[List.getElem?_zipWith,hX l,hX t]))
    exact⟨a[c],b[c],hX l,hX t,Y,Z,aa,zLa n c l,XL n c l⟩)
 go_loopw [6] (λj wr=>∃d:Nat,j=.int .i64 d/\d<=3/\Hid (aD wr h (Af (addN a b (d*16))) 228)/\Hid (aA (λj=>j=h) k wr)) (λj _=>3-(intOf j).toNat)
 case atStart=>exact⟨0,rfl,by omega,by show aD _ _ _ _;rw[kS,WL];exact Q.o,aA.refl _ _⟩
 case round =>
  obtain⟨d,rfl,ak,x,z⟩:=hrel;obtain⟨N,ae⟩:∃N,N=wr:=⟨_,rfl⟩;subst ae;have al:(0:Int)<=(d:Int):=by omega
  by_cases ad:d<3
  ·have E:(d:Int)<3:=by omega
   go_wp2_with fail
   go_loopw [9] (λv wr=>∃p:Nat,v=.int .i64 p/\p<=16/\Hid (aD wr h (Af (addN a b (d*16+p))) 228)/\Hid (aA (λj=>j=h) k wr)) (λv _=>16-(intOf v).toNat)
   case atStart=>exact⟨0,rfl,by omega,x,z⟩
   case round =>
    obtain⟨p,rfl,an,q,s⟩:=hrel;have ao:(0:Int)<=(p:Int):=by omega
    by_cases ap:p<16
    ·have G:(p:Int)<16:=by omega
     obtain⟨e,y,af,J,ar,av,au,B,F⟩:=T.o (d*16+p) (by omega);have ah:wr.cell? ⟨h,d*16+p,none⟩=some (.int .i64 e):=q.o.cell (by unfold Af;rw[iP,B];rfl);have ai:wr.cell? ⟨L,d*16+p,none⟩=some (.int .i64 y):=s.o.cell (U.o.cell (by unfold Af;rw[iP,J];rfl)) (λab=>by have aj:L=h:=ab;omega);have ag:=q.o.frozen;have S:=Aa F;have aq:IntKind.i64.wrap (e+y)=e+y:=by rw[ic];omega
     clear af J B F;go_wp2_with fail
     go_region
     go_wp2;go_roundw;case rel =>
      refine⟨p+1,by go_num,by omega,?_,?_⟩
      ·show aD _ _ _ _;rw[show d*16+(p+1)=d*16+p+1 by omega,<-S.o];have:=(q.o.setCell (d*16+p) (.int .i64 (e+y))).drew;unfold Af at this ⊢;rw[kH];exact this
      exact(s.o.setCell (p:=⟨h,d*16+p,none⟩) (Or.inl rfl) _).drew
     case measure=>simp[intOf];omega
    have G:p=16:=by omega
    subst G;go_wp2;go_roundw;case rel=>exact⟨d+1,by go_num,by omega,by show aD _ _ _ _;rw[show(d+1)*16=d*16+16 by omega];exact q.o,s⟩
    case measure=>simp[intOf];omega
  have E:d=3:=by omega
  subst E;go_wp2;go_end0;refine⟨rfl,?_,R.o.then z.o⟩;have:=x.o;rw[show 3*16=a.length by rw[o.o],Yr (by rw[o.o,r.o])]at this;exact this
