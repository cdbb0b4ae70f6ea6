import Derived.Test.YtnokbhcennjanaaGreatDoorXAJ
import Derived.Laws.BytesArg
import Derived.Lib.SlBytesConst
import Derived.Deep.DrawnRows
import Derived.Laws.MathBits
import Derived.Lib.Tables
open Go.RowKit Go.Proofs.Tryz
set_option maxRecDepth 100000
set_option maxHeartbeats 16000000
namespace Go.Proofs.YtnokbhcennjanaaGreatDoor
section
attribute [local go_sem ↓] AH Bs
attribute [local go_sem] AI Bt A3 A4 AJ AL B8 B9 Bd B2
theorem F2{c:Cfg}(d:Ak c=true): ∃a:Nat,c.kind=a/\1<=a/\a<=5/\B5 c=true/\Gs c a=true:=by
 simp only[Ak,iQ]at d;obtain⟨e,h,i⟩:=d;obtain⟨j,b⟩:=Bu e;refine⟨c.kind.toNat,by omega,by omega,by omega,h,i⟩
theorem XU(n:Int)(e:Nat)(v:Value)(clock:Int)(ps:List (SB×aJ))(o:aO)(w:World)(a:aX w e v clock ps)(_:bQ n clock (ps.map (·.2)))(C:Ab o.id 0 99=false):
  Calls prog 20 #[π e,o.val] w λj E=>aS w e v ps clock (ps.map (·.2)) 2 [] j E:=by
 have G:o.cells[1]?=some (ι o.id):=rfl;have t:=Aa a;clear a;unfold aO.val;go_enter func20,ntmps20;go_wp2_with fail
 obtain⟨q,l,u,F,B⟩:=CC w o.cells;rw[<-l];clear l;generalize h:w.heap.size=L at *
 have A:=Aa h;clear h;refine(AN _ _ _ q).mono ?_;rintro j r ⟨rfl,m⟩;rw[m,C];clear m r;go_wp2_with fail
 refine(EE 2 q).mono ?_;rintro j r ⟨rfl,c⟩;unfold Aw;have k:=Aa (B.o.keeps c id);have x:=Aa (u.o.then c);clear c;obtain⟨M,N,O,P⟩:=k.o.three;go_wp2;refine Dj k.o (λs i=>by simp[results,results20,go_sem,i.c0,i.c1,i.c2,Aw]) rfl (λs d=>?_);have z:=Aa d;have d:=z.o;have h:=A.o;have D:lX w s:=x.o.trans d (λJ H I=>by omega);exact Ez t.o D (iy _ _ _ _)
theorem T6(n:Int)(e:Nat)(v:Value)(clock:Int)(ps:List (SB×aJ))(o:aO)(w:World)(c:aX w e v clock ps)(hi:bQ n clock (ps.map (·.2)))(G:Ab o.id 0 99=true)(p:SB×aJ)(t:Cj ps o.id=some p):
  Calls prog 20 #[π e,o.val] w λd J=>aS w e v ps clock (ps.map (·.2)) 2 [] d J:=by
 have L:o.cells[1]?=some (ι o.id):=rfl;have q:=Aa c;have I:ps.length<=1000:=by have:=hi.bX;rw[iu]at this;omega
 have A:=Aa t;clear c hi t;unfold aO.val;go_enter func20,ntmps20;go_wp2_with fail
 obtain⟨m,u,r,D,F⟩:=CC w o.cells;have z:=Aa (q.o.still r.o);rw[<-u];clear u;generalize k:w.heap.size=P at *
 have E:=Aa k;clear k;refine(AN _ _ _ m).mono ?_;rintro d h ⟨rfl,a⟩;rw[a,G];clear a h;have N:=D.o.c1;go_wp2_with fail
 refine(ET e v clock o.id ps m z.o I).mono ?_;rintro d h ⟨rfl,a⟩;rw[a,A.o];clear a h;unfold EH;go_wp2_with fail
 refine(EE 2 m).mono ?_;rintro d h ⟨rfl,i⟩;unfold Aw;have s:=Aa (F.o.keeps i id);have B:=Aa (r.o.then i);clear i;obtain⟨Q,R,S,T⟩:=s.o.three;go_wp2;refine Dj s.o (λx l=>by simp[results,results20,go_sem,l.c0,l.c1,l.c2,Aw]) rfl (λx j=>?_);have C:=Aa j;have j:=C.o;have k:=E.o;have H:lX w x:=B.o.trans j (λO hi M=>by omega);exact Ez q.o H (iy _ _ _ _)
theorem SQ(n:Int)(e:Nat)(v:Value)(clock:Int)(ps:List (SB×aJ))(o:aO)(w:World)(a:aX w e v clock ps)(hi:bQ n clock (ps.map (·.2)))(L:Ab o.id 0 99=true)(x:Cj ps o.id=none)(P:Ak o.cfg=false):
  Calls prog 20 #[π e,o.val] w λi R=>aS w e v ps clock (ps.map (·.2)) 3 [] i R:=by
 have S:o.cells[1]?=some (ι o.id):=rfl;have r:=Aa a;have N:ps.length<=1000:=by have:=hi.bX;rw[iu]at this;omega
 have C:=Aa x;clear a hi x;unfold aO.val;go_enter func20,ntmps20;go_wp2_with fail
 obtain⟨j,z,s,t,H⟩:=CC w o.cells;have B:=Aa (r.o.still s.o);rw[<-z];clear z;generalize m:w.heap.size=V at *
 have G:=Aa m;clear m;refine(AN _ _ _ j).mono ?_;rintro i d ⟨rfl,h⟩;rw[h,L];clear h d;have O:=t.o.c1;go_wp2_with fail
 refine(ET e v clock o.id ps j B.o N).mono ?_;rintro i d ⟨rfl,h⟩;rw[h,C.o];clear h d;unfold EH;obtain⟨Q,J⟩:=El t.o 5 20 o.cfg.cells rfl rfl;go_wp2_with fail
 refine(WW o.cfg j P).mono ?_;rintro i d ⟨rfl,c⟩;have k:lX j (d.alloc (.cells #[.nilFunc,.nilFunc,.nilFunc,.nilFunc,.nilFunc,.nilFunc] 75)):=c.alloc _;have I:=Aa (H.o.keeps k id);have F:=Aa (s.o.then k);clear c k Q J O;go_wp2_with fail
 refine(EE 3 (d.alloc (.cells #[.nilFunc,.nilFunc,.nilFunc,.nilFunc,.nilFunc,.nilFunc] 75))).mono ?_;rintro i aa ⟨rfl,c⟩;unfold Aw;have u:=Aa (I.o.keeps c id);have D:=Aa (F.o.then c);clear c;obtain⟨W,X,Y,Z⟩:=u.o.three;go_wp2;refine Dj u.o (λA q=>by simp[results,results20,go_sem,q.c0,q.c1,q.c2,Aw]) rfl (λA l=>?_);have E:=Aa l;have l:=E.o;have m:=G.o;have M:lX w A:=D.o.trans l (λU hi T=>by omega);exact Ez r.o M (iy _ _ _ _)
theorem Ux(n:Int)(e:Nat)(v:Value)(clock:Int)(ps:List (SB×aJ))(o:aO)(w:World)(h:aX w e v clock ps)(hi:bQ n clock (ps.map (·.2)))(V:Ab o.id 0 99=true)(C:Cj ps o.id=none)(ab:Ak o.cfg=true)(R:ps.length=6):
  Calls prog 20 #[π e,o.val] w λj ag=>aS w e v ps clock (ps.map (·.2)) 4 [] j ag:=by
 obtain⟨a,D,i,W,S,T⟩:=F2 ab;have J:=Aa D;clear D;have q:o.cells[1]?=some (ι o.id):=rfl;have x:=Aa h;have Y:ps.length<=1000:=by have:=hi.bX;rw[iu]at this;omega
 have H:=Aa C;clear h hi C;unfold aO.val;go_enter func20,ntmps20;go_wp2_with fail
 obtain⟨l,F,z,A,O⟩:=CC w o.cells;have k:=Aa (x.o.still z.o);rw[<-F];clear F;generalize t:w.heap.size=ao at *
 have N:=Aa t;clear t;refine(AN _ _ _ l).mono ?_;rintro j d ⟨rfl,c⟩;rw[c,V];clear c d;have aa:=A.o.c1;go_wp2_with fail
 refine(ET e v clock o.id ps l k.o Y).mono ?_;rintro j d ⟨rfl,c⟩;rw[c,H.o];clear c d;unfold EH;obtain⟨ad,U⟩:=El A.o 5 20 o.cfg.cells rfl rfl;go_wp2_with fail
 refine(LG o.cfg a l J.o i W S T).mono ?_;rintro j d ⟨rfl,c⟩;unfold B6 fn;have Z:∃Q m,v=.slice Q 6 m:=by
  rcases k.o.row.2 with ⟨q,aj⟩ | ⟨g,m,ai,q,_⟩
  ·omega
  exact⟨some ⟨g,0,none⟩,m,by rw[q,R]⟩
 obtain⟨ae,af,E⟩:=Z;have r:lX l (d.alloc (.cells #[.func (.func (Bi a)) #[] #[],.func (.func (AU a)) #[] #[],.func (.func (AV a)) #[] #[],.func (.func (AO a)) #[] #[],.func (.func (AR a)) #[] #[],.func (.func (Be a)) #[] #[]] 75)):=c.alloc _;have P:=Aa (O.o.keeps r id);have M:=Aa (z.o.then r);have ak:κ d e 1 (.slice ae 6 af):=by rw[<-E];exact(k.o.still c).aF.cell rfl
 have al:e<d.heap.size:=(k.o.still c).aF.lt;clear c r ad U aa E;go_wp2_with fail
 generalize d.alloc (.cells #[.func (.func (Bi a)) #[] #[],.func (.func (AU a)) #[] #[],.func (.func (AV a)) #[] #[],.func (.func (AO a)) #[] #[],.func (.func (AR a)) #[] #[],.func (.func (Be a)) #[] #[]] 75)=ah at *
 refine(EE 4 ah).mono ?_;rintro j av ⟨rfl,i⟩;unfold Aw;have B:=Aa (P.o.keeps i id);have I:=Aa (M.o.then i);clear i;obtain⟨ap,aq,ar,au⟩:=B.o.three;go_wp2;refine Dj B.o (λG u=>by simp[results,results20,go_sem,u.c0,u.c1,u.c2,Aw]) rfl (λG s=>?_);have L:=Aa s;have s:=L.o;have t:=N.o;have X:lX w G:=I.o.trans s (λan hi am=>by omega);exact Ez x.o X (iy _ _ _ _)
end
section
theorem Q1(hi lo u v a m d n c:Int)(l:u=hi*8+lo/2305843009213693952)(o:v=lo*8%18446744073709551616)(q:a=v%4294967296)(j:m=u*4294967296+v/4294967296)(k:n=m-d*18446744073709551608)(h:c*18446744073709551608<=n*4294967296+a)(i:n*4294967296+a<(c+1)*18446744073709551608):
  IntKind.u64.wrap (IntKind.u64.wrap (IntKind.u64.wrap (n*4294967296)+a)-IntKind.u64.wrap (c*18446744073709551608))/8=(hi*18446744073709551616+lo)%2305843009213693951:=by
 simp only[jF];have e:m*4294967296+a=8*(hi*18446744073709551616+lo):=by omega
 omega
theorem XY(hi lo:Int)(w:World)(L:0<=hi)(S:hi<=1099511627776)(N:0<=lo)(O:lo<18446744073709551616):
  Calls prog 210 #[.int .u64 hi,.int .u64 lo,.int .u64 2305843009213693951] w λB I=>(∃a,B=.returned (.tuple #[.int .u64 a,.int .u64 ((hi*18446744073709551616+lo)%2305843009213693951)]))/\lX w I:=by
 by_cases D:hi=0
 ·subst D;exact PP 0 lo w (by omega) (by omega) N O
 have Y:(hi==0)=false:=by simp[D]
 have U:¬(2305843009213693951<=hi):=by omega
 have hand:bits .and .u64 18446744073709551608 4294967295=4294967288:=by decide +kernel
 obtain⟨h,V,r⟩:∃h,bits .or .u64 (hi*8) (lo/2305843009213693952)=h/\Hid (h=hi*8+lo/2305843009213693952):=⟨_,Ro hi (lo/2305843009213693952) L (by omega) (by omega) (by omega),rfl⟩;obtain⟨k,W,s⟩:∃k,IntKind.u64.wrap (lo*8)=k/\Hid (k=lo*8%18446744073709551616):=⟨_,jF _,rfl⟩;have u0:0<=h:=by have:=r.o;omega
 have u1:h<=8796093022217:=by have:=r.o;omega
 have Q:0<=k:=by have:=s.o;omega
 have aa:k<18446744073709551616:=by have:=s.o;omega
 obtain⟨l,Z,t⟩:∃l,bits .and .u64 k 4294967295=l/\Hid (l=k%4294967296):=by
  obtain⟨R,rfl⟩:=jl Q;exact⟨_,Mul64.maskN R (by omega),by show _=_;omega⟩
 have ae:0<=l:=by have:=t.o;omega
 have af:l<4294967296:=by have:=t.o;omega
 have T:h.tdiv 4294967295=h/4294967295:=jd u0;obtain⟨y,x⟩:∃y,Hid (y=k/4294967296):=⟨_,rfl⟩;have X:k/4294967296=y:=x.o.symm;have ab:0<=y:=by omega
 have ad:y<4294967296:=by omega
 go_enter func210,ntmps210;go_wp2_with (go_at_call 233;refine(Qx _).mono ?_;rintro B I ⟨rfl,rfl⟩)
 go_loop [15,16] (λi b=>∃a d:Int,i=.int .u64 a/\b=.int .u64 d/\0<=a/\a<=4096/\0<=d/\d<4294967296/\Hid (a*4294967295+d=h)/\Hid (h*4294967296+y<(a+1)*18446744073709551608)) (λi _=>(intOf i).toNat)
 case atStart=>exact⟨h/4294967295,h-h/4294967295*4294967295,by first | rfl | go_num,by first | rfl | go_num,by omega,by omega,by omega,by omega,by show _=_;omega,by show _<_;omega⟩
 case round =>
  obtain⟨a,d,rfl,rfl,o,E,G,H,c,j⟩:=hrel;by_cases C:4294967296*d+y<a*4294967288
  ·have F:1<=a:=by omega
   by_cases u:4294967296<=d+4294967295
   ·have J:=Aa (show h*4294967296+y<a*18446744073709551608 by have:=c.o;omega);have v:=Aa (show(a-1)*18446744073709551608<=h*4294967296+y by have:=c.o;omega);clear c j;have c:=v;have j:=J;obtain⟨e,m⟩:∃e,Hid (e=h*4294967296+y-(a-1)*18446744073709551608):=⟨_,rfl⟩;have A:0<=e:=by have:=m.o;have:=c.o;have:=j.o;omega
    have P:e<18446744073709551608:=by have:=m.o;have:=c.o;have:=j.o;omega
    have q:IntKind.u64.wrap (IntKind.u64.wrap (IntKind.u64.wrap (h*4294967296)+y)-IntKind.u64.wrap ((a-1)*18446744073709551608))=e:=by
     have:=m.o;simp only[jF];omega
    have z:e.tdiv 4294967295=e/4294967295:=jd A;have n:=Aa (λo i b=>Q1 hi lo h k l (h*4294967296+y) (a-1) e o r.o s.o t.o (by rw[x.o]) m.o i b);go_wp2_with (first | simp only[q] | simp only[z])
    go_loop [16,18] (λb i=>∃a d:Int,i=.int .u64 a/\b=.int .u64 d/\0<=a/\a<=4294967296/\0<=d/\d<4294967296/\Hid (a*4294967295+d=e)/\Hid (e*4294967296+l<(a+1)*18446744073709551608)) (λ_ i=>(intOf i).toNat)
    case atStart=>exact⟨e/4294967295,e-e/4294967295*4294967295,by first | rfl | go_num,by first | rfl | go_num,by omega,by omega,by omega,by omega,by show _=_;omega,by show _<_;omega⟩
    case round =>
     clear c j q;obtain⟨a,d,rfl,rfl,o,E,G,H,c,j⟩:=hrel;by_cases M:4294967296<=a
     ·by_cases u:4294967296<=d+4294967295
      ·go_wp2;go_ret2;exact⟨⟨_,by rw[n.o (a-1) (by have:=c.o;omega) (by have:=c.o;omega)];rfl⟩,aA.refl _ _⟩
      go_wp2;go_round;case rel=>exact⟨a-1,d+4294967295,by first | rfl | go_num,by first | rfl | go_num,by omega,by omega,by omega,by omega,by have:=c.o;show _=_;omega,by have:=c.o;show _<_;omega⟩
      case measure=>simp[intOf];omega
     by_cases C:4294967296*d+l<a*4294967288
     ·have F:1<=a:=by omega
      by_cases u:4294967296<=d+4294967295
      ·go_wp2;go_ret2;exact⟨⟨_,by rw[n.o (a-1) (by have:=c.o;omega) (by have:=c.o;omega)];rfl⟩,aA.refl _ _⟩
      go_wp2;go_round;case rel=>exact⟨a-1,d+4294967295,by first | rfl | go_num,by first | rfl | go_num,by omega,by omega,by omega,by omega,by have:=c.o;show _=_;omega,by have:=c.o;show _<_;omega⟩
      case measure=>simp[intOf];omega
     go_wp2;go_ret2;exact⟨⟨_,by rw[n.o a (by have:=c.o;omega) j.o];rfl⟩,aA.refl _ _⟩
   go_wp2;go_round;case rel=>exact⟨a-1,d+4294967295,by first | rfl | go_num,by first | rfl | go_num,by omega,by omega,by omega,by omega,by have:=c.o;show _=_;omega,by have:=c.o;show _<_;omega⟩
   case measure=>simp[intOf];omega
  have v:=Aa (show a*18446744073709551608<=h*4294967296+y by have:=c.o;omega);clear c;have c:=v;obtain⟨e,m⟩:∃e,Hid (e=h*4294967296+y-(a)*18446744073709551608):=⟨_,rfl⟩;have A:0<=e:=by have:=m.o;have:=c.o;have:=j.o;omega
  have P:e<18446744073709551608:=by have:=m.o;have:=c.o;have:=j.o;omega
  have q:IntKind.u64.wrap (IntKind.u64.wrap (IntKind.u64.wrap (h*4294967296)+y)-IntKind.u64.wrap ((a)*18446744073709551608))=e:=by
   have:=m.o;simp only[jF];omega
  have z:e.tdiv 4294967295=e/4294967295:=jd A;have n:=Aa (λo i b=>Q1 hi lo h k l (h*4294967296+y) (a) e o r.o s.o t.o (by rw[x.o]) m.o i b);go_wp2_with (first | simp only[q] | simp only[z])
  go_loop [16,18] (λb i=>∃a d:Int,i=.int .u64 a/\b=.int .u64 d/\0<=a/\a<=4294967296/\0<=d/\d<4294967296/\Hid (a*4294967295+d=e)/\Hid (e*4294967296+l<(a+1)*18446744073709551608)) (λ_ i=>(intOf i).toNat)
  case atStart=>exact⟨e/4294967295,e-e/4294967295*4294967295,by first | rfl | go_num,by first | rfl | go_num,by omega,by omega,by omega,by omega,by show _=_;omega,by show _<_;omega⟩
  case round =>
   clear c j q;obtain⟨a,d,rfl,rfl,o,E,G,H,c,j⟩:=hrel;by_cases M:4294967296<=a
   ·by_cases u:4294967296<=d+4294967295
    ·go_wp2;go_ret2;exact⟨⟨_,by rw[n.o (a-1) (by have:=c.o;omega) (by have:=c.o;omega)];rfl⟩,aA.refl _ _⟩
    go_wp2;go_round;case rel=>exact⟨a-1,d+4294967295,by first | rfl | go_num,by first | rfl | go_num,by omega,by omega,by omega,by omega,by have:=c.o;show _=_;omega,by have:=c.o;show _<_;omega⟩
    case measure=>simp[intOf];omega
   by_cases C:4294967296*d+l<a*4294967288
   ·have F:1<=a:=by omega
    by_cases u:4294967296<=d+4294967295
    ·go_wp2;go_ret2;exact⟨⟨_,by rw[n.o (a-1) (by have:=c.o;omega) (by have:=c.o;omega)];rfl⟩,aA.refl _ _⟩
    go_wp2;go_round;case rel=>exact⟨a-1,d+4294967295,by first | rfl | go_num,by first | rfl | go_num,by omega,by omega,by omega,by omega,by have:=c.o;show _=_;omega,by have:=c.o;show _<_;omega⟩
    case measure=>simp[intOf];omega
   go_wp2;go_ret2;exact⟨⟨_,by rw[n.o a (by have:=c.o;omega) j.o];rfl⟩,aA.refl _ _⟩
theorem XH(hi lo:Int)(w:World)(c:0<=hi)(i:hi<=1099511627776)(j:0<=lo)(k:lo<18446744073709551616):
  Calls prog 167 #[.int .u64 hi,.int .u64 lo,.int .u64 2305843009213693951] w λa l=>a=.returned (.int .u64 ((hi*18446744073709551616+lo)%2305843009213693951))/\lX w l:=by
 have m:hi.tmod 2305843009213693951=hi:=by rw[jY c];omega
 have e:=Aa (XY hi lo w c i j k);go_enter func167,ntmps167;go_wp2_with fail
 refine e.o.mono ?_;rintro a o ⟨⟨n,rfl⟩,d⟩;have h:=Aa d;clear d;go_wp2;go_ret;exact⟨rfl,h.o⟩
theorem Zc(a b key:Int)(w:World)(h:0<=a)(o:a<=1099511627776)(q:0<=b)(s:b<2305843009213693951)(d:0<=key)(r:key<=2305843009213693951):
  Calls prog 121 #[.agg #[ι a,ι b],ι key] w λc j=>c=.returned (ι (AG a b key))/\lX w j:=by
 have x:0<=a*key:=kL h d;have z:a*key<=1099511627776*2305843009213693951:=kT o r d (by omega);have B:IntKind.u64.wrap a=a:=by rw[jF];omega
 have C:IntKind.u64.wrap b=b:=by rw[jF];omega
 have D:IntKind.u64.wrap key=key:=by rw[jF];omega
 have m:=Aa (λw=>Mw a key h (by omega) d (by omega) w);go_enter func121,ntmps121;go_wp2_with fail
 refine(m.o _).mono ?_;rintro c j ⟨rfl,rfl⟩;have t:=λe=>Qa (a*key%18446744073709551616) b (by omega) q e;have n:=Aa (show AG a b key=(a*key+b)%2305843009213693951 from rfl);have k:=Aa ((aA.refl (λ_=>False) w).alloc (.cells #[ι a,ι b] 43));have v:κ (w.alloc (.cells #[ι a,ι b] 43)) w.heap.size 1 (ι b):=(aD.new w [ι a,ι b] 43).cell rfl;generalize w.alloc (.cells #[ι a,ι b] 43)=e at *
 generalize a*key=p at *
 go_wp2_with fail
 refine(XH _ _ _ (by omega) (by omega) (by omega) (by omega)).mono ?_;rintro c A ⟨rfl,i⟩;have l:=Aa (k.o.then i);clear i;have u:IntKind.i64.wrap (((p/18446744073709551616+(p%18446744073709551616+b)/18446744073709551616)*18446744073709551616+(p+b)%18446744073709551616)%2305843009213693951)=(p+b)%2305843009213693951:=by
  rw[il];omega
 go_wp2;go_ret;exact⟨by rw[n.o];rfl,l.o⟩
def Bz: List Nat:=[115,107,101,116,99,104,32,49]
theorem QQ: prog.underlying 5=some (.int .u8):=by kernel_rfl
theorem Mj{w:World}{base T n:Nat}{v:Value}{j:List Value}(h:w.ownsRow base T 1 v n j): (n=0/\v=.slice none 0 0)\/∃g d,v=σ g n d/\∀(i:Nat) c,j[i]?=some c->w.cell? ⟨g,i,none⟩=some c:=by
 rcases h.2 with ⟨e,l⟩ | ⟨g,d,k,e,_,m,q,r,s,o⟩
 ·exact .inl ⟨l,e⟩
 refine .inr ⟨g,d,e,λi c a=>?_⟩;have t:i<n:=by have:=(iq.1 a).1;have:=h.1;omega
 have:k[i]?=some c:=by
  rw[<-o]at a;rw[iW]at a;rw[ij (by omega)]at a;simpa using a
 simp[World.cell?,m,this]
theorem Ve: ∀a∈Bz,a<256:=by decide
theorem Tc(w:World):
  Calls prog 46 #[] w λj e=>∃b d,j=.returned (π b)/\bR e b d Bz/\(∀c,AF b d c->w.heap.size<=c)/\lX w e:=by
 have m:=λ(w:World) (h:Array Value) (l i:Nat)=>Lib.run_convert_bytes_const (P:=prog) w 129 5 h l i underlying129 QQ;go_enter func46,ntmps46;go_wp2;go_ret;have k:lX w (w.alloc (.cells (BB Bz).toArray 5 (8,9))):=(aA.refl _ _).alloc _;refine⟨w.heap.size+1,σ w.heap.size 8 8,rfl,⟨aD.newAt (by simp) [_] _,.inr ⟨w.heap.size,rfl,?_⟩,by simp[Value.ownBlock],Ve⟩,λc a=>?_,k.alloc _⟩
 ·rw[ju _ _ _ (by simp)];exact iH w _
 rcases a with a | a
 ·omega
 have:w.heap.size=c:=by simpa[Value.ownBlock] using a
 omega
def CF(ps:List (Nat×Nat)): List Value:=ps.map λp=>.pointer (some ⟨p.1,p.2,none⟩)
def PartsAt(w:World)(ps:List (Nat×Nat))(ns:List Int): Prop:=ps.length=ns.length/\∀(i:Nat) p n,ps[i]?=some p->ns[i]?=some n->w.cell? ⟨p.1,p.2,none⟩=some (ι n)
theorem Xe(b:Nat)(v:Value)(bs:List Nat)(o:Value)(base:Nat)(ps:List (Nat×Nat))(ns:List Int)(w:World)(t:bR w b v bs)(n:w.ownsRow base 163 1 o ps.length (CF ps))(j:PartsAt w ps ns)(u:∀p,p∈ps->¬AF b v p.1)(E:∀c,o.ownBlock=some c->¬AF b v c)(D:∀d,d∈ns->0<=d/\d<=9223372036854775807)(ar:bs.length+10*ns.length<=140737488355300)(au:ns.length<=1000):
  Calls prog 74 #[π b,o] w λs ai=>s=.returned (.tuple #[])/\aK w b v (bs++Ae ns) ai:=by
 have S:=Aa t;have P:=Aa n;have J:=Aa j;have L:=Aa u;have Q:=Aa E;have N:=Aa D;have aj:=Aa j.1;obtain⟨aw,ax,ab,G⟩:=D6 n;have R:=Aa G;have hlen:ps.length=ns.length:=j.1;clear t n j u E D G;subst ab;generalize C:ps.length=e at *
 have M:=Aa C;have m:=Aa hlen;clear C hlen;have av:e<=1000:=by have:=m.o;omega
 go_enter func74,ntmps74;go_wp2;go_loopw [8] (λc wr=>∃(a:Nat) (h:Value),c=ι a/\a<=e/\Hid (bR wr b h (bs++Ae (ns.take a)))/\Hid (∀c,h.ownBlock=some c->v.ownBlock=some c\/w.heap.size<=c)/\Hid (aA (AF b v) w wr)) (λc _=>e-(intOf c).toNat)
 case atStart=>exact⟨0,v,rfl,iT _,by show bR _ _ _ _;rw[jP,Dv,iC];exact S.o,λc Y=>.inl Y,aA.refl _ _⟩
 case round =>
  obtain⟨a,h,rfl,ap,r,q,i⟩:=hrel;by_cases B:a<e
  ·obtain⟨g,X,ao⟩:=R.o (by omega);subst X;have A:a<ps.length:=by rw[M.o];exact B
   have z:a<ns.length:=by rw[<-m.o];exact B
   obtain⟨p,l⟩:∃p,ps[a]?=some p:=⟨_,h9 A⟩;obtain⟨d,k⟩:∃d,ns[a]?=some d:=⟨_,h9 z⟩;have F:=FB P.o i.o Q.o;have V:κ wr g a (.pointer (some ⟨p.1,p.2,none⟩)):=by
    rcases Mj F with ⟨am,_⟩ | ⟨al,ak,ad,U⟩
    ·omega
    cases ad;exact U a _ (by unfold CF;rw[iS,l];rfl)
   have W:κ wr p.1 p.2 (ι d):=i.o.cell (J.o.2 a p d l k) (L.o p (iz l));obtain⟨af,ag⟩:=N.o d (iz k)
   have O:=Aa (show bs++Ae (ns.take a)++enc d=bs++Ae (ns.take (a+1)) by
      rw[ε];congr 1;rw[ji,k,B3]
      simp[Ae])
   have aa:(bs++Ae (ns.take a)).length<=140737488355300:=by
    have:=Cu (ns.take a);have an:(ns.take a).length<=ns.length:=by rw[iG];omega
    rw[ic];omega
   have aq:(0:Int)<=(a:Int):=by omega
   have x:(a:Int)<(e:Int):=by omega
   clear F l k A z;go_wp2_with fail
   refine(FL b h (bs++Ae (ns.take a)) d wr r.o af ag aa).mono ?_;rintro s ay ⟨rfl,H⟩;have T:=Aa (aK.then q.o i.o H);clear H V W;go_wp2;go_roundw;case rel =>
    obtain⟨ah,I,ae,Z⟩:=T.o;rw[O.o]at I;exact⟨a+1,ah,by go_num,by omega,I,ae,Z⟩
   case measure=>simp[intOf];omega
  have x:a=e:=by omega
  subst x;go_wp2;go_end0;refine⟨rfl,h,?_,q.o,i.o⟩;have:=r.o;rwa [iw (by rw[<-m.o];omega)]at this
def CJ(l:List Nat): Int:=l.foldl (λa (b:Nat)=>AG 1000003000007 b a) 1
theorem Xc(l:List Nat)(b:Nat): CJ (l++[b])=AG 1000003000007 b (CJ l):=by simp[CJ]
theorem Tj(l:List Nat)(a:Int)(c:0<=a)(d:a<2305843009213693951): 0<=l.foldl (λa (b:Nat)=>AG 1000003000007 b a) a/\l.foldl (λa (b:Nat)=>AG 1000003000007 b a) a<2305843009213693951:=by
 induction l generalizing a with
 | nil=>exact⟨c,d⟩
 | cons b l e=>have:=GO 1000003000007 b a;exact e _ this.1 this.2
theorem MW(l:List Nat): 0<=CJ l/\CJ l<2305843009213693951:=Tj l 1 (by omega) (by omega)
theorem zMd(v:Value)(bs:List Nat)(w:World)(e:dQ w v bs)(s:∀O∈bs,O<256)(T:bs.length<=140737488355320):
  Calls prog 75 #[v] w λn N=>n=.returned (ι (CJ bs))/\lX w N:=by
 have B:=Aa e;have z:=Aa s;obtain⟨L,M,h⟩:=e.form;subst h;clear e s;generalize r:bs.length=c at *
 have m:=Aa r;clear r;go_enter func75,ntmps75;go_wp2;go_loopw [3,8] (λD d wr=>∃a:Nat,d=ι a/\a<=c/\D=ι (CJ (bs.take a))/\Hid (lX w wr)) (λ_ d _=>c-(intOf d).toNat)
 case atStart=>exact⟨0,rfl,iT _,rfl,aA.refl _ _⟩
 case round =>
  obtain⟨a,rfl,Q,rfl,l⟩:=hrel;by_cases H:a<c
  ·have q:a<bs.length:=by rw[m.o];exact H
   obtain⟨y,k⟩:∃y,bs[a]?=some y:=⟨_,h9 q⟩;have V:=z.o y (iz k);have x:=Aa (show CJ (bs.take (a+1))=AG 1000003000007 y (CJ (bs.take a)) by rw[ji,k];exact Xc _ _);obtain⟨g,i,h,j⟩:∃g i,(Value.slice L c M)=σ g c i/\∀(d:Nat) u,(BB bs)[d]?=some u->κ w g d u:=by
    rcases B.o.cells with ⟨P,_⟩ | ⟨g,i,h,j⟩
    ·omega
    exact⟨g,i,by rw[h,m.o],j⟩
   injection h with I _ J;subst I J;have F:κ wr g a (.int .u8 (y:Int)):=l.o.cell (j a _ (by unfold BB;rw[iS,k];rfl)) id;have U:IntKind.i64.wrap (y:Int)=(y:Int):=(by rw[il];omega);have E:=MW (bs.take a);generalize CJ (bs.take a)=C at *
   have R:(0:Int)<=(a:Int):=by omega
   have S:(a:Int)<(c:Int):=by omega
   clear j k q;go_wp2_with fail
   refine(Zc 1000003000007 (y:Int) C wr (by omega) (by omega) (by omega) (by omega) E.1 (by omega)).mono ?_;rintro n W ⟨rfl,o⟩;have t:=Aa (l.o.then o);clear o F;go_wp2;go_roundw;case rel=>exact⟨a+1,by go_num,by omega,by rw[x.o],t.o⟩
   case measure=>simp[intOf];omega
  have G:a=c:=by omega
  subst G;have A:=Aa (show bs.take a=bs from iw (by rw[m.o];omega));go_wp2;go_ret;exact⟨by rw[A.o];rfl,l.o⟩
def AQ(l:List Nat): ByteArray:=strOfNums (l.map λ(n:Nat)=>(n:Int))
theorem Vr(l:List Nat)(i:Nat)(hi:i<l.length): (BB l)[i]?=some (.int .u8 ((l.map λ(n:Nat)=>(n:Int)).getD i 0)):=by
 unfold BB;rw[iS,γ,iS,h9 hi];rfl
theorem X6(b:Nat)(v:Value)(bs:List Nat)(w:World)(a:bR w b v bs)(C:bs.length<=140737488355300):
  Calls prog 49 #[π b] w λe F=>e=.returned (.string (AQ (bs++enc (CJ bs))))/\aA (AF b v) w F:=by
 have A:=a.aF.c0;have m:=Aa (zMd v bs w a.row a.small (by omega));have k:=Aa (MW bs);have u:=Aa a;obtain⟨q,r,d⟩:=a.row.form;subst d;clear a;go_enter func49,ntmps49;go_wp2_with fail
 refine m.o.mono ?_;rintro e G ⟨rfl,h⟩;have s:=Aa h;have l:=Aa (FL b (.slice q bs.length r) bs (CJ bs) G (u.o.still h) k.o.1 (by have:=k.o.2;omega) C);clear h A m;go_wp2_with fail
 refine l.o.mono ?_;rintro e j ⟨rfl,E,i,D,n⟩;have t:=Aa ((s.o.mono (M':=AF b (.slice q bs.length r)) (λ_ _ a=>a.elim)).then n);have I:=i.aF.c0;obtain⟨g,c,d,J⟩:∃g c,E=σ g (bs++enc (CJ bs)).length c/\(convert 129 9 (σ g (bs++enc (CJ bs)).length c)).run prog j=.ok (.string (AQ (bs++enc (CJ bs)))) j:=by
  rcases i.row.cells with ⟨x,_⟩ | ⟨g,c,d,z⟩
  ·exfalso;have H:0<(enc (CJ bs)).length:=by
    unfold enc Ck;split <;> simp
   rw[ic]at x;omega
  refine⟨g,c,d,run_convert_bytes_arg j 129 5 underlying129 QQ g 0 _ c _ (by simp) (λo B=>?_) 9 underlying9⟩;rw[ja];exact z o _ (Vr _ o B)
 subst d;generalize(bs++enc (CJ bs)).length=L at *
 clear i D n l;go_wp2;go_ret;exact⟨rfl,t.o⟩
theorem UF(e b:Nat)(c:Cfg)(a d m:Int)(v:Value)(bs:List Nat)(w:World)(j:aD w e (ED c a d) 194)(h:bR w b v bs)(o:¬AF b v e)(D:0<=a)(E:a<=9223372036854775807)(F:0<=d)(G:d<=9223372036854775807)(L:bs.length<=140737488355000):
  Calls prog 155 #[π e,π b,ι m] w λi I=>i=.returned (.tuple #[])/\aK w b v (bs++Ae [a,d]) I:=by
 have C:κ w e 20 (ι a):=j.cell rfl;have u:=Aa j;have x:=Aa o;have l:=Aa (FL b v bs a w h D E (by omega));clear j h o;go_enter func155,ntmps155;go_wp2_with fail
 refine l.o.mono ?_;rintro i t ⟨rfl,H,r,q,k⟩;have J:κ t e 21 (ι d):=k.cell (u.o.cell rfl) x.o;have B:=Aa q;have A:=Aa k;have n:=Aa (FL b H (bs++enc a) d t r F G (by have:=Dt a;rw[ic];omega));clear C r q k l;go_wp2_with fail
 refine n.o.mono ?_;rintro i M ⟨rfl,s⟩;have z:=Aa (aK.then B.o A.o s);clear s n;go_wp2;go_end0;refine⟨rfl,?_⟩;have h:=z.o;rw[ε]at h;rw[BQ,En];exact h
end
section
attribute [local go_sem ↓] AH Bs
attribute [local go_sem] AI Bt A3 A4 AJ AL Bd B2
def Cfg.aI(c:Cfg): List Int:=[c.kind,c.aL,c.bF,c.cap,c.k,c.aB,c.bits,c.rows,c.width,c.aM,c.size,c.degree,c.half,c.mark,c.bV,c.bW,c.cI,c.cJ,c.cS,c.cT]
theorem Cfg.eX(c:Cfg): c.cells=c.aI.map (ι ·):=rfl
def Cfg.num(c:Cfg)(o:Nat): Int:=c.aI.getD o 0
def Cm: Nat->List Nat | 1=>[4,5] | 2=>[6,5] | 3=>[7,8,9,5] | 4=>[11,12,13] | _=>[11,12,13,10]
def at'(b:Nat)(l:List Nat): List (Nat×Nat):=l.map λo=>(b,o)
theorem zN1: (prog.info? 163).map (λa=>(a.zero,a.size,a.bytes))=some (some (.pointer none),1,8):=by kernel_rfl
theorem FO{w w':World}{ps:List (Nat×Nat)}{n:Nat}(c:ps.length=n)(d:n<=100)(a:w'.heap[w.heap.size]?=some (.cells (CF ps).toArray 163)): w'.ownsRow w.heap.size 163 1 (σ w.heap.size n n) ps.length (CF ps):=by
 subst c;exact⟨by simp[CF],.inr ⟨w.heap.size,ps.length,(CF ps).toArray,rfl,ir _,a,ir _,by unfold maxLen;omega,by simp[CF],by rw[ly,iw (by simp[CF])]⟩⟩
def ER(w:World)(b:Nat)(l:List Nat)(e:Ending)(w':World): Prop:=∃v,e=.returned v/\w'.ownsRow w.heap.size 163 1 v (at' b l).length (CF (at' b l))/\lX w w'
theorem NO(b:Nat)(w:World): Calls prog 118 #[π b] w (ER w b [1,2,3]):=by
 go_enter func118,ntmps118;go_wp2_with fail
 go_region
 go_wp2;go_ret;exact⟨_,rfl,FO rfl (by omega) (iH w _),((aA.refl _ _).alloc _).drew⟩
theorem UZ(b:Nat)(w:World): Calls prog 92 #[π b] w (ER w b [4,5]):=by
 go_enter func92,ntmps92;go_wp2_with fail
 go_region
 go_wp2;go_ret;exact⟨_,rfl,FO rfl (by omega) (iH w _),((aA.refl _ _).alloc _).drew⟩
theorem Sk(b:Nat)(w:World): Calls prog 98 #[π b] w (ER w b [6,5]):=by
 go_enter func98,ntmps98;go_wp2_with fail
 go_region
 go_wp2;go_ret;exact⟨_,rfl,FO rfl (by omega) (iH w _),((aA.refl _ _).alloc _).drew⟩
theorem Uy(b:Nat)(w:World): Calls prog 104 #[π b] w (ER w b [7,8,9,5]):=by
 go_enter func104,ntmps104;go_wp2_with fail
 go_region
 go_wp2;go_ret;exact⟨_,rfl,FO rfl (by omega) (iH w _),((aA.refl _ _).alloc _).drew⟩
theorem O5(b:Nat)(w:World): Calls prog 108 #[π b] w (ER w b [11,12,13]):=by
 go_enter func108,ntmps108;go_wp2_with fail
 go_region
 go_wp2;go_ret;exact⟨_,rfl,FO rfl (by omega) (iH w _),((aA.refl _ _).alloc _).drew⟩
theorem zN5{w:World}{base a:Nat}{t size:Nat}{v:Value}{n:Nat}{d:List Value}(c:w.ownsRow base t size v n d)(j:a<=base): w.ownsRow a t size v n d:=by
 refine⟨c.1,?_⟩;rcases c.2 with i | ⟨g,e,h,rfl,k,l⟩
 ·exact .inl i
 exact .inr ⟨g,e,h,rfl,jN j k,l⟩
def Hv(t:TypeId)(x y:Value): Sem Next:=do pure (.value (<-Builtin.append_ #[137,137] t #[x,y]))
theorem Oh(ρ:Operand->Value)(dst:Option Tmp)(x y:Operand)(a:TypeId)(pos:String)(after:Array Edge)(guard:Option (Nat×Bool)):
  execOp ρ { dst,op:=.call { callee:=.builtin .append,args:=#[x,y],argTypes:=#[137,137] },type:=a,pos,after,guard }=Hv a (ρ x) (ρ y):=by
 rw[BigFrame.execOp_builtin,BigFrame.builtin_append];simp[Hv]
theorem MG(w:World)(base:Nat)(v:Value)(m c:Nat)(j a:List Value)(t:w.ownsRow base 163 1 v m j)(x:w.heap[c]?=some (.cells a.toArray 163))(o:∀D∈a,D.oneCell'=true)(s:0<a.length)(E:m+a.length<=100)(q:base<=w.heap.size):
  ∃h e d,(∀i,(Hv i v (σ c a.length a.length)).run prog w=.ok (.value (σ h (m+a.length) e)) d) /\
   d.ownsRow base 163 1 (σ h (m+a.length) e) (m+a.length) (j++a)/\w.grownBy d v.ownBlock:=by
 obtain⟨C,r,z,A,B⟩:=jg zN1;obtain⟨h,e,d,k,l,n,_,_⟩:=run_append_lies (P:=prog) w 137 137 base 163 C _ 1 8 underlying137 r z A B rfl (by omega) v m j t ⟨c,0,none⟩ a.length a.length a (by simp) (iJ x) o s (by unfold maxLen;omega) (by omega) q w.heap.size rfl;refine⟨h,e,d,λi=>?_,l,n⟩;unfold Hv;rw[jq];have u:Builtin.append_ #[137,137] i #[v,σ c a.length a.length]=Builtin.append_ #[137,137] 137 #[v,σ c a.length a.length]:=rfl;rw[u,k];rfl
theorem Se(b:Nat)(w:World): Calls prog 108 #[π b] w λt e=>∃k l,t=.returned (.slice k 3 l)/\lX w e /\
  (∃d c a,(∀s,(Hv s (.slice k 3 l) (σ e.heap.size 1 1)).run prog (e.alloc (.cells #[.pointer (some ⟨b,10,none⟩)] 163))=.ok (.value (σ d 4 c)) a) /\
     a.ownsRow w.heap.size 163 1 (σ d 4 c) 4 (CF (at' b [11,12,13,10]))/\lX w a) /\
  (∀h,w.heap[h]?=some (.cells #[.pointer (some ⟨b,10,none⟩)] 163)->∃d c a,(∀s,(Hv s (.slice k 3 l) (σ h 1 1)).run prog e=.ok (.value (σ d 4 c)) a) /\
     a.ownsRow w.heap.size 163 1 (σ d 4 c) 4 (CF (at' b [11,12,13,10]))/\lX w a):=by
 refine(O5 b w).mono ?_;rintro t e ⟨A,rfl,j,i⟩;obtain⟨k,l,z,_⟩:=D6 j;subst z;have x:=i.size;refine⟨k,l,rfl,i,?_,λh u=>?_⟩
 ·obtain⟨d,c,a,m,n,o⟩:=MG (e.alloc (.cells #[.pointer (some ⟨b,10,none⟩)] 163)) w.heap.size _ 3 e.heap.size _ [.pointer (some ⟨b,10,none⟩)] (j.alloc _) (iH e _) (by simp[Value.oneCell']) (by simp) (by simp) (by simp;omega);exact⟨d,c,a,m,n,(i.alloc _).grown o (λr q=>.inr (j.lt r q).1)⟩
 obtain⟨d,c,a,m,n,o⟩:=MG e w.heap.size _ 3 h _ [.pointer (some ⟨b,10,none⟩)] j (by rw[i.block h (js.1 u).1 id];exact u) (by simp[Value.oneCell']) (by simp) (by simp) x;exact⟨d,c,a,m,n,i.grown o (λr q=>.inr (j.lt r q).1)⟩
attribute [local go_sem ↓ 2000] Oh
attribute [local go_sem ↓] Go.wp_at_zero Go.wp_at_succ
theorem UR(b:Nat)(w:World): Calls prog 112 #[π b] w (ER w b [11,12,13,10]):=by
 go_enter func112,ntmps112;go_wp2_with fail
 have l:(w.alloc (.cells #[.pointer (some ⟨b,10,none⟩)] 163)).drew.heap[w.heap.size]?=some (.cells #[.pointer (some ⟨b,10,none⟩)] 163):=iH w _;go_region_with (first | (go_at_call 108;refine(Se b _).mono ?_;rintro o v ⟨t,u,rfl,q,⟨e,c,x,r,m,k⟩,i⟩;try (have j:=i w.heap.size l;obtain⟨h,d,z,s,n,a⟩:=j)))
 ·go_wp2;go_ret;exact⟨σ e 4 c,rfl,m,((aA.refl (λ_=>False) w).drew).then k⟩
 all_goals
  go_wp2;go_ret;refine⟨σ h 4 d,rfl,zN5 n (by show w.heap.size<=(w.alloc _).heap.size;simp),?_⟩;first
   | exact(((aA.refl (λ_=>False) w).alloc _).drew).then a
   | exact(((aA.refl (λ_=>False) w).drew).alloc _).then a
theorem Q6(b:Nat)(w:World): Calls prog 95 #[π b] w (ER w b [0]):=by
 go_enter func95,ntmps95;go_wp2;go_ret;exact⟨_,rfl,FO rfl (by omega) (iH w _),(aA.refl _ _).alloc _⟩
theorem Rj(b:Nat)(w:World): Calls prog 101 #[π b] w (ER w b [0,1]):=by
 go_enter func101,ntmps101;go_wp2_with fail
 go_region
 go_wp2;go_ret;exact⟨_,rfl,FO rfl (by omega) (iH w _),((aA.refl _ _).alloc _).drew⟩
theorem MU(b:Nat)(w:World): Calls prog 114 #[π b] w (ER w b [0,1,2]):=by
 go_enter func114,ntmps114;go_wp2_with fail
 go_region
 go_wp2;go_ret;exact⟨_,rfl,FO rfl (by omega) (iH w _),((aA.refl _ _).alloc _).drew⟩
end
section
attribute [local go_sem ↓] AH Bs
attribute [local go_sem] AI Bt A3 A4 AJ AL Bd B2
theorem Pw(k b:Nat)(w:World)(c:1<=k)(d:k<=5): Calls prog (AU k) #[π b] w (ER w b (Cm k)):=by
 have a:k=1\/k=2\/k=3\/k=4\/k=5:=by omega
 rcases a with a | a | a | a | a <;> subst a
 ·exact UZ b w
 ·exact Sk b w
 ·exact Uy b w
 ·exact O5 b w
 exact UR b w
def CW: Nat->List Nat | 1=>[0] | 2=>[0,1] | 3=>[0,1] | 4=>[0] | _=>[0,1,2]
theorem PM(k b:Nat)(w:World)(c:1<=k)(d:k<=5): Calls prog (AR k) #[π b] w (ER w b (CW k)):=by
 have a:k=1\/k=2\/k=3\/k=4\/k=5:=by omega
 rcases a with a | a | a | a | a <;> subst a
 ·exact Q6 b w
 ·exact Rj b w
 ·exact Rj b w
 ·exact Q6 b w
 exact MU b w
def Bh(k:Nat)(c:Cfg): Int:=match k with | 2=>1 | 3=>c.rows | _=>0
theorem LF(c:Cfg)(w:World): Calls prog 93 #[c.val] w λa d=>a=.returned (ι 0)/\lX w d:=by
 unfold Cfg.val;go_enter func93,ntmps93;go_wp2;go_ret;exact⟨rfl,by first | exact aA.refl _ _ | exact(aA.refl _ _).alloc _⟩
theorem Vd(c:Cfg)(w:World): Calls prog 99 #[c.val] w λa d=>a=.returned (ι 1)/\lX w d:=by
 unfold Cfg.val;go_enter func99,ntmps99;go_wp2;go_ret;exact⟨rfl,by first | exact aA.refl _ _ | exact(aA.refl _ _).alloc _⟩
theorem TE(c:Cfg)(w:World): Calls prog 105 #[c.val] w λa d=>a=.returned (ι c.rows)/\lX w d:=by
 unfold Cfg.val;go_enter func105,ntmps105;go_wp2;go_ret;exact⟨rfl,(aA.refl _ _).alloc _⟩
theorem PC(k:Nat)(c:Cfg)(w:World)(h:1<=k)(i:k<=5): Calls prog (AV k) #[c.val] w λd e=>d=.returned (ι (Bh k c))/\lX w e:=by
 have a:k=1\/k=2\/k=3\/k=4\/k=5:=by omega
 rcases a with a | a | a | a | a <;> subst a
 ·exact LF c w
 ·exact Vd c w
 ·exact TE c w
 ·exact LF c w
 exact LF c w
def Bg(n:Nat): List Nat:=(List.range (2*n)).map (14+·)
theorem UD(n:Nat): Bg (n+1)=Bg n++[14+2*n,15+2*n]:=by
 unfold Bg;rw[show 2*(n+1)=2*n+1+1 by omega,kg,kg];simp;omega
theorem SK(a b:List (Nat×Nat)): CF (a++b)=CF a++CF b:=by simp[CF]
attribute [local go_sem ↓ 2000] Oh
attribute [local go_sem ↓] Go.wp_at_zero Go.wp_at_succ
theorem Pi(b n:Nat)(w:World)(I:n<=3):
  Calls prog 119 #[π b,ι n] w (ER w b (Bg n)):=by
 go_enter func119,ntmps119;go_wp2;go_loopw [5,8] (λh e wr=>∃a:Nat,e=ι a/\a<=n/\Hid (wr.ownsRow w.heap.size 163 1 h (2*a) (CF (at' b (Bg a))))/\Hid (lX w wr)) (λ_ e _=>n-(intOf e).toNat)
 case atStart=>exact⟨0,rfl,iT _,iy _ _ _ _,aA.refl _ _⟩
 case round =>
  obtain⟨a,rfl,E,c,d⟩:=hrel;generalize u5=h at *
  by_cases H:a<n
  ·obtain⟨q,r,A,_⟩:=D6 c.o;subst A;have L:w.heap.size<=wr.heap.size:=d.o.size;have i:=Aa (show(wr.alloc (.cells #[.pointer (some ⟨b,14+a*2,none⟩),.pointer (some ⟨b,14+a*2+1,none⟩)] 163)).drew.ownsRow w.heap.size 163 1 (.slice q (2*a) r) (2*a) (CF (at' b (Bg a))) from c.o.alloc _);obtain⟨x,u,D,o,m,k⟩:=MG (wr.alloc (.cells #[.pointer (some ⟨b,14+a*2,none⟩),.pointer (some ⟨b,14+a*2+1,none⟩)] 163)).drew w.heap.size _ (2*a) wr.heap.size _ [.pointer (some ⟨b,14+a*2,none⟩),.pointer (some ⟨b,14+a*2+1,none⟩)] i.o (iH wr _) (by simp[Value.oneCell']) (by simp) (by simp;omega) (by show w.heap.size<=(wr.alloc _).heap.size;simp;omega);have J:∀C,(Hv C (.slice q (2*a) r) (σ wr.heap.size 2 2)).run prog (wr.alloc (.cells #[.pointer (some ⟨b,14+a*2,none⟩),.pointer (some ⟨b,14+a*2+1,none⟩)] 163)).drew=.ok (.value (σ x (2*a+2) u)) D:=o;clear o;have t:=Aa m;have s:=Aa k;clear m k i;have F:(0:Int)<=(a:Int):=by omega
   have l:(a:Int)<(n:Int):=by omega
   have G:(a:Int)<3:=by omega
   go_wp2_with fail
   go_region
   go_wp2;go_roundw;case rel =>
    refine⟨a+1,by go_num,by omega,?_,?_⟩
    ·show World.ownsRow _ _ _ _ _ _ _;rw[UD];have v:at' b (Bg a++[14+2*a,15+2*a])=at' b (Bg a)++[(b,14+2*a),(b,15+2*a)]:=by simp[at']
     rw[v,SK,show 2*(a+1)=2*a+2 by omega];have j:=t.o;rw[show 14+a*2=14+2*a by omega,show 14+2*a+1=15+2*a by omega]at j;exact j
    exact((d.o.alloc _).drew).grown s.o (λB z=>Or.inr (c.o.lt B z).1)
   case measure=>simp[intOf];omega
  have l:a=n:=by omega
  subst l;go_wp2;go_ret;refine⟨h,rfl,?_,d.o⟩;have:(at' b (Bg a)).length=2*a:=by simp[at',Bg]
  rw[this];exact c.o
end
section
attribute [local go_sem ↓] AH Bs
attribute [local go_sem] AI Bt A3 A4 AJ AL Bd B2
def BV(k:Nat)(c:Cfg): List Int:=c.kind::([1,2,3].map c.num++((Cm k).map c.num++(Bg (Bh k c).toNat).map c.num))
theorem Mo{w:World}{h:Nat}{c:Cfg}{l:List Nat}(i:aD w h c.cells 46)(k:∀e,e∈l->e<20): PartsAt w (at' h l) (l.map c.num):=by
 refine⟨by simp[at'],λm p n a d=>?_⟩;unfold at' at a;rw[iS]at a d;cases ho:l[m]? with
 | none=>rw[ho]at a;cases a
 | some e =>
  rw[ho]at a d;simp only[ko,lU]at a d;subst a d;have j:=k e (iz ho);refine i.cell ?_;rw[Cfg.eX,iS];unfold Cfg.num;rw[γ,h9 (by simpa[Cfg.aI] using j)];rfl
theorem PE(k:Nat): ∀a,a∈Cm k->a<20:=by
 unfold Cm;split <;> simp
theorem Pp(n:Nat)(e:n<=3): ∀a,a∈Bg n->a<20:=by
 unfold Bg;intro a c;simp at c;obtain⟨h,d,rfl⟩:=c;omega
theorem Jh(b:Nat)(v:Value)(bs:List Nat)(i:Value)(base a:Nat)(l:List Nat)(ns:List Int)(w:World)(e:bR w b v bs)(c:w.ownsRow base 163 1 i (at' a l).length (CF (at' a l)))(k:PartsAt w (at' a l) ns)(n:¬AF b v a)(m:∀d,base<=d->¬AF b v d)(s:∀h,h∈ns->0<=h/\h<=9223372036854775807)(q:bs.length+10*ns.length<=140737488355300)(r:ns.length<=1000):
  Calls prog 74 #[π b,i] w λj t=>j=.returned (.tuple #[])/\aK w b v (bs++Ae ns) t :=
 Xe b v bs i base (at' a l) ns w e c k (λp c e=>n (by
      unfold at' at c;obtain⟨u,_,rfl⟩:=iI.1 c
      exact e)) (λd o=>m d (c.lt d o).1) s q r
structure SC (w:World) (cb kb b:Nat) (v:Value) (c:Cfg) (k:Nat) (w':World) (v':Value) (bs:List Nat):Prop where
 aF:aD w' cb c.cells 46
 gQ:aD w' kb [.func (.func (Bi k)) #[] #[],.func (.func (AU k)) #[] #[],.func (.func (AV k)) #[] #[],.func (.func (AO k)) #[] #[],.func (.func (AR k)) #[] #[],.func (.func (Be k)) #[] #[]] 75
 wr:bR w' b v' bs
 ft:∀i,AF b v' i->i<cb\/kb<i
 vv:∀i,v'.ownBlock=some i->v.ownBlock=some i\/w.heap.size<=i
 kp:aA (AF b v) w w'
 le:cb<=kb
theorem SC.still{w:World}{e h b:Nat}{v:Value}{c:Cfg}{k:Nat}{w' j:World}{i:Value}{bs:List Nat}(a:SC w e h b v c k w' i bs)(d:lX w' j): SC w e h b v c k j i bs :=
 ⟨a.aF.keeps d id,a.gQ.keeps d id,a.wr.still d,a.ft,a.vv,a.kp.trans d (λ_ a=>a.elim),a.le⟩
theorem SC.not{w:World}{d e b:Nat}{v:Value}{c:Cfg}{k:Nat}{w':World}{h:Value}{bs:List Nat}(a:SC w d e b v c k w' h bs)(i:Nat)(l:d<=i)(m:i<=e): ¬AF b h i:=λj=>by
 rcases a.ft i j with a | a <;> omega
theorem SC.wrote{w:World}{i l b:Nat}{v:Value}{c:Cfg}{k:Nat}{w' q:World}{o:Value}{bs m:List Nat}(a:SC w i l b v c k w' o bs)(r:aK w' b o m q): ∃t,SC w i l b v c k q t m:=by
 obtain⟨u,s,n,j⟩:=r;have x:=a.gQ.lt;have A:=a.kp.size;refine⟨u,a.aF.keeps j (a.not i (ir _) a.le),a.gQ.keeps j (a.not l a.le (ir _)),s,λh d=>?_,λh d=>?_,a.kp.trans j (λh d z=>?_),a.le⟩
 ·rcases d with d | d
  ·exact a.ft h (.inl d)
  rcases n h d with e | e
  ·exact a.ft h (.inr e)
  exact .inr (by omega)
 ·rcases n h d with e | e
  ·exact a.vv h e
  exact .inr (by omega)
 rcases d with d | d
 ·exact .inl d
 rcases a.vv h d with e | e
 ·exact .inr e
 omega
theorem MN(bs:List Nat)(a b:List Int): bs++Ae a++Ae b=bs++Ae (a++b):=by rw[ε,B3]
theorem Sj(b:Nat)(v:Value)(bs:List Nat)(c:Cfg)(k:Nat)(w:World)(a:bR w b v bs)(Q:c.kind=k)(t:1<=k)(x:k<=5)(bl:0<=Bh k c)(bm:Bh k c<=3)(j:∀d,d∈BV k c->0<=d/\d<=9223372036854775807)(bz:bs.length<=140737488354000):
  Calls prog 72 #[π b,c.val] w λi br=>i=.returned (.tuple #[])/\aK w b v (bs++Ae (BV k c)) br:=by
 obtain⟨o,F⟩:∃o,o=w.alloc (.cells c.cells.toArray 46):=⟨_,rfl⟩;have A:=Aa (show aD o w.heap.size c.cells 46 by rw[F];exact aD.new w _ _);have J:=Aa (show lX w o by rw[F];exact(aA.refl _ _).alloc _);have ao:=Aa (show w.alloc (.cells #[ι c.kind,ι c.aL,ι c.bF,ι c.cap,ι c.k,ι c.aB,ι c.bits,ι c.rows,ι c.width,ι c.aM,ι c.size,ι c.degree,ι c.half,ι c.mark,ι c.bV,ι c.bW,ι c.cI,ι c.cJ,ι c.cS,ι c.cT] 46)=o from F.symm);have an:=Aa (a.still J.o);have a8:=Aa (show ∀e,AF b v e->e<w.heap.size from a.lt);have C:=Aa j;have bx:=Aa Q;have a9:=Aa (show ∃d:Nat,Bh k c=d/\d<=3 from⟨(Bh k c).toNat,by omega,by omega⟩);have ad:=Aa (Qg c.kind k o Q t x);have I:=Aa (show BV k c=c.kind::([1,2,3].map c.num++((Cm k).map c.num++(Bg (Bh k c).toNat).map c.num)) from rfl);clear F a j Q bl bm;unfold Cfg.val;go_enter func72,ntmps72;go_wp2_with fail
 rw[ao.o];refine ad.o.mono ?_;rintro i s ⟨rfl,G⟩;unfold B6 fn;have am:=Aa (aD.new s [.func (.func (Bi k)) #[] #[],.func (.func (AU k)) #[] #[],.func (.func (AV k)) #[] #[],.func (.func (AO k)) #[] #[],.func (.func (AR k)) #[] #[],.func (.func (Be k)) #[] #[]] 75);have H:=G.alloc (.cells #[.func (.func (Bi k)) #[] #[],.func (.func (AU k)) #[] #[],.func (.func (AV k)) #[] #[],.func (.func (AO k)) #[] #[],.func (.func (AR k)) #[] #[],.func (.func (Be k)) #[] #[]] 75);have ab:=Aa (A.o.keeps H id);have ap:=Aa (an.o.still H);have ae:=Aa (J.o.then H);have bc:κ s w.heap.size 0 (ι c.kind):=(A.o.keeps G id).cell rfl;have b0:w.heap.size<s.heap.size:=(A.o.keeps G id).lt;clear G H ao ad A an J;go_wp2_with fail
 clear bc;generalize bf:s.heap.size=Z at *
 generalize s.alloc (.cells #[.func (.func (Bi k)) #[] #[],.func (.func (AU k)) #[] #[],.func (.func (AV k)) #[] #[],.func (.func (AO k)) #[] #[],.func (.func (AR k)) #[] #[],.func (.func (Be k)) #[] #[]] 75)=a4 at *
 clear bf s;generalize bd:w.heap.size=h at *
 clear bd;have ar:=C.o c.kind (by rw[I.o];simp);have M:=Aa (show SC w h Z b v c k a4 v bs from⟨ab.o,am.o,ap.o,λe q=>.inl (a8.o e q),λe q=>.inl q,ae.o.mono (λ_ _ a=>a.elim),by omega⟩);clear ab am ap ae;have L:=Aa (show(Cm k).length<=4 by unfold Cm;split <;> simp);obtain⟨r,U,ay⟩:=a9.o;have ba:=Aa U;have ai:=Aa (show(Bg r).length<=6 by simp[Bg];omega);have B:=Aa (show BV k c=[c.kind]++[1,2,3].map c.num++(Cm k).map c.num++(Bg r).map c.num by rw[I.o,U,iM];simp);clear U I;refine(FL b v bs c.kind a4 M.o.wr ar.1 ar.2 (by omega)).mono ?_;rintro i a5 ⟨rfl,az⟩;obtain⟨bn,V⟩:=M.o.wrote az;rw[<-En]at V;have N:=Aa V;clear az V M;go_wp2_with fail
 refine(NO h a5).mono ?_;rintro i bt ⟨a3,rfl,R,au⟩;obtain⟨b1,b4,z,_⟩:=D6 R;subst z;have af:=Aa N.o.wr.lt;have l:=Aa (N.o.still au);have aj:=Aa R;clear R au N;go_wp2_with fail
 refine(Jh b bn _ _ a5.heap.size h [1,2,3] ([1,2,3].map c.num) bt l.o.wr aj.o (Mo l.o.aF (by simp)) (l.o.not h (ir _) l.o.le) (λe q a=>by have:=af.o e a;omega) (λd j=>C.o d (by rw[B.o];simp only[ik];exact .inl (.inl (.inr j)))) (by have:=Cu [c.kind];simp[En]at this ⊢;have u:=Cu [c.kind];simp at u;omega) (by simp)).mono ?_;rintro i aa ⟨rfl,a0⟩;obtain⟨bo,W⟩:=l.o.wrote a0;rw[MN]at W;have D:=Aa W;clear a0 W l aj af;have bj:κ aa Z 1 (.func (.func (AU k)) #[] #[]):=D.o.gQ.cell rfl;have bg:=Pq k t x;go_wp2_with fail
 refine(Pw k h aa t x).mono ?_;rintro i bu ⟨a3,rfl,S,av⟩;obtain⟨b2,b5,z,_⟩:=D6 S;subst z;have ag:=Aa D.o.wr.lt;have m:=Aa (D.o.still av);have ak:=Aa S;clear S av D bj bg;go_wp2_with fail
 refine(Jh b bo _ _ aa.heap.size h (Cm k) ((Cm k).map c.num) bu m.o.wr (by have:=ak.o;exact this) (Mo m.o.aF (PE k)) (m.o.not h (ir _) m.o.le) (λe q a=>by have:=ag.o e a;omega) (λd j=>C.o d (by rw[B.o];simp only[ik];exact .inl (.inr j))) (by have u:=Cu ([c.kind]++[1,2,3].map c.num);have aq:=L.o;simp at u ⊢;omega) (by have aq:=L.o;simp;omega)).mono ?_;rintro i a6 ⟨rfl,a1⟩;obtain⟨bp,X⟩:=m.o.wrote a1;rw[MN]at X;have E:=Aa X;clear a1 X m ak ag;have bk:κ a6 Z 2 (.func (.func (AV k)) #[] #[]):=E.o.gQ.cell rfl;obtain⟨bi,be⟩:=CM E.o.aF 20 rfl;have bh:=PS k t x;go_wp2_with fail
 refine(PC k c a6 t x).mono ?_;rintro i a7 ⟨rfl,aw⟩;rw[ba.o];have O:=Aa (E.o.still aw);clear aw E bk bh bi be;go_wp2_with fail
 refine(Pi h r a7 ay).mono ?_;rintro i bv ⟨a3,rfl,T,ax⟩;obtain⟨b3,b6,z,_⟩:=D6 T;subst z;have ah:=Aa O.o.wr.lt;have n:=Aa (O.o.still ax);have al:=Aa T;clear T ax O;go_wp2_with fail
 refine(Jh b bp _ _ a7.heap.size h (Bg r) ((Bg r).map c.num) bv n.o.wr (by have:=al.o;exact this) (Mo n.o.aF (Pp r ay)) (n.o.not h (ir _) n.o.le) (λe q a=>by have:=ah.o e a;omega) (λd j=>C.o d (by rw[B.o];simp only[ik];exact .inr j)) (by have u:=Cu ([c.kind]++[1,2,3].map c.num++(Cm k).map c.num);have aq:=L.o;have bb:=ai.o;simp at u ⊢;omega) (by have bb:=ai.o;simp;omega)).mono ?_;rintro i b7 ⟨rfl,a2⟩;obtain⟨bq,Y⟩:=n.o.wrote a2;rw[MN,<-B.o]at Y;have P:=Aa Y;clear a2 Y n al ah;go_wp2;go_end0;exact⟨rfl,bq,P.o.wr,P.o.vv,P.o.kp⟩
end
section
theorem GN{b:Nat}{v h:Value}{s c:Nat}(e:¬AF b v c)(i:∀d,h.ownBlock=some d->v.ownBlock=some d\/s<=d)(j:c<s): ¬AF b h c:=by
 rintro (a | a)
 ·exact e (.inl a)
 rcases i c a with a | a
 ·exact e (.inr a)
 omega
theorem aK.pre{w c d:World}{b:Nat}{v:Value}{bs:List Nat}(h:lX w c)(a:aK c b v bs d): aK w b v bs d :=
 aK.then (λ_ e=>.inl e) (h.mono (λ_ _ a=>a.elim)) a
def Cz(l:List Dr.It): List Int:=l.flatMap λx=>[x.n,x.t,x.k,x.d]
theorem O7(a b:List Dr.It): Cz (a++b)=Cz a++Cz b:=by simp[Cz]
theorem Og(l:List Dr.It): (Cz l).length=4*l.length:=by
 induction l with
 | nil=>rfl
 | cons c l a=>simp[Cz]at a ⊢;omega
theorem PN(a:List Dr.It)(k:Nat)(c:k<a.length): Cz (a.take (k+1))=Cz (a.take k)++[(Dr.itAt a k).n,(Dr.itAt a k).t,(Dr.itAt a k).k,(Dr.itAt a k).d]:=by
 rw[ji,O7,h9 c];simp[Cz,Dr.itAt,List.getD_eq_getElem?_getD,h9 c]
theorem WT{w:World}{e:Nat}{t k h:Int}{l:List Value}{T:Nat}(d:aD w e (ι t::ι k::ι h::l) T): PartsAt w (at' e [0,1,2]) [t,k,h]:=by
 refine⟨by simp[at'],λi p j a c=>?_⟩
 match i with
 | 0=>simp[at']at a c;subst a c;exact d.cell rfl
 | 1=>simp[at']at a c;subst a c;exact d.cell rfl
 | 2=>simp[at']at a c;subst a c;exact d.cell rfl
 | i+3=>simp[at']at a
theorem UV(x I:Nat)(W:Option Nat)(c:Cfg)(l:List Dr.It)(b:Nat)(v:Value)(bs:List Nat)(m:Int)(w:World)(i:dN w x I W c l)(U:bR w b v bs)(bg:l.length<=6)(k:∀e,e∈Cz (Dr.allL (l.length+1) l)->0<=e/\e<=9223372036854775807)(bc:bs.length<=140737488354000):
  Calls prog 161 #[π x,π b,ι m] w λj a8=>j=.returned (.tuple #[])/\aK w b v (bs++Ae (Cz (Dr.allL (l.length+1) l))) a8:=by
 have az:κ w x 20 (π I):=i.aF.cell rfl;have o:=Rl I W l w i.dM (by omega);clear i;generalize Dr.allL (l.length+1) l=h at *
 generalize l.length=e at *
 have J:=Aa o;have P:=Aa U;have am:=Aa k;clear U k o;go_enter func161,ntmps161;go_wp2_with fail
 refine J.o.mono ?_;rintro j Q ⟨g,bb,rfl,a1,S,hlen,A⟩;have ao:=Aa S;have M:=Aa hlen;have af:=Aa A;have ae:=Aa (show ¬AF b v g from λz=>by have:=P.o.lt g z;omega);have au:=Aa (P.o.still A);have bi:e<=6:=by omega
 clear S hlen A a1 az J;go_wp2_with fail
 go_loopw [14] (λq wr=>∃(d:Nat),q=ι d/\d<=e/\Hid (aK Q b v (bs++Ae (Cz (h.take d))) wr)) (λq _=>e-(intOf q).toNat)
 case atStart=>exact⟨0,rfl,iT _,by show aK _ _ _ _ _;simp only[jP,Cz,kI,Dv,iC];exact aK.refl au.o⟩
 case round =>
  obtain⟨d,rfl,be,u⟩:=hrel;by_cases a2:d<e
  ·obtain⟨X,H,T,D⟩:=u.o;have C:d<h.length:=by rw[M.o];exact a2
   obtain⟨bm,bn,bo,bp,bq⟩:=(ao.o.keeps D ae.o).cells d C;have ap:=Aa (PN h d C)
   have O:=Aa (show ∀e,e∈[(Dr.itAt h d).n,(Dr.itAt h d).t,(Dr.itAt h d).k,(Dr.itAt h d).d]->0<=e/\e<=9223372036854775807 from λe k=>am.o e (by
        have j:Cz (h.take (d+1)++h.drop (d+1))=Cz h:=by rw[τ]
        rw[<-j,O7,PN h d C];simp only[ik]
        exact .inl (.inr k)))
   have ak:=Aa H.lt;have ay:=Aa H;have ar:=Aa T;have ai:=Aa D;have bf:(0:Int)<=(d:Int):=by omega
   have R:(d:Int)<(e:Int):=by omega
   generalize Dr.itAt h d=a at *
   have bh:(bs++Ae (Cz (h.take d))).length<=140737488354240:=by
    have a0:=Cu (Cz (h.take d));rw[Og,iG]at a0;rw[ic];omega
   clear H T D u;obtain⟨n,s⟩:∃n,n=wr.alloc (.cells #[ι a.t,ι a.k,ι a.d,ι a.n,ι a.v] 247):=⟨_,rfl⟩;have t:=Aa (show aD n wr.heap.size [ι a.t,ι a.k,ι a.d,ι a.n,ι a.v] 247 by rw[s];exact aD.new wr _ _);have L:=Aa (show lX wr n by rw[s];exact(aA.refl _ _).alloc _);have ax:=Aa (ay.o.still L.o);have N:=Aa (show ¬AF b X wr.heap.size from λz=>by have:=ak.o _ z;omega);obtain⟨a5,a6⟩:=O.o a.n (by simp);have ab:=Aa s.symm;clear s;go_wp2_with fail
   rw[ab.o];refine(FL b X _ a.n n ax.o a5 a6 (by omega)).mono ?_;rintro j Y ⟨rfl,a7,G,F,B⟩;have a3:wr.heap.size<n.heap.size:=t.o.lt;have Z:=Aa (t.o.keeps B N.o);have al:=Aa (GN N.o F a3);have av:=Aa G;have aq:=Aa F;have ag:=Aa B;have aj:=Aa G.lt;clear G F B t;go_wp2_with fail
   refine(MU wr.heap.size Y).mono ?_;rintro j a9 ⟨bl,rfl,E,r⟩;obtain⟨bj,bk,a4,_⟩:=D6 E;subst a4;have aw:=Aa (av.o.still r);have aa:=Aa (Z.o.keeps r id);have an:=Aa E;have ah:=Aa r;clear E r;go_wp2_with fail
   refine(Jh b a7 _ _ Y.heap.size wr.heap.size [0,1,2] [a.t,a.k,a.d] a9 aw.o an.o (WT aa.o) al.o (λq bd i=>by have:=aj.o q i;omega) (λe k=>O.o e (by simp at k ⊢;exact .inr k)) (by have:=Dt a.n;rw[ic];show _+10*3<=_;omega) (by simp)).mono ?_;rintro j ba ⟨rfl,V⟩
   have ad:=Aa (show aK Q b v (bs++Ae (Cz (h.take (d+1)))) ba by
      have o:=aK.then ar.o ai.o (aK.pre L.o (aK.then aq.o ag.o (aK.pre ah.o V)));rw[ap.o,B3];have j:Ae [a.n,a.t,a.k,a.d]=enc a.n++Ae [a.t,a.k,a.d]:=BQ _ _;rw[j];simp only[ε]at o ⊢
      exact o)
   clear V;go_wp2;go_roundw;case rel=>exact⟨d+1,by go_num,by omega,ad⟩
   case measure=>simp[intOf];omega
  have R:d=e:=by omega
  subst R;go_wp2;go_end0;refine⟨rfl,?_⟩;have i:=u.o;rw[<-M.o,lg]at i;exact aK.pre af.o i
end
section
attribute [local go_sem ↓] Mk.execOp_fieldMk
attribute [local go_sem] Mk.run_fieldMk0 Mk.run_fieldMk1
theorem aK.kp{w a:World}{b:Nat}{v:Value}{bs:List Nat}(c:aK w b v bs a): aA (AF b v) w a:=by obtain⟨_,_,_,d⟩:=c;exact d
theorem aK.still{w d e:World}{b:Nat}{v:Value}{bs:List Nat}(a:aK w b v bs d)(c:lX d e): aK w b v bs e:=by
 obtain⟨k,h,i,j⟩:=a;exact⟨k,h.still c,i,j.trans c (λ_ a=>a.elim)⟩
theorem CR(b:Nat)(v:Value)(bs:List Nat)(n:Int)(w a:World)(j:aK w b v bs a)(m:0<=n)(n1:n<=9223372036854775807)(l:bs.length<=140737488355300):
  Calls prog 47 #[π b,ι n] a λc d=>c=.returned (.tuple #[])/\aK w b v (bs++enc n) d:=by
 obtain⟨o,e,h,i⟩:=j;exact(FL b o bs n a e m n1 l).mono λc d ⟨k,hw⟩=>⟨k,aK.then h i hw⟩
def CE(l:List Bk): List Int:=l.flatMap λb=>[b.sz,b.t]
theorem Ta(a b:List Bk): CE (a++b)=CE a++CE b:=by simp[CE]
theorem NA(l:List Bk): (CE l).length=2*l.length:=by
 induction l with
 | nil=>rfl
 | cons c l a=>simp[CE]at a ⊢;omega
def EM(l:List Bk)(t:Int): List Int:=((l.length-Mk.pastN l t:Nat):Int)::CE (l.drop (Mk.pastN l t))
theorem TX(l:List Bk)(t:Int): (EM l t).length<=1+2*l.length:=by
 unfold EM;rw[iD,NA,iU];omega
def DI(ls:Nat->List Bk)(n:Nat)(t:Int): List Int:=(List.range n).flatMap λi=>EM (ls i) t
theorem PV(a:Nat->List Bk)(n:Nat)(t:Int): DI a (n+1) t=DI a n t++EM (a n) t:=by
 simp[DI,kg]
theorem Of(a:Nat->List Bk)(n:Nat)(t:Int)(c:∀d,(a d).length<=40): (DI a n t).length<=81*n:=by
 induction n with
 | zero=>simp[DI]
 | succ n i=>have e:=TX (a n) t;have h:=c n;rw[PV,ic];omega
theorem Vw(l:List Bk)(p j:Nat)(x:Bk)(a:p+j<l.length)(d:Ad l (p+j)=x): CE ((l.drop p).take (j+1))=CE ((l.drop p).take j)++[x.sz,x.t]:=by
 have c:j<(l.drop p).length:=by rw[iU];omega
 rw[ji,Ta,h9 c];subst d;simp[CE,Ad,List.getD_eq_getElem?_getD,h9 a]
theorem zKe{l:List Bk}{i:Nat}(a:i<l.length): Ad l i∈l:=by
 have:Ad l i=l[i]:=by simp[Ad,List.getD_eq_getElem?_getD,h9 a]
 rw[this];exact jk a
theorem U8(A B:Nat)(s:List (Nat×Option Nat))(c:Cfg)(k:Nat->List Bk)(b:Nat)(v:Value)(bs:List Nat)(m:Int)(w:World)(S:dA w A B s c k)(ao:bR w b v bs)(E:∀h,AF b v h->h≠A/\h≠B/\∀i,i<s.length->¬qf (Ar s i) h)(bb:s.length<=16)(bx:0<=c.aB)(bz:c.aB<=1000)(bu:-100<=m)(bv:m<=4611686018427387904)(G:∀h,(k h).length<=40)(M:∀h,∀b∈k h,0<=b.sz/\b.sz<=4611686018427387904/\1<=b.t/\b.t<=40)(bg:bs.length<=140737488300000):
  Calls prog 145 #[π A,π b,ι m] w λq j=>q=.returned (.tuple #[])/\aK w b v (bs++Ae (DI k s.length (m-c.aB))) j:=by
 obtain⟨r,I⟩:∃r,r=s.length:=⟨_,rfl⟩;have a5:κ w A 20 (σ B r r):=by rw[I];exact S.aF.cell rfl
 have X:=Aa (show ∀j,aA (AF b v) w j->dA j A B s c k from λj ai=>S.keeps ai (λF=>(E A F).1 rfl) (λF=>(E B F).2.1 rfl) (λi a4 ah ba F=>(E a4 F).2.2 i ah ba));have a0:=Aa ao;have P:=Aa G;have az:=Aa M;have av:=Aa I;rw[<-I]at bb ⊢;obtain⟨l,bc⟩:∃l,m-c.aB=l:=⟨_,rfl⟩;rw[bc];have br:IntKind.i64.wrap (m-c.aB)=l:=by rw[il];omega
 clear S ao E G M I;have bo:(0:Int)<=(r:Int):=by omega
 go_enter func145,ntmps145;go_wp2_with fail
 clear a5;go_loopw [15] (λh wr=>∃(a:Nat),h=ι a/\a<=r/\Hid (aK w b v (bs++Ae (DI k a l)) wr)) (λh _=>r-(intOf h).toNat)
 case atStart=>exact⟨0,rfl,iT _,by show aK _ _ _ _ _;simp only[DI,List.range_zero,kI,Dv,iC];exact aK.refl a0.o⟩
 case round =>
  obtain⟨a,rfl,ai,C⟩:=hrel;have bj:(0:Int)<=(a:Int):=by omega
  by_cases bn:a<r
  ·have bk:(a:Int)<(r:Int):=by omega
   have T:a<s.length:=by have:=av.o;omega
   have O:=Aa (X.o wr C.o.kp);obtain⟨e,W⟩:∃e,Ar s a=e:=⟨_,rfl⟩;have a6:κ wr B a (π e.1):=by rw[<-W];exact O.o.fK.cell (Io T)
   have c5:=O.o.aF.c5;have x:=Aa (show ∀j,aA (AF b v) w j->Mk.aH j e.1 e.2 (k a) from λj a8=>by rw[<-W];exact(X.o j a8).row a T);have H:=Aa (Mk.past_any e.1 e.2 (k a) l wr (x.o wr C.o.kp) (by have:=P.o a;omega));have Y:=Aa (PV k a l);have au:=Aa (Of k a l P.o);obtain⟨d,G⟩:∃d,k a=d:=⟨_,rfl⟩;have ad:=Aa (az.o a);have am:=P.o a;rw[G]at ad H x Y am;have an:=Mk.pastN_le d l;obtain⟨len,hlen⟩:∃len,d.length=len:=⟨_,rfl⟩;obtain⟨p,U⟩:∃p,Mk.pastN d l=p:=⟨_,rfl⟩;have ae:=Aa (show EM d l=((len-p:Nat):Int)::CE (d.drop p) by unfold EM;rw[U,hlen]);rw[U]at H an;rw[hlen]at an am;have z:=Aa hlen;obtain⟨o,M⟩:∃o:Nat,len-p=o:=⟨_,rfl⟩;have bq:(len:Int)-(p:Int)=(o:Int):=by omega
   have bt:IntKind.i64.wrap ((len:Int)-(p:Int))=(o:Int):=by rw[il];omega
   rw[M]at ae;clear G hlen U W T O;go_wp2_with fail
   refine H.o.mono ?_;rintro q a1 ⟨rfl,aj⟩;have Q:=Aa (C.o.still aj);clear aj a6 c5 H;go_wp2_with (go_at_call 187;refine(Mk.rowLen_int e.1 e.2 d len _ (x.o _ Q.o.kp) (by rw[z.o])).mono ?_;rintro q j ⟨rfl,u⟩;rw[u];clear u j)
   have bl:(bs++Ae (DI k a l)).length<=140737488320000:=by
    have ag:=Cu (DI k a l);have a7:=au.o;rw[ic];omega
   refine(CR b v _ o w a1 Q.o (by omega) (by omega) (by omega)).mono ?_;rintro q bd ⟨rfl,ap⟩;have ax:=Aa ap;clear ap Q C;go_wp2_with fail
   go_loopw [9] (λh wr=>∃(i:Nat),h=ι ((p+i:Nat):Int)/\i<=o/\Hid (aK w b v (bs++Ae (DI k a l)++enc o++Ae (CE ((d.drop p).take i))) wr)) (λh _=>len-(intOf h).toNat)
   case atStart=>exact⟨0,rfl,iT _,by show aK _ _ _ _ _;simp only[jP,CE,kI,Dv,iC];exact ax.o⟩
   case round =>
    obtain⟨i,rfl,ah,D⟩:=hrel;obtain⟨n,J⟩:∃n,p+i=n:=⟨_,rfl⟩;rw[J];by_cases bi:i<o
    ·have V:n<len:=by omega
     have bp:(n:Int)<(len:Int):=by omega
     have L:n<d.length:=by rw[z.o];exact V
     obtain⟨t,N⟩:∃t,Ad d n=t:=⟨_,rfl⟩;have af:=Aa N;have aw:=Aa (Vw d p i t (by rw[J];exact L) (by rw[J];exact N));obtain⟨b0,b1,b2,b3⟩:=ad.o t (by rw[<-N];exact zKe L);have ab:=Aa L;have bm:(bs++Ae (DI k a l)++enc o++Ae (CE ((d.drop p).take i))).length<=140737488330000:=by
      have ag:=Cu (CE ((d.drop p).take i));have a7:=Dt o;rw[NA,iG,iU,z.o]at ag;rw[ic,ic];omega
     clear N L
     go_wp2_with (first
        | (go_at_call 187;refine(Mk.rowLen_int e.1 e.2 d len _ (x.o _ D.o.kp) (by rw[z.o])).mono ?_;rintro q j ⟨rfl,u⟩;rw[u];clear u j)
        | (go_at_call 188;fail))
     refine(Mk.rowAt_is e.1 e.2 d n t _ (x.o _ D.o.kp) ab.o af.o).mono ?_;rintro q a2 ⟨rfl,ak⟩;have Z:=Aa (D.o.still ak);clear ak;go_wp2_with fail
     refine(CR b v _ t.sz w a2 Z.o (by omega) (by omega) (by omega)).mono ?_;rintro q be ⟨rfl,aq⟩;have R:=Aa aq;clear aq Z;go_wp2_with fail
     refine(Mk.rowAt_is e.1 e.2 d n t _ (x.o _ R.o.kp) ab.o af.o).mono ?_;rintro q a3 ⟨rfl,al⟩;have aa:=Aa (R.o.still al);clear al R;go_wp2_with fail
     refine(CR b v _ t.t w a3 aa.o (by omega) (by omega) (by have:=Dt t.sz;rw[ic];omega)).mono ?_;rintro q bf ⟨rfl,ar⟩;have ay:=Aa ar;clear ar aa;go_wp2;go_roundw;case rel =>
      refine⟨i+1,by go_num,by omega,?_⟩;show aK _ _ _ _ _;have:=ay.o;rw[aw.o,B3,BQ,En];simp only[ε]at this ⊢;exact this
     case measure=>simp[intOf];omega
    have bh:i=o:=by omega
    have V:n=len:=by omega
    clear J;subst V;have E:decide ((n:Int)<(n:Int))=false:=by simp
    go_wp2_with (go_at_call 187;refine(Mk.rowLen_int e.1 e.2 d n _ (x.o _ D.o.kp) (by rw[z.o])).mono ?_;rintro q j ⟨rfl,u⟩;rw[u];clear u j)
    go_roundw;case rel =>
     refine⟨a+1,by go_num,by omega,?_⟩;show aK _ _ _ _ _;have:=D.o;rw[Y.o,ae.o,B3,BQ];rw[iw (by rw[iU,z.o];omega)]at this;simp only[ε]at this ⊢;exact this
    case measure=>simp[intOf];omega
  have a9:a=r:=by omega
  subst a9;go_wp2;go_end0;exact⟨rfl,C.o⟩
end
section
attribute [local go_sem ↓] Pa.execOp_loadP Pa.execOp_storeP H8 H5 H6 JV
attribute [local go_sem] Pa.run_loadP Im Ii Ib Em A3 A4 Kq Js
def CQ(wd:Nat)(cs:List Int)(r:Nat): List Int:=(List.range wd).map λj=>cs.getD (r*16+j) 0
def Eo(rs wd:Nat)(cs:List Int): List Int:=(List.range rs).flatMap (CQ wd cs)
def FY(c:Cfg)(p:Pa.Pn): List Int:=p.no::Eo c.rows.toNat c.width.toNat p.cs
def Co(c:Cfg)(l:List Pa.Pn): List Int:=l.flatMap (FY c)
def Hr(c:Cfg)(o:Pa.Pn)(cl:List Pa.Pn)(t:Int): List Int:=((A6 c o cl t).length:Int)::Co c (A6 c o cl t)
theorem Kw(c:Nat)(cs:List Int)(a:Nat): CQ (c+1) cs a=CQ c cs a++[cs.getD (a*16+c) 0]:=by simp[CQ,kg]
theorem O4(a c:Nat)(cs:List Int): Eo (a+1) c cs=Eo a c cs++CQ c cs a:=by simp[Eo,kg]
theorem Om(a:Nat)(cs:List Int)(c:Nat): (CQ a cs c).length=a:=by simp[CQ]
theorem N6(a c:Nat)(cs:List Int): (Eo a c cs).length=a*c:=by
 induction a with
 | zero=>simp[Eo]
 | succ e d=>rw[O4,ic,Om,d,Nat.succ_mul]
theorem SF(c:Cfg)(a b:List Pa.Pn): Co c (a++b)=Co c a++Co c b:=by simp[Co]
theorem T2(c:Cfg)(p:Pa.Pn)(d:c.rows.toNat<=3)(a:c.width.toNat<=16): (FY c p).length<=49:=by
 unfold FY;rw[iD,N6];have:=Nat.mul_le_mul d a;omega
theorem NE(c:Cfg)(l:List Pa.Pn)(e:c.rows.toNat<=3)(d:c.width.toNat<=16): (Co c l).length<=49*l.length:=by
 induction l with
 | nil=>simp[Co]
 | cons p l i =>
  have h:=T2 c p e d;have a:Co c (p::l)=FY c p++Co c l:=by simp[Co]
  rw[a,ic,iD];omega
theorem Us(c:Cfg)(a:List Pa.Pn)(k:Nat)(d:k<a.length): Co c (a.take (k+1))=Co c (a.take k)++FY c (Pa.pnAt a k):=by
 rw[jm d,SF];congr 1;simp[Co,Pa.pnAt,List.getD_eq_getElem?_getD,h9 d]
theorem U9(l J:Nat)(bi:Option Nat)(c:Cfg)(o:Pa.Pn)(cl:List Pa.Pn)(b:Nat)(v:Value)(bs:List Nat)(m:Int)(w:World)(i:cR w l J bi c o cl)(bd:bR w b v bs)(a4:¬AF b v l)(O:c.paned)(a6:cl.length<=1000)(ae:∀p∈cl,CK c p)(ab:CK c o)(a2:∀a∈o.cs,0<=a/\a<=4611686018427387904)(a7:∀p∈cl,∀a∈p.cs,0<=a/\a<=4611686018427387904)(cx:0<=c.rows)(cy:c.rows<=3)(db:0<=c.width)(dc:c.width<=16)(d7:-100<=m)(d8:m<=4611686018427387904)(di:bs.length<=140737480000000):
  Calls prog 150 #[π l,π b,ι m] w λG u=>G=.returned (.tuple #[])/\aK w b v (bs++Ae (Hr c o cl (m-c.aB))) u:=by
 have c5:κ w l 5 (ι c.aB):=i.aF.cell (by rw[Ch c o J 5 (by omega)];rfl);have c7:κ w l 7 (ι c.rows):=i.aF.cell (by rw[Ch c o J 7 (by omega)];rfl);have c8:κ w l 8 (ι c.width):=i.aF.cell (by rw[Ch c o J 8 (by omega)];rfl);have a3:=i.aF.lt;have d4:=O.w0;have d5:=O.w1;obtain⟨t,ba⟩:∃t,m-c.aB=t:=⟨_,rfl⟩;have cs:IntKind.i64.wrap (m-c.aB)=t:=by rw[il];omega
 rw[ba];have aq:=Aa (PX l J bi c o cl t w i O a6 ae ab);have b5:=Aa (show Hr c o cl t=((A6 c o cl t).length:Int)::Co c (A6 c o cl t) from rfl)
 have b4:=Aa (show(A6 c o cl t).length<=1001 by
    unfold A6;rw[ic,iU]
    split <;> simp <;> omega)
 have bv:=Aa (show ∀p∈A6 c o cl t,CK c p/\∀a∈p.cs,0<=a/\a<=4611686018427387904 from λp a9=>by
    unfold A6 at a9;rcases ik.1 a9 with q | q
    ·exact⟨ae p (iE q),a7 p (iE q)⟩
    split at q
    ·rw[im]at q;rw[q];exact⟨ab,a2⟩
    cases q)
 generalize A6 c o cl t=k at *
 have av:=Aa bd;have R:=Aa a4;obtain⟨r,af⟩:∃r:Nat,c.rows=r:=⟨c.rows.toNat,by omega⟩;obtain⟨j,ag⟩:∃j:Nat,c.width=j:=⟨c.width.toNat,by omega⟩;have b3:=Aa (show ∀p,FY c p=p.no::Eo r j p.cs from λp=>by unfold FY;rw[af,ag];rfl);have ar:=Aa (show c.rows.toNat<=3/\c.width.toNat<=16 by omega);rw[af]at c7 cy;rw[ag]at c8 dc;clear O ae ab a2 a7 i a6 bd a4 ba af ag cx db;have d3:r<=3:=by omega
 have cu:j<=16:=by omega
 go_enter func150,ntmps150;go_wp2_with fail
 refine aq.o.mono ?_;rintro G A ⟨d9,rfl,ad,C⟩;obtain⟨ea,da,ct,bb⟩:=D6 ad;subst ct;have bx:=Aa av.o.lt;have aw:=Aa (aK.refl (av.o.still C));have bu:=Aa C;have b2:=Aa ad;have b7:=Aa bb;have az:κ A l 7 (ι r):=C.cell c7 id;have a0:κ A l 8 (ι j):=C.cell c8 id;have cf:l<A.heap.size:=kN a3 C.size;have br:=Aa az;have bt:=Aa a0;clear C aq ad bb c5 c7 c8 az a0 a3 cs;generalize a8:k.length=s at *
 have T:=Aa a8;clear a8;have dw:s<=1001:=b4.o;go_wp2_with fail
 refine(CR b v bs s A A aw.o (by omega) (by omega) (by omega)).mono ?_;rintro G x ⟨rfl,be⟩;have ao:=Aa be;clear be aw;have cm:(bs++enc (s:Int)).length<=140737480000010:=by have:=Dt (s:Int);rw[ic];omega
 obtain⟨F,Y⟩:∃F,bs++enc (s:Int)=F:=⟨_,rfl⟩;rw[Y]at cm ao;have bl:=Aa Y;clear Y;go_wp2_with fail
 go_loopw [26] (λn wr=>∃e:Nat,n=ι e/\e<=s/\Hid (aK A b v (F++Ae (Co c (k.take e))) wr)) (λn _=>s-(intOf n).toNat)
 case atStart=>exact⟨0,rfl,iT _,by show aK _ _ _ _ _;simp only[jP,Co,kI,Dv,iC];exact ao.o⟩
 case round =>
  obtain⟨e,rfl,du,U⟩:=hrel;have dt:(0:Int)<=(e:Int):=by omega
  by_cases cn:e<s
  ·obtain⟨g,ch,dl⟩:=b7.o (by omega);subst ch;have I:e<k.length:=by rw[T.o];exact cn
   obtain⟨z,Q,bc,aa⟩:=U.o
   have aj:=Aa (show Pa.aY wr g da k from by
      refine Pa.brow_of_owns T.o (Qj (FB b2.o aa (λn ci i=>?_)));have:g=n:=by simpa[Value.ownBlock] using ci
      have:=bx.o n i
      omega)
   have P:=D4 (aj.o.range e I);rw[Pa.Pn.aE]at P;have cd:Ap wr g (e*49) 49=.agg (Pa.pnAt k e).cells.toArray:=by unfold Ap;rw[P.1]
   have cc:Az wr g (e*49) 49=true:=P.2;have b6:=Aa (Us c k e I)
   have S:=Aa (bv.o (Pa.pnAt k e) (by
        have:Pa.pnAt k e=k[e]:=by simp[Pa.pnAt,List.getD_eq_getElem?_getD,h9 I]
        rw[this];exact jk I))
   have al:=Aa (show(F++Ae (Co c (k.take e))).length<=140737481000000 by
      have q:=Cu (Co c (k.take e));have a1:=NE c (k.take e) ar.o.1 ar.o.2;rw[iG]at a1;rw[ic]
      omega)
   obtain⟨D,X⟩:∃D,F++Ae (Co c (k.take e))=D:=⟨_,rfl⟩;rw[X]at al Q;have bn:=Aa X;have ax:=Aa Q;have au:=Aa bc;have L:=Aa aa;have am:=Aa Q.lt;clear P I X Q bc aa U;generalize Pa.pnAt k e=a at *
   obtain⟨x,cr,W,H⟩:=M3 a wr;have bm:=Aa W;have d6:=a.len;have ak:=Aa H;have b8:=Aa (ax.o.still H);have bz:=Aa (show ¬AF b z wr.heap.size from λcg=>by have:=am.o _ cg;omega);have an:=Aa (GN R.o au.o cf);have dm:(e:Int)<(s:Int):=by omega
   have co:=W.c0;have bp:=Aa (show ∀u,aA (AF b z) x u->κ u l 7 (ι r) from λu Z=>Z.cell (H.cell (L.o.cell br.o R.o) id) an.o);have bq:=Aa (show ∀u,aA (AF b z) x u->κ u l 8 (ι j) from λu Z=>Z.cell (H.cell (L.o.cell bt.o R.o) id) an.o);have cp:=S.o.1.1;have dx:=S.o.1.2.1;have b9:=Aa S.o.2;have dh:=al.o;clear W H;go_wp2_with fail
   refine(FL b z D a.no x b8.o cp (by omega) (by omega)).mono ?_;rintro G ay ⟨rfl,bf⟩;have ap:=Aa bf;clear bf co cd cc cr;have ca:κ ay l 7 (ι r):=bp.o ay ap.o.kp;go_wp2_with fail
   clear ca;generalize cw:wr.heap.size=de at *
   obtain⟨bj,bh⟩:∃bj,bj=wr:=⟨_,rfl⟩;rw[<-bh]at ak L aj;clear bh cw ax am;go_loopw [39] (λn wr=>∃d:Nat,n=ι d/\d<=r/\Hid (aK x b z (D++enc a.no++Ae (Eo d j a.cs)) wr)) (λn _=>r-(intOf n).toNat)
   case atStart=>exact⟨0,rfl,iT _,by show aK _ _ _ _ _;simp only[Eo,List.range_zero,kI,Dv,iC];exact ap.o⟩
   case round =>
    obtain⟨d,rfl,dz,M⟩:=hrel;have dy:(0:Int)<=(d:Int):=by omega
    by_cases d2:d<r
    ·have d1:(d:Int)<(r:Int):=by omega
     have d0:(d:Int)<3:=by omega
     have cb:κ wr l 8 (ι j):=bq.o wr M.o.kp;obtain⟨E,N⟩:∃E,D++enc a.no++Ae (Eo d j a.cs)=E:=⟨_,rfl⟩;have dj:E.length<=140737481001000:=by
      have q:=Cu (Eo d j a.cs);have a1:=Dt a.no;rw[N6]at q;have:=Nat.mul_le_mul (show d<=3 by omega) cu;rw[<-N,ic,ic];omega
     rw[N]at M;have bo:=Aa N;clear N;go_wp2_with fail
     clear cb;obtain⟨bk,cv⟩:∃bk,bk=wr:=⟨_,rfl⟩;clear cv;go_loopw [47] (λn wr=>∃h:Nat,n=ι h/\h<=j/\Hid (aK x b z (E++Ae (CQ h a.cs d)) wr)) (λn _=>j-(intOf n).toNat)
     case atStart=>exact⟨0,rfl,iT _,by show aK _ _ _ _ _;simp only[CQ,List.range_zero,kq,Dv,iC];exact M.o⟩
     case round =>
      obtain⟨h,rfl,dq,V⟩:=hrel;have dn:(0:Int)<=(h:Int):=by omega
      by_cases ds:h<j
      ·have dr:(h:Int)<(j:Int):=by omega
       have dp:(h:Int)<16:=by omega
       have a5:d*16+h<a.cs.length:=by omega
       obtain⟨y,ah⟩:∃y,a.cs.getD (d*16+h) 0=y:=⟨_,rfl⟩;have ai:a.cs[d*16+h]?=some y:=by rw[<-ah,γ,h9 a5];rfl
       obtain⟨df,eb⟩:=b9.o y (iz ai)
       have ce:κ wr de (1+d*16+h) (ι y):=V.o.kp.cell (bm.o.cell (by
            unfold Pa.Pn.cells;rw[show 1+d*16+h=(d*16+h)+1 by omega,k3,iS,ai]
            rfl)) bz.o
       have b0:=Aa (show CQ (h+1) a.cs d=CQ h a.cs d++[y] by rw[Kw,ah]);have dk:(E++Ae (CQ h a.cs d)).length<=140737481002000:=by
        have q:=Cu (CQ h a.cs d);rw[Om]at q;rw[ic];omega
       clear ah ai a5;go_wp2_with fail
       refine(CR b z _ y x wr V.o df (by omega) (by omega)).mono ?_;rintro G dg ⟨rfl,bg⟩;have b1:=Aa bg;clear bg ce;go_wp2;go_roundw;case rel =>
        refine⟨h+1,by go_num,by omega,?_⟩;show aK _ _ _ _ _;have:=b1.o;rw[b0.o,B3,En];simp only[ε]at this ⊢;exact this
       case measure=>simp[intOf];omega
      have cj:h=j:=by omega
      subst cj;go_wp2;go_roundw;case rel =>
       refine⟨d+1,by go_num,by omega,?_⟩;show aK _ _ _ _ _;have:=V.o;rw[<-bo.o]at this;rw[O4,B3];simp only[ε]at this ⊢;exact this
      case measure=>simp[intOf];omega
    have cq:d=r:=by omega
    subst cq;go_wp2;go_roundw;case rel =>
     refine⟨e+1,by go_num,by omega,?_⟩;show aK _ _ _ _ _;have B:=aK.then au.o L.o (aK.pre ak.o M.o);rw[b6.o,B3,b3.o,BQ];rw[<-bn.o]at B;simp only[ε]at B ⊢;exact B
    case measure=>simp[intOf];omega
  have ck:e=s:=by omega
  subst ck;go_wp2;go_end0;refine⟨rfl,aK.pre bu.o ?_⟩;have B:=U.o;rw[iw (by rw[T.o];omega),<-bl.o]at B;rw[b5.o,BQ,<-ε];exact B
end
section
theorem FQ(i:Nat)(a:i<256): Lib.len8 (i:Int)=(bitLen i:Int):=by
 have:∀i:Fin 256,Lib.len8 ((i.val:Nat):Int)=(bitLen i.val:Int):=by decide +kernel
 exact this ⟨i,a⟩
theorem Gx(i:Nat)(a:i<256): 0<=Lib.len8 (i:Int)/\Lib.len8 (i:Int)<=8:=by
 rw[FQ i a];have:=bitLen_le8 i a;omega
theorem X0(x:Nat)(w:World)(H:x<9223372036854775808):
  Calls prog 217 #[.int .u64 x] w λz D=>z=.returned (ι (bitLen x))/\D=w:=by
 by_cases G:4294967296<=x
 ·have v:decide ((4294967296:Int)<=(x:Int))=true:=by simp;omega
  have n:=lz x 32 (by omega);obtain⟨y,C⟩:∃y,x/4294967296=y:=⟨_,rfl⟩;have F:(x:Int)/4294967296=(y:Int):=by omega
  rw[show x/2 ^ 32=y from C]at n;have E:y<2147483648:=by omega
  by_cases B:65536<=y
  ·have q:decide ((65536:Int)<=(y:Int))=true:=by simp;omega
   have l:=lz y 16 (by omega);obtain⟨c,t⟩:∃c,y/65536=c:=⟨_,rfl⟩;have A:(y:Int)/65536=(c:Int):=by omega
   rw[show y/2 ^ 16=c from t]at l;have u:c<32768:=by omega
   by_cases s:256<=c
   ·have h:decide ((256:Int)<=(c:Int))=true:=by simp;omega
    have e:=lz c 8 (by omega);obtain⟨a,i⟩:∃a,c/256=a:=⟨_,rfl⟩;have r:(c:Int)/256=(a:Int):=by omega
    rw[show c/2 ^ 8=a from i]at e;have o:a<128:=by omega
    have u0:(0:Int)<=(a:Int):=by omega
    have u1:(a:Int)<=255:=by omega
    have m:IntKind.u8.wrap (a:Int)=(a:Int):=by rw[ku];omega
    obtain⟨j,k⟩:=Gx a (by omega);have d:=Aa (show(bitLen x:Int)=56+Lib.len8 (a:Int) by rw[n,l,e,FQ a (by omega)];omega);go_enter func217,ntmps217;go_wp2;go_ret;exact⟨A9 (by rw[d.o];try omega),rfl⟩
   have h:decide ((256:Int)<=(c:Int))=false:=by simp;omega
   have u0:(0:Int)<=(c:Int):=by omega
   have u1:(c:Int)<=255:=by omega
   have m:IntKind.u8.wrap (c:Int)=(c:Int):=by rw[ku];omega
   obtain⟨j,k⟩:=Gx c (by omega);have d:=Aa (show(bitLen x:Int)=48+Lib.len8 (c:Int) by rw[n,l,FQ c (by omega)];omega);go_enter func217,ntmps217;go_wp2;go_ret;exact⟨A9 (by rw[d.o];try omega),rfl⟩
  have q:decide ((65536:Int)<=(y:Int))=false:=by simp;omega
  by_cases s:256<=y
  ·have h:decide ((256:Int)<=(y:Int))=true:=by simp;omega
   have e:=lz y 8 (by omega);obtain⟨a,i⟩:∃a,y/256=a:=⟨_,rfl⟩;have r:(y:Int)/256=(a:Int):=by omega
   rw[show y/2 ^ 8=a from i]at e;have o:a<18446744073709551616:=by omega
   have u0:(0:Int)<=(a:Int):=by omega
   have u1:(a:Int)<=255:=by omega
   have m:IntKind.u8.wrap (a:Int)=(a:Int):=by rw[ku];omega
   obtain⟨j,k⟩:=Gx a (by omega);have d:=Aa (show(bitLen x:Int)=40+Lib.len8 (a:Int) by rw[n,e,FQ a (by omega)];omega);go_enter func217,ntmps217;go_wp2;go_ret;exact⟨A9 (by rw[d.o];try omega),rfl⟩
  have h:decide ((256:Int)<=(y:Int))=false:=by simp;omega
  have u0:(0:Int)<=(y:Int):=by omega
  have u1:(y:Int)<=255:=by omega
  have m:IntKind.u8.wrap (y:Int)=(y:Int):=by rw[ku];omega
  obtain⟨j,k⟩:=Gx y (by omega);have d:=Aa (show(bitLen x:Int)=32+Lib.len8 (y:Int) by rw[n,FQ y (by omega)];omega);go_enter func217,ntmps217;go_wp2;go_ret;exact⟨A9 (by rw[d.o];try omega),rfl⟩
 have v:decide ((4294967296:Int)<=(x:Int))=false:=by simp;omega
 by_cases B:65536<=x
 ·have q:decide ((65536:Int)<=(x:Int))=true:=by simp;omega
  have l:=lz x 16 (by omega);obtain⟨c,t⟩:∃c,x/65536=c:=⟨_,rfl⟩;have A:(x:Int)/65536=(c:Int):=by omega
  rw[show x/2 ^ 16=c from t]at l;have u:c<18446744073709551616:=by omega
  by_cases s:256<=c
  ·have h:decide ((256:Int)<=(c:Int))=true:=by simp;omega
   have e:=lz c 8 (by omega);obtain⟨a,i⟩:∃a,c/256=a:=⟨_,rfl⟩;have r:(c:Int)/256=(a:Int):=by omega
   rw[show c/2 ^ 8=a from i]at e;have o:a<18446744073709551616:=by omega
   have u0:(0:Int)<=(a:Int):=by omega
   have u1:(a:Int)<=255:=by omega
   have m:IntKind.u8.wrap (a:Int)=(a:Int):=by rw[ku];omega
   obtain⟨j,k⟩:=Gx a (by omega);have d:=Aa (show(bitLen x:Int)=24+Lib.len8 (a:Int) by rw[l,e,FQ a (by omega)];omega);go_enter func217,ntmps217;go_wp2;go_ret;exact⟨A9 (by rw[d.o];try omega),rfl⟩
  have h:decide ((256:Int)<=(c:Int))=false:=by simp;omega
  have u0:(0:Int)<=(c:Int):=by omega
  have u1:(c:Int)<=255:=by omega
  have m:IntKind.u8.wrap (c:Int)=(c:Int):=by rw[ku];omega
  obtain⟨j,k⟩:=Gx c (by omega);have d:=Aa (show(bitLen x:Int)=16+Lib.len8 (c:Int) by rw[l,FQ c (by omega)];omega);go_enter func217,ntmps217;go_wp2;go_ret;exact⟨A9 (by rw[d.o];try omega),rfl⟩
 have q:decide ((65536:Int)<=(x:Int))=false:=by simp;omega
 by_cases s:256<=x
 ·have h:decide ((256:Int)<=(x:Int))=true:=by simp;omega
  have e:=lz x 8 (by omega);obtain⟨a,i⟩:∃a,x/256=a:=⟨_,rfl⟩;have r:(x:Int)/256=(a:Int):=by omega
  rw[show x/2 ^ 8=a from i]at e;have o:a<18446744073709551616:=by omega
  have u0:(0:Int)<=(a:Int):=by omega
  have u1:(a:Int)<=255:=by omega
  have m:IntKind.u8.wrap (a:Int)=(a:Int):=by rw[ku];omega
  obtain⟨j,k⟩:=Gx a (by omega);have d:=Aa (show(bitLen x:Int)=8+Lib.len8 (a:Int) by rw[e,FQ a (by omega)];omega);go_enter func217,ntmps217;go_wp2;go_ret;exact⟨A9 (by rw[d.o];try omega),rfl⟩
 have h:decide ((256:Int)<=(x:Int))=false:=by simp;omega
 have u0:(0:Int)<=(x:Int):=by omega
 have u1:(x:Int)<=255:=by omega
 have m:IntKind.u8.wrap (x:Int)=(x:Int):=by rw[ku];omega
 obtain⟨j,k⟩:=Gx x (by omega);have d:=Aa (show(bitLen x:Int)=0+Lib.len8 (x:Int) by rw[FQ x (by omega)];omega);go_enter func217,ntmps217;go_wp2;go_ret;exact⟨A9 (by rw[d.o];try omega),rfl⟩
theorem UN(x:Nat)(w:World)(e:x<9223372036854775808):
  Calls prog 177 #[.int .u64 x] w λa c=>a=.returned (ι (bitLen x))/\c=w:=by
 have d:=Aa (X0 x w e);go_enter func177,ntmps177;go_wp2_with fail
 refine d.o.mono ?_;rintro a c ⟨rfl,rfl⟩;go_wp2;go_ret;exact⟨rfl,rfl⟩
theorem VM(j:Nat): bitLen (2 ^ j)=j+1:=by
 have a:(2:Nat) ^ j≠0:=Nat.ne_of_gt (lG j);unfold bitLen;rw[ig a,Nat.log2_two_pow]
def Ra(v:Value): Sem Next:=do pure (.value (<-Instr.field 207 v 1))
theorem S5(ρ:Operand->Value)(dst:Option Tmp)(x:Operand)(a:TypeId)(pos:String)(after:Array Edge)(guard:Option (Nat×Bool)):
  execOp ρ { dst,op:=.field 207 x 1,type:=a,pos,after,guard }=Ra (ρ x):=rfl
theorem U6(a b:Value)(w:World): (Ra (.agg #[a,b])).run prog w=.ok (.value b) w:=by kernel_rfl
attribute [local go_sem ↓] Lu S5
attribute [local go_sem] L2 U6
def CI(l:List Bk)(sz:Int)(s:Nat): Nat:=s+((l.drop s).takeWhile (λb=>decide (b.sz=sz))).length
theorem QY(l:List Bk)(a:Int)(s:Nat)(c:s<=l.length): s<=CI l a s/\CI l a s<=l.length:=by
 unfold CI;have:=(lJ (l:=l.drop s) (λb=>decide (b.sz=a))).length_le;rw[iU]at this;omega
theorem OT(l:List Bk)(i:Nat)(a:i<l.length): l.drop i=Ad l i::l.drop (i+1):=by
 rw[δ a];simp[Ad,List.getD_eq_getElem?_getD,h9 a]
theorem zKp(l:List Bk)(a:Int)(s:Nat)(c:s<l.length)(d:(Ad l s).sz=a): CI l a s=CI l a (s+1):=by
 unfold CI;rw[OT l s c,List.takeWhile_cons_of_pos (by simpa using d),iD];omega
theorem zM7(l:List Bk)(a:Int)(s:Nat)(c:s<l.length)(d:(Ad l s).sz≠a): CI l a s=s:=by
 unfold CI;rw[OT l s c,List.takeWhile_cons_of_neg (by simpa using d)];rfl
theorem YP(l:List Bk)(a:Int): CI l a l.length=l.length:=by
 unfold CI;rw[kK];rfl
theorem Xx(v h:Nat)(z:Option Nat)(c:Cfg)(l:List Bk)(d:Int)(s:Nat)(w:World)(F:bU w v h z c l)(N:l.length<=4398046511104)(H:s<=l.length):
  Calls prog 179 #[π v,ι d,ι s] w λh A=>h=.returned (ι (CI l d s))/\lX w A:=by
 have J:=Aa F;clear F;obtain⟨e,x⟩:∃e,l.length=e:=⟨_,rfl⟩;rw[x]at N H;have t:=Aa x;clear x;go_enter func179,ntmps179;go_wp2;go_loopw [7] (λi wr=>∃a:Nat,i=ι a/\a<=e/\Hid (lX w wr)/\Hid (CI l d s=CI l d a)) (λi _=>e-(intOf i).toNat)
 case atStart=>exact⟨s,rfl,H,aA.refl _ _,rfl⟩
 case round =>
  obtain⟨a,rfl,R,r,q⟩:=hrel;have o:=Aa (J.o.still r.o);have Q:κ wr v 20 (π h):=o.o.aF.cell rfl
  have E:=Aa (show Calls prog 176 #[π h] wr λm A=>m=.returned (ι e)/\A=wr by
     have:=rowLen_any h z l wr o.o.row;rw[t.o]at this
     exact this)
  by_cases O:a<e
  ·have n:a<l.length:=by rw[t.o];exact O
   have S:(a:Int)<(e:Int):=by omega
   have C:=Aa (FM h z l a wr o.o.row n);have L:=Aa (zKp l d a n);have I:=Aa (zM7 l d a n);clear n;generalize Ad l a=i at *
   unfold Bk.val at C;go_wp2_with fail
   refine E.o.mono ?_;rintro m B ⟨rfl,k⟩;rw[k];clear k B;go_wp2_with fail
   refine C.o.mono ?_;rintro m T ⟨rfl,G⟩;have D:=Aa (r.o.then G);clear G;by_cases j:i.sz=d
   ·have P:(i.sz==d)=true:=by simpa using j
    have u:=Aa j;clear j;go_wp2;go_roundw;case rel=>exact⟨a+1,by go_num,by omega,D,by show _=_;rw[q.o,L.o u.o]⟩
    case measure=>simp[intOf];omega
   have P:(i.sz==d)=false:=by simpa using j
   have u:=Aa j;clear j;go_wp2;go_ret;exact⟨by rw[q.o,I.o u.o];rfl,D.o⟩
  have M:a=e:=by omega
  subst M;go_wp2_with fail
  refine E.o.mono ?_;rintro m B ⟨rfl,k⟩;rw[k];clear k B;go_wp2;go_ret;refine⟨?_,r.o⟩;rw[q.o,<-t.o,YP];rfl
def EN(l:List Bk): Nat->Nat->List Int
 | 0,_=>[]
 | f+1,s=>((CI l (2 ^ f) s-s:Nat):Int)::(((l.drop s).take (CI l (2 ^ f) s-s)).map (·.t)++EN l f (CI l (2 ^ f) s))
def Ed(l:List Bk): Nat:=if l.length=0 then 0 else bitLen (Ad l 0).sz.toNat
def Ga(l:List Bk): List Int:=(Ed l:Int)::EN l (Ed l) 0
theorem VI(l:List Bk)(s j:Nat)(x:Bk)(a:s+j<l.length)(d:Ad l (s+j)=x): ((l.drop s).take (j+1)).map (·.t)=((l.drop s).take j).map (·.t)++[x.t]:=by
 have c:j<(l.drop s).length:=by rw[iU];omega
 rw[ji,iB,h9 c];subst d;simp[Ad,List.getD_eq_getElem?_getD,h9 a]
theorem Mx(l:List Bk)(f s:Nat): EN l (f+1) s=((CI l (2 ^ f) s-s:Nat):Int)::(((l.drop s).take (CI l (2 ^ f) s-s)).map (·.t)++EN l f (CI l (2 ^ f) s)):=rfl
theorem Uh(s n:Nat)(A:Option Nat)(c:Cfg)(l:List Bk)(b:Nat)(v:Value)(bs:List Nat)(m:Int)(w:World)(V:bU w s n A c l)(au:bR w b v bs)(F:∀Q,AF b v Q->Q≠s/\Q≠n/\A≠some Q)(bo:l.length<=1000000000000)(Z:∀a∈l,1<=a.sz/\a.sz<4611686018427387904)(ar:∀a∈l,0<=a.t/\a.t<=9223372036854775807)(bi:bs.length+10*l.length<=140737488350000):
  Calls prog 137 #[π s,π b,ι m] w λe h=>e=.returned (.tuple #[])/\aK w b v (bs++Ae (Ga l)) h:=by
 have D:=Aa (show ∀h,aA (AF b v) w h->bU h s n A c l from λh r=>V.keeps r (λG=>(F s G).1 rfl) (λG=>(F n G).2.1 rfl) (λg bl G=>(F g G).2.2 bl));have bk:κ w s 20 (π n):=V.aF.cell rfl;obtain⟨k,N⟩:∃k,l.length=k:=⟨_,rfl⟩
 have ab:=Aa (show ∀h,aA (AF b v) w h->Calls prog 176 #[π n] h λe t=>e=.returned (ι k)/\t=h from λh r=>by
    have:=rowLen_any n A l h (D.o h r).row;rw[N]at this
    exact this)
 have ag:=Aa (aK.refl au);have bb:=Aa ar
 have ba:=Aa (show Ed l<=62 by
    unfold Ed;split
    ·omega
    rename_i ai;have bh:=Z (Ad l 0) (EU (by omega));have P:=bitLen_spec (Ad l 0).sz.toNat;have bd:=P.2 (by omega);rcases kC (bitLen (Ad l 0).sz.toNat-1) 62 with ak | ak
    ·omega
    have:=jr (show 1<=2 by omega) ak;have e:(2:Nat) ^ 62=4611686018427387904:=by decide
    omega)
 have af:=Aa (show Ga l=(Ed l:Int)::EN l (Ed l) 0 from rfl)
 have a2:=Aa (show k≠0->∃a:Bk,Ad l 0=a/\0<=a.sz/\a.sz<4611686018427387904/\(Ed l:Int)=(bitLen a.sz.toNat:Int)/\0<l.length from λai=>by
    have bh:=Z (Ad l 0) (EU (by omega))
    exact⟨_,rfl,by omega,by omega,by unfold Ed;rw[ig (by omega)],by omega⟩)
 have a3:=Aa (show k=0->Ed l=0 from λai=>by unfold Ed;rw[ij (by omega)]);have B:=Aa N;rw[N]at bo bi;clear V au F Z ar N;generalize bf:Ed l=j at *
 clear bf;have b3:j<=62:=ba.o;have a5:=Aa (show ∀h,aA (AF b v) w h->κ h s 20 (π n) from λh r=>(D.o h r).aF.cell rfl);by_cases O:k=0
 ·have bg:=a3.o O;subst bg;subst O;go_enter func137,ntmps137;go_wp2_with fail
  refine(ab.o w (aA.refl _ _)).mono ?_;rintro e t ⟨rfl,u⟩;rw[u];clear u t;go_wp2_with fail
  refine(CR b v bs 0 w w ag.o (by omega) (by omega) (by omega)).mono ?_;rintro e t ⟨rfl,u⟩;have I:=Aa u;clear u;go_wp2_with fail
  go_loopw [7,8] (λa y wr=>a=ι 0/\y=ι (-1)/\Hid (aK w b v (bs++enc 0) wr)) (λ_ _ _=>0)
  case atStart=>exact⟨rfl,rfl,I⟩
  case round =>
   obtain⟨rfl,rfl,a7⟩:=hrel;go_wp2;go_end0;refine⟨rfl,?_⟩;have:=a7.o;rw[af.o,BQ];simpa[EN,Dv] using this
 obtain⟨a,z,a0,a1,W,aq⟩:=a2.o O;have q:=Aa (FM n A l 0 w (D.o w (aA.refl _ _)).row aq);rw[z]at q;unfold Bk.val at q;obtain⟨y,ax⟩:=jl a0;rw[ax]at a1 W q;have b2:IntKind.u64.wrap (y:Int)=(y:Int):=by rw[jF];omega
 have S:=Aa (UN y);rw[iM]at W;have al:bitLen y=j:=by omega
 rw[al]at S;have br:(0:Int)<(k:Int):=by omega
 have bt:0<k:=by omega
 clear z W al ax a0 O aq br;go_enter func137,ntmps137;go_wp2_with fail
 refine(ab.o w (aA.refl _ _)).mono ?_;rintro e t ⟨rfl,u⟩;rw[u];clear u t;go_wp2_with fail
 refine q.o.mono ?_;rintro e t ⟨rfl,an⟩;have ah:=Aa (ag.o.still an);clear an bk;go_wp2_with fail
 refine(S.o t (by omega)).mono ?_;rintro e az ⟨rfl,H⟩;rw[H];clear H az;go_wp2_with fail
 refine(CR b v bs j w t ah.o (by omega) (by omega) (by omega)).mono ?_;rintro e az ⟨rfl,H⟩;have I:=Aa H;clear H ah;have cf:IntKind.i64.wrap ((j:Int)-1)=(j:Int)-1:=by rw[il];omega
 have bp:(bs++enc (j:Int)).length+10*k<=140737488350010:=by have:=Dt (j:Int);rw[ic];omega
 obtain⟨C,X⟩:∃C,bs++enc (j:Int)=C:=⟨_,rfl⟩;rw[X]at bp I;have a4:=Aa X;clear X bt q S b2 a1;go_wp2_with fail
 go_loopw [7,8] (λa y wr=>∃(f d:Nat) (pre:List Int),a=ι d/\y=ι ((f:Int)-1)/\f<=j/\d<=k/\pre.length+f<=j+d/\Hid (EN l j 0=pre++EN l f d)/\Hid (aK w b v (C++Ae pre) wr)) (λ_ y _=>(intOf y+1).toNat)
 case atStart=>exact⟨j,0,[],rfl,rfl,by omega,by omega,by simp,by show _=_;rfl,by show aK _ _ _ _ _;rw[Dv,iC];exact I.o⟩
 case round =>
  obtain⟨f,d,pre,rfl,rfl,F,P,ce,aa,T⟩:=hrel;cases f with
  | zero =>
   go_wp2;go_end0;refine⟨rfl,?_⟩;have:=T.o;rw[af.o,BQ,aa.o];simp only[EN,iC];rw[<-ε,a4.o];exact this
  | succ f =>
   have bc:((f+1:Nat):Int)-1=(f:Int):=by omega
   rw[bc];have ay:=G0 f (by omega);obtain⟨E,be⟩:∃E,(2:Int) ^ f=E:=⟨_,rfl⟩;have R:=Aa (Xx s n A c l E d wr (D.o wr T.o.kp) (by rw[B.o];omega) (by rw[B.o];exact P));have L:=Aa (Mx l f d);rw[be]at ay L;have Y:=QY l E d (by rw[B.o];exact P);obtain⟨e,am⟩:∃e,CI l E d=e:=⟨_,rfl⟩;rw[am]at R L Y;rw[B.o]at Y;obtain⟨ca,cb⟩:=Y;obtain⟨cg,ch⟩:=ay;clear am;have b7:(0:Int)<=(f:Int):=by omega
   have b4:(f:Int)<=61:=by omega
   obtain⟨i,bu⟩:∃i:Nat,e-d=i:=⟨_,rfl⟩;rw[bu]at L;have bv:IntKind.i64.wrap ((e:Int)-(d:Int))=(i:Int):=by rw[il];omega
   have bq:(C++Ae pre).length<=140737488350010+10*62-10*k+10*d/\10*k<=140737488350010:=by
    have:=Cu pre;rw[ic];omega
   obtain⟨cc,cd⟩:=bq;go_wp2_with fail
   refine R.o.mono ?_;rintro U b0 ⟨rfl,ao⟩;have ad:=Aa (T.o.still ao);clear ao R;go_wp2_with fail
   refine(CR b v _ i w b0 ad.o (by omega) (by omega) (by omega)).mono ?_;rintro U ci ⟨rfl,av⟩;have a8:=Aa av;clear av ad bv;go_wp2_with fail
   go_loopw [7] (λa wr=>∃o:Nat,a=ι ((d+o:Nat):Int)/\o<=i/\Hid (aK w b v (C++Ae pre++enc i++Ae (((l.drop d).take o).map (·.t))) wr)) (λa _=>e-(intOf a).toNat)
   case atStart=>exact⟨0,rfl,iT _,by show aK _ _ _ _ _;simp only[jP,kq,Dv,iC];exact a8.o⟩
   case round =>
    obtain⟨o,rfl,b5,J⟩:=hrel;obtain⟨x,r⟩:∃x,d+o=x:=⟨_,rfl⟩;rw[r];by_cases b6:o<i
    ·have M:x<l.length:=by rw[B.o];omega
     have b8:(x:Int)<(e:Int):=by omega
     obtain⟨a,z⟩:∃a,Ad l x=a:=⟨_,rfl⟩;have q:=Aa (FM n A l x wr (D.o wr J.o.kp).row M);have a6:=Aa (VI l d o a (by rw[r];exact M) (by rw[r];exact z));obtain⟨bx,bz⟩:=bb.o a (by rw[<-z];exact EU M);have bj:κ wr s 20 (π n):=a5.o wr J.o.kp;rw[z]at q;unfold Bk.val at q;have b9:(C++Ae pre++enc i++Ae (((l.drop d).take o).map (·.t))).length<=140737488351000:=by
      have aj:=Cu (((l.drop d).take o).map (·.t));have bd:=Dt i;rw[iu,iG,iU,B.o]at aj;rw[ic,ic];omega
     clear z M;go_wp2_with fail
     refine q.o.mono ?_;rintro U b1 ⟨rfl,ap⟩;have ae:=Aa (J.o.still ap);clear ap q bj;go_wp2_with fail
     refine(CR b v _ a.t w b1 ae.o bx bz (by omega)).mono ?_;rintro U cj ⟨rfl,aw⟩;have a9:=Aa aw;clear aw ae;go_wp2;go_roundw;case rel =>
      refine⟨o+1,by go_num,by omega,?_⟩;show aK _ _ _ _ _;have:=a9.o;rw[a6.o,B3,En,<-ε];exact this
     case measure=>simp[intOf];omega
    have bm:o=i:=by omega
    have bn:x=e:=by omega
    clear r;subst bn;go_wp2;go_roundw;case rel =>
     refine⟨f,x,pre++((i:Int)::((l.drop d).take i).map (·.t)),rfl,by go_num,by omega,by omega,?_,?_,?_⟩
     ·have aj:(((l.drop d).take i).map (·.t)).length<=i:=by rw[iu,iG];omega
      rw[ic,iD];omega
     ·show _=_;rw[aa.o,L.o];simp
     show aK _ _ _ _ _;have:=J.o;rw[bm]at this;rw[B3,BQ];simp only[ε]at this ⊢;exact this
    case measure=>simp[intOf]
end
section
def DX(k:Nat)(c:Cfg)(nt:aU)(m:Int): List Int :=
 if k=4 then[nt.q,nt.r] else if k=1 then Ga nt.bs else if k=2 then DI nt.rg (B1 c) (m-c.aB)
 else if k=3 then Hr c nt.op nt.cl (m-c.aB) else if k=5 then Cz (Dr.allL (nt.tk.length+1) nt.tk) else[]
structure fP (k:Nat) (c:Cfg) (nt:aU):Prop where
 q0:0<=nt.q/\nt.q<=9223372036854775807
 r0:0<=nt.r/\nt.r<=9223372036854775807
 bn:nt.bs.length<=1000000000000
 bz:∀x∈nt.bs,1<=x.sz/\x.sz<4611686018427387904
 bt:∀x∈nt.bs,0<=x.t/\x.t<=9223372036854775807
 rl:∀i,(nt.rg i).length<=40
 rb:∀i,∀b∈nt.rg i,0<=b.sz/\b.sz<=4611686018427387904/\1<=b.t/\b.t<=40
 oc:k=3->nt.cl.length<=1000/\(∀p∈nt.cl,CK c p)/\CK c nt.op/\(∀x∈nt.op.cs,0<=x/\x<=4611686018427387904)/\(∀p∈nt.cl,∀x∈p.cs,0<=x/\x<=4611686018427387904)
 tl:k=5->nt.tk.length<=6
 tb:k=5->∀n∈Cz (Dr.allL (nt.tk.length+1) nt.tk),0<=n/\n<=9223372036854775807
theorem zLv(k:Nat)(d:NB)(c:Cfg)(e:aU)(b:Nat)(v:Value)(bs:List Nat)(m:Int)(args:Array Value)(w:World)(A:args=Et d.d++#[π b,ι m])(l:cB w k d c e)(o:bR w b v bs)(i:∀h,AF b v h->¬BK k d h)(hi:fP k c e)(t:Ak c=true)(s:c.kind=k)(G:1<=k)(H:k<=5)(u:-100<=m)(x:m<=4611686018427387904)(S:bs.length+10*e.bs.length<=140737480000000):
  Calls prog (I5 k) args w λa N=>a=.returned (.tuple #[])/\aK w b v (bs++Ae (DX k c e m)) N:=by
 subst A;rcases Au G H with a | a | a | a | a
 ·subst a;exact Uh d.d d.r d.g c e.bs b v bs m w (l.bL rfl) o (λh j=>⟨λa=>i h j (.inl ⟨rfl,.inl a⟩),λa=>i h j (.inl ⟨rfl,.inr (.inl a)⟩),λa=>i h j (.inl ⟨rfl,.inr (.inr a)⟩)⟩) hi.bn hi.bz hi.bt (by omega)
 ·subst a;obtain⟨O,P,Q,R,z⟩:=FJ t s rfl;obtain⟨C,q⟩:=l.dS rfl;have E:d.qs.length<=16:=by rw[q];exact jr (n:=2) (by omega) (show c.bits.toNat<=4 by omega)
  have:=U8 d.d d.r d.qs c e.rg b v bs m w C o (λh j=>⟨λa=>i h j (.inr (.inr (.inl ⟨rfl,.inl a⟩))),λa=>i h j (.inr (.inr (.inl ⟨rfl,.inr (.inl a)⟩))),λF D q=>i h j (.inr (.inr (.inl ⟨rfl,.inr (.inr ⟨F,D,q⟩)⟩)))⟩) E (by omega) z u x hi.rl hi.rb (by omega);rw[q]at this;exact this
 ·subst a;obtain⟨o1,I,J,L,M⟩:=hi.oc rfl;obtain⟨B,r,_⟩:=D5 t s rfl;exact U9 d.d d.r d.g c e.op e.cl b v bs m w (l.dY rfl) o (λa=>i _ a (.inr (.inr (.inr (.inl ⟨rfl,.inl rfl⟩))))) B o1 I J L M (by have:=r.r0;omega) r.r1 (by have:=r.w0;omega) r.w1 u x (by omega)
 ·subst a;exact UF d.d b c e.q e.r m v bs w (l.dec rfl) o (λa=>i _ a (.inr (.inl ⟨rfl,rfl⟩))) hi.q0.1 hi.q0.2 hi.r0.1 hi.r0.2 (by omega)
 subst a;exact UV d.d d.r d.g c e.tk b v bs m w (l.cZ rfl) o (hi.tl rfl) (hi.tb rfl) (by omega)
