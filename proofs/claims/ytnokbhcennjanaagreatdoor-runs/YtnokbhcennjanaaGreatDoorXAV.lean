import Derived.Laws.BytesArg
import Derived.Lib.SlBytesConst
import Derived.Test.YtnokbhcennjanaaGreatDoorXAS
import Derived.Deep.DrawnRows
open Go.RowKit Go.Proofs.Tryz
set_option maxRecDepth 100000
set_option maxHeartbeats 16000000
namespace Go.Proofs.YtnokbhcennjanaaGreatDoor
section
theorem PZ(hi lo d v a m e n c:Int)(o:d=hi*8+lo/2305843009213693952)(q:v=lo*8%18446744073709551616)(r:a=v%4294967296)(k:m=d*4294967296+v/4294967296)(l:n=m-e*18446744073709551608)(i:c*18446744073709551608<=n*4294967296+a)(j:n*4294967296+a<(c+1)*18446744073709551608):
  IntKind.u64.wrap (IntKind.u64.wrap (IntKind.u64.wrap (n*4294967296)+a)-IntKind.u64.wrap (c*18446744073709551608))/8=(hi*18446744073709551616+lo)%2305843009213693951:=by
 simp only[jC];have h:m*4294967296+a=8*(hi*18446744073709551616+lo):=by omega
 omega
theorem XW(hi lo:Int)(w:World)(L:0<=hi)(S:hi<=1099511627776)(N:0<=lo)(O:lo<18446744073709551616):
  Calls prog 210 #[.int .u64 hi,.int .u64 lo,.int .u64 2305843009213693951] w λB I=>(∃a,B=.returned (.tuple #[.int .u64 a,.int .u64 ((hi*18446744073709551616+lo)%2305843009213693951)]))/\lO w I:=by
 by_cases D:hi=0
 ·subst D;exact Pt 0 lo w (by omega) (by omega) N O
 have Y:(hi==0)=false:=by simp[D]
 have U:¬(2305843009213693951<=hi):=by omega
 have hand:bits .and .u64 18446744073709551608 4294967295=4294967288:=by decide +kernel
 obtain⟨h,V,r⟩:∃h,bits .or .u64 (hi*8) (lo/2305843009213693952)=h/\Hid (h=hi*8+lo/2305843009213693952):=⟨_,QQ hi (lo/2305843009213693952) L (by omega) (by omega) (by omega),rfl⟩;obtain⟨k,W,s⟩:∃k,IntKind.u64.wrap (lo*8)=k/\Hid (k=lo*8%18446744073709551616):=⟨_,jC _,rfl⟩;have u0:0<=h:=by have:=r.o;omega
 have u1:h<=8796093022217:=by have:=r.o;omega
 have Q:0<=k:=by have:=s.o;omega
 have aa:k<18446744073709551616:=by have:=s.o;omega
 obtain⟨l,Z,t⟩:∃l,bits .and .u64 k 4294967295=l/\Hid (l=k%4294967296):=by
  obtain⟨R,rfl⟩:=jd Q;exact⟨_,Mul64.maskN R (by omega),by show _=_;omega⟩
 have ae:0<=l:=by have:=t.o;omega
 have af:l<4294967296:=by have:=t.o;omega
 have T:h.tdiv 4294967295=h/4294967295:=jl u0;obtain⟨y,x⟩:∃y,Hid (y=k/4294967296):=⟨_,rfl⟩;have X:k/4294967296=y:=x.o.symm;have ab:0<=y:=by omega
 have ad:y<4294967296:=by omega
 go_enter func210,ntmps210;go_wp2_with (go_at_call 233;refine(PV _).mono ?_;rintro B I ⟨rfl,rfl⟩)
 go_loop [15,16] (λi b=>∃a d:Int,i=.int .u64 a/\b=.int .u64 d/\0<=a/\a<=4096/\0<=d/\d<4294967296/\Hid (a*4294967295+d=h)/\Hid (h*4294967296+y<(a+1)*18446744073709551608)) (λi _=>(intOf i).toNat)
 case atStart=>exact⟨h/4294967295,h-h/4294967295*4294967295,by first | rfl | go_num,by first | rfl | go_num,by omega,by omega,by omega,by omega,by show _=_;omega,by show _<_;omega⟩
 case round =>
  obtain⟨a,d,rfl,rfl,o,E,G,H,c,j⟩:=hrel;by_cases C:4294967296*d+y<a*4294967288
  ·have F:1<=a:=by omega
   by_cases u:4294967296<=d+4294967295
   ·have J:=Aa (show h*4294967296+y<a*18446744073709551608 by have:=c.o;omega);have v:=Aa (show(a-1)*18446744073709551608<=h*4294967296+y by have:=c.o;omega);clear c j;have c:=v;have j:=J;obtain⟨e,m⟩:∃e,Hid (e=h*4294967296+y-(a-1)*18446744073709551608):=⟨_,rfl⟩;have A:0<=e:=by have:=m.o;have:=c.o;have:=j.o;omega
    have P:e<18446744073709551608:=by have:=m.o;have:=c.o;have:=j.o;omega
    have q:IntKind.u64.wrap (IntKind.u64.wrap (IntKind.u64.wrap (h*4294967296)+y)-IntKind.u64.wrap ((a-1)*18446744073709551608))=e:=by
     have:=m.o;simp only[jC];omega
    have z:e.tdiv 4294967295=e/4294967295:=jl A;have n:=Aa (λo i b=>PZ hi lo h k l (h*4294967296+y) (a-1) e o r.o s.o t.o (by rw[x.o]) m.o i b);go_wp2_with (first | simp only[q] | simp only[z])
    go_loop [16,18] (λb i=>∃a d:Int,i=.int .u64 a/\b=.int .u64 d/\0<=a/\a<=4294967296/\0<=d/\d<4294967296/\Hid (a*4294967295+d=e)/\Hid (e*4294967296+l<(a+1)*18446744073709551608)) (λ_ i=>(intOf i).toNat)
    case atStart=>exact⟨e/4294967295,e-e/4294967295*4294967295,by first | rfl | go_num,by first | rfl | go_num,by omega,by omega,by omega,by omega,by show _=_;omega,by show _<_;omega⟩
    case round =>
     clear c j q;obtain⟨a,d,rfl,rfl,o,E,G,H,c,j⟩:=hrel;by_cases M:4294967296<=a
     ·by_cases u:4294967296<=d+4294967295
      ·go_wp2;go_ret2;exact⟨⟨_,by rw[n.o (a-1) (by have:=c.o;omega) (by have:=c.o;omega)];rfl⟩,aA.refl _ _⟩
      go_wp2;go_round;case rel=>exact⟨a-1,d+4294967295,by first | rfl | go_num,by first | rfl | go_num,by omega,by omega,by omega,by omega,by have:=c.o;show _=_;omega,by have:=c.o;show _<_;omega⟩
      case measure=>simp[intOf];omega
     by_cases C:4294967296*d+l<a*4294967288
     ·have F:1<=a:=by omega
      by_cases u:4294967296<=d+4294967295
      ·go_wp2;go_ret2;exact⟨⟨_,by rw[n.o (a-1) (by have:=c.o;omega) (by have:=c.o;omega)];rfl⟩,aA.refl _ _⟩
      go_wp2;go_round;case rel=>exact⟨a-1,d+4294967295,by first | rfl | go_num,by first | rfl | go_num,by omega,by omega,by omega,by omega,by have:=c.o;show _=_;omega,by have:=c.o;show _<_;omega⟩
      case measure=>simp[intOf];omega
     go_wp2;go_ret2;exact⟨⟨_,by rw[n.o a (by have:=c.o;omega) j.o];rfl⟩,aA.refl _ _⟩
   go_wp2;go_round;case rel=>exact⟨a-1,d+4294967295,by first | rfl | go_num,by first | rfl | go_num,by omega,by omega,by omega,by omega,by have:=c.o;show _=_;omega,by have:=c.o;show _<_;omega⟩
   case measure=>simp[intOf];omega
  have v:=Aa (show a*18446744073709551608<=h*4294967296+y by have:=c.o;omega);clear c;have c:=v;obtain⟨e,m⟩:∃e,Hid (e=h*4294967296+y-(a)*18446744073709551608):=⟨_,rfl⟩;have A:0<=e:=by have:=m.o;have:=c.o;have:=j.o;omega
  have P:e<18446744073709551608:=by have:=m.o;have:=c.o;have:=j.o;omega
  have q:IntKind.u64.wrap (IntKind.u64.wrap (IntKind.u64.wrap (h*4294967296)+y)-IntKind.u64.wrap ((a)*18446744073709551608))=e:=by
   have:=m.o;simp only[jC];omega
  have z:e.tdiv 4294967295=e/4294967295:=jl A;have n:=Aa (λo i b=>PZ hi lo h k l (h*4294967296+y) (a) e o r.o s.o t.o (by rw[x.o]) m.o i b);go_wp2_with (first | simp only[q] | simp only[z])
  go_loop [16,18] (λb i=>∃a d:Int,i=.int .u64 a/\b=.int .u64 d/\0<=a/\a<=4294967296/\0<=d/\d<4294967296/\Hid (a*4294967295+d=e)/\Hid (e*4294967296+l<(a+1)*18446744073709551608)) (λ_ i=>(intOf i).toNat)
  case atStart=>exact⟨e/4294967295,e-e/4294967295*4294967295,by first | rfl | go_num,by first | rfl | go_num,by omega,by omega,by omega,by omega,by show _=_;omega,by show _<_;omega⟩
  case round =>
   clear c j q;obtain⟨a,d,rfl,rfl,o,E,G,H,c,j⟩:=hrel;by_cases M:4294967296<=a
   ·by_cases u:4294967296<=d+4294967295
    ·go_wp2;go_ret2;exact⟨⟨_,by rw[n.o (a-1) (by have:=c.o;omega) (by have:=c.o;omega)];rfl⟩,aA.refl _ _⟩
    go_wp2;go_round;case rel=>exact⟨a-1,d+4294967295,by first | rfl | go_num,by first | rfl | go_num,by omega,by omega,by omega,by omega,by have:=c.o;show _=_;omega,by have:=c.o;show _<_;omega⟩
    case measure=>simp[intOf];omega
   by_cases C:4294967296*d+l<a*4294967288
   ·have F:1<=a:=by omega
    by_cases u:4294967296<=d+4294967295
    ·go_wp2;go_ret2;exact⟨⟨_,by rw[n.o (a-1) (by have:=c.o;omega) (by have:=c.o;omega)];rfl⟩,aA.refl _ _⟩
    go_wp2;go_round;case rel=>exact⟨a-1,d+4294967295,by first | rfl | go_num,by first | rfl | go_num,by omega,by omega,by omega,by omega,by have:=c.o;show _=_;omega,by have:=c.o;show _<_;omega⟩
    case measure=>simp[intOf];omega
   go_wp2;go_ret2;exact⟨⟨_,by rw[n.o a (by have:=c.o;omega) j.o];rfl⟩,aA.refl _ _⟩
theorem Xo(hi lo:Int)(w:World)(c:0<=hi)(i:hi<=1099511627776)(j:0<=lo)(k:lo<18446744073709551616):
  Calls prog 167 #[.int .u64 hi,.int .u64 lo,.int .u64 2305843009213693951] w λa l=>a=.returned (.int .u64 ((hi*18446744073709551616+lo)%2305843009213693951))/\lO w l:=by
 have m:hi.tmod 2305843009213693951=hi:=by rw[jS c];omega
 have e:=Aa (XW hi lo w c i j k);go_enter func167,ntmps167;go_wp2_with fail
 refine e.o.mono ?_;rintro a o ⟨⟨n,rfl⟩,d⟩;have h:=Aa d;clear d;go_wp2;go_ret;exact⟨rfl,h.o⟩
theorem Y6(a b key:Int)(w:World)(h:0<=a)(o:a<=1099511627776)(q:0<=b)(s:b<2305843009213693951)(d:0<=key)(r:key<=2305843009213693951):
  Calls prog 121 #[.agg #[.int .i64 a,.int .i64 b],.int .i64 key] w λc j=>c=.returned (.int .i64 (AG a b key))/\lO w j:=by
 have x:0<=a*key:=kF h d;have z:a*key<=1099511627776*2305843009213693951:=kM o r d (by omega);have B:IntKind.u64.wrap a=a:=by rw[jC];omega
 have C:IntKind.u64.wrap b=b:=by rw[jC];omega
 have D:IntKind.u64.wrap key=key:=by rw[jC];omega
 have m:=Aa (λw=>Mr a key h (by omega) d (by omega) w);go_enter func121,ntmps121;go_wp2_with fail
 refine(m.o _).mono ?_;rintro c j ⟨rfl,rfl⟩;have t:=λe=>Pz (a*key%18446744073709551616) b (by omega) q e;have n:=Aa (show AG a b key=(a*key+b)%2305843009213693951 from rfl);have k:=Aa ((aA.refl (λ_=>False) w).alloc (.cells #[.int .i64 a,.int .i64 b] 43));have v:(w.alloc (.cells #[.int .i64 a,.int .i64 b] 43)).cell? ⟨w.heap.size,1,none⟩=some (.int .i64 b):=(aD.new w [.int .i64 a,.int .i64 b] 43).cell rfl;generalize w.alloc (.cells #[.int .i64 a,.int .i64 b] 43)=e at *
 generalize a*key=p at *
 go_wp2_with fail
 refine(Xo _ _ _ (by omega) (by omega) (by omega) (by omega)).mono ?_;rintro c A ⟨rfl,i⟩;have l:=Aa (k.o.then i);clear i;have u:IntKind.i64.wrap (((p/18446744073709551616+(p%18446744073709551616+b)/18446744073709551616)*18446744073709551616+(p+b)%18446744073709551616)%2305843009213693951)=(p+b)%2305843009213693951:=by
  rw[ic];omega
 go_wp2;go_ret;exact⟨by rw[n.o];rfl,l.o⟩
def Bt: List Nat:=[115,107,101,116,99,104,32,49]
theorem Q0: prog.underlying 5=some (.int .u8):=by kernel_rfl
theorem LS{w:World}{base T n:Nat}{v:Value}{j:List Value}(h:w.ownsRow base T 1 v n j): (n=0/\v=.slice none 0 0)\/∃g d,v=.slice (some ⟨g,0,none⟩) n d/\∀(i:Nat) c,j[i]?=some c->w.cell? ⟨g,i,none⟩=some c:=by
 rcases h.2 with ⟨e,l⟩ | ⟨g,d,k,e,_,m,q,r,s,o⟩
 ·exact .inl ⟨l,e⟩
 refine .inr ⟨g,d,e,λi c a=>?_⟩;have t:i<n:=by have:=(ik.1 a).1;have:=h.1;omega
 have:k[i]?=some c:=by
  rw[<-o]at a;rw[iV]at a;rw[h9 (by omega)]at a;simpa using a
 simp[World.cell?,m,this]
theorem U3: ∀a∈Bt,a<256:=by decide
theorem Sm(w:World):
  Calls prog 46 #[] w λj e=>∃b d,j=.returned (.pointer (some ⟨b,0,none⟩))/\bR e b d Bt/\(∀c,AF b d c->w.heap.size<=c)/\lO w e:=by
 have m:=λ(w:World) (h:Array Value) (l i:Nat)=>Lib.run_convert_bytes_const (P:=prog) w 129 5 h l i underlying129 Q0;go_enter func46,ntmps46;go_wp2;go_ret;have k:lO w (w.alloc (.cells (B7 Bt).toArray 5 (8,9))):=(aA.refl _ _).alloc _;refine⟨w.heap.size+1,.slice (some ⟨w.heap.size,0,none⟩) 8 8,rfl,⟨aD.newAt (by simp) [_] _,.inr ⟨w.heap.size,rfl,?_⟩,by simp[Value.ownBlock],U3⟩,λc a=>?_,k.alloc _⟩
 ·rw[jq _ _ _ (by simp)];exact iJ w _
 rcases a with a | a
 ·omega
 have:w.heap.size=c:=by simpa[Value.ownBlock] using a
 omega
def C7(ps:List (Nat×Nat)): List Value:=ps.map λp=>.pointer (some ⟨p.1,p.2,none⟩)
def PartsAt(w:World)(ps:List (Nat×Nat))(ns:List Int): Prop:=ps.length=ns.length/\∀(i:Nat) p n,ps[i]?=some p->ns[i]?=some n->w.cell? ⟨p.1,p.2,none⟩=some (.int .i64 n)
theorem Ww(b:Nat)(v:Value)(bs:List Nat)(o:Value)(base:Nat)(ps:List (Nat×Nat))(ns:List Int)(w:World)(t:bR w b v bs)(n:w.ownsRow base 163 1 o ps.length (C7 ps))(j:PartsAt w ps ns)(u:∀p,p∈ps->¬AF b v p.1)(E:∀c,o.ownBlock=some c->¬AF b v c)(D:∀d,d∈ns->0<=d/\d<=9223372036854775807)(ar:bs.length+10*ns.length<=140737488355300)(au:ns.length<=1000):
  Calls prog 74 #[.pointer (some ⟨b,0,none⟩),o] w λs ai=>s=.returned (.tuple #[])/\aJ w b v (bs++Ae ns) ai:=by
 have S:=Aa t;have P:=Aa n;have J:=Aa j;have L:=Aa u;have Q:=Aa E;have N:=Aa D;have aj:=Aa j.1;obtain⟨aw,ax,ab,G⟩:=Dy n;have R:=Aa G;have hlen:ps.length=ns.length:=j.1;clear t n j u E D G;subst ab;generalize C:ps.length=e at *
 have M:=Aa C;have m:=Aa hlen;clear C hlen;have av:e<=1000:=by have:=m.o;omega
 go_enter func74,ntmps74;go_wp2;go_loopw [8] (λc wr=>∃(a:Nat) (h:Value),c=.int .i64 a/\a<=e/\Hid (bR wr b h (bs++Ae (ns.take a)))/\Hid (∀c,h.ownBlock=some c->v.ownBlock=some c\/w.heap.size<=c)/\Hid (aA (AF b v) w wr)) (λc _=>e-(intOf c).toNat)
 case atStart=>exact⟨0,v,rfl,iM _,by show bR _ _ _ _;rw[jM,Dm,iz];exact S.o,λc Y=>.inl Y,aA.refl _ _⟩
 case round =>
  obtain⟨a,h,rfl,ap,r,q,i⟩:=hrel;by_cases B:a<e
  ·obtain⟨g,X,ao⟩:=R.o (by omega);subst X;have A:a<ps.length:=by rw[M.o];exact B
   have z:a<ns.length:=by rw[<-m.o];exact B
   obtain⟨p,l⟩:∃p,ps[a]?=some p:=⟨_,hX A⟩;obtain⟨d,k⟩:∃d,ns[a]?=some d:=⟨_,hX z⟩;have F:=F4 P.o i.o Q.o;have V:wr.cell? ⟨g,a,none⟩=some (.pointer (some ⟨p.1,p.2,none⟩)):=by
    rcases LS F with ⟨am,_⟩ | ⟨al,ak,ad,U⟩
    ·omega
    cases ad;exact U a _ (by unfold C7;rw[iP,l];rfl)
   have W:wr.cell? ⟨p.1,p.2,none⟩=some (.int .i64 d):=i.o.cell (J.o.2 a p d l k) (L.o p (iu l));obtain⟨af,ag⟩:=N.o d (iu k)
   have O:=Aa (show bs++Ae (ns.take a)++enc d=bs++Ae (ns.take (a+1)) by
      rw[List.append_assoc];congr 1;rw[jg,k,By]
      simp[Ae])
   have aa:(bs++Ae (ns.take a)).length<=140737488355300:=by
    have:=Cp (ns.take a);have an:(ns.take a).length<=ns.length:=by rw[iD];omega
    rw[hY];omega
   have aq:(0:Int)<=(a:Int):=by omega
   have x:(a:Int)<(e:Int):=by omega
   clear F l k A z;go_wp2_with fail
   refine(FE b h (bs++Ae (ns.take a)) d wr r.o af ag aa).mono ?_;rintro s ay ⟨rfl,H⟩;have T:=Aa (aJ.then q.o i.o H);clear H V W;go_wp2;go_roundw;case rel =>
    obtain⟨ah,I,ae,Z⟩:=T.o;rw[O.o]at I;exact⟨a+1,ah,by go_num,by omega,I,ae,Z⟩
   case measure=>simp[intOf];omega
  have x:a=e:=by omega
  subst x;go_wp2;go_end0;refine⟨rfl,h,?_,q.o,i.o⟩;have:=r.o;rwa [iq (by rw[<-m.o];omega)]at this
def CB(l:List Nat): Int:=l.foldl (λa (b:Nat)=>AG 1000003000007 b a) 1
theorem Wu(l:List Nat)(b:Nat): CB (l++[b])=AG 1000003000007 b (CB l):=by simp[CB]
theorem SP(l:List Nat)(a:Int)(c:0<=a)(d:a<2305843009213693951): 0<=l.foldl (λa (b:Nat)=>AG 1000003000007 b a) a/\l.foldl (λa (b:Nat)=>AG 1000003000007 b a) a<2305843009213693951:=by
 induction l generalizing a with
 | nil=>exact⟨c,d⟩
 | cons b l e=>have:=GD 1000003000007 b a;exact e _ this.1 this.2
theorem MG(l:List Nat): 0<=CB l/\CB l<2305843009213693951:=SP l 1 (by omega) (by omega)
theorem zLp(v:Value)(bs:List Nat)(w:World)(e:dO w v bs)(s:∀O∈bs,O<256)(T:bs.length<=140737488355320):
  Calls prog 75 #[v] w λn N=>n=.returned (.int .i64 (CB bs))/\lO w N:=by
 have B:=Aa e;have z:=Aa s;obtain⟨L,M,h⟩:=e.form;subst h;clear e s;generalize r:bs.length=c at *
 have m:=Aa r;clear r;go_enter func75,ntmps75;go_wp2;go_loopw [3,8] (λD d wr=>∃a:Nat,d=.int .i64 a/\a<=c/\D=.int .i64 (CB (bs.take a))/\Hid (lO w wr)) (λ_ d _=>c-(intOf d).toNat)
 case atStart=>exact⟨0,rfl,iM _,rfl,aA.refl _ _⟩
 case round =>
  obtain⟨a,rfl,Q,rfl,l⟩:=hrel;by_cases H:a<c
  ·have q:a<bs.length:=by rw[m.o];exact H
   obtain⟨y,k⟩:∃y,bs[a]?=some y:=⟨_,hX q⟩;have V:=z.o y (iu k);have x:=Aa (show CB (bs.take (a+1))=AG 1000003000007 y (CB (bs.take a)) by rw[jg,k];exact Wu _ _);obtain⟨g,i,h,j⟩:∃g i,(Value.slice L c M)=.slice (some ⟨g,0,none⟩) c i/\∀(d:Nat) u,(B7 bs)[d]?=some u->w.cell? ⟨g,d,none⟩=some u:=by
    rcases B.o.cells with ⟨P,_⟩ | ⟨g,i,h,j⟩
    ·omega
    exact⟨g,i,by rw[h,m.o],j⟩
   injection h with I _ J;subst I J;have F:wr.cell? ⟨g,a,none⟩=some (.int .u8 (y:Int)):=l.o.cell (j a _ (by unfold B7;rw[iP,k];rfl)) id;have U:IntKind.i64.wrap (y:Int)=(y:Int):=(by rw[ic];omega);have E:=MG (bs.take a);generalize CB (bs.take a)=C at *
   have R:(0:Int)<=(a:Int):=by omega
   have S:(a:Int)<(c:Int):=by omega
   clear j k q;go_wp2_with fail
   refine(Y6 1000003000007 (y:Int) C wr (by omega) (by omega) (by omega) (by omega) E.1 (by omega)).mono ?_;rintro n W ⟨rfl,o⟩;have t:=Aa (l.o.then o);clear o F;go_wp2;go_roundw;case rel=>exact⟨a+1,by go_num,by omega,by rw[x.o],t.o⟩
   case measure=>simp[intOf];omega
  have G:a=c:=by omega
  subst G;have A:=Aa (show bs.take a=bs from iq (by rw[m.o];omega));go_wp2;go_ret;exact⟨by rw[A.o];rfl,l.o⟩
def AM(l:List Nat): ByteArray:=strOfNums (l.map λ(n:Nat)=>(n:Int))
theorem Vr(l:List Nat)(i:Nat)(hi:i<l.length): (B7 l)[i]?=some (.int .u8 ((l.map λ(n:Nat)=>(n:Int)).getD i 0)):=by
 unfold B7;rw[iP,List.getD_eq_getElem?_getD,iP,hX hi];rfl
theorem X9(b:Nat)(v:Value)(bs:List Nat)(w:World)(a:bR w b v bs)(C:bs.length<=140737488355300):
  Calls prog 49 #[.pointer (some ⟨b,0,none⟩)] w λe F=>e=.returned (.string (AM (bs++enc (CB bs))))/\aA (AF b v) w F:=by
 have A:=a.aF.c0;have m:=Aa (zLp v bs w a.row a.small (by omega));have k:=Aa (MG bs);have u:=Aa a;obtain⟨q,r,d⟩:=a.row.form;subst d;clear a;go_enter func49,ntmps49;go_wp2_with fail
 refine m.o.mono ?_;rintro e G ⟨rfl,h⟩;have s:=Aa h;have l:=Aa (FE b (.slice q bs.length r) bs (CB bs) G (u.o.still h) k.o.1 (by have:=k.o.2;omega) C);clear h A m;go_wp2_with fail
 refine l.o.mono ?_;rintro e j ⟨rfl,E,i,D,n⟩;have t:=Aa ((s.o.mono (M':=AF b (.slice q bs.length r)) (λ_ _ a=>a.elim)).then n);have I:=i.aF.c0;obtain⟨g,c,d,J⟩:∃g c,E=.slice (some ⟨g,0,none⟩) (bs++enc (CB bs)).length c/\(convert 129 9 (.slice (some ⟨g,0,none⟩) (bs++enc (CB bs)).length c)).run prog j=.ok (.string (AM (bs++enc (CB bs)))) j:=by
  rcases i.row.cells with ⟨x,_⟩ | ⟨g,c,d,z⟩
  ·exfalso;have H:0<(enc (CB bs)).length:=by
    unfold enc BM;split <;> simp
   rw[hY]at x;omega
  refine⟨g,c,d,run_convert_bytes_arg j 129 5 underlying129 Q0 g 0 _ c _ (by simp) (λo B=>?_) 9 underlying9⟩;rw[ja];exact z o _ (Vr _ o B)
 subst d;generalize(bs++enc (CB bs)).length=L at *
 clear i D n l;go_wp2;go_ret;exact⟨rfl,t.o⟩
theorem Ui(e b:Nat)(c:Cfg)(a d m:Int)(v:Value)(bs:List Nat)(w:World)(j:aD w e (E7 c a d) 194)(h:bR w b v bs)(o:¬AF b v e)(D:0<=a)(E:a<=9223372036854775807)(F:0<=d)(G:d<=9223372036854775807)(L:bs.length<=140737488355000):
  Calls prog 155 #[.pointer (some ⟨e,0,none⟩),.pointer (some ⟨b,0,none⟩),.int .i64 m] w λi I=>i=.returned (.tuple #[])/\aJ w b v (bs++Ae [a,d]) I:=by
 have C:w.cell? ⟨e,20,none⟩=some (.int .i64 a):=j.cell rfl;have u:=Aa j;have x:=Aa o;have l:=Aa (FE b v bs a w h D E (by omega));clear j h o;go_enter func155,ntmps155;go_wp2_with fail
 refine l.o.mono ?_;rintro i t ⟨rfl,H,r,q,k⟩;have J:t.cell? ⟨e,21,none⟩=some (.int .i64 d):=k.cell (u.o.cell rfl) x.o;have B:=Aa q;have A:=Aa k;have n:=Aa (FE b H (bs++enc a) d t r F G (by have:=Dk a;rw[hY];omega));clear C r q k l;go_wp2_with fail
 refine n.o.mono ?_;rintro i M ⟨rfl,s⟩;have z:=Aa (aJ.then B.o A.o s);clear s n;go_wp2;go_end0;refine⟨rfl,?_⟩;have h:=z.o;rw[List.append_assoc]at h;rw[BN,Ei];exact h
end
section
attribute [local go_sem ↓] AN B2
attribute [local go_sem] AO B4 A5 A6 AI AJ Bf B3
def Cfg.aL(c:Cfg): List Int:=[c.kind,c.aK,c.bF,c.cap,c.k,c.aB,c.bits,c.rows,c.width,c.aM,c.size,c.degree,c.half,c.mark,c.bV,c.bW,c.cG,c.cH,c.cQ,c.cR]
theorem Cfg.eV(c:Cfg): c.cells=c.aL.map (.int .i64 ·):=rfl
def Cfg.num(c:Cfg)(o:Nat): Int:=c.aL.getD o 0
def Ch: Nat->List Nat | 1=>[4,5] | 2=>[6,5] | 3=>[7,8,9,5] | 4=>[11,12,13] | _=>[11,12,13,10]
def at'(b:Nat)(l:List Nat): List (Nat×Nat):=l.map λo=>(b,o)
theorem zNa: (prog.info? 163).map (λa=>(a.zero,a.size,a.bytes))=some (some (.pointer none),1,8):=by kernel_rfl
theorem FI{w w':World}{ps:List (Nat×Nat)}{n:Nat}(c:ps.length=n)(d:n<=100)(a:w'.heap[w.heap.size]?=some (.cells (C7 ps).toArray 163)): w'.ownsRow w.heap.size 163 1 (.slice (some ⟨w.heap.size,0,none⟩) n n) ps.length (C7 ps):=by
 subst c;exact⟨by simp[C7],.inr ⟨w.heap.size,ps.length,(C7 ps).toArray,rfl,il _,a,il _,by unfold maxLen;omega,by simp[C7],by rw[lg,iq (by simp[C7])]⟩⟩
def EK(w:World)(b:Nat)(l:List Nat)(e:Ending)(w':World): Prop:=∃v,e=.returned v/\w'.ownsRow w.heap.size 163 1 v (at' b l).length (C7 (at' b l))/\lO w w'
theorem Nz(b:Nat)(w:World): Calls prog 118 #[.pointer (some ⟨b,0,none⟩)] w (EK w b [1,2,3]):=by
 go_enter func118,ntmps118;go_wp2_with fail
 go_region
 go_wp2;go_ret;exact⟨_,rfl,FI rfl (by omega) (iJ w _),((aA.refl _ _).alloc _).drew⟩
theorem Uc(b:Nat)(w:World): Calls prog 92 #[.pointer (some ⟨b,0,none⟩)] w (EK w b [4,5]):=by
 go_enter func92,ntmps92;go_wp2_with fail
 go_region
 go_wp2;go_ret;exact⟨_,rfl,FI rfl (by omega) (iJ w _),((aA.refl _ _).alloc _).drew⟩
theorem RU(b:Nat)(w:World): Calls prog 98 #[.pointer (some ⟨b,0,none⟩)] w (EK w b [6,5]):=by
 go_enter func98,ntmps98;go_wp2_with fail
 go_region
 go_wp2;go_ret;exact⟨_,rfl,FI rfl (by omega) (iJ w _),((aA.refl _ _).alloc _).drew⟩
theorem Us(b:Nat)(w:World): Calls prog 104 #[.pointer (some ⟨b,0,none⟩)] w (EK w b [7,8,9,5]):=by
 go_enter func104,ntmps104;go_wp2_with fail
 go_region
 go_wp2;go_ret;exact⟨_,rfl,FI rfl (by omega) (iJ w _),((aA.refl _ _).alloc _).drew⟩
theorem NV(b:Nat)(w:World): Calls prog 108 #[.pointer (some ⟨b,0,none⟩)] w (EK w b [11,12,13]):=by
 go_enter func108,ntmps108;go_wp2_with fail
 go_region
 go_wp2;go_ret;exact⟨_,rfl,FI rfl (by omega) (iJ w _),((aA.refl _ _).alloc _).drew⟩
theorem zNe{w:World}{base a:Nat}{t size:Nat}{v:Value}{n:Nat}{d:List Value}(c:w.ownsRow base t size v n d)(j:a<=base): w.ownsRow a t size v n d:=by
 refine⟨c.1,?_⟩;rcases c.2 with i | ⟨g,e,h,rfl,k,l⟩
 ·exact .inl i
 exact .inr ⟨g,e,h,rfl,jI j k,l⟩
def Hh(t:TypeId)(x y:Value): Sem Next:=do pure (.value (<-Builtin.append_ #[137,137] t #[x,y]))
theorem NS(ρ:Operand->Value)(dst:Option Tmp)(x y:Operand)(a:TypeId)(pos:String)(after:Array Edge)(guard:Option (Nat×Bool)):
  execOp ρ { dst,op:=.call { callee:=.builtin .append,args:=#[x,y],argTypes:=#[137,137] },type:=a,pos,after,guard }=Hh a (ρ x) (ρ y):=by
 rw[BigFrame.execOp_builtin,BigFrame.builtin_append];simp[Hh]
theorem Mw(w:World)(base:Nat)(v:Value)(m c:Nat)(j a:List Value)(t:w.ownsRow base 163 1 v m j)(x:w.heap[c]?=some (.cells a.toArray 163))(o:∀D∈a,D.oneCell'=true)(s:0<a.length)(E:m+a.length<=100)(q:base<=w.heap.size):
  ∃h e d,(∀i,(Hh i v (.slice (some ⟨c,0,none⟩) a.length a.length)).run prog w=.ok (.value (.slice (some ⟨h,0,none⟩) (m+a.length) e)) d) /\
   d.ownsRow base 163 1 (.slice (some ⟨h,0,none⟩) (m+a.length) e) (m+a.length) (j++a)/\w.grownBy d v.ownBlock:=by
 obtain⟨C,r,z,A,B⟩:=jh zNa;obtain⟨h,e,d,k,l,n,_,_⟩:=run_append_lies (P:=prog) w 137 137 base 163 C _ 1 8 underlying137 r z A B rfl (by omega) v m j t ⟨c,0,none⟩ a.length a.length a (by simp) (iT x) o s (by unfold maxLen;omega) (by omega) q w.heap.size rfl;refine⟨h,e,d,λi=>?_,l,n⟩;unfold Hh;rw[jm];have u:Builtin.append_ #[137,137] i #[v,.slice (some ⟨c,0,none⟩) a.length a.length]=Builtin.append_ #[137,137] 137 #[v,.slice (some ⟨c,0,none⟩) a.length a.length]:=rfl;rw[u,k];rfl
theorem R4(b:Nat)(w:World): Calls prog 108 #[.pointer (some ⟨b,0,none⟩)] w λt e=>∃k l,t=.returned (.slice k 3 l)/\lO w e /\
  (∃d c a,(∀s,(Hh s (.slice k 3 l) (.slice (some ⟨e.heap.size,0,none⟩) 1 1)).run prog (e.alloc (.cells #[.pointer (some ⟨b,10,none⟩)] 163))=.ok (.value (.slice (some ⟨d,0,none⟩) 4 c)) a) /\
     a.ownsRow w.heap.size 163 1 (.slice (some ⟨d,0,none⟩) 4 c) 4 (C7 (at' b [11,12,13,10]))/\lO w a) /\
  (∀h,w.heap[h]?=some (.cells #[.pointer (some ⟨b,10,none⟩)] 163)->∃d c a,(∀s,(Hh s (.slice k 3 l) (.slice (some ⟨h,0,none⟩) 1 1)).run prog e=.ok (.value (.slice (some ⟨d,0,none⟩) 4 c)) a) /\
     a.ownsRow w.heap.size 163 1 (.slice (some ⟨d,0,none⟩) 4 c) 4 (C7 (at' b [11,12,13,10]))/\lO w a):=by
 refine(NV b w).mono ?_;rintro t e ⟨A,rfl,j,i⟩;obtain⟨k,l,z,_⟩:=Dy j;subst z;have x:=i.size;refine⟨k,l,rfl,i,?_,λh u=>?_⟩
 ·obtain⟨d,c,a,m,n,o⟩:=Mw (e.alloc (.cells #[.pointer (some ⟨b,10,none⟩)] 163)) w.heap.size _ 3 e.heap.size _ [.pointer (some ⟨b,10,none⟩)] (j.alloc _) (iJ e _) (by simp[Value.oneCell']) (by simp) (by simp) (by simp;omega);exact⟨d,c,a,m,n,(i.alloc _).grown o (λr q=>.inr (j.lt r q).1)⟩
 obtain⟨d,c,a,m,n,o⟩:=Mw e w.heap.size _ 3 h _ [.pointer (some ⟨b,10,none⟩)] j (by rw[i.block h (jr.1 u).1 id];exact u) (by simp[Value.oneCell']) (by simp) (by simp) x;exact⟨d,c,a,m,n,i.grown o (λr q=>.inr (j.lt r q).1)⟩
attribute [local go_sem ↓ 2000] NS
attribute [local go_sem ↓] Go.wp_at_zero Go.wp_at_succ
theorem Ux(b:Nat)(w:World): Calls prog 112 #[.pointer (some ⟨b,0,none⟩)] w (EK w b [11,12,13,10]):=by
 go_enter func112,ntmps112;go_wp2_with fail
 have l:(w.alloc (.cells #[.pointer (some ⟨b,10,none⟩)] 163)).drew.heap[w.heap.size]?=some (.cells #[.pointer (some ⟨b,10,none⟩)] 163):=iJ w _;go_region_with (first | (go_at_call 108;refine(R4 b _).mono ?_;rintro o v ⟨t,u,rfl,q,⟨e,c,x,r,m,k⟩,i⟩;try (have j:=i w.heap.size l;obtain⟨h,d,z,s,n,a⟩:=j)))
 ·go_wp2;go_ret;exact⟨.slice (some ⟨e,0,none⟩) 4 c,rfl,m,((aA.refl (λ_=>False) w).drew).then k⟩
 all_goals
  go_wp2;go_ret;refine⟨.slice (some ⟨h,0,none⟩) 4 d,rfl,zNe n (by show w.heap.size<=(w.alloc _).heap.size;simp),?_⟩;first
   | exact(((aA.refl (λ_=>False) w).alloc _).drew).then a
   | exact(((aA.refl (λ_=>False) w).drew).alloc _).then a
theorem PK(b:Nat)(w:World): Calls prog 95 #[.pointer (some ⟨b,0,none⟩)] w (EK w b [0]):=by
 go_enter func95,ntmps95;go_wp2;go_ret;exact⟨_,rfl,FI rfl (by omega) (iJ w _),(aA.refl _ _).alloc _⟩
theorem QJ(b:Nat)(w:World): Calls prog 101 #[.pointer (some ⟨b,0,none⟩)] w (EK w b [0,1]):=by
 go_enter func101,ntmps101;go_wp2_with fail
 go_region
 go_wp2;go_ret;exact⟨_,rfl,FI rfl (by omega) (iJ w _),((aA.refl _ _).alloc _).drew⟩
theorem M9(b:Nat)(w:World): Calls prog 114 #[.pointer (some ⟨b,0,none⟩)] w (EK w b [0,1,2]):=by
 go_enter func114,ntmps114;go_wp2_with fail
 go_region
 go_wp2;go_ret;exact⟨_,rfl,FI rfl (by omega) (iJ w _),((aA.refl _ _).alloc _).drew⟩
