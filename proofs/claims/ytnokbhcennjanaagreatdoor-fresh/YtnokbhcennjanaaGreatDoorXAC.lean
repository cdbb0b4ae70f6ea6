import Derived.Test.YtnokbhcennjanaaGreatDoorXAB
import Derived.Deep.LoopGhost
open Go.RowKit Go.Proofs.Tryz
set_option maxRecDepth 100000
set_option maxHeartbeats 16000000
namespace Go.Proofs.YtnokbhcennjanaaGreatDoor
section
def MR(c:Cfg)(r:Nat): List Value:=c.cells++[π r]
structure bU (w:World) (d r:Nat) (og:Option Nat) (c:Cfg) (l:List Bk):Prop where
 aF:aD w d (MR c r) 210
 row:aH w r og l
 dr:d≠r
 dg:∀g,og=some g->d≠g
theorem bU.keeps{M:Nat->Prop}{w w':World}{d h:Nat}{e:Option Nat}{c:Cfg}{l:List Bk}(a:bU w d h e c l)(k:aA M w w')(i:¬M d)(m:¬M h)(j:∀g,e=some g->¬M g): bU w' d h e c l :=
 ⟨a.aF.keeps k i,a.row.keeps k m j,a.dr,a.dg⟩
theorem bU.still{w w':World}{d h:Nat}{e:Option Nat}{c:Cfg}{l:List Bk}(a:bU w d h e c l)(k:lX w w'): bU w' d h e c l:=a.keeps k id id (λ_ _ a=>a)
def Ao: List Bk->Int
 | []=>0
 | b::l=>b.sz+Ao l
theorem F3(a b:List Bk): Ao (a++b)=Ao a+Ao b:=by
 induction a with
 | nil=>simp[Ao]
 | cons e d c=>simp[Ao,c];omega
theorem Ej{l:List Bk}(a:∀b∈l,1<=b.sz): 0<=Ao l:=by
 induction l with
 | nil=>simp[Ao]
 | cons e l d =>
  have h:=a e (by simp);have i:=d (λb c=>a b (by simp[c]));simp only[Ao];omega
theorem Ja{l:List Bk}(a:∀b∈l,1<=b.sz): (l.length:Int)<=Ao l:=by
 induction l with
 | nil=>simp[Ao]
 | cons e l d =>
  have h:=a e (by simp);have i:=d (λb c=>a b (by simp[c]));simp only[Ao,iD];omega
theorem Ih(l:List Bk)(k:Nat): Ao (l.take k)+Ao (l.drop k)=Ao l:=by
 rw[<-F3,τ]
theorem EU{l:List Bk}{i:Nat}(a:i<l.length): Ad l i∈l:=by
 have:Ad l i=l[i]:=by simp[Ad,List.getD_eq_getElem?_getD,h9 a]
 rw[this];exact jk a
theorem Ks{l:List Bk}(c:∀b∈l,1<=b.sz){b:Bk}(a:b∈l): b.sz<=Ao l:=by
 induction l with
 | nil=>simp at a
 | cons e l d =>
  have h:=Ej (l:=l) (λb a=>c b (by simp[a]));have i:=c e (by simp);simp only[Ao];rcases iA.1 a with rfl | a
  ·omega
  have:=d (λb a=>c b (by simp[a])) a;omega
def Rf(v:Value): Sem Next:=do pure (.value (<-Instr.field 207 v 0))
theorem Lu(ρ:Operand->Value)(dst:Option Tmp)(x:Operand)(a:TypeId)(pos:String)(after:Array Edge)(guard:Option (Nat×Bool)):
  execOp ρ { dst,op:=.field 207 x 0,type:=a,pos,after,guard }=Rf (ρ x):=rfl
theorem L2(a b:Value)(w:World): (Rf (.agg #[a,b])).run prog w=.ok (.value a) w:=by kernel_rfl
attribute [local go_sem ↓] Lu
attribute [local go_sem] L2
def AC(l:List Bk)(sz:Int): Nat->Nat
 | 0=>0
 | e+1=>if (Ad l e).sz=sz then AC l sz e else e+1
theorem J2(l:List Bk)(a:Int)(e:Nat): AC l a e<=e:=by
 induction e with
 | zero=>simp[AC]
 | succ e c=>unfold AC;split <;> omega
theorem Iq(l:List Bk)(c:Int)(e i:Nat)(a:AC l c e<=i)(k:i<e): (Ad l i).sz=c:=by
 induction e with
 | zero=>omega
 | succ e j =>
  unfold AC at a;split at a
  ·rename_i d;by_cases h:i=e
   ·rw[h];exact d
   exact j a (by omega)
  omega
def joinL(K:Int): Nat->List Bk->Int->Nat->List Bk
 | 0,l,_,_=>l
 | f+1,l,sz,e=>if (e:Int)-(AC l sz e:Int)<=K+1 then l else joinL K f (BJ l (AC l sz e) ⟨2*sz,(Ad l (AC l sz e+1)).t⟩) (2*sz) (AC l sz e+1)
theorem TF(l:List Bk)(i:Nat)(a:i+2<=l.length): l=l.take i++(Ad l i::Ad l (i+1)::l.drop (i+2)):=by
 conv=>lhs;rw[<-τ i l]
 rw[Gj l i (by omega),Gj l (i+1) (by omega)]
theorem OA(l:List Bk)(i:Nat)(x:Bk)(a:i+2<=l.length)(c:x.sz=(Ad l i).sz+(Ad l (i+1)).sz): Ao (BJ l i x)=Ao l:=by
 conv=>rhs;rw[TF l i a]
 unfold BJ;simp only[F3,Ao];omega
theorem Kp{P:Bk->Prop}(l:List Bk)(i:Nat)(x:Bk)(c:∀b∈l,P b)(d:P x): ∀b∈BJ l i x,P b:=by
 intro b a;unfold BJ at a;rcases ik.1 a with a | a
 ·rcases ik.1 a with a | a
  ·exact c b (iZ a)
  rw[im]at a;rw[a];exact d
 exact c b (iE a)
theorem QC(d e:Nat)(i:Option Nat)(c:Cfg)(l:List Bk)(m:Int)(w:World)(a:bU w d e i c l)(n:l.length<=4398046511104)(u:-100<=m)(v:m<=4611686018427387904)(x:0<=c.aB)(q:c.aB<=1000):
  Calls prog 172 #[π d,ι m] w λh o=>h=.returned (ι (pastN l (m-c.aB)))/\lX w o:=by
 have s:=a.aF.c5;have r:κ w d 20 (π e):=a.aF.cell rfl;have j:=Aa a.row;have t:IntKind.i64.wrap (m-c.aB)=m-c.aB:=by rw[il];omega
 clear a;go_enter func172,ntmps172;go_wp2_with fail
 go_region_with (go_at_call 213;refine(past_any e i l (m-c.aB) _ (by exact j.o.still (aA.refl _ _).drew) n).mono ?_;rintro h q ⟨rfl,k⟩)
 all_goals
  go_wp2;go_ret;exact⟨rfl,((aA.refl _ _).drew).then k⟩
theorem Vj(o i:Nat)(A:Option Nat)(c:Cfg)(l:List Bk)(d:Int)(e:Nat)(w:World)(v:bU w o i A c l)(M:l.length<=4398046511104)(G:e<=l.length):
  Calls prog 214 #[π o,ι d,ι e] w λi E=>i=.returned (ι (AC l d e))/\lX w E:=by
 have B:=Aa v;clear v;go_enter func214,ntmps214;go_wp2;go_loopw [7] (λq wr=>∃a:Nat,q=ι a/\a<=e/\Hid (lX w wr)/\Hid (AC l d e=AC l d a)) (λq _=>(intOf q).toNat)
 case atStart=>exact⟨e,rfl,ir _,aA.refl _ _,rfl⟩
 case round =>
  obtain⟨a,rfl,H,m,k⟩:=hrel;have r:=Aa (B.o.still m.o);have F:κ wr o 20 (π i):=r.o.aF.cell rfl;cases a with
  | zero =>
   go_wp2;go_ret;exact⟨by rw[k.o];rfl,m.o⟩
  | succ a =>
   have C:a<l.length:=by omega
   have J:((a+1:Nat):Int)-1=(a:Int):=by omega
   have I:(0:Int)<((a+1:Nat):Int):=by omega
   have L:((a+1:Nat):Int)<=4398046511104:=by omega
   have u:=Aa (show AC l d (a+1)=if (Ad l a).sz=d then AC l d a else a+1 from rfl);generalize x:((a+1:Nat):Int)=N at *
   have s:=Aa x;clear x;go_wp2_with fail
   refine(FM i A l a wr r.o.row C).mono ?_;rintro j O ⟨rfl,z⟩;have t:=Aa (m.o.then z);clear z;generalize Ad l a=j at *
   unfold Bk.val;by_cases h:j.sz=d
   ·have n:=Aa h;have D:(j.sz==d)=true:=by simpa using h
    clear h;go_wp2;go_roundw;case rel=>exact⟨a,rfl,by omega,t,by show _=_;rw[k.o,u.o,ij n.o]⟩
    case measure=>simp[intOf];have:=s.o;omega
   have n:=Aa h;have D:(j.sz==d)=false:=by simpa using h
   clear h;go_wp2;go_ret;exact⟨by rw[k.o,u.o,ig n.o,s.o];rfl,t.o⟩
end
section
attribute [local go_sem ↓] Lu
attribute [local go_sem] L2
structure cP (l:List Bk):Prop where
 one:∀b∈l,1<=b.sz
 sum:Ao l<=4611686018427387904
 ln:l.length<=4398046511104
theorem cP.len{l:List Bk}(a:cP l): l.length<=4398046511104:=a.ln
theorem cP.drop{l:List Bk}(a:cP l)(k:Nat): cP (l.drop k):=by
 refine⟨λb c=>a.one b (iE c),?_,by have:=a.ln;rw[iU];omega⟩;have d:=Ih l k;have e:=Ej (l:=l.take k) (λb c=>a.one b (iZ c));have h:=a.sum;omega
theorem Mm{K:Int}(m:0<=K)(c a:Nat)(l:List Bk)(d:Int)(e:Nat)(j:e<c)(k:e<a): joinL K c l d e=joinL K a l d e:=by
 induction c generalizing a l d e with
 | zero=>omega
 | succ c h =>
  obtain⟨a,rfl⟩:∃f,a=f+1:=⟨a-1,by omega⟩;unfold joinL;split
  ·rfl
  rename_i i;exact h _ _ _ _ (by omega) (by omega)
theorem Pf{l:List Bk}{a t:Int}{s e:Nat}(c:cP l)(u:s=AC l a e)(r:e<=l.length)(o:s+2<=e)(v:1<=a): cP (BJ l s ⟨2*a,t⟩)/\2*a<=4611686018427387904/\Ao (BJ l s ⟨2*a,t⟩)=Ao l:=by
 have m:(Ad l s).sz=a:=Iq l a e s (by omega) (by omega);have n:(Ad l (s+1)).sz=a:=Iq l a e (s+1) (by omega) (by omega);have k:=c.sum;have d:=OA l s ⟨2*a,t⟩ (by omega) (by show 2*a=_;omega);have j:=Kp l s (⟨2*a,t⟩:Bk) c.one (by show 1<=2*a;omega);have h:=Ks j (show(⟨2*a,t⟩:Bk)∈BJ l s ⟨2*a,t⟩ by unfold BJ;simp);rw[d]at h;have q:2*a<=Ao l:=h;refine⟨⟨j,by rw[d];exact k,?_⟩,by omega,d⟩;have:=Fo (⟨2*a,t⟩:Bk) (l:=l) (i:=s) (by omega);have:=c.ln;omega
theorem Zd(j i:Nat)(n:Option Nat)(c:Cfg)(l:List Bk)(w:World)(k:bU w j i n c l)(hi:cP l)(a6:1<=c.k)(a7:c.k<=10):
  Calls prog 174 #[π j] w λa af=>a=.returned (.tuple #[])/\bU af j i n c (joinL c.k (l.length+1) l 1 l.length)/\aA (λz=>z=i\/n=some z) w af:=by
 have o:κ w j 20 (π i):=k.aF.cell rfl;have P:=Aa k;have ai:=Aa hi;have ap:=hi.len;clear k hi;go_enter func174,ntmps174;go_wp2_with fail
 refine(rowLen_any i n l w P.o.row).mono ?_;rintro a D ⟨rfl,O⟩;rw[O];clear O D o;generalize Z:l.length=C at *
 have U:=Aa Z;clear Z;go_wp2_with fail
 go_loopg [2,3,4,5] (C) (λg an b _ _ wr=>∃(h:List Bk) (a:Nat) (e:Int),an=ι a/\b=ι e/\a=g/\1<=e/\e<=4611686018427387904/\a<=4398046511104/\Hid (a<=h.length)/\Hid (cP h)/\Hid (bU wr j i n c h)/\Hid (aA (λz=>z=i\/n=some z) w wr)/\Hid (joinL c.k (C+1) l 1 C=joinL c.k (a+1) h e a))
 case atStart=>exact⟨l,C,1,rfl,rfl,rfl,by omega,by omega,ap,by show _<=_;rw[U.o];omega,ai,P,aA.refl _ _,rfl⟩
 case round =>
  obtain⟨h,a,e,rfl,rfl,Y,aw,a8,az,F,G,v,T,Q⟩:=hrel;have ah:=Aa Y;clear Y;have o:κ wr j 20 (π i):=v.o.aF.cell rfl;have J:=v.o.aF.c4;go_wp2_with fail
  refine(Vj j i n c h e a wr v.o G.o.len F.o).mono ?_;rintro d D ⟨rfl,L⟩;have u:=Aa (v.o.still L);have H:=Aa (T.o.trans L (λ_ k _=>k.elim));clear L o J v T;have o:κ D j 20 (π i):=u.o.aF.cell rfl;have J:=u.o.aF.c4;have a3:=J2 h e a;generalize ab:AC h e a=m at *
  have I:=Aa ab;clear ab;have O:IntKind.i64.wrap ((a:Int)-(m:Int))=(a:Int)-(m:Int):=by rw[il];omega
  by_cases B:(a:Int)-(m:Int)<=c.k+1
  ·go_wp2;refine iV (kB rfl _ _ _) rfl ⟨rfl,?_,H.o⟩;rw[U.o,Q.o];unfold joinL;rw[I.o,ij B];exact u.o
  have a1:decide ((a:Int)-(m:Int)<=c.k+1)=false:=by simpa using B
  have al:=Aa B;have a2:m+2<a:=by omega
  obtain⟨q,ad⟩:∃q,q=m+1:=⟨_,rfl⟩;have ay:(m:Int)+1=(q:Int):=by omega
  have R:=Aa (Pf (t:=(Ad h q).t) G.o I.o.symm F.o (by omega) aw);have A:=Aa (show m+2<=h.length by have:=F.o;omega);have x:=Aa ad;have a4:=R.o.2.1;clear B ad;go_wp2_with fail
  refine(FM i n h q D u.o.row (by have ao:=A.o;have X:=x.o;omega)).mono ?_;rintro d s ⟨rfl,M⟩;have E:=Aa (u.o.still M);have S:=Aa (H.o.trans M (λ_ k _=>k.elim));clear M o J u H;generalize ae:Ad h q=d at *
  have am:=Aa ae;clear ae;unfold Bk.val;have o:κ s j 20 (π i):=E.o.aF.cell rfl;go_wp2_with fail
  have r:=Aa (E.o.still ((aA.refl (λ_=>False) s).alloc (.cells #[ι d.sz,ι d.t] 207)));have aj:=Aa (S.o.alloc (.cells #[ι d.sz,ι d.t] 207));have V:=Aa (aD.new s [ι d.sz,ι d.t] 207);have W:(s.alloc (.cells [Value.int .i64 d.sz,ι d.t].toArray 207))=(s.alloc (.cells #[ι d.sz,ι d.t] 207)):=rfl;rw[W]at V;clear W;generalize s.alloc (.cells #[ι d.sz,ι d.t] 207)=au at *
  generalize s.heap.size=ax at *
  clear o E S;have o:κ au j 20 (π i):=r.o.aF.cell rfl;have ar:=V.o.c1;have aq:IntKind.i64.wrap (2*e)=2*e:=by rw[il];omega
  go_region_with (go_at_call 215;refine(UX i n h m ⟨2*e,d.t⟩ _ (by exact r.o.row.still (aA.refl _ _).drew) A.o G.o.len).mono ?_;rintro y av ⟨rfl,aa,N⟩)
  all_goals
   have ag:=Aa (show bU av j i n c (BJ h m ⟨2*e,d.t⟩) from⟨(r.o.aF.drew).keeps N (λk=>k.elim r.o.dr (λk=>r.o.dg j k rfl)),aa,r.o.dr,r.o.dg⟩);have ak:=Aa ((aj.o.drew).then N);clear aa N o ar aq;have a5:IntKind.i64.wrap (e*2)=2*e:=by rw[il];omega
   go_wp2;go_roundg (q)
   case measure=>have ao:=ah.o;have X:=x.o;omega
   case rel =>
    refine⟨BJ h m ⟨2*e,d.t⟩,q,2*e,rfl,rfl,rfl,by omega,by omega,by omega,?_,R.o.1,ag,ak,?_⟩
    ·show _<=_;have:=Fo (⟨2*e,d.t⟩:Bk) A.o;have X:=x.o;have a0:=A.o;omega
    show _=_;rw[Q.o]
    conv=>lhs;unfold joinL
    rw[I.o,ig (by have:=al.o;omega),<-x.o,am.o];exact Mm (by omega) _ _ _ _ _ (by have:=x.o;omega) (by omega)
def Fj(l:List Bk)(t:Int): Int:=Ao (l.drop (pastN l t))-(if pastN l t=l.length then 0 else(Ad l (pastN l t)).sz/2)
theorem TT(o h:Nat)(m:Option Nat)(c:Cfg)(l:List Bk)(t:Int)(w:World)(F:bU w o h m c l)(hi:cP l):
  Calls prog 175 #[π o,ι t] w λq ag=>q=.returned (ι (Fj l t))/\lX w ag:=by
 have A:κ w o 20 (π h):=F.aF.cell rfl;have I:=Aa F;have n:=Aa hi;have Y:=hi.len;clear F hi;go_enter func175,ntmps175;go_wp2_with fail
 refine(past_any h m l t w I.o.row Y).mono ?_;rintro q Q ⟨rfl,B⟩;have C:=Aa (I.o.still B);have L:=Aa B;clear B A;have A:κ Q o 20 (π h):=C.o.aF.cell rfl;have aj:=pastN_le l t;have J:=Aa (show Fj l t=Ao (l.drop (pastN l t))-(if pastN l t=l.length then 0 else(Ad l (pastN l t)).sz/2) from rfl);generalize pastN l t=p at *
 go_wp2_with fail
 refine(rowLen_any h m l Q C.o.row).mono ?_;rintro q x ⟨rfl,v⟩;rw[v];clear v x;generalize P:l.length=e at *
 have k:=Aa P;clear P;by_cases u:p=e
 ·have X:((p:Int)==(e:Int))=true:=by simp[u]
  have z:=Aa u;clear u;go_wp2;go_ret;refine⟨?_,L.o⟩;rw[J.o,ij z.o,iX (by rw[k.o,z.o];exact ir _)];rfl
 have X:((p:Int)==(e:Int))=false:=by simp;omega
 have z:=Aa u;have H:p<e:=by omega
 clear u;go_wp2_with fail
 go_loopg [6,7] (e-p) (λg W b wr=>∃(a:Nat) (d:Int),W=ι d/\b=ι a/\p<=a/\a<=e/\e-a=g/\0<=d/\d<=4611686018427387904/\Hid (bU wr o h m c l)/\Hid (lX w wr)/\Hid (d+Ao (l.drop a)=Ao (l.drop p)))
 case atStart=>exact⟨p,0,rfl,rfl,ir _,by omega,rfl,by omega,by omega,C,L,by show _=_;omega⟩
 case round =>
  obtain⟨a,d,rfl,rfl,B,ah,O,ao,ap,s,M,E⟩:=hrel;have S:=Aa O;clear O A;have A:κ wr o 20 (π h):=s.o.aF.cell rfl;go_wp2_with fail
  refine(rowLen_any h m l wr s.o.row).mono ?_;rintro q x ⟨rfl,v⟩;rw[v,k.o];clear v x;by_cases G:a<e
  ·have ai:(a:Int)<(e:Int):=by omega
   go_wp2_with fail
   refine(FM h m l a wr s.o.row (by rw[k.o];exact G)).mono ?_;rintro q x ⟨rfl,r⟩;have R:=Aa (s.o.still r);have D:=Aa (M.o.then r);clear r;have N:=Gj l a (by rw[k.o];exact G);have ad:=n.o.one _ (EU (l:=l) (i:=a) (by rw[k.o];exact G));generalize Ad l a=j at *
   have aa:Ao (l.drop a)=j.sz+Ao (l.drop (a+1)):=by rw[N];rfl
   have ab:Ao (l.drop p)<=4611686018427387904:=(n.o.drop p).sum;have Z:0<=Ao (l.drop (a+1)):=Ej (n.o.drop (a+1)).one;have ak:d+j.sz<=4611686018427387904:=by have:=E.o;omega
   have V:=Aa (show d+j.sz+Ao (l.drop (a+1))=Ao (l.drop p) by have:=E.o;omega);clear N aa ab Z;have al:IntKind.i64.wrap (d+j.sz)=d+j.sz:=by rw[il];omega
   unfold Bk.val;go_wp2;go_roundg (e-(a+1))
   case measure=>have:=S.o;omega
   case rel=>exact⟨a+1,d+j.sz,rfl,by go_num,by omega,by omega,rfl,by omega,by omega,R,D,V⟩
  have T:=Aa (show a=e by omega);go_wp2_with fail
  refine(FM h m l p wr s.o.row (by rw[k.o];exact H)).mono ?_;rintro q x ⟨rfl,r⟩;have D:=Aa (M.o.then r);clear r;have ad:=n.o.one _ (EU (l:=l) (i:=p) (by rw[k.o];exact H));have ae:=Ks n.o.one (EU (l:=l) (i:=p) (by rw[k.o];exact H));have af:=n.o.sum;generalize Ad l p=j at *
  have an:j.sz<=4611686018427387904:=by omega
  have U:=Aa (show d=Ao (l.drop p) by
     have:=E.o;rw[iX (by rw[k.o,T.o];exact ir _)]at this
     simp only[Ao]at this;omega)
  have am:IntKind.i64.wrap (d-j.sz/2)=d-j.sz/2:=by rw[il];omega
  clear ae af;unfold Bk.val;go_wp2;go_ret;refine⟨?_,D.o⟩;rw[J.o,ig z.o,U.o];rfl
end
section
attribute [local go_sem ↓] AH Bs
attribute [local go_sem] AI Bt A3 A4 AJ AL Bd B2
def EG(c:Cfg)(l:List Bk)(m:Int): List Bk:=l.drop (pastN l (m-c.aB))
def C5(c:Cfg)(l:List Bk)(t m:Int): List Bk:=EG c l m++[⟨1,t⟩]
def C7(c:Cfg)(l:List Bk)(t m:Int): List Bk:=joinL c.k ((C5 c l t m).length+1) (C5 c l t m) 1 (C5 c l t m).length
theorem X9{c:Cfg}{l:List Bk}{m:Int}(t:Int)(d:cP l)(j:Ao l+1<=4611686018427387904)(i:l.length+1<=4398046511104): cP (C5 c l t m):=by
 unfold C5;refine⟨λb a=>?_,?_,by unfold EG;rw[ic,iU,jh];omega⟩
 ·rcases ik.1 a with a | a
  ·exact d.one b (iE a)
  rw[im]at a;rw[a];exact iL _
 have e:=Ih l (pastN l (m-c.aB));have h:=Ej (l:=l.take (pastN l (m-c.aB))) (λb a=>d.one b (iZ a));rw[F3];unfold EG;simp only[Ao];omega
theorem S9(e d:Nat)(h:Option Nat)(c:Cfg)(l:List Bk)(x:It)(m:Int)(w:World)(a:bU w e d h c l)(hi:cP l)(ak:Ao l+1<=4611686018427387904)(aj:l.length+1<=4398046511104)(an:-100<=m)(ao:m<=4611686018427387904)(ap:0<=c.aB)(aq:c.aB<=1000)(al:1<=c.k)(am:c.k<=10):
  Calls prog 134 #[π e,x.val,ι m] w λs R=>s=.returned (.tuple #[])/\∃n,bU R e d n c (C7 c l x.t m)/\aA (λq=>q=d\/h=some q) w R/\(n=h\/∃k,n=some k/\w.heap.size<=k):=by
 have t:κ w e 20 (π d):=a.aF.cell rfl;have F:=Aa a;have ah:=hi.len;have Y:=Aa (pastN_le l (m-c.aB));have V:=Aa (X9 (c:=c) (m:=m) x.t hi ak aj);have W:=Aa (show(EG c l m).length<=4398046511104 from by have:=(hi.drop (pastN l (m-c.aB))).len;exact this);have Z:=Aa (show C7 c l x.t m=joinL c.k ((C5 c l x.t m).length+1) (C5 c l x.t m) 1 (C5 c l x.t m).length from rfl);have X:=Aa (show EG c l m=l.drop (pastN l (m-c.aB)) from rfl);have ai:=a.aF.lt;clear a hi;unfold It.val;go_enter func134,ntmps134;go_wp2_with fail
 have L:=Aa (aD.new w [ι x.t,ι x.k,ι x.d,ι x.n] 80);have N:(w.alloc (.cells [Value.int .i64 x.t,ι x.k,ι x.d,ι x.n].toArray 80))=(w.alloc (.cells #[ι x.t,ι x.k,ι x.d,ι x.n] 80)):=rfl;rw[N]at L;clear N;have j:=Aa (F.o.still ((aA.refl (λ_=>False) w).alloc (.cells #[ι x.t,ι x.k,ι x.d,ι x.n] 80)));have T:=Aa ((aA.refl (λq=>q=d\/h=some q) w).alloc (.cells #[ι x.t,ι x.k,ι x.d,ι x.n] 80));generalize w.alloc (.cells #[ι x.t,ι x.k,ι x.d,ι x.n] 80)=z at *
 have H:=Aa (show w.heap.size≠d/\∀g,h=some g->w.heap.size≠g from by
    have ad:=F.o.row.lt
    exact⟨by omega,λg u=>by have:=ad.2 g u;omega⟩)
 generalize O:w.heap.size=ab at *
 have E:=Aa O;clear O t;have t:κ z e 20 (π d):=j.o.aF.cell rfl;go_region_with (first | (go_at_call 172;refine(QC e d h c l m _ (by exact j.o.still (aA.refl _ _).drew) ah an ao ap aq).mono ?_;rintro s ar ⟨rfl,r⟩;have av:=(j.o.still (((aA.refl (λ_=>False) z).drew).then r)).aF.cell (i:=20) rfl) | (go_at_call 171;refine(lose_any d h l (pastN l (m-c.aB)) _ (by exact(j.o.still (((aA.refl (λ_=>False) z).drew).then r)).row) Y.o).mono ?_;rintro s A ⟨rfl,P,v⟩))
 all_goals
  have o:=Aa (show bU A e d h c (EG c l m) from⟨((j.o.aF.drew).keeps r id).keeps v (λa=>a.elim j.o.dr (λa=>j.o.dg e a rfl)),by rw[X.o];exact P,j.o.dr,j.o.dg⟩);have aa:=Aa (((L.o.drew).keeps r id).keeps v (λa=>a.elim H.o.1 (λa=>H.o.2 ab a rfl)));have G:=Aa (((T.o.drew).trans r (λ_ a _=>a.elim)).then v);clear r v P t;have t:κ A e 20 (π d):=o.o.aF.cell rfl;have aw:=aa.o.c0;go_wp2_with fail
  go_region_with (go_at_call 173;refine(rowPut_any d h (EG c l m) ⟨1,x.t⟩ _ (by exact o.o.row.still (aA.refl _ _).drew) W.o).mono ?_;rintro s M ⟨rfl,n,Q,C,D⟩)
  all_goals
   have S:=Aa (show bU M e d n c (C5 c l x.t m) from⟨(o.o.aF.drew).keeps C (λa=>a.elim o.o.dr (λa=>o.o.dg e a rfl)),Q,o.o.dr,λg u=>by
        rcases D with a | ⟨k,a,B⟩
        ·exact o.o.dg g (by rw[<-a,u])
        rw[u]at a;injection a with a;have:=o.o.aF.lt;rw[kY]at B
        omega⟩)
   have U:=Aa ((G.o.drew).then C);have I:=Aa (show n=h\/∃k,n=some k/\A.heap.size<=k from D);have J:=Aa G.o.size;clear C Q t D;go_wp2_with fail
   refine(Zd e d n c _ M S.o V.o al am).mono ?_;rintro s au ⟨rfl,af,ag⟩;go_wp2;go_end0;refine⟨rfl,n,by rw[Z.o];exact af,U.o.trans ag (λq hi ai=>?_),?_⟩
   ·rcases hi with hi | hi
    ·exact .inl hi
    rcases I.o with a | ⟨k,a,B⟩
    ·exact .inr (by rw[<-a,hi])
    rw[hi]at a;injection a with a;have:=J.o;have ae:=E.o;omega
   rcases I.o with a | ⟨k,a,B⟩
   ·exact .inl a
   have:=J.o;have ae:=E.o;exact .inr ⟨k,a,by omega⟩
theorem UW(d k:Nat)(j:Option Nat)(c:Cfg)(l:List Bk)(a m:Int)(w:World)(h:bU w d k j c l)(n:Ab a 1 c.aB=false):
  Calls prog 135 #[π d,ι a,ι m] w λe i=>e=.returned (.tuple #[.slice none 0 0,ι 13])/\lX w i:=by
 have o:=h.aF.c5;clear h;go_enter func135,ntmps135;go_wp2_with (go_at_call 34;refine(AN _ _ _ _).mono ?_;rintro e i ⟨rfl,rfl⟩)
 go_ret2;exact⟨rfl,aA.refl _ _⟩
theorem Tw(d o:Nat)(n:Option Nat)(c:Cfg)(l:List Bk)(a m:Int)(w:World)(h:bU w d o n c l)(hi:cP l)(t:Ab a 1 c.aB=true)(B:-100<=m)(C:m<=4611686018427387904)(D:c.aB<=1000):
  Calls prog 135 #[π d,ι a,ι m] w λe i=>∃g,e=.returned (.tuple #[σ g 1 1,ι 0])/\w.heap.size<=g/\aD i g [ι (Fj l (m-a))] 3/\lX w i:=by
 have z:=h.aF.c5;have r:=Aa h;have s:=Aa hi;have u:1<=a/\a<=c.aB:=by simpa[Ab] using t
 obtain⟨v,x⟩:=u;have A:IntKind.i64.wrap (m-a)=m-a:=by rw[il];omega
 clear h hi;go_enter func135,ntmps135;go_wp2_with (first | (go_at_call 34;refine(AN _ _ _ _).mono ?_;rintro e i ⟨rfl,rfl⟩) | fail)
 refine(TT d o n c l (m-a) _ r.o s.o).mono ?_;rintro e q ⟨rfl,k⟩;have j:=Aa k;clear k;go_wp2;go_ret2;exact⟨q.heap.size,rfl,j.o.size,aD.new q [ι (Fj l (m-a))] 3,j.o.alloc _⟩
def DO(c:Cfg)(l:List Bk)(m b:Int): Int:=min (pastN l (m-c.aB):Int) b
theorem Tu(i e:Nat)(h:Option Nat)(c:Cfg)(l:List Bk)(m b:Int)(w:World)(a:bU w i e h c l)(hi:cP l)(L:-100<=m)(M:m<=4611686018427387904)(N:0<=c.aB)(O:c.aB<=1000)(P:0<=b)(Q:b<=100):
  Calls prog 136 #[π i,ι m,ι b] w λs F=>s=.returned (.tuple #[ι (DO c l m b),ι ((pastN l (m-c.aB):Int)-DO c l m b)])/\bU F i e h c (l.drop (DO c l m b).toNat)/\aA (λk=>k=e\/h=some k) w F:=by
 have A:=Aa a;have H:=hi.len;have I:=pastN_le l (m-c.aB);have r:=Aa (show DO c l m b=min (pastN l (m-c.aB):Int) b from rfl);clear a hi;go_enter func136,ntmps136;go_wp2_with fail
 refine(QC i e h c l m w A.o H L M N O).mono ?_;rintro s v ⟨rfl,z⟩;have d:=Aa (A.o.still z);have B:=Aa z;clear z;generalize E:pastN l (m-c.aB)=p at *
 have C:=Aa E;clear E;have D:κ v i 20 (π e):=d.o.aF.cell rfl;by_cases G:b<(p:Int)
 ·obtain⟨j,rfl⟩:∃j:Nat,b=(j:Int):=⟨b.toNat,by omega⟩;have o:=Aa (show DO c l m j=(j:Int) by rw[r.o];omega);have J:IntKind.i64.wrap ((p:Int)-(j:Int))=(p:Int)-(j:Int):=by rw[il];omega
  clear r;go_wp2_with fail
  refine(lose_any e h l j v d.o.row (by omega)).mono ?_;rintro s x ⟨rfl,q,n⟩;have t:=Aa (show bU x i e h c (l.drop j) from⟨d.o.aF.keeps n (λa=>a.elim d.o.dr (λa=>d.o.dg i a rfl)),q,d.o.dr,d.o.dg⟩);have u:=Aa ((B.o.mono (M':=λk=>k=e\/h=some k) (λ_ _ a=>a.elim)).then n);clear q n D;go_wp2;go_ret2;refine⟨?_,?_,u.o⟩
  ·rw[C.o,o.o];rfl
  rw[o.o,iM];exact t.o
 have R:(p:Int)<=b:=by omega
 have o:=Aa (show DO c l m b=(p:Int) by rw[r.o];omega);have J:IntKind.i64.wrap ((p:Int)-(p:Int))=(p:Int)-(p:Int):=by rw[il];omega
 clear r G;go_wp2_with fail
 refine(lose_any e h l p v d.o.row I).mono ?_;rintro s x ⟨rfl,q,n⟩;have t:=Aa (show bU x i e h c (l.drop p) from⟨d.o.aF.keeps n (λa=>a.elim d.o.dr (λa=>d.o.dg i a rfl)),q,d.o.dr,d.o.dg⟩);have u:=Aa ((B.o.mono (M':=λk=>k=e\/h=some k) (λ_ _ a=>a.elim)).then n);clear q n D;go_wp2;go_ret2;refine⟨?_,?_,u.o⟩
 ·rw[C.o,o.o];simp
 rw[o.o,iM];exact t.o
def KI(d:Nat): Value:=.func (.func 134) #[π d] #[]
def KG(d:Nat): Value:=.func (.func 138) #[π d] #[]
def KF(d:Nat): Value:=.func (.func 137) #[π d] #[]
def KQ(d:Nat): Value:=.func (.func 135) #[π d] #[]
def KU(d:Nat): Value:=.func (.func 136) #[π d] #[]
theorem Oq{w w':World}{b o n:Nat}(h:lX w w')(i:b<w.heap.size): Ap w' b o n=Ap w b o n/\Az w' b o n=Az w b o n:=by
 have d:∀c,w'.cell? ⟨b,o+c,none⟩=w.cell? ⟨b,o+c,none⟩:=λc=>jB (a:=⟨b,o+c,none⟩) (h.block b i id);constructor
 ·unfold Ap C1;simp only[d]
 unfold Az;simp only[d]
def Rp(ty:TypeId)(ps:Array (Nat×Value)): Sem Next:=do pure (.value (<-Instr.build ty ps))
theorem SL(ρ:Operand->Value)(dst:Option Tmp)(x:Array (Nat×Operand))(c:TypeId)(pos:String)(after:Array Edge)(guard:Option (Nat×Bool)):
  execOp ρ { dst,op:=.build 210 x,type:=c,pos,after,guard }=Rp 210 (x.map λ(a,y)=>(a,ρ y)):=rfl
theorem WZ(c:Cfg)(a:Nat)(w:World):
  (Rp 210 #[(0,.agg c.cells.toArray),(1,π a)]).run prog w=.ok (.value (.agg (MR c a).toArray)) w:=by kernel_rfl
attribute [local go_sem ↓] SL
attribute [local go_sem] WZ
theorem Tz(c:Cfg)(w:World):
  Calls prog 133 #[c.val] w λo e=>∃l t,o=.returned (π l)/\w.heap.size<=l/\w.heap.size<=t/\bU e l t none c []/\lX w e:=by
 have h:=Aa (aD.new w c.cells 46);have i:=Aa ((aA.refl (λ_=>False) w).alloc (.cells c.cells.toArray 46));have v:∃a,a=w.alloc (.cells c.cells.toArray 46):=⟨_,rfl⟩;unfold Cfg.val;go_enter func133,ntmps133;go_wp2_with fail
 obtain⟨a,m⟩:=v;have q:w.alloc (.cells #[ι c.kind,ι c.aL,ι c.bF,ι c.cap,ι c.k,ι c.aB,ι c.bits,ι c.rows,ι c.width,ι c.aM,ι c.size,ι c.degree,ι c.half,ι c.mark,ι c.bV,ι c.bW,ι c.cI,ι c.cJ,ι c.cS,ι c.cT] 46)=a:=m.symm;rw[q];rw[<-m]at h i;clear q m;generalize r:w.heap.size=k at *
 have u:=Aa r;clear r;have s:k<a.heap.size:=h.o.lt;obtain⟨H,G⟩:=CM h.o 20 rfl;go_region_held3 (λe=>Ap e k 0 20=.agg c.cells.toArray/\Az e k 0 20=true)
  (first | (simp[*,A3,A4,B8,B9];done) | (go_split_ands;exact⟨(Oq n (by simpa using s)).1.trans (by assumption),(Oq n (by simpa using s)).2.trans (by assumption)⟩))
  (first | (go_at_call 169;refine(rowNew_any _).mono ?_;rintro o d ⟨rfl,B,n,C⟩))
 go_wp2;go_ret;have z:lX a d:=((aA.refl _ _).drew).then n;have A:∀j,lX d (d.alloc j):=λj=>(aA.refl (λ_=>False) d).alloc j;have E:=i.o.size;have F:=u.o;have D:d.heap.size=a.heap.size+1:=by simpa using C
 exact⟨a.heap.size+1,a.heap.size,rfl,by omega,by omega,⟨aD.newAt D (MR c a.heap.size) 210,B.still (A _),by omega,λg x=>by cases x⟩,(i.o.then z).alloc _⟩
theorem S4(c:Cfg)(w:World):
  Calls prog 96 #[c.val] w λt A=>∃a l,t=.returned (.agg #[KI a,KQ a,KU a,KF a,KG a])/\w.heap.size<=a/\w.heap.size<=l/\bU A a l none c []/\lX w A:=by
 have i:=Aa (show aD ((w.alloc (.cells c.cells.toArray 46)).alloc (.cells #[.nilFunc,.nilFunc,.nilFunc,.nilFunc,.nilFunc] 94)) (w.heap.size+1) [.nilFunc,.nilFunc,.nilFunc,.nilFunc,.nilFunc] 94 from aD.newAt (by simp) _ _);have h:=Aa (((aA.refl (λ_=>False) w).alloc (.cells c.cells.toArray 46)).alloc (.cells #[.nilFunc,.nilFunc,.nilFunc,.nilFunc,.nilFunc] 94));have F:∃j,j=(w.alloc (.cells c.cells.toArray 46)).alloc (.cells #[.nilFunc,.nilFunc,.nilFunc,.nilFunc,.nilFunc] 94):=⟨_,rfl⟩;unfold Cfg.val;go_enter func96,ntmps96;go_wp2_with fail
 obtain⟨j,n⟩:=F;have u:(w.alloc (.cells #[ι c.kind,ι c.aL,ι c.bF,ι c.cap,ι c.k,ι c.aB,ι c.bits,ι c.rows,ι c.width,ι c.aM,ι c.size,ι c.degree,ι c.half,ι c.mark,ι c.bV,ι c.bW,ι c.cI,ι c.cJ,ι c.cS,ι c.cT] 46)).alloc (.cells #[.nilFunc,.nilFunc,.nilFunc,.nilFunc,.nilFunc] 94)=j:=n.symm;rw[u];rw[<-n]at i h;clear u n;generalize o:w.heap.size=d at *
 have C:=Aa o;clear o;refine(Tz c j).mono ?_;rintro t r ⟨a,l,rfl,O,R,x,q⟩;have B:=Aa x;have e:=Aa (i.o.keeps q id);have D:=Aa (h.o.then q);have E:=Aa h.o.size;have s:=Aa i.o.lt;clear x q i h;have N:=e.o.frozen;have H:=e.o.c0;have I:=e.o.c1;have J:=e.o.c2;have L:=e.o.c3;have M:=e.o.c4;go_wp2;have o:=C.o;have S:=E.o;have z:aA (λk=>k=d+1) r (((((r.setCell ⟨d+1,0,none⟩ (KI a)).setCell ⟨d+1,1,none⟩ (KQ a)).setCell ⟨d+1,2,none⟩ (KU a)).setCell ⟨d+1,3,none⟩ (KF a)).setCell ⟨d+1,4,none⟩ (KG a)):=(((((aA.refl (λk=>k=d+1) r).setCell (p:=⟨d+1,0,none⟩) (Or.inl rfl) _).setCell (p:=⟨d+1,1,none⟩) (Or.inl rfl) _).setCell (p:=⟨d+1,2,none⟩) (Or.inl rfl) _).setCell (p:=⟨d+1,3,none⟩) (Or.inl rfl) _).setCell (p:=⟨d+1,4,none⟩) (Or.inl rfl) _;refine iV (v:=.agg #[KI a,KQ a,KU a,KF a,KG a]) (by simp[results,results96,go_sem,H,I,J,L,M,KI,KQ,KU,KF,KG]) rfl ⟨a,l,rfl,by omega,by omega,?_,?_⟩
 ·exact B.o.keeps z (λm=>by have:=s.o;omega) (λm=>by have:=s.o;omega) (λg G=>by cases G)
 exact D.o.trans z (λk P Q=>by omega)
end
end Go.Proofs.YtnokbhcennjanaaGreatDoor
namespace Go.Proofs.YtnokbhcennjanaaGreatDoor.Mk
structure aY (w:World) (g cap:Nat) (l:List Bk):Prop where
 ex:∃cur:List Value,aD w g cur 218/\cur.length=cap*2/\cur.take (l.length*2)=A2 l
 le:l.length<=cap
 max:cap<=maxLen
theorem aY.lt{w:World}{g cap:Nat}{l:List Bk}(a:aY w g cap l): g<w.heap.size:=by obtain⟨d,c,_⟩:=a.ex;exact c.lt
theorem aY.keeps{M:Nat->Prop}{w w':World}{g cap:Nat}{l:List Bk}(a:aY w g cap l)(k:aA M w w')(e:¬M g): aY w' g cap l:=by
 obtain⟨c,d,h⟩:=a.ex;exact⟨⟨c,d.keeps k e,h⟩,a.le,a.max⟩
theorem aY.cells{w:World}{g cap:Nat}{l:List Bk}(j:aY w g cap l)(i:Nat)(hi:i<l.length):
  w.cell? ⟨g,i*2,none⟩=some (ι (Ad l i).sz)/\w.cell? ⟨g,i*2+1,none⟩=some (ι (Ad l i).t):=by
 obtain⟨h,c,n,m⟩:=j.ex;have d:∀a,a<l.length*2->h[a]?=(A2 l)[a]?:=λa k=>by rw[<-m,iW,ij k]
 obtain⟨e,b⟩:=M9 l i hi;exact⟨c.cell (by rw[d _ (by omega)];exact e),c.cell (by rw[d _ (by omega)];exact b)⟩
theorem aY.owns{w:World}{g cap:Nat}{l:List Bk}(a:aY w g cap l): w.ownsRow 0 218 2 (σ g l.length cap) l.length (A2 l):=by
 obtain⟨c,d,e,h⟩:=a.ex;exact⟨F1 l,.inr ⟨g,cap,c.toArray,rfl,iT _,d,a.le,a.max,by simp[e],by simpa using h⟩⟩
theorem brow_of_owns{w:World}{g n cap:Nat}{l:List Bk}(m:l.length=n)(d:w.ownsRow 0 218 2 (σ g n cap) n (A2 l)): aY w g cap l:=by
 rcases d.2 with ⟨a,_⟩ | ⟨q,o,c,a,_,e,h,i,j,k⟩
 ·cases a
 cases a;subst m;exact⟨⟨c.toList,by unfold aD;simpa using e,by simpa using j,k⟩,h,i⟩
theorem infoBk: (prog.info? 218).map (λa=>(a.zero,a.size,a.bytes))=some (some (.agg #[ι 0,ι 0]),2,16):=by kernel_rfl
theorem Gh(w:World)(j:TypeId)(b o n c:Nat)(cs:List Value)(a:aD w b cs 218)(l:0<n)(k:o+n*2<=cs.length):
  (Builtin.clear_ #[266] j #[.slice (some ⟨b,o,none⟩) n c]).run prog w=.ok (.tuple #[]) (w.setCells b o (Ci n)):=by
 have d:=kS (P:=prog) b o (Ci n) 0 w (λi h=>a.some (by rw[E9]at h;omega)) (λi _=>a.frozen _) (OH n);simp only[j0]at d;obtain⟨e,rfl⟩:∃e,n=e+1:=⟨n-1,by omega⟩;simp[Builtin.clear_,jL underlying266,ND,d]
theorem Jm{w:World}{g cap n j:Nat}{l:List Bk}{a:List Value}(e:l.length=n)(h:aD w g a 218)(m:a.length=cap*2)(r:n<=cap)(o:cap<=maxLen)(q:j<=n):
  aY ((w.setCells g 0 (A2 (l.drop j))).setCells g ((n-j)*2) (Ci j)) g cap (l.drop j):=by
 have c:(A2 (l.drop j)).length=(n-j)*2:=by rw[F1];simp[e]
 have i:=aD.setCells (A2 (l.drop j)) 0 w a h (by rw[c];omega);have d:(over a 0 (A2 (l.drop j))).length=cap*2:=by rw[Di (by rw[c];omega),m]
 have k:=aD.setCells (Ci j) ((n-j)*2) _ _ i (by rw[d,E9];omega);refine⟨⟨_,k,by rw[Di (by rw[d,E9];omega),d],?_⟩,by simp[e];omega,o⟩;have hlen:(l.drop j).length*2=(n-j)*2:=by simp[e]
 rw[hlen];unfold over;rw[ε,je (by simp[c])];rw[kv,Nat.min_self];simp only[jP,jv];rw[je (by omega),iw (by omega)]
theorem Jd(w:World):
  Calls prog 218 #[.slice none 0 0,ι 0,ι 0] w λa c=>a=.returned (.slice none 0 0)/\c=w:=by
 go_enter func218,ntmps218;go_wp2;go_ret;exact⟨rfl,rfl⟩
theorem Jb(g cap n:Nat)(w:World)(h:n<=cap):
  Calls prog 218 #[σ g n cap,ι 0,ι 0] w λa c=>a=.returned (σ g n cap)/\c=w:=by
 have d:(0:Int)<=(n:Int):=by omega
 have e:(n:Int)<=(cap:Int):=by omega
 go_enter func218,ntmps218;go_wp2;go_ret;exact⟨rfl,rfl⟩
theorem Jj(g cap n j:Nat)(l:List Bk)(w:World)(o:l.length=n)(q:aY w g cap l)(Y:0<j)(N:j<=n):
  Calls prog 218 #[σ g n cap,ι 0,ι j] w λH D=>H=.returned (σ g (n-j) cap)/\aY D g cap (l.drop j)/\aA (·=g) w D:=by
 obtain⟨G,h,z,C⟩:=q.ex;have A:=q.le;rw[o]at A;have B:=q.max;have r:=Aa (Jm (w:=w.drew) o (by exact h.drew) z A B N);obtain⟨news,k⟩:∃news,news=A2 (l.drop j):=⟨_,rfl⟩;rw[<-k]at r;have hlen:news.length=(n-j)*2:=by rw[k,F1];simp[o]
 have x:∀a c,news[a]?=some c->κ w g (j*2+a) c:=by
  intro a c e;refine h.cell ?_;have ab:a<(n-j)*2:=by have:=(iq.1 e).1;omega
  rw[k,Ku,j5,<-C,iW,ij (by omega)]at e;exact e
 obtain⟨m,W,O⟩:∃m:Addr,(if cap=j then some (⟨g,0,none⟩:Addr) else some ⟨g,j*2,none⟩)=some m/\Hid (∀a c,news[a]?=some c->w.drew.cell? (m.add a)=some c):=by
  by_cases u:cap=j
  ·refine⟨⟨g,0,none⟩,by simp[u],λa c e=>?_⟩;have I:news.length=0:=by omega
   rw[iR.1 I]at e;simp at e
  refine⟨⟨g,j*2,none⟩,by simp[u],λa c e=>?_⟩;rw[kl];exact x a c e
 have T:Hid (news.length=(n-j)*2):=hlen;have U:Hid (∀c∈news,c.oneCell'=true):=by rw[k];exact K2 _
 have V:Hid (∀a,a<news.length->(w.drew.cell? ⟨g,0+0*2+a,none⟩).isSome=true/\w.drew.frozen? ⟨g,0+0*2+a,none⟩=false):=by
  intro a aa;exact⟨h.some (by omega),h.frozen _⟩
 obtain⟨d,i⟩:∃d,d=w.drew.setCells g 0 news:=⟨_,rfl⟩;have v:aD d g (over G 0 news) 218:=by rw[i];exact aD.setCells _ _ _ _ h.drew (by omega)
 have X:∀s,(Builtin.clear_ #[266] s #[.slice (some ⟨g,(n-j)*2,none⟩) (n-(n-j)) (cap-(n-j))]).run prog d=.ok (.tuple #[]) (d.setCells g ((n-j)*2) (Ci (n-(n-j)))) :=
  λs=>Gh d s g _ _ _ _ v (by omega) (by rw[Di (by omega)];omega)
 have J:Hid (d=w.drew.setCells g (0+0*2) news):=i;have E:=Aa (show aA (·=g) w d by rw[i];exact aA.setCells (M:=λt=>t=g) (Or.inl rfl) _ _ _ (aA.refl _ _).drew);rw[<-i]at r;obtain⟨S,L,P,Q,R⟩:=jg infoBk;have Z:j<=cap:=by omega
 have F:=Aa (show n-(n-j)=j by omega);clear i v x k hlen h C z q o B P R;go_enter func218,ntmps218;go_wp2_with fail
 go_region_law (refine step_append_room rfl (.tmp 22) (.tmp 25) 266 rfl 218 S 2 underlying266 L Q g 0 0 cap (by simp[Act.eval,Act.put]) m (n-j) (cap-j) news (by simp[Act.eval,Act.put]) T.out O.out U.out (by omega) V.out ?_;rw[<-J.out])
 go_wp2;go_ret;refine⟨by simp,?_,?_⟩
 ·have:=r.o;rw[F.o];exact this
 exact aA.setCells (M:=λt=>t=g) (Or.inl rfl) _ _ _ E.o
