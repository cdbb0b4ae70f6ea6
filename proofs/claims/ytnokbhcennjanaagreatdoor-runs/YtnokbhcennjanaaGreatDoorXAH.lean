import Derived.Test.YtnokbhcennjanaaGreatDoorXAG
import Derived.Deep.LoopGhost
open Go.RowKit Go.Proofs.Tryz
set_option maxRecDepth 100000
set_option maxHeartbeats 16000000
namespace Go.Proofs.YtnokbhcennjanaaGreatDoor
section
def MB(c:Cfg)(r:Nat): List Value:=c.cells++[.pointer (some ⟨r,0,none⟩)]
structure bU (w:World) (d r:Nat) (og:Option Nat) (c:Cfg) (l:List Bk):Prop where
 aF:aD w d (MB c r) 210
 row:aH w r og l
 dr:d≠r
 dg:∀g,og=some g->d≠g
theorem bU.keeps{M:Nat->Prop}{w w':World}{d h:Nat}{e:Option Nat}{c:Cfg}{l:List Bk}(a:bU w d h e c l)(k:aA M w w')(i:¬M d)(m:¬M h)(j:∀g,e=some g->¬M g): bU w' d h e c l :=
 ⟨a.aF.keeps k i,a.row.keeps k m j,a.dr,a.dg⟩
theorem bU.still{w w':World}{d h:Nat}{e:Option Nat}{c:Cfg}{l:List Bk}(a:bU w d h e c l)(k:lO w w'): bU w' d h e c l:=a.keeps k id id (λ_ _ a=>a)
def An: List Bk->Int
 | []=>0
 | b::l=>b.sz+An l
theorem Fx(a b:List Bk): An (a++b)=An a+An b:=by
 induction a with
 | nil=>simp[An]
 | cons e d c=>simp[An,c];omega
theorem Ee{l:List Bk}(a:∀b∈l,1<=b.sz): 0<=An l:=by
 induction l with
 | nil=>simp[An]
 | cons e l d =>
  have h:=a e (by simp);have i:=d (λb c=>a b (by simp[c]));simp only[An];omega
theorem IK{l:List Bk}(a:∀b∈l,1<=b.sz): (l.length:Int)<=An l:=by
 induction l with
 | nil=>simp[An]
 | cons e l d =>
  have h:=a e (by simp);have i:=d (λb c=>a b (by simp[c]));simp only[An,iA];omega
theorem H0(l:List Bk)(k:Nat): An (l.take k)+An (l.drop k)=An l:=by
 rw[<-Fx,List.take_append_drop]
theorem EN{l:List Bk}{i:Nat}(a:i<l.length): Ad l i∈l:=by
 have:Ad l i=l[i]:=by simp[Ad,List.getD_eq_getElem?_getD,hX a]
 rw[this];exact jc a
theorem JX{l:List Bk}(c:∀b∈l,1<=b.sz){b:Bk}(a:b∈l): b.sz<=An l:=by
 induction l with
 | nil=>simp at a
 | cons e l d =>
  have h:=Ee (l:=l) (λb a=>c b (by simp[a]));have i:=c e (by simp);simp only[An];rcases iw.1 a with rfl | a
  ·omega
  have:=d (λb a=>c b (by simp[a])) a;omega
def Q8(v:Value): Sem Next:=do pure (.value (<-Instr.field 207 v 0))
theorem Lc(ρ:Operand->Value)(dst:Option Tmp)(x:Operand)(a:TypeId)(pos:String)(after:Array Edge)(guard:Option (Nat×Bool)):
  execOp ρ { dst,op:=.field 207 x 0,type:=a,pos,after,guard }=Q8 (ρ x):=rfl
theorem Ln(a b:Value)(w:World): (Q8 (.agg #[a,b])).run prog w=.ok (.value a) w:=by kernel_rfl
attribute [local go_sem ↓] Lc
attribute [local go_sem] Ln
def AC(l:List Bk)(sz:Int): Nat->Nat
 | 0=>0
 | e+1=>if (Ad l e).sz=sz then AC l sz e else e+1
theorem Jm(l:List Bk)(a:Int)(e:Nat): AC l a e<=e:=by
 induction e with
 | zero=>simp[AC]
 | succ e c=>unfold AC;split <;> omega
theorem H6(l:List Bk)(c:Int)(e i:Nat)(a:AC l c e<=i)(k:i<e): (Ad l i).sz=c:=by
 induction e with
 | zero=>omega
 | succ e j =>
  unfold AC at a;split at a
  ·rename_i d;by_cases h:i=e
   ·rw[h];exact d
   exact j a (by omega)
  omega
def joinL(K:Int): Nat->List Bk->Int->Nat->List Bk
 | 0,l,_,_=>l
 | f+1,l,sz,e=>if (e:Int)-(AC l sz e:Int)<=K+1 then l else joinL K f (BG l (AC l sz e) ⟨2*sz,(Ad l (AC l sz e+1)).t⟩) (2*sz) (AC l sz e+1)
theorem T4(l:List Bk)(i:Nat)(a:i+2<=l.length): l=l.take i++(Ad l i::Ad l (i+1)::l.drop (i+2)):=by
 conv=>lhs;rw[<-List.take_append_drop i l]
 rw[Gb l i (by omega),Gb l (i+1) (by omega)]
theorem O4(l:List Bk)(i:Nat)(x:Bk)(a:i+2<=l.length)(c:x.sz=(Ad l i).sz+(Ad l (i+1)).sz): An (BG l i x)=An l:=by
 conv=>rhs;rw[T4 l i a]
 unfold BG;simp only[Fx,An];omega
theorem JU{P:Bk->Prop}(l:List Bk)(i:Nat)(x:Bk)(c:∀b∈l,P b)(d:P x): ∀b∈BG l i x,P b:=by
 intro b a;unfold BG at a;rcases ig.1 a with a | a
 ·rcases ig.1 a with a | a
  ·exact c b (jn a)
  rw[ij]at a;rw[a];exact d
 exact c b (iB a)
theorem PP(d e:Nat)(i:Option Nat)(c:Cfg)(l:List Bk)(m:Int)(w:World)(a:bU w d e i c l)(n:l.length<=4398046511104)(u:-100<=m)(v:m<=4611686018427387904)(x:0<=c.aB)(q:c.aB<=1000):
  Calls prog 172 #[.pointer (some ⟨d,0,none⟩),.int .i64 m] w λh o=>h=.returned (.int .i64 (pastN l (m-c.aB)))/\lO w o:=by
 have s:=a.aF.c5;have r:w.cell? ⟨d,20,none⟩=some (.pointer (some ⟨e,0,none⟩)):=a.aF.cell rfl;have j:=Aa a.row;have t:IntKind.i64.wrap (m-c.aB)=m-c.aB:=by rw[ic];omega
 clear a;go_enter func172,ntmps172;go_wp2_with fail
 go_region_with (go_at_call 213;refine(past_any e i l (m-c.aB) _ (by exact j.o.still (aA.refl _ _).drew) n).mono ?_;rintro h q ⟨rfl,k⟩)
 all_goals
  go_wp2;go_ret;exact⟨rfl,((aA.refl _ _).drew).then k⟩
theorem U8(o i:Nat)(A:Option Nat)(c:Cfg)(l:List Bk)(d:Int)(e:Nat)(w:World)(v:bU w o i A c l)(M:l.length<=4398046511104)(G:e<=l.length):
  Calls prog 214 #[.pointer (some ⟨o,0,none⟩),.int .i64 d,.int .i64 e] w λi E=>i=.returned (.int .i64 (AC l d e))/\lO w E:=by
 have B:=Aa v;clear v;go_enter func214,ntmps214;go_wp2;go_loopw [7] (λq wr=>∃a:Nat,q=.int .i64 a/\a<=e/\Hid (lO w wr)/\Hid (AC l d e=AC l d a)) (λq _=>(intOf q).toNat)
 case atStart=>exact⟨e,rfl,il _,aA.refl _ _,rfl⟩
 case round =>
  obtain⟨a,rfl,H,m,k⟩:=hrel;have r:=Aa (B.o.still m.o);have F:wr.cell? ⟨o,20,none⟩=some (.pointer (some ⟨i,0,none⟩)):=r.o.aF.cell rfl;cases a with
  | zero =>
   go_wp2;go_ret;exact⟨by rw[k.o];rfl,m.o⟩
  | succ a =>
   have C:a<l.length:=by omega
   have J:((a+1:Nat):Int)-1=(a:Int):=by omega
   have I:(0:Int)<((a+1:Nat):Int):=by omega
   have L:((a+1:Nat):Int)<=4398046511104:=by omega
   have u:=Aa (show AC l d (a+1)=if (Ad l a).sz=d then AC l d a else a+1 from rfl);generalize x:((a+1:Nat):Int)=N at *
   have s:=Aa x;clear x;go_wp2_with fail
   refine(FF i A l a wr r.o.row C).mono ?_;rintro j O ⟨rfl,z⟩;have t:=Aa (m.o.then z);clear z;generalize Ad l a=j at *
   unfold Bk.val;by_cases h:j.sz=d
   ·have n:=Aa h;have D:(j.sz==d)=true:=by simpa using h
    clear h;go_wp2;go_roundw;case rel=>exact⟨a,rfl,by omega,t,by show _=_;rw[k.o,u.o,h9 n.o]⟩
    case measure=>simp[intOf];have:=s.o;omega
   have n:=Aa h;have D:(j.sz==d)=false:=by simpa using h
   clear h;go_wp2;go_ret;exact⟨by rw[k.o,u.o,hZ n.o,s.o];rfl,t.o⟩
end
section
attribute [local go_sem ↓] Lc
attribute [local go_sem] Ln
structure cN (l:List Bk):Prop where
 one:∀b∈l,1<=b.sz
 sum:An l<=4611686018427387904
 ln:l.length<=4398046511104
theorem cN.len{l:List Bk}(a:cN l): l.length<=4398046511104:=a.ln
theorem cN.drop{l:List Bk}(a:cN l)(k:Nat): cN (l.drop k):=by
 refine⟨λb c=>a.one b (iB c),?_,by have:=a.ln;rw[iQ];omega⟩;have d:=H0 l k;have e:=Ee (l:=l.take k) (λb c=>a.one b (jn c));have h:=a.sum;omega
theorem L5{K:Int}(m:0<=K)(c a:Nat)(l:List Bk)(d:Int)(e:Nat)(j:e<c)(k:e<a): joinL K c l d e=joinL K a l d e:=by
 induction c generalizing a l d e with
 | zero=>omega
 | succ c h =>
  obtain⟨a,rfl⟩:∃f,a=f+1:=⟨a-1,by omega⟩;unfold joinL;split
  ·rfl
  rename_i i;exact h _ _ _ _ (by omega) (by omega)
theorem OC{l:List Bk}{a t:Int}{s e:Nat}(c:cN l)(u:s=AC l a e)(r:e<=l.length)(o:s+2<=e)(v:1<=a): cN (BG l s ⟨2*a,t⟩)/\2*a<=4611686018427387904/\An (BG l s ⟨2*a,t⟩)=An l:=by
 have m:(Ad l s).sz=a:=H6 l a e s (by omega) (by omega);have n:(Ad l (s+1)).sz=a:=H6 l a e (s+1) (by omega) (by omega);have k:=c.sum;have d:=O4 l s ⟨2*a,t⟩ (by omega) (by show 2*a=_;omega);have j:=JU l s (⟨2*a,t⟩:Bk) c.one (by show 1<=2*a;omega);have h:=JX j (show(⟨2*a,t⟩:Bk)∈BG l s ⟨2*a,t⟩ by unfold BG;simp);rw[d]at h;have q:2*a<=An l:=h;refine⟨⟨j,by rw[d];exact k,?_⟩,by omega,d⟩;have:=Ff (⟨2*a,t⟩:Bk) (l:=l) (i:=s) (by omega);have:=c.ln;omega
theorem Y7(j i:Nat)(n:Option Nat)(c:Cfg)(l:List Bk)(w:World)(k:bU w j i n c l)(hi:cN l)(a6:1<=c.k)(a7:c.k<=10):
  Calls prog 174 #[.pointer (some ⟨j,0,none⟩)] w λa af=>a=.returned (.tuple #[])/\bU af j i n c (joinL c.k (l.length+1) l 1 l.length)/\aA (λz=>z=i\/n=some z) w af:=by
 have o:w.cell? ⟨j,20,none⟩=some (.pointer (some ⟨i,0,none⟩)):=k.aF.cell rfl;have P:=Aa k;have ai:=Aa hi;have ap:=hi.len;clear k hi;go_enter func174,ntmps174;go_wp2_with fail
 refine(rowLen_any i n l w P.o.row).mono ?_;rintro a D ⟨rfl,O⟩;rw[O];clear O D o;generalize Z:l.length=C at *
 have U:=Aa Z;clear Z;go_wp2_with fail
 go_loopg [2,3,4,5] (C) (λg an b _ _ wr=>∃(h:List Bk) (a:Nat) (e:Int),an=.int .i64 a/\b=.int .i64 e/\a=g/\1<=e/\e<=4611686018427387904/\a<=4398046511104/\Hid (a<=h.length)/\Hid (cN h)/\Hid (bU wr j i n c h)/\Hid (aA (λz=>z=i\/n=some z) w wr)/\Hid (joinL c.k (C+1) l 1 C=joinL c.k (a+1) h e a))
 case atStart=>exact⟨l,C,1,rfl,rfl,rfl,by omega,by omega,ap,by show _<=_;rw[U.o];omega,ai,P,aA.refl _ _,rfl⟩
 case round =>
  obtain⟨h,a,e,rfl,rfl,Y,aw,a8,az,F,G,v,T,Q⟩:=hrel;have ah:=Aa Y;clear Y;have o:wr.cell? ⟨j,20,none⟩=some (.pointer (some ⟨i,0,none⟩)):=v.o.aF.cell rfl;have J:=v.o.aF.c4;go_wp2_with fail
  refine(U8 j i n c h e a wr v.o G.o.len F.o).mono ?_;rintro d D ⟨rfl,L⟩;have u:=Aa (v.o.still L);have H:=Aa (T.o.trans L (λ_ k _=>k.elim));clear L o J v T;have o:D.cell? ⟨j,20,none⟩=some (.pointer (some ⟨i,0,none⟩)):=u.o.aF.cell rfl;have J:=u.o.aF.c4;have a3:=Jm h e a;generalize ab:AC h e a=m at *
  have I:=Aa ab;clear ab;have O:IntKind.i64.wrap ((a:Int)-(m:Int))=(a:Int)-(m:Int):=by rw[ic];omega
  by_cases B:(a:Int)-(m:Int)<=c.k+1
  ·go_wp2;refine iN (ks rfl _ _ _) rfl ⟨rfl,?_,H.o⟩;rw[U.o,Q.o];unfold joinL;rw[I.o,h9 B];exact u.o
  have a1:decide ((a:Int)-(m:Int)<=c.k+1)=false:=by simpa using B
  have al:=Aa B;have a2:m+2<a:=by omega
  obtain⟨q,ad⟩:∃q,q=m+1:=⟨_,rfl⟩;have ay:(m:Int)+1=(q:Int):=by omega
  have R:=Aa (OC (t:=(Ad h q).t) G.o I.o.symm F.o (by omega) aw);have A:=Aa (show m+2<=h.length by have:=F.o;omega);have x:=Aa ad;have a4:=R.o.2.1;clear B ad;go_wp2_with fail
  refine(FF i n h q D u.o.row (by have ao:=A.o;have X:=x.o;omega)).mono ?_;rintro d s ⟨rfl,M⟩;have E:=Aa (u.o.still M);have S:=Aa (H.o.trans M (λ_ k _=>k.elim));clear M o J u H;generalize ae:Ad h q=d at *
  have am:=Aa ae;clear ae;unfold Bk.val;have o:s.cell? ⟨j,20,none⟩=some (.pointer (some ⟨i,0,none⟩)):=E.o.aF.cell rfl;go_wp2_with fail
  have r:=Aa (E.o.still ((aA.refl (λ_=>False) s).alloc (.cells #[.int .i64 d.sz,.int .i64 d.t] 207)));have aj:=Aa (S.o.alloc (.cells #[.int .i64 d.sz,.int .i64 d.t] 207));have V:=Aa (aD.new s [.int .i64 d.sz,.int .i64 d.t] 207);have W:(s.alloc (.cells [Value.int .i64 d.sz,.int .i64 d.t].toArray 207))=(s.alloc (.cells #[.int .i64 d.sz,.int .i64 d.t] 207)):=rfl;rw[W]at V;clear W;generalize s.alloc (.cells #[.int .i64 d.sz,.int .i64 d.t] 207)=au at *
  generalize s.heap.size=ax at *
  clear o E S;have o:au.cell? ⟨j,20,none⟩=some (.pointer (some ⟨i,0,none⟩)):=r.o.aF.cell rfl;have ar:=V.o.c1;have aq:IntKind.i64.wrap (2*e)=2*e:=by rw[ic];omega
  go_region_with (go_at_call 215;refine(Ua i n h m ⟨2*e,d.t⟩ _ (by exact r.o.row.still (aA.refl _ _).drew) A.o G.o.len).mono ?_;rintro y av ⟨rfl,aa,N⟩)
  all_goals
   have ag:=Aa (show bU av j i n c (BG h m ⟨2*e,d.t⟩) from⟨(r.o.aF.drew).keeps N (λk=>k.elim r.o.dr (λk=>r.o.dg j k rfl)),aa,r.o.dr,r.o.dg⟩);have ak:=Aa ((aj.o.drew).then N);clear aa N o ar aq;have a5:IntKind.i64.wrap (e*2)=2*e:=by rw[ic];omega
   go_wp2;go_roundg (q)
   case measure=>have ao:=ah.o;have X:=x.o;omega
   case rel =>
    refine⟨BG h m ⟨2*e,d.t⟩,q,2*e,rfl,rfl,rfl,by omega,by omega,by omega,?_,R.o.1,ag,ak,?_⟩
    ·show _<=_;have:=Ff (⟨2*e,d.t⟩:Bk) A.o;have X:=x.o;have a0:=A.o;omega
    show _=_;rw[Q.o]
    conv=>lhs;unfold joinL
    rw[I.o,hZ (by have:=al.o;omega),<-x.o,am.o];exact L5 (by omega) _ _ _ _ _ (by have:=x.o;omega) (by omega)
def Fb(l:List Bk)(t:Int): Int:=An (l.drop (pastN l t))-(if pastN l t=l.length then 0 else(Ad l (pastN l t)).sz/2)
theorem Tj(o h:Nat)(m:Option Nat)(c:Cfg)(l:List Bk)(t:Int)(w:World)(F:bU w o h m c l)(hi:cN l):
  Calls prog 175 #[.pointer (some ⟨o,0,none⟩),.int .i64 t] w λq ag=>q=.returned (.int .i64 (Fb l t))/\lO w ag:=by
 have A:w.cell? ⟨o,20,none⟩=some (.pointer (some ⟨h,0,none⟩)):=F.aF.cell rfl;have I:=Aa F;have n:=Aa hi;have Y:=hi.len;clear F hi;go_enter func175,ntmps175;go_wp2_with fail
 refine(past_any h m l t w I.o.row Y).mono ?_;rintro q Q ⟨rfl,B⟩;have C:=Aa (I.o.still B);have L:=Aa B;clear B A;have A:Q.cell? ⟨o,20,none⟩=some (.pointer (some ⟨h,0,none⟩)):=C.o.aF.cell rfl;have aj:=pastN_le l t;have J:=Aa (show Fb l t=An (l.drop (pastN l t))-(if pastN l t=l.length then 0 else(Ad l (pastN l t)).sz/2) from rfl);generalize pastN l t=p at *
 go_wp2_with fail
 refine(rowLen_any h m l Q C.o.row).mono ?_;rintro q x ⟨rfl,v⟩;rw[v];clear v x;generalize P:l.length=e at *
 have k:=Aa P;clear P;by_cases u:p=e
 ·have X:((p:Int)==(e:Int))=true:=by simp[u]
  have z:=Aa u;clear u;go_wp2;go_ret;refine⟨?_,L.o⟩;rw[J.o,h9 z.o,iU (by rw[k.o,z.o];exact il _)];rfl
 have X:((p:Int)==(e:Int))=false:=by simp;omega
 have z:=Aa u;have H:p<e:=by omega
 clear u;go_wp2_with fail
 go_loopg [6,7] (e-p) (λg W b wr=>∃(a:Nat) (d:Int),W=.int .i64 d/\b=.int .i64 a/\p<=a/\a<=e/\e-a=g/\0<=d/\d<=4611686018427387904/\Hid (bU wr o h m c l)/\Hid (lO w wr)/\Hid (d+An (l.drop a)=An (l.drop p)))
 case atStart=>exact⟨p,0,rfl,rfl,il _,by omega,rfl,by omega,by omega,C,L,by show _=_;omega⟩
 case round =>
  obtain⟨a,d,rfl,rfl,B,ah,O,ao,ap,s,M,E⟩:=hrel;have S:=Aa O;clear O A;have A:wr.cell? ⟨o,20,none⟩=some (.pointer (some ⟨h,0,none⟩)):=s.o.aF.cell rfl;go_wp2_with fail
  refine(rowLen_any h m l wr s.o.row).mono ?_;rintro q x ⟨rfl,v⟩;rw[v,k.o];clear v x;by_cases G:a<e
  ·have ai:(a:Int)<(e:Int):=by omega
   go_wp2_with fail
   refine(FF h m l a wr s.o.row (by rw[k.o];exact G)).mono ?_;rintro q x ⟨rfl,r⟩;have R:=Aa (s.o.still r);have D:=Aa (M.o.then r);clear r;have N:=Gb l a (by rw[k.o];exact G);have ad:=n.o.one _ (EN (l:=l) (i:=a) (by rw[k.o];exact G));generalize Ad l a=j at *
   have aa:An (l.drop a)=j.sz+An (l.drop (a+1)):=by rw[N];rfl
   have ab:An (l.drop p)<=4611686018427387904:=(n.o.drop p).sum;have Z:0<=An (l.drop (a+1)):=Ee (n.o.drop (a+1)).one;have ak:d+j.sz<=4611686018427387904:=by have:=E.o;omega
   have V:=Aa (show d+j.sz+An (l.drop (a+1))=An (l.drop p) by have:=E.o;omega);clear N aa ab Z;have al:IntKind.i64.wrap (d+j.sz)=d+j.sz:=by rw[ic];omega
   unfold Bk.val;go_wp2;go_roundg (e-(a+1))
   case measure=>have:=S.o;omega
   case rel=>exact⟨a+1,d+j.sz,rfl,by go_num,by omega,by omega,rfl,by omega,by omega,R,D,V⟩
  have T:=Aa (show a=e by omega);go_wp2_with fail
  refine(FF h m l p wr s.o.row (by rw[k.o];exact H)).mono ?_;rintro q x ⟨rfl,r⟩;have D:=Aa (M.o.then r);clear r;have ad:=n.o.one _ (EN (l:=l) (i:=p) (by rw[k.o];exact H));have ae:=JX n.o.one (EN (l:=l) (i:=p) (by rw[k.o];exact H));have af:=n.o.sum;generalize Ad l p=j at *
  have an:j.sz<=4611686018427387904:=by omega
  have U:=Aa (show d=An (l.drop p) by
     have:=E.o;rw[iU (by rw[k.o,T.o];exact il _)]at this
     simp only[An]at this;omega)
  have am:IntKind.i64.wrap (d-j.sz/2)=d-j.sz/2:=by rw[ic];omega
  clear ae af;unfold Bk.val;go_wp2;go_ret;refine⟨?_,D.o⟩;rw[J.o,hZ z.o,U.o];rfl
