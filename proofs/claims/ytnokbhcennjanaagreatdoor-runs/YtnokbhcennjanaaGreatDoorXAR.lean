import Derived.Test.YtnokbhcennjanaaGreatDoorXAQ
import Derived.Deep.OwnRows
open Go.RowKit Go.Proofs.Tryz
set_option maxRecDepth 100000
set_option maxHeartbeats 16000000
namespace Go.Proofs.YtnokbhcennjanaaGreatDoor
section
attribute [local go_sem ↓] Pa.execOp_loadP Pa.execOp_storeP Hp JE Hn Hm
attribute [local go_sem] Pa.run_loadP H8 H5 Hu Ka Eh A5 A6 JV IW
def DI(c:Cfg)(bL:List Int)(key:Int)(j:Nat): Int:=bL.getD (j*16+(AA c key j).toNat) 0
def DX(c:Cfg)(bL:List Int)(key:Int): Nat->Int
 | 0=>DI c bL key 0
 | j+1=>min (DX c bL key j) (DI c bL key j)
def FX(c:Cfg)(o:Pa.Pn)(cl:List Pa.Pn)(key m:Int): Int:=DX c (Dz c o cl (m-c.aB)) key c.rows.toNat
theorem TU(e:Nat)(a m:Int)(w:World)(h:Ab a 0 2147483648=false):
  Calls prog 149 #[.pointer (some ⟨e,0,none⟩),.int .i64 a,.int .i64 m] w λc d=>c=.returned (.tuple #[.slice none 0 0,.int .i64 10])/\lO w d:=by
 go_enter func149,ntmps149;go_wp2_with (go_at_call 140;refine(MN _ _).mono ?_;rintro c d ⟨rfl,rfl⟩)
 go_ret2;exact⟨rfl,aA.refl _ _⟩
theorem Te(r G:Nat)(aq:Option Nat)(c:Cfg)(o:Pa.Pn)(cl:List Pa.Pn)(a m:Int)(w:World)(h:cP w r G aq c o cl)(bj:Ab a 0 2147483648=true)(t:c.paned)(an:c.rowed)(cb:-4611686018427387904<=m)(cc:m<=4611686018427387904)(D:cl.length<=1000)(al:∀p∈cl,CC c p)(ak:CC c o)(ah:∀H∈o.cs,0<=H)(aj:∀p∈cl,∀H∈p.cs,0<=H)(ao:BF cl+Cl o<=4611686018427387904):
  Calls prog 149 #[.pointer (some ⟨r,0,none⟩),.int .i64 a,.int .i64 m] w λi L=>∃g,i=.returned (.tuple #[.slice (some ⟨g,0,none⟩) 1 1,.int .i64 0])/\w.heap.size<=g/\aD L g [.int .i64 (FX c o cl a m)] 3/\lO w L:=by
 have bk:0<=a/\a<=2147483648:=by simpa[Ab] using bj
 obtain⟨ba,bb⟩:=bk;have c5:w.cell? ⟨r,5,none⟩=some (.int .i64 c.aB):=h.aF.cell (Cd c o G 5 (by omega));have b8:=t.w0;have b9:=t.w1;have bs:IntKind.i64.wrap (m-c.aB)=m-c.aB:=by rw[ic];omega
 have a6:=Aa h;have A:=Aa an;have ax:=Aa (λB (d:lO w B)=>U7 r G aq c o cl (m-c.aB) B (h.still d) t D al ak ah aj ao);have Z:=Aa (show FX c o cl a m=DX c (Dz c o cl (m-c.aB)) a c.rows.toNat from rfl);have J:=h.aF.lt;clear h t an al ak ah aj ao;go_enter func149,ntmps149;go_wp2_with (first | (go_at_call 140;refine(MN _ _).mono ?_;rintro i L ⟨rfl,ap⟩;rw[ap];clear ap L) | fail)
 refine(ax.o w (aA.refl _ _)).mono ?_;rintro i ae ⟨rfl,T⟩;have ab:=Aa (a6.o.still T);have az:=Aa T;clear T c5
 have x:=Aa (show(Dz c o cl (m-c.aB)).length=48 by
    unfold Dz;split
    ·exact Lq (IR _)
    exact IR _)
 have a5:=Aa (λB (d:lO ae B)=>OA r c o G a B (ab.o.still d).aF A.o ba bb);generalize Dz c o cl (m-c.aB)=bL at *
 go_wp2_with fail
 refine(a5.o ae (aA.refl _ _)).mono ?_;rintro i e ⟨af,N,O,rfl,am,U⟩;have a4:=Aa am;have a7:=Aa (ab.o.still U);have X:=Aa (az.o.then U);obtain⟨k,P⟩:∃k:Nat,c.rows=(k:Int):=⟨c.rows.toNat,by have:=A.o.r0;omega⟩;have bz:k<=3:=by have:=A.o.r1;omega
 have bx:1<=k:=by have:=A.o.r0;omega
 have c7:e.cell? ⟨r,7,none⟩=some (.int .i64 (k:Int)):=P ▸ a7.o.aF.cell (Cd c o G 7 (by omega));have aa:=Aa P;clear am U P J bs
 have Y:=Aa (show ∀d,d<k->∃q:Nat,q<16/\(AA c a d).toNat=q/\([Value.int .i64 af,.int .i64 N,.int .i64 O]:List Value)[d]?=some (.int .i64 (q:Int)) from λd R=>by
    have s:=Ib c A.o a d;obtain⟨n,ar,au⟩:=a4.o;rw[aa.o]at ar au;refine⟨(AA c a d).toNat,by omega,rfl,?_⟩;have ai:d=0\/d=1\/d=2:=by omega
    rcases ai with i | i | i
    ·subst i;rw[ky s.1,n];rfl
    ·subst i;rw[ky s.1,ar (by omega)];rfl
    subst i;rw[ky s.1,au (by omega)];rfl)
 obtain⟨n,b2,E,C⟩:=Y.o 0 (by omega);have bl:af=(n:Int):=by simpa using C
 clear C;subst bl;have a1:=Aa E;clear E;obtain⟨l,br,Q,v,S⟩:∃l,(Pa.storeP 228 (.pointer (some ⟨e.heap.size,0,none⟩)) (.agg (Af bL).toArray)).run prog ((e.alloc (.cells #[.int .i64 0,.int .i64 0,.int .i64 0,.int .i64 0,.int .i64 0,.int .i64 0,.int .i64 0,.int .i64 0,.int .i64 0,.int .i64 0,.int .i64 0,.int .i64 0,.int .i64 0,.int .i64 0,.int .i64 0,.int .i64 0,.int .i64 0,.int .i64 0,.int .i64 0,.int .i64 0,.int .i64 0,.int .i64 0,.int .i64 0,.int .i64 0,.int .i64 0,.int .i64 0,.int .i64 0,.int .i64 0,.int .i64 0,.int .i64 0,.int .i64 0,.int .i64 0,.int .i64 0,.int .i64 0,.int .i64 0,.int .i64 0,.int .i64 0,.int .i64 0,.int .i64 0,.int .i64 0,.int .i64 0,.int .i64 0,.int .i64 0,.int .i64 0,.int .i64 0,.int .i64 0,.int .i64 0,.int .i64 0] 228)).alloc (.cells #[.int .i64 0,.int .i64 0,.int .i64 0] 236))=.ok .skip l /\
   aD l e.heap.size (Af bL) 228/\aD l (e.heap.size+1) [.int .i64 0,.int .i64 0,.int .i64 0] 236/\lO e l:=by
  have s:aD ((e.alloc (.cells #[.int .i64 0,.int .i64 0,.int .i64 0,.int .i64 0,.int .i64 0,.int .i64 0,.int .i64 0,.int .i64 0,.int .i64 0,.int .i64 0,.int .i64 0,.int .i64 0,.int .i64 0,.int .i64 0,.int .i64 0,.int .i64 0,.int .i64 0,.int .i64 0,.int .i64 0,.int .i64 0,.int .i64 0,.int .i64 0,.int .i64 0,.int .i64 0,.int .i64 0,.int .i64 0,.int .i64 0,.int .i64 0,.int .i64 0,.int .i64 0,.int .i64 0,.int .i64 0,.int .i64 0,.int .i64 0,.int .i64 0,.int .i64 0,.int .i64 0,.int .i64 0,.int .i64 0,.int .i64 0,.int .i64 0,.int .i64 0,.int .i64 0,.int .i64 0,.int .i64 0,.int .i64 0,.int .i64 0,.int .i64 0] 228)).alloc (.cells #[.int .i64 0,.int .i64 0,.int .i64 0] 236)) e.heap.size (Af Ax) 228:=(aD.new e (Af Ax) _).alloc _;have bm:aD ((e.alloc (.cells #[.int .i64 0,.int .i64 0,.int .i64 0,.int .i64 0,.int .i64 0,.int .i64 0,.int .i64 0,.int .i64 0,.int .i64 0,.int .i64 0,.int .i64 0,.int .i64 0,.int .i64 0,.int .i64 0,.int .i64 0,.int .i64 0,.int .i64 0,.int .i64 0,.int .i64 0,.int .i64 0,.int .i64 0,.int .i64 0,.int .i64 0,.int .i64 0,.int .i64 0,.int .i64 0,.int .i64 0,.int .i64 0,.int .i64 0,.int .i64 0,.int .i64 0,.int .i64 0,.int .i64 0,.int .i64 0,.int .i64 0,.int .i64 0,.int .i64 0,.int .i64 0,.int .i64 0,.int .i64 0,.int .i64 0,.int .i64 0,.int .i64 0,.int .i64 0,.int .i64 0,.int .i64 0,.int .i64 0,.int .i64 0] 228)).alloc (.cells #[.int .i64 0,.int .i64 0,.int .i64 0] 236)) (e.heap.size+1) [.int .i64 0,.int .i64 0,.int .i64 0] 236:=aD.newAt (by simp) _ _;have R:lO e ((e.alloc (.cells #[.int .i64 0,.int .i64 0,.int .i64 0,.int .i64 0,.int .i64 0,.int .i64 0,.int .i64 0,.int .i64 0,.int .i64 0,.int .i64 0,.int .i64 0,.int .i64 0,.int .i64 0,.int .i64 0,.int .i64 0,.int .i64 0,.int .i64 0,.int .i64 0,.int .i64 0,.int .i64 0,.int .i64 0,.int .i64 0,.int .i64 0,.int .i64 0,.int .i64 0,.int .i64 0,.int .i64 0,.int .i64 0,.int .i64 0,.int .i64 0,.int .i64 0,.int .i64 0,.int .i64 0,.int .i64 0,.int .i64 0,.int .i64 0,.int .i64 0,.int .i64 0,.int .i64 0,.int .i64 0,.int .i64 0,.int .i64 0,.int .i64 0,.int .i64 0,.int .i64 0,.int .i64 0,.int .i64 0,.int .i64 0] 228)).alloc (.cells #[.int .i64 0,.int .i64 0,.int .i64 0] 236)):=((aA.refl _ _).alloc _).alloc _;generalize(e.alloc (.cells #[.int .i64 0,.int .i64 0,.int .i64 0,.int .i64 0,.int .i64 0,.int .i64 0,.int .i64 0,.int .i64 0,.int .i64 0,.int .i64 0,.int .i64 0,.int .i64 0,.int .i64 0,.int .i64 0,.int .i64 0,.int .i64 0,.int .i64 0,.int .i64 0,.int .i64 0,.int .i64 0,.int .i64 0,.int .i64 0,.int .i64 0,.int .i64 0,.int .i64 0,.int .i64 0,.int .i64 0,.int .i64 0,.int .i64 0,.int .i64 0,.int .i64 0,.int .i64 0,.int .i64 0,.int .i64 0,.int .i64 0,.int .i64 0,.int .i64 0,.int .i64 0,.int .i64 0,.int .i64 0,.int .i64 0,.int .i64 0,.int .i64 0,.int .i64 0,.int .i64 0,.int .i64 0,.int .i64 0,.int .i64 0] 228)).alloc (.cells #[.int .i64 0,.int .i64 0,.int .i64 0] 236)=a9 at *
  refine⟨_,IW a9 e.heap.size bL x.o (λca bn=>⟨s.some (by simpa[Af,Eh] using bn),s.frozen _⟩),?_,?_,?_⟩
  ·have ag:=aD.setCells (Af bL) 0 _ _ s (by simp[Af,x.o,Eh]);have i:over (Af Ax) 0 (Af bL)=Af bL:=by
    unfold over;rw[iU (by simp[Af,Eh,x.o])];simp
   rw[i]at ag;exact ag
  ·exact bm.keeps (M:=λj=>j=e.heap.size) (aA.setCells (M:=λj=>j=e.heap.size) (Or.inl rfl) _ _ _ (aA.refl _ _)) (λh=>by have bi:e.heap.size+1=e.heap.size:=h;omega)
  exact aA.setCells (Or.inr (il _)) _ _ _ R
 have av:=Aa Q;have a2:=Aa v;have ay:=Aa S;have bc:=v.c0;have bd:=v.c1;have be:=v.c2;have bf:=v.frozen;have bg:l.cell? ⟨r,7,none⟩=some (.int .i64 (k:Int)):=S.cell c7 id;have F:bL[n]?=some (DI c bL a 0):=by
  unfold DI;have D:n<bL.length:=by rw[x.o];omega
  rw[a1.o,kS,ja,List.getD_eq_getElem?_getD,hX D];rfl
 have bh:l.cell? ⟨e.heap.size,n,none⟩=some (.int .i64 (DI c bL a 0)):=Q.cell (by unfold Af;rw[iP,F];rfl);have b3:(0:Int)<=(n:Int):=by omega
 have b4:(n:Int)<16:=by omega
 clear Q v S c7 F;go_wp2_with fail
 obtain⟨u,I⟩:∃u,u=((l.setCell ⟨e.heap.size+1,0,none⟩ (.int .i64 n)).setCell ⟨e.heap.size+1,1,none⟩ (.int .i64 N)).setCell ⟨e.heap.size+1,2,none⟩ (.int .i64 O):=⟨_,rfl⟩;rw[<-I];have a3:=Aa (show aD u (e.heap.size+1) [.int .i64 n,.int .i64 N,.int .i64 O] 236 by rw[I];exact((a2.o.setCell 0 _).setCell 1 _).setCell 2 _);have V:aA (λj=>j=e.heap.size+1) l u:=by rw[I];exact(((aA.refl (λj=>j=e.heap.size+1) l).setCell (p:=⟨e.heap.size+1,0,none⟩) (Or.inl rfl) _).setCell (p:=⟨e.heap.size+1,1,none⟩) (Or.inl rfl) _).setCell (p:=⟨e.heap.size+1,2,none⟩) (Or.inl rfl) _
 have aw:=Aa (av.o.keeps V (λh=>by have bi:e.heap.size=e.heap.size+1:=h;omega));have W:=Aa (show lO w u from(X.o.then ay.o).trans V (λj b0 J=>by have:=X.o.size;omega));clear I V bc bd be bf bg bh br;generalize e.heap.size=ad at *
 go_loopw [10,37] (λbt j wr=>∃d:Nat,j=.int .i64 d/\d<=k/\bt=.int .i64 (DX c bL a d)/\Hid (lO u wr)) (λ_ j _=>k-(intOf j).toNat)
 case atStart=>exact⟨0,rfl,iM _,rfl,aA.refl _ _⟩
 case round =>
  obtain⟨d,rfl,R,rfl,z⟩:=hrel;have b1:(0:Int)<=(d:Int):=by omega
  by_cases J:d<k
  ·have ai:(d:Int)<3:=by omega
   obtain⟨q,b5,E,C⟩:=Y.o d J;have b6:(0:Int)<=(q:Int):=by omega
   have b7:(q:Int)<16:=by omega
   have bu:wr.cell? ⟨ad+1,d,none⟩=some (.int .i64 (q:Int)):=z.o.cell (a3.o.cell C) id;have F:bL[d*16+q]?=some (DI c bL a d):=by
    unfold DI;have D:d*16+q<bL.length:=by rw[x.o];omega
    rw[E,List.getD_eq_getElem?_getD,hX D];rfl
   have bv:wr.cell? ⟨ad,d*16+q,none⟩=some (.int .i64 (DI c bL a d)):=z.o.cell (aw.o.cell (by unfold Af;rw[iP,F];rfl)) id;have a0:=Aa (show DX c bL a (d+1)=min (DX c bL a d) (DI c bL a d) from rfl);clear F E C;generalize DX c bL a d=a8 at *
   generalize DI c bL a d=H at *
   rcases Int.lt_trichotomy a8 H with t | t | t;all_goals
    go_wp2_with fail
    go_quiet (fail)
    go_wp2;go_roundw;case rel =>
     refine⟨d+1,by go_num,by omega,?_,z.o.then (aA.drewN _ _ _)⟩;rw[a0.o];congr 1;omega
    case measure=>simp[intOf];omega
  have bo:d=k:=by omega
  subst bo;have bp:c.rows.toNat=d:=by rw[aa.o];simp
  rw[bp]at Z;go_wp2;go_ret2;have bq:=(W.o.then z.o).size;exact⟨wr.heap.size,rfl,bq,by rw[Z.o];exact aD.new wr [.int .i64 (DX c bL a d)] 3,(W.o.then z.o).alloc _⟩
end
section
structure cS (c:Cfg) (rel last:Int) (o:Pa.Pn) (cl:List Pa.Pn):Prop where
 gG:0<=o.no
 fS:o.no*Ag c<=last
 eF:cl.Pairwise (λa b=>a.no<b.no)
 lt:∀p∈cl,0<=p.no/\p.no<o.no
 gF:∀x∈o.cs,0<=x
 gD:∀p∈cl,∀x∈p.cs,0<=x
 eZ:BF cl+Cl o<=rel
 len:(cl.length:Int)<=c.aM
theorem QF: ∀(l:List Pa.Pn) (a b:Int),l.Pairwise (λa b=>a.no<b.no)->(∀p∈l,a<=p.no/\p.no<b)->(l.length:Int)<=max (b-a) 0
 | [],a,b,_,_=>by simp;omega
 | p::l,a,b,h,hb=>by
  rw[ji]at h;have e:=hb p (by simp);have i:=QF l (p.no+1) b h.2 (λd c=>⟨by have:=h.1 d c;omega,(hb d (by simp[c])).2⟩);rw[iA]
  push_cast
  omega
theorem cS.zero(c:Cfg)(a:1<=c.aM): cS c 0 0 Pa.pn0 []:=by
 refine⟨iG _,by show(0:Int)*_<=0;simp,List.Pairwise.nil,(λp a=>(lu a).elim),?_,(λp a=>(lu a).elim),?_,(by show(0:Int)<=_;omega)⟩
 ·intro h d;have e:h∈List.replicate 48 (0:Int):=d;rw[(kk.1 e).2];omega
 have:Cl Pa.pn0<=0:=MO (iG _) (λh d=>by
    have e:h∈List.replicate 48 (0:Int):=d;rw[(kk.1 e).2]
    omega)
 show 0+Cl Pa.pn0<=0;omega
theorem ML(c:Cfg)(h:c.rowed)(key:Int)(cs:List Int): ∀a d:Nat,(BK c key a cs).getD d 0<=cs.getD d 0+(if d<a*16 then 1 else 0)
 | 0,d=>by rw[hZ (by omega)];exact Int.le_of_eq (kO _).symm
 | a+1,d=>by
  have m:=Ib c h key a;obtain⟨p,l⟩:∃p:Nat,(AA c key a).toNat=p:=⟨_,rfl⟩;have n:p<16:=by omega
  have i:=ML c h key cs a d;have j:=ML c h key cs a (a*16+p);rw[hZ (by omega)]at j;unfold BK F8;rw[l,List.getD_eq_getElem?_getD,jE];by_cases e:a*16+p=d
  ·rw[h9 e];subst e;rw[h9 (show a*16+p<(a+1)*16 by omega)];by_cases k:a*16+p<(BK c key a cs).length
   ·rw[h9 k];simp only[Option.getD_some];omega
   rw[hZ k];rw[List.getD_eq_getElem?_getD,jz (by omega)]at j;simp only[Option.getD_none]at j ⊢;omega
  rw[hZ e,<-List.getD_eq_getElem?_getD];split
  ·split at i <;> omega
  rw[hZ (by omega)]at i;exact i
theorem Zw(c:Cfg)(h:c.rowed)(key:Int)(n:Nat)(p:Pa.Pn): Cl (Ez c key n p)<=Cl p+1:=by
 have l:0<=Cl p:=GN _;refine MO (by omega) (λm k=>?_);obtain⟨a,hi,rfl⟩:=jR.1 k;have e:a<p.cs.length:=by have:=IM c key p.cs n;have i:a<(BK c key n p.cs).length:=hi;omega
 have d:=ML c h key p.cs n a;rw[List.getD_eq_getElem?_getD,hX (show a<(BK c key n p.cs).length from hi),List.getD_eq_getElem?_getD,hX e]at d;have i:p.cs[a]<=Cl p:=J0 (jc e);have j:(BK c key n p.cs)[a]'hi<=p.cs[a]+(if a<n*16 then 1 else 0):=d;show(BK c key n p.cs)[a]'hi<=_;split at j <;> omega
theorem cS.gY{c:Cfg}{rel last:Int}{o:Pa.Pn}{cl:List Pa.Pn}(e:cS c rel last o cl): (∀a∈o.cs,0<=a/\a<=rel)/\∀p∈cl,∀a∈p.cs,0<=a/\a<=rel:=by
 have h:=e.eZ;have l:=Jv cl;have m:0<=Cl o:=GN _;refine⟨λa d=>⟨e.gF a d,?_⟩,λp i a d=>⟨e.gD p i a d,?_⟩⟩
 ·have:a<=Cl o:=J0 d;omega
 have n:a<=Cl p:=J0 d;obtain⟨j,b,k⟩:=List.append_of_mem i;rw[k,GF]at h;have q:=Jv j;have r:=Jv b;simp only[BF]at h;omega
theorem Rc{c:Cfg}{p:Pa.Pn}{last:Int}(a:0<=p.no)(k:p.no*Ag c<=last)(l:last<=4611686018427387904)(d:1<=Ag c)(j:Ag c<=1000): CC c p:=by
 have e:p.no*1<=p.no*Ag c:=jo d a;have h:(p.no+1)*Ag c=p.no*Ag c+Ag c:=by rw[Int.add_mul,Int.one_mul]
 have i:0<=p.no*Ag c:=kF a (by omega);exact⟨a,by omega,by omega,by omega⟩
theorem cS.hC{c:Cfg}{rel last:Int}{o:Pa.Pn}{cl:List Pa.Pn}(a:cS c rel last o cl)(h:last<=4611686018427387904)(d:1<=Ag c)(e:Ag c<=1000): CC c o:=Rc a.gG a.fS h d e
theorem cS.hB{c:Cfg}{rel last:Int}{o:Pa.Pn}{cl:List Pa.Pn}(a:cS c rel last o cl)(j:last<=4611686018427387904)(h:1<=Ag c)(i:Ag c<=1000): ∀p∈cl,CC c p:=λp k=>by
 have d:=a.lt p k;have e:p.no*Ag c<=o.no*Ag c:=jV (by omega) (by omega);exact Rc d.1 (Int.le_trans e a.fS) j h i
theorem JY(c:Cfg)(e:0<=Ag c)(t:Int): ∀a:List Pa.Pn,a.Pairwise (λj b=>j.no<b.no)->∀p∈a.drop (B5 c a t),t<AS c p
 | [],_,p,hp=>by simp at hp
 | q::a,h,p,hp=>by
  rw[ji]at h;unfold B5 at hp;rw[jB]at hp;split at hp
  ·rw[iA,kx]at hp;exact JY c e t a h.2 p hp
  rename_i k;have i:t<AS c q:=by simpa using k
  rw[jZ,kD]at hp;rcases iw.1 hp with d | d
  ·rw[d];exact i
  have l:=h.1 p d;have m:(q.no+1)*Ag c<=(p.no+1)*Ag c:=jV (by omega) e;unfold AS at i ⊢;omega
theorem Z2{c:Cfg}{rel last:Int}{o:Pa.Pn}{cl:List Pa.Pn}(a:cS c rel last o cl)(y:It)(m:Int)(O:1<=Ag c)(J:c.aM*Ag c=c.aB)(e:1<=c.aM)(H:c.rowed)(L:last<=y.t)(P:y.t<=m):
  cS c (rel+1) y.t (Cg c o cl y m).1 (Cg c o cl y m).2:=by
 obtain⟨i,t⟩:∃i,i=y.t/Ag c:=⟨_,rfl⟩;have Q:o.no<=i:=by rw[t];exact(Int.le_ediv_iff_mul_le (by omega)).2 (Int.le_trans a.fS L)
 have G:i*Ag c<=y.t:=by rw[t];exact Int.ediv_mul_le _ (by omega)
 have I:∃j d,A8 o cl i=(j,d)/\j.no=i/\d.Pairwise (λq b=>q.no<b.no)/\(∀p∈d,0<=p.no/\p.no<i)/\(∀h∈j.cs,0<=h)/\(∀p∈d,∀h∈p.cs,0<=h)/\BF d+Cl j<=rel:=by
  have A:∀h∈Ax,0<=h:=λh k=>by
   have u:h∈List.replicate 48 (0:Int):=k;rw[(kk.1 u).2];omega
  have T:Cl (Ct i)<=0:=MO (iG _) (λh k=>by
     have u:h∈List.replicate 48 (0:Int):=k;rw[(kk.1 u).2]
     omega)
  have S:=a.eZ;have R:0<=Cl o:=GN _;unfold A8;by_cases n:o.no=i
  ·rw[h9 n];exact⟨o,cl,rfl,n,a.eF,λp e=>by rw[<-n];exact a.lt p e,a.gF,a.gD,a.eZ⟩
  rw[hZ n];by_cases r:o.cs=Ax
  ·rw[h9 r];exact⟨Ct i,cl,rfl,rfl,a.eF,λp e=>by have:=a.lt p e;omega,A,a.gD,by omega⟩
  rw[hZ r];refine⟨Ct i,cl++[o],rfl,rfl,?_,?_,A,?_,by rw[GF];simp only[BF];omega⟩
  ·rw[iY];exact⟨a.eF,ka _ _,λq E b z=>by rw[ij.1 z];exact(a.lt q E).2⟩
  ·intro p e;rcases ig.1 e with l | l
   ·have:=a.lt p l;omega
   rw[ij.1 l];have:=a.gG;omega
  intro p e;rcases ig.1 e with l | l
  ·exact a.gD p l
  rw[ij.1 l];exact a.gF
 obtain⟨j,d,F,s,v,w,C,D,M⟩:=I;have hrel:Cg c o cl y m=(Ez c y.k c.rows.toNat j,d.drop (B5 c d (m-c.aB))):=by unfold Cg;rw[<-t,F]
 rw[hrel];have x:(d.drop (B5 c d (m-c.aB))).Pairwise (λq b=>q.no<b.no):=v.sublist (jW _ _);refine⟨by show 0<=j.no;rw[s];have:=a.gG;omega,by show j.no*_<=_;rw[s];exact G,x,λp e=>by show _/\p.no<j.no;rw[s];exact w p (iB e),?_,λp e h k=>D p (iB e) h k,?_,?_⟩
 ·intro h k;exact(M8 (c:=c) (key:=y.k) (B:=Cl j) (λh k=>⟨C h k,J0 k⟩) (GN _) c.rows.toNat h k).1
 ·have n:=Zw c H y.k c.rows.toNat j;have r:=Mb d (B5 c d (m-c.aB));show BF (d.drop (B5 c d (m-c.aB)))+Cl (Ez c y.k c.rows.toNat j)<=rel+1;omega
 have z:=QF _ (i-c.aM) i x (λp e=>by
    refine⟨?_,(w p (iB e)).2⟩;have n:=JY c (by omega) (m-c.aB) d v p e;unfold AS at n;have r:(i-c.aM)*Ag c<(p.no+1)*Ag c:=by
     rw[Int.sub_mul,J];omega
    have N:=Int.lt_of_mul_lt_mul_right r (by omega)
    omega)
 show((d.drop (B5 c d (m-c.aB))).length:Int)<=c.aM;omega
end
section
attribute [local go_sem ↓] AN B2
attribute [local go_sem] AO B4 A5 A6 AI AJ Bf B3
theorem zOc: (prog.info? 215).map (λa=>(a.zero,a.size,a.bytes))=some (some (.pointer none),1,8):=by kernel_rfl
def Re(ty:TypeId)(ps:Array (Nat×Value)): Sem Next:=do pure (.value (<-Instr.build ty ps))
theorem Sq(ρ:Operand->Value)(dst:Option Tmp)(x:Array (Nat×Operand))(c:TypeId)(pos:String)(after:Array Edge)(guard:Option (Nat×Bool)):
  execOp ρ { dst,op:=.build 221 x,type:=c,pos,after,guard }=Re 221 (x.map λ(a,y)=>(a,ρ y)):=rfl
theorem VZ(c:Cfg)(a n:Nat)(w:World):
  (Re 221 #[(0,.agg c.cells.toArray),(1,.slice (some ⟨a,0,none⟩) n n)]).run prog w=.ok (.value (.agg (M2 c a n).toArray)) w:=by kernel_rfl
attribute [local go_sem ↓] Sq
attribute [local go_sem] VZ
theorem Mh(c:Value)(n:Nat): (madeCells #[c] n).toList=List.replicate n c:=by
 apply j4;intro d;by_cases a:d<n
 ·simp[madeCells,a,Nat.mod_one]
 simp[madeCells,a]
theorem XG(a:List (Nat×Option Nat))(n k d:Nat)(e:a.length=k)(j:k<n): (CO a++List.replicate (n-k) (Value.pointer none)).set k (.pointer (some ⟨d,0,none⟩))=CO (a++[(d,none)])++List.replicate (n-(k+1)) (.pointer none):=by
 obtain⟨c,i⟩:∃c,n-k=c+1:=⟨n-k-1,by omega⟩;have h:(CO a).length=k:=by simp[CO,e]
 rw[i,show n-(k+1)=c by omega,kK _ _ (by omega),h,kf,List.replicate_succ,List.set_cons_zero];simp[CO]
theorem LK(a:List (Nat×Option Nat))(p:Nat×Option Nat)(j:Nat): Aq (a++[p]) j=if j<a.length then Aq a j else if j=a.length then p else(0,none):=by
 unfold Aq;simp only[List.getD_eq_getElem?_getD];by_cases c:j<a.length
 ·simp[c,iO c]
 by_cases d:j=a.length
 ·subst d;simp
 rw[jz (by simp;omega),hZ c,hZ d];rfl
theorem R6(c:Cfg)(n:Nat)(w:World)(aq:0<=c.bits)(ar:c.bits<=4)(D:2 ^ c.bits.toNat=n):
  Calls prog 141 #[c.val] w λV ae=>∃H ad i,V=.returned (.pointer (some ⟨H,0,none⟩))/\w.heap.size<=H/\w.heap.size<=ad/\(∀a j,a<i.length->qf (Aq i a) j->w.heap.size<=j)/\i.length=n/\cZ ae H ad i c (λ_=>[])/\lO w ae:=by
 obtain⟨k,A⟩:∃k,k=w.alloc (.cells c.cells.toArray 46):=⟨_,rfl⟩;have aj:=Aa (show lO w k by rw[A];exact(aA.refl _ _).alloc _);have X:aD k w.heap.size c.cells 46:=by rw[A];exact aD.new w _ _
 have S:=Aa A;clear A;have ah:=Aa X;have a1:(2:Int) ^ c.bits.toNat=(n:Int):=by rw[<-D];simp
 have a0:n<=16:=by
  rw[<-D];have:=jk (n:=2) (by omega) (show c.bits.toNat<=4 by omega);simpa using this
 have az:1<=n:=by rw[<-D];exact lI
 have a3:wrap64 (n:Int)=(n:Int):=by unfold wrap64;omega
 have ao:=λk=>run_make_row' (P:=prog) 214 215 (.pointer none) 8 underlying214 zOc rfl .i64 .i64 n (by omega) (by omega) k;clear X D;unfold Cfg.val;go_enter func141,ntmps141;go_wp2_with fail
 rw[show w.alloc (.cells #[.int .i64 c.kind,.int .i64 c.aK,.int .i64 c.bF,.int .i64 c.cap,.int .i64 c.k,.int .i64 c.aB,.int .i64 c.bits,.int .i64 c.rows,.int .i64 c.width,.int .i64 c.aM,.int .i64 c.size,.int .i64 c.degree,.int .i64 c.half,.int .i64 c.mark,.int .i64 c.bV,.int .i64 c.bW,.int .i64 c.cG,.int .i64 c.cH,.int .i64 c.cQ,.int .i64 c.cR] 46)=k from S.o.symm]
 have M:=Aa (show aD (k.alloc (.cells (madeCells #[.pointer none] n) 215)) k.heap.size (CO []++List.replicate (n-0) (.pointer none)) 215 by
    have:=aD.new k (madeCells #[.pointer none] n).toList 215;rw[Array.toArray_toList]at this;rw[Mh]at this
    exact this)
 have al:=Aa (show k.heap.size=w.heap.size+1 by rw[S.o];simp);rw[al.o]at M;have ai:=Aa (aj.o.alloc (.cells (madeCells #[.pointer none] n) 215));have ag:=Aa (ah.o.alloc (.cells (madeCells #[.pointer none] n) 215));generalize k.alloc (.cells (madeCells #[.pointer none] n) 215)=ap at *
 generalize I:w.heap.size=m at *
 have N:=Aa I;clear I ao
 go_loopw [11] (λa wr=>∃(e:Nat) (i:List (Nat×Option Nat)),a=.int .i64 e/\e<=n/\Hid (i.length=e)/\Hid (aD wr (m+1) (CO i++List.replicate (n-e) (.pointer none)) 215)/\Hid (aD wr m c.cells 46) /\
     Hid (∀h,h<e->(Aq i h).2=none/\m+1<(Aq i h).1/\Mk.aH wr (Aq i h).1 none [])/\Hid (∀a h,a<e->h<e->(Aq i a).1=(Aq i h).1->a=h)/\Hid (lO w wr)) (λa _=>n-(intOf a).toNat)
 case atStart=>exact⟨0,[],rfl,iM _,rfl,M,ag,λh C=>by omega,λa h o=>by omega,ai⟩
 case round =>
  obtain⟨e,i,rfl,ax,s,v,O,r,Q,R⟩:=hrel;have ay:(0:Int)<=(e:Int):=by omega
  by_cases L:e<n
  ·have Z:(e:Int)<(n:Int):=by omega
   go_wp2_with fail
   refine(Mk.rowNew_any wr).mono ?_;rintro V U ⟨rfl,ab,J,a4⟩;have B:=v.o.keeps J id
   have au:U.cell? ⟨m+1,e,none⟩=some (.pointer none):=B.cell (by
      have an:(CO i).length=e:=by simp[CO,s.o]
      rw[iS (by omega),an,kf,kQ,h9 (by omega)])
   have av:=B.frozen;have af:=Aa B;have ak:=Aa ab;have E:=Aa J;have T:=Aa (show m+1<wr.heap.size from v.o.lt);clear B ab J;go_wp2;have x:=Aa ((aA.refl (λj=>j=m+1) U).setCell (p:=⟨m+1,e,none⟩) (Or.inl rfl) (.pointer (some ⟨wr.heap.size,0,none⟩)));refine⟨⟨e+1,i++[(wr.heap.size,none)],by go_num,by omega,?_,?_,?_,?_,?_,?_⟩,by simp[intOf];omega⟩
   ·show _=_;simp[s.o]
   ·show aD _ _ _ _;rw[<-XG i n e wr.heap.size s.o L];exact af.o.setCell e _
   ·exact(O.o.keeps E.o id).keeps x.o (by omega)
   ·intro h C;rw[LK,s.o];by_cases l:h<e
    ·rw[h9 l];obtain⟨z,G,t⟩:=r.o h l;exact⟨z,G,(t.still E.o).keeps x.o (by omega) (λ_ d=>by cases d)⟩
    rw[hZ l,h9 (show h=e by omega)];refine⟨rfl,T.o,?_⟩;have:=T.o;exact ak.o.keeps x.o (λd=>by have W:wr.heap.size=m+1:=d;omega) (λ_ d=>by cases d)
   ·intro a h o C d;rw[LK,LK,s.o]at d;by_cases l:a<e <;> by_cases q:h<e
    ·rw[h9 l,h9 q]at d;exact Q.o a h l q d
    ·rw[h9 l,hZ q,h9 (show h=e by omega)]at d;have:=(r.o a l).2.2.lt.1;have W:(Aq i a).1=wr.heap.size:=d;omega
    ·rw[hZ l,h9 q,h9 (show a=e by omega)]at d;have:=(r.o h q).2.2.lt.1;have W:wr.heap.size=(Aq i h).1:=d;omega
    omega
   exact(R.o.then E.o).trans x.o (λa o L=>by have:=N.o;omega)
  have Z:e=n:=by omega
  subst Z;obtain⟨a2,aw⟩:=CE O.o 20 rfl;go_wp2;go_ret;have I:=N.o;have aa:=s.o;have L:=v.o.lt;have am:aD wr (m+1) (CO i) 215:=by have:=v.o;rw[kf]at this;simpa using this
  have u:∀a j,a<i.length->qf (Aq i a) j->j=(Aq i a).1:=λa j o d=>by
   rcases d with d | d
   ·exact d
   rw[(r.o a (by omega)).1]at d;cases d
  have Y:∀F,lO wr (wr.alloc F):=λF=>(aA.refl (λ_=>False) wr).alloc F;refine⟨wr.heap.size,m+1,i,rfl,?_,?_,?_,aa,⟨?_,?_,?_,?_,?_,?_⟩,?_⟩
  ·omega
  ·omega
  ·intro a j o d;have l:=u a j o d;have q:=(r.o a (by omega)).2.1;omega
  ·rw[aa];exact aD.new wr (M2 c (m+1) e) 221
  ·exact am.keeps (Y _) id
  ·intro a o;obtain⟨z,G,t⟩:=r.o a (by omega);rw[z];exact t.still (Y _)
  ·intro a h j o C l q;exact Q.o a h (by omega) (by omega) ((u a j o l).symm.trans (u h j C q))
  ·intro a o;obtain⟨z,G,t⟩:=r.o a (by omega);have:=t.lt.1;exact⟨λd=>by have:=u a _ o d;omega,λd=>by have:=u a _ o d;omega⟩
  ·omega
  exact R.o.alloc _
def KF(d:Nat): Value:=.func (.func 142) #[.pointer (some ⟨d,0,none⟩)] #[]
def K4(d:Nat): Value:=.func (.func 146) #[.pointer (some ⟨d,0,none⟩)] #[]
def K7(d:Nat): Value:=.func (.func 145) #[.pointer (some ⟨d,0,none⟩)] #[]
def KE(d:Nat): Value:=.func (.func 143) #[.pointer (some ⟨d,0,none⟩)] #[]
def ES: Value:=.func (.func 144) #[] #[]
theorem Rw(c:Cfg)(n:Nat)(w:World)(Q:0<=c.bits)(R:c.bits<=4)(F:2 ^ c.bits.toNat=n):
  Calls prog 102 #[c.val] w λC I=>∃a q k,C=.returned (.agg #[KF a,KE a,ES,K7 a,K4 a])/\w.heap.size<=a/\w.heap.size<=q/\(∀e j,e<k.length->qf (Aq k e) j->w.heap.size<=j)/\k.length=n/\cZ I a q k c (λ_=>[])/\lO w I:=by
 obtain⟨i,m⟩:∃i,i=(w.alloc (.cells c.cells.toArray 46)).alloc (.cells #[.nilFunc,.nilFunc,.nilFunc,.nilFunc,.nilFunc] 94):=⟨_,rfl⟩;have t:=Aa (show aD i (w.heap.size+1) [.nilFunc,.nilFunc,.nilFunc,.nilFunc,.nilFunc] 94 by rw[m];exact aD.newAt (by simp) _ _);have r:=Aa (show lO w i by rw[m];exact((aA.refl (λ_=>False) w).alloc _).alloc _);have P:=Aa m;have A:=Aa (R6 c n i Q R F);clear m F;unfold Cfg.val at *
 go_enter func102,ntmps102;go_wp2_with fail
 rw[show(w.alloc (.cells #[.int .i64 c.kind,.int .i64 c.aK,.int .i64 c.bF,.int .i64 c.cap,.int .i64 c.k,.int .i64 c.aB,.int .i64 c.bits,.int .i64 c.rows,.int .i64 c.width,.int .i64 c.aM,.int .i64 c.size,.int .i64 c.degree,.int .i64 c.half,.int .i64 c.mark,.int .i64 c.bV,.int .i64 c.bW,.int .i64 c.cG,.int .i64 c.cH,.int .i64 c.cQ,.int .i64 c.cR] 46)).alloc (.cells #[.nilFunc,.nilFunc,.nilFunc,.nilFunc,.nilFunc] 94)=i from P.o.symm];generalize u:w.heap.size=d at *
 have L:=Aa u;clear u;refine A.o.mono ?_;rintro C z ⟨a,q,k,rfl,aa,ad,H,G,D,x⟩;have J:=Aa D;have h:=Aa (t.o.keeps x id);have M:=Aa (r.o.then x);have O:=Aa r.o.size;have s:=Aa t.o.lt;have B:=Aa H;have N:=Aa G;clear D x t r A H G;have Y:=h.o.frozen;have T:=h.o.c0;have U:=h.o.c1;have V:=h.o.c2;have W:=h.o.c3;have X:=h.o.c4;go_wp2;have u:=L.o;have ae:=O.o;have E:aA (λe=>e=d+1) z (((((z.setCell ⟨d+1,0,none⟩ (KF a)).setCell ⟨d+1,1,none⟩ (KE a)).setCell ⟨d+1,2,none⟩ ES).setCell ⟨d+1,3,none⟩ (K7 a)).setCell ⟨d+1,4,none⟩ (K4 a)):=(((((aA.refl (λe=>e=d+1) z).setCell (p:=⟨d+1,0,none⟩) (Or.inl rfl) _).setCell (p:=⟨d+1,1,none⟩) (Or.inl rfl) _).setCell (p:=⟨d+1,2,none⟩) (Or.inl rfl) _).setCell (p:=⟨d+1,3,none⟩) (Or.inl rfl) _).setCell (p:=⟨d+1,4,none⟩) (Or.inl rfl) _;refine iN (v:=.agg #[KF a,KE a,ES,K7 a,K4 a]) (by simp[results,results102,go_sem,T,U,V,W,X,KF,KE,ES,K7,K4]) rfl ⟨a,q,k,rfl,by omega,by omega,λe j o l=>by have:=B.o e j o l;omega,N.o,?_,?_⟩
 ·exact J.o.keeps E (λl=>by have:=s.o;omega) (λl=>by have:=s.o;omega) (λe j o S Z=>by have:=B.o e j o S;have:=s.o;omega)
 exact M.o.trans E (λe o ab=>by omega)
end
end Go.Proofs.YtnokbhcennjanaaGreatDoor
namespace Go.Proofs.YtnokbhcennjanaaGreatDoor.Dr
def Own(w:World)(base:Nat)(v:Value)(l:List It): Prop:=w.ownsRow base 247 5 v l.length (flat l)
theorem Own.keeps{M:Nat->Prop}{w w':World}{base:Nat}{v:Value}{l:List It}(c:Own w base v l)(m:aA M w w')(o:∀h,v.ownBlock=some h->¬M h): Own w' base v l:=by
 rcases c.2 with ⟨a,d⟩ | ⟨g,i,j,a,d,e,k⟩
 ·exact⟨c.1,.inl ⟨a,d⟩⟩
 refine⟨c.1,.inr ⟨g,i,j,a,d,?_,k⟩⟩;have n:g<w.heap.size:=(jr.1 e).1;rw[m.block g n (o g (by rw[a];simp[Value.ownBlock]))];exact e
theorem Own.base{w:World}{base:Nat}{v:Value}{l:List It}(c:Own w base v l)(i:Nat)(hi:v.ownBlock=some i): base<=i:=by
 rcases c.2 with ⟨a,_⟩ | ⟨g,d,e,a,h,_⟩
 ·rw[a]at hi;simp[Value.ownBlock]at hi
 rw[a]at hi;have:g=i:=by simpa[Value.ownBlock] using hi
 omega
theorem My(l:List It): ∀c∈flat l,c.oneCell'=true:=by
 induction l with
 | nil=>simp[flat]
 | cons e l d =>
  intro c a;simp only[flat,iw]at a;rcases a with rfl | rfl | rfl | rfl | rfl | a
  ·rfl
  ·rfl
  ·rfl
  ·rfl
  ·rfl
  exact d c a
theorem IH{w:World}{A:Array Oper}{rest:List Oper}{o:Oper}{a:Act}{u:Exit->Act->World->Prop}(F:o.guard=none)(s x:Operand)(J:o.op=.call { callee:=.builtin .append,args:=#[s,x],argTypes:=#[254,254] })(base:Nat)(j:Value)(d:List It)(e:Nat)(q:d.length=e)(O:a.eval s=j)(L:Own w base j d)(r h v:Nat)(c:List It)(H:c.length=h)(Q:a.eval x=.slice (some ⟨r,0,none⟩) h v)(C:∀l m,(flat c)[l]?=some m->w.cell? ⟨r,l,none⟩=some m)(N:0<h)(hlen:e+h<=100000)(E:base<=w.heap.size)(n:∀g k t,Own t base (.slice (some ⟨g,0,none⟩) (e+h) k) (d++c)->aA (λU=>j.ownBlock=some U) w t->(j.ownBlock=some g\/w.heap.size<=g)->wpList prog A u rest (a.put o.dst (.slice (some ⟨g,0,none⟩) (e+h) k)) t): wpList prog A u (o::rest) a w:=by
 obtain⟨V,G,R,S,T⟩:=jh Fo;subst q H;refine jf w F s x 254 J base 247 V _ 5 40 underlying254 G R S T (by rfl) (by omega) j d.length (flat d) O L ⟨r,0,none⟩ c.length v (flat c) Q (G4 c) ?_ (My c) N (by unfold maxLen;omega) (by omega) E w.heap.size rfl ?_
 ·intro l m P;rw[kv,ja];exact C l m P
 intro g k B M i D W;refine n g k B ?_ ⟨i.os,i.tape,i.output,i.size,λe q I=>i.block e q (λn=>I n.symm)⟩ ?_
 ·show B.ownsRow base 247 5 _ (d++c).length (flat (d++c));rw[IS,hY];exact M
 rcases D with z | z
 ·exact .inl z
 exact .inr (by omega)
theorem Own.row{w:World}{base g n c:Nat}{l:List It}(_:l.length=n)(e:Own w base (.slice (some ⟨g,0,none⟩) n c) l): aP w g c l/\base<=g:=by
 rcases e.2 with ⟨a,_⟩ | ⟨r,q,d,a,h,i,j,k,m,o⟩
 ·cases a
 cases a;exact⟨⟨⟨d.toList,by unfold aD;simpa using i,by simpa using m,o⟩,j,k⟩,h⟩
theorem Mv(g n a:Nat)(w:World): (binOp BinOp.eql 254 (.slice (some ⟨g,0,none⟩) n a) (.slice none 0 0)).run prog w=.ok (.bool false) w:=by kernel_rfl
theorem Mp(w:World): (binOp BinOp.eql 254 (.slice none 0 0) (.slice none 0 0)).run prog w=.ok (.bool true) w:=by kernel_rfl
attribute [local go_sem] Mv Mp
theorem Lr(w:World):
  Calls prog 232 #[.slice none 0 0] w λa c=>a=.returned (.slice none 0 0)/\c=w:=by
 go_enter func232,ntmps232;go_wp2;go_ret;exact⟨rfl,rfl⟩
theorem Mc(g c:Nat)(l:List It)(w:World)(d:aP w g c l)(t:l.length<=1000):
  Calls prog 232 #[.slice (some ⟨g,0,none⟩) l.length c] w λF x=>∃k r,F=.returned (.slice (some ⟨k,0,none⟩) l.length r)/\w.heap.size<=k/\aP x k r l/\lO w x:=by
 obtain⟨a,m⟩:∃a,a=l.length:=⟨_,rfl⟩;have E:=Aa d;have j:=Aa m;rw[<-m]at t ⊢;obtain⟨R,N,V,W,X⟩:=jh Fo;clear m d
 have h:=Aa (show Own (w.alloc (.cells #[] 247)) w.heap.size (.slice (some ⟨w.heap.size,0,none⟩) 0 0) [] from
    ⟨rfl,.inr ⟨w.heap.size,0,#[],rfl,il _,iJ w _,il _,iM _,rfl,rfl⟩⟩)
 have i:=Aa ((aA.refl (λ_=>False) w).alloc (.cells #[] 247));by_cases H:a=0
 ·subst H;have C:=Aa (show l=[] from iL.1 j.o.symm);go_enter func232,ntmps232;go_wp2_with (at_builtin;refine JB rfl _ _ 254 rfl w.heap.size 247 R 5 underlying254 N _ 0 [] rfl h.o (some ⟨g,0,none⟩) c rfl ?_)
  go_ret;refine⟨w.heap.size,0,rfl,il _,?_,i.o⟩;rw[C.o];exact(Own.row rfl h.o).1
 have z:=Aa (show ∀e q,(flat l)[e]?=some q->(w.alloc (.cells #[] 247)).cell? ⟨g,e,none⟩=some q from λe q o=>by
    obtain⟨T,J,t,Q⟩:=E.o.ex;refine i.o.cell (J.cell ?_) id;have O:e<l.length*5:=by have:=(ik.1 o).1;rwa [G4]at this
    rw[<-Q,iV,h9 O]at o
    exact o)
 have P:0<a:=by omega
 go_enter func232,ntmps232;go_wp2_with (at_builtin;refine IH rfl _ _ rfl w.heap.size _ [] 0 rfl rfl h.o g a c l j.o.symm rfl z.o P (by omega) (by simp) ?_;intro G c2 S u s I)
 have n:=Own.row (by have:=j.o;simp;omega) u;have D:=Aa n.1;have A:=Aa n.2
 have B:=Aa ((i.o.trans s (λv L U=>by
        have M:(Value.slice (some ⟨w.heap.size,0,none⟩) 0 0).ownBlock=some v:=L;have:w.heap.size=v:=by simpa[Value.ownBlock] using M
        omega)))
 clear n u s I;go_wp2;go_ret;exact⟨G,c2,rfl,A.o,D.o,B.o⟩
def allL: Nat->List It->List It
 | 0,_=>[]
 | f+1,l=>if l.length=0 then[] else itAt l 0::allL f (takeL l)
theorem takeL_length(l:List It): (takeL l).length=l.length-1:=by
 unfold takeL;rw[G5];simp
end Go.Proofs.YtnokbhcennjanaaGreatDoor.Dr
namespace Go.Proofs.YtnokbhcennjanaaGreatDoor.Dr
theorem Fi(a:Nat)(c:Option Nat)(l:List It)(n:Int)(w:World)(e:bB w a c l)(i:(l.length:Int)=n):
  Calls prog 206 #[.pointer (some ⟨a,0,none⟩)] w λd j=>d=.returned (.int .i64 n)/\j=w :=
 (len_any a c l w e).mono λ_ _ ⟨h,hw⟩=>⟨by rw[h,i],hw⟩
theorem MF(a g:Nat)(l:List It)(x:It)(w:World)(h:bB w a (some g) l)(j:l.length<=900)(k:0<l.length)(m:itAt l 0=x):
  Calls prog 207 #[.pointer (some ⟨a,0,none⟩)] w λe d=>e=.returned (.tuple #[.agg #[.int .i64 x.t,.int .i64 x.k,.int .i64 x.d,.int .i64 x.n,.int .i64 x.v],.bool true])/\bB d a (some g) (takeL l)/\aA (λc=>c=a\/c=g) w d :=
 (take_any a g l w h j k).mono λ_ _ ⟨i,hw⟩=>⟨by rw[i,m];rfl,hw⟩
theorem all_some(B g:Nat)(l:List It)(w:World)(a:bB w B (some g) l)(bm:l.length<=900):
  Calls prog 208 #[.pointer (some ⟨B,0,none⟩)] w λr j=>∃g n,r=.returned (.slice (some ⟨g,0,none⟩) l.length n)/\w.heap.size<=g/\aP j g n (allL (l.length+1) l)/\(allL (l.length+1) l).length=l.length/\lO w j:=by
 obtain⟨d,E⟩:∃d,d=l.length:=⟨_,rfl⟩;obtain⟨br,bk,bo,bp,bq⟩:=jh Fo;have R:=Aa E;have a6:=Aa a;rw[<-E]at bm ⊢;obtain⟨b3,I,V,aw⟩:=a;have b4:=V.c0;have b5:w.cell? ⟨B,1,none⟩=some (.slice (some ⟨g,0,none⟩) d I):=by rw[E];exact V.cell rfl
 have ad:=Aa (show ∀z,lO w z->Calls prog 232 #[.slice (some ⟨g,0,none⟩) d I] z λr j=>∃c c1,r=.returned (.slice (some ⟨c,0,none⟩) d c1)/\z.heap.size<=c/\aP j c c1 l/\lO z j from λz bj=>by
    rw[E];exact Mc g I l z (aw.keeps bj id) (by omega))
 clear V aw E;go_enter func208,ntmps208;go_wp2_with fail
 go_region_held3 (λj=>j.cell? ⟨B,0,none⟩=some (.func (.func 204) #[] #[])/\j.cell? ⟨B,1,none⟩=some (.slice (some ⟨g,0,none⟩) d I))
  (first | (go_split_ands;exact⟨by assumption,by assumption⟩) | (go_split_ands;exact⟨((aA.refl (λ_=>False) _).alloc _).cell (by assumption) id,((aA.refl (λ_=>False) _).alloc _).cell (by assumption) id⟩) | (go_split_ands;exact⟨L.cell (by assumption) id,L.cell (by assumption) id⟩))
  (first | (go_at_call 232;refine(ad.o _ (by exact(aA.refl _ _).drew)).mono ?_;rintro r m ⟨c,c1,rfl,al,Y,L⟩))
 have af:=Aa (((aA.refl (λ_=>False) w).drew).then L);have az:=Aa (show w.heap.size<=c from al);have be:=Aa af.o.size;have a1:=Aa Y.lt;have ba:=Aa Y;clear Y L ad al;obtain⟨i,J⟩:∃i,i=m.alloc (.cells #[.func (.func 204) #[] #[],.slice (some ⟨c,0,none⟩) d c1] 278):=⟨_,rfl⟩;have ab:=Aa (show aD i m.heap.size [Ci,.slice (some ⟨c,0,none⟩) d c1] 278 by rw[J];exact aD.new m _ _);have aa:=Aa (show lO m i by rw[J];exact(aA.refl (λ_=>False) m).alloc _);have bc:=Aa J;clear J;have ai:=Aa (show bB i m.heap.size (some c) l from⟨by have:=a1.o;omega,c1,by rw[<-R.o];exact ab.o,ba.o.keeps aa.o id⟩);have N:=Aa (af.o.then aa.o);obtain⟨ax,b2,au,X⟩:=lL (P:=prog) i w.heap.size 254 247 br _ 5 underlying254 bk bo bp .i64 .i64 d (by rw[bq];omega) (by unfold maxLen;omega) N.o.size;have ah:=Aa (show lO i ax from(aA.refl (λ_=>False) i).grown X (λo D=>by cases D));have a5:=Aa (show Own ax w.heap.size (.slice (some ⟨i.heap.size,0,none⟩) 0 d) [] from au);clear au X;go_wp2_with fail
 rw[show m.alloc (.cells #[.func (.func 204) #[] #[],.slice (some ⟨c,0,none⟩) d c1] 278)=i from bc.o.symm];refine(Fi B (some g) l d i (a6.o.keeps N.o id (λ_ _ a=>a)) (by rw[R.o])).mono ?_;rintro r j ⟨rfl,t⟩;rw[t];clear t j;have a8:=Aa (show m.heap.size<i.heap.size from ab.o.lt);have a0:=Aa (show c<i.heap.size from(ai.o.lt.2 c rfl).1);have a9:=Aa (show w.heap.size<=m.heap.size from be.o);generalize b6:m.heap.size=G at *
 generalize bz:i.heap.size=bf at *
 go_wp2_with fail
 go_loopg [4] (d) (λgk bs wr=>∃(q k:List It) (e n:Nat),bs=.slice (some ⟨e,0,none⟩) k.length n/\Hid (q.length=gk)/\Hid (k.length+gk=d)/\Hid (e≠G/\e≠c)/\Hid (Own wr w.heap.size (.slice (some ⟨e,0,none⟩) k.length n) k)/\Hid (bB wr G (some c) q)/\Hid (lO w wr)/\Hid (allL (d+1) l=k++allL (gk+1) q))
 case atStart=>exact⟨l,[],bf,d,rfl,R.o.symm,by show _=_;simp,⟨by have:=a8.o;omega,by have:=a0.o;omega⟩,a5,ai.o.keeps ah.o id (λ_ _ a=>a),N.o.then ah.o,rfl⟩
 case round =>
  obtain⟨q,k,e,n,rfl,x,H,M,S,T,Q,ae⟩:=hrel;obtain⟨o,D⟩:∃o,k.length=o:=⟨_,rfl⟩;rw[D];have v:=Aa D;clear D;by_cases bh:gk=0
  ·go_wp2_with (go_at_call 206;refine(Fi G (some c) q 0 _ T.o (by have:=x.o;omega)).mono ?_;rintro r j ⟨rfl,t⟩;rw[t];clear t j)
   go_ret;have bl:o=d:=by have:=H.o;have:=v.o;omega
   subst bl;have ar:=Own.row rfl S.o;have aj:allL (o+1) l=k:=by
    rw[ae.o,bh];unfold allL;rw[h9 (by have:=x.o;omega),iz]
   refine⟨e,n,rfl,ar.2,?_,?_,Q.o⟩
   ·rw[aj];exact ar.1
   rw[aj];exact v.o
  have b1:(0:Int)<(gk:Int):=by omega
  have bx:0<gk:=by omega
  obtain⟨h,Z⟩:∃h,itAt q 0=h:=⟨_,rfl⟩;have bb:=Aa (MF G c q h wr T.o (by have:=x.o;have:=H.o;omega) (by have:=x.o;omega) Z);have bd:=Aa Z;clear Z
  go_wp2_with (first | (go_at_call 206;refine(Fi G (some c) q gk _ T.o (by have:=x.o;omega)).mono ?_;rintro r j ⟨rfl,t⟩;rw[t];clear t j) | (go_at_call 207;refine bb.o.mono ?_;rintro r A ⟨rfl,F,an⟩;have a7:=Aa F;have O:=Aa an;clear F an;have a3:=Aa (show Own A w.heap.size (.slice (some ⟨e,0,none⟩) o n) k by rw[<-v.o];exact S.o.keeps O.o (λu s a=>by
            have am:e=u:=by simpa[Value.ownBlock] using s
            rcases a with a | a
            ·exact M.o.1 (by omega)
            exact M.o.2 (by omega)))) | (at_builtin;refine IH rfl _ _ rfl w.heap.size _ k o v.o rfl (by exact a3.o.keeps (((aA.refl (λ_=>False) A).alloc _).alloc _) (λ_ _ a=>a)) (A.heap.size+1) 1 1 [h] rfl rfl (by exact λb7 b8 bn=>(aD.newAt (by simp) (flat [h]) 247).cell bn) (by omega) (by have:=H.o;have:=v.o;omega) (by have bu:=Q.o.size;have bv:=O.o.size;simp;omega) ?_;intro C c2 bt av ao ak))
  have F:=a7.o;have aq:=F.lt
  have ag:=Aa (((aA.refl (λu=>u=e) A).alloc (.cells #[.int .i64 h.t,.int .i64 h.k,.int .i64 h.d,.int .i64 h.n,.int .i64 h.v] 247)).alloc (.cells #[.int .i64 h.t,.int .i64 h.k,.int .i64 h.d,.int .i64 h.n,.int .i64 h.v] 247) |>.trans ao (λu s ap=>by
        have am:(Value.slice (some ⟨e,0,none⟩) o n).ownBlock=some u:=s;have:e=u:=by simpa[Value.ownBlock] using am
        exact this.symm))
  have a4:=Aa av
  have ay:=Aa (show C=e\/A.heap.size<=C from by
     rcases ak with a | a
     ·have bg:(Value.slice (some ⟨e,0,none⟩) o n).ownBlock=some C:=a;exact .inl (by have:e=C:=(by simpa[Value.ownBlock] using bg);exact this.symm)
     exact .inr (by simp at a;omega))
  clear av ao ak;have a2:=Aa (show w.heap.size<=e from S.o.base e (by simp[Value.ownBlock]));go_wp2;go_roundg (gk-1)
  case measure=>omega
  case rel =>
   have b0:=(aq.2 c rfl).1;have X:=aq.1;have U:=M.o;refine⟨takeL q,k++[h],C,c2,?_,?_,?_,?_,?_,?_,?_,?_⟩
   ·rw[hY,v.o];rfl
   ·show _=_;rw[takeL_length];have:=x.o;omega
   ·show _=_;rw[hY];have:=H.o;simp;omega
   ·show _/\_;rcases ay.o with a | a
    ·rw[a];exact U
    exact⟨by omega,by omega⟩
   ·show Own _ _ _ _;rw[hY,v.o];exact a4.o
   ·exact F.keeps ag.o (λa=>U.1 a.symm) (λg W a=>by injection W with W;exact U.2 (by rw[W];exact a.symm))
   ·have bi:lO w A:=Q.o.trans O.o (λu s ap=>by
       rcases s with s | s
       ·have:=a9.o;omega
       have:=az.o;omega)
    exact bi.trans ag.o (λu s ap=>by have:=a2.o;omega)
   show _=_;rw[ae.o]
   conv=>lhs;unfold allL
   rw[hZ (by have:=x.o;omega),bd.o,show gk-1+1=gk by omega];simp
end Go.Proofs.YtnokbhcennjanaaGreatDoor.Dr
namespace Go.Proofs.YtnokbhcennjanaaGreatDoor.Dr
theorem all_none(h:Nat)(w:World)(c:bB w h none []):
  Calls prog 208 #[.pointer (some ⟨h,0,none⟩)] w λi d=>∃g o,i=.returned (.slice (some ⟨g,0,none⟩) 0 o)/\w.heap.size<=g/\aP d g o []/\lO w d:=by
 obtain⟨I,C,F,G,H⟩:=jh Fo;have z:=Aa c;have m:=c.2;have N:=m.c0;have O:=m.c1;clear m c;go_enter func208,ntmps208;go_wp2_with fail
 go_region_held3 (λd=>d.cell? ⟨h,0,none⟩=some (.func (.func 204) #[] #[])/\d.cell? ⟨h,1,none⟩=some (.slice none 0 0))
  (first | (go_split_ands;exact⟨by assumption,by assumption⟩) | (go_split_ands;exact⟨((aA.refl (λ_=>False) _).alloc _).cell (by assumption) id,((aA.refl (λ_=>False) _).alloc _).cell (by assumption) id⟩))
  (first | (go_at_call 232;refine(Lr _).mono ?_;rintro i d ⟨rfl,rfl⟩))
 obtain⟨a,j⟩:∃a,a=(w.alloc (.cells #[.func (.func 204) #[] #[],.slice none 0 0] 278)).drew:=⟨_,rfl⟩;have v:=Aa (show aD a w.heap.size [Ci,.slice none 0 0] 278 by rw[j];exact(aD.new w _ _).drew);have l:=Aa (show lO w a by rw[j];exact((aA.refl (λ_=>False) w).alloc _).drew);have B:=Aa j;clear j;have A:=Aa (show bB a w.heap.size none [] from⟨rfl,v.o⟩);obtain⟨k,r,t,q⟩:=lL (P:=prog) a w.heap.size 254 247 I _ 5 underlying254 C F G .i64 .i64 0 (by rw[H];omega) (by unfold maxLen;omega) l.o.size;have n:=Aa (show lO a k from(aA.refl (λ_=>False) a).grown q (λQ D=>by cases D));have x:=Aa (show Own k w.heap.size (.slice (some ⟨a.heap.size,0,none⟩) 0 0) [] from t);have M:(Instr.makeSlice 254 (.int .i64 0) (.int .i64 0)).run prog a=.ok (.slice (some ⟨a.heap.size,0,none⟩) 0 0) k:=r;clear t q r;go_wp2_with fail
 rw[show(w.alloc (.cells #[.func (.func 204) #[] #[],.slice none 0 0] 278)).drew=a from B.o.symm];refine(Fi h none [] 0 a (z.o.keeps l.o id (λ_ c=>by cases c)) rfl).mono ?_;rintro i d ⟨rfl,e⟩;rw[e];clear e d;generalize E:w.heap.size=J at *
 go_wp2_with fail
 go_loopg [4] (0) (λgk L wr=>L=.slice (some ⟨a.heap.size,0,none⟩) 0 0/\wr=k)
 case atStart=>exact⟨rfl,rfl⟩
 case round =>
  obtain⟨rfl,u⟩:=hrel;rw[u];clear u wr;go_wp2_with (go_at_call 206;refine(Fi J none [] 0 _ (A.o.keeps n.o id (λ_ c=>by cases c)) rfl).mono ?_;rintro i d ⟨rfl,e⟩;rw[e];clear e d)
  go_ret;have s:=Own.row rfl x.o;exact⟨a.heap.size,0,rfl,by rw[E];exact s.2,s.1,l.o.then n.o⟩
theorem PL(l:List It)(i j:Nat)(x:It)(hi:i<l.length): itAt (l.set i x) j=if j=i then x else itAt l j:=by
 unfold itAt;simp only[List.getD_eq_getElem?_getD,jE];by_cases a:i=j
 ·subst a;simp[hi]
 simp[a,lx a]
theorem Dl(l:List It)(i j t:Nat)(hi:i<l.length)(c:j<l.length): itAt (swapL l i j) t=if t=j then itAt l i else if t=i then itAt l j else itAt l t:=by
 unfold swapL;rw[PL _ _ _ _ (by simpa using c)];by_cases a:t=j
 ·rw[h9 a,h9 a]
 rw[hZ a,hZ a,PL _ _ _ _ hi]
theorem Z6{a b:List It}(e:a.length=b.length)(i:∀c,c<a.length->itAt a c=itAt b c): a=b:=by
 apply List.ext_getElem e;intro j d h;have:=i j d;simpa[itAt,List.getD_eq_getElem?_getD,hX d,hX h] using this
theorem SU(l:List It)(t:Nat)(a:t<l.length): itAt l.reverse t=itAt l (l.length-1-t):=by
 unfold itAt;simp only[List.getD_eq_getElem?_getD];rw[List.getElem?_reverse a]
theorem reverse_any(g q n:Nat)(l:List It)(w:World)(B:l.length=n)(ad:n<=900)(C:aP w g q l):
  Calls prog 209 #[.slice (some ⟨g,0,none⟩) n q] w λO D=>O=.returned (.tuple #[])/\aP D g q l.reverse/\aA (·=g) w D:=by
 have L:=Aa C;have A:=Aa B;clear C B;go_enter func209,ntmps209;go_wp2_with fail
 go_loopw [2,3] (λr b wr=>∃(a:Nat) (h:Int) (e:List It),r=.int .i64 a/\b=.int .i64 h/\a<=n/\-900<=h/\h<=900/\Hid (h=(n:Int)-1-a)/\Hid (e.length=n)/\Hid (∀c,c<n->itAt e c=if c<a\/n<=c+a then itAt l (n-1-c) else itAt l c)/\Hid (aP wr g q e)/\Hid (aA (·=g) w wr)) (λr _ _=>n-(intOf r).toNat)
 case atStart=>exact⟨0,(n:Int)-1,l,rfl,rfl,iM _,by omega,by omega,by show _=_;simp,A,λc x=>by rw[hZ (by omega)],L,aA.refl _ _⟩
 case round =>
  obtain⟨a,h,e,rfl,rfl,Z,ag,ah,m,i,o,j,z⟩:=hrel;by_cases ab:(a:Int)<h
  ·obtain⟨d,rfl⟩:∃d:Nat,h=(d:Int):=⟨h.toNat,by omega⟩;have u:d<n:=by have:=m.o;omega
   have v:a<n:=by omega
   have U:(0:Int)<=(a:Int):=by omega
   have V:(a:Int)<(n:Int):=by omega
   have Y:(0:Int)<=(d:Int):=by omega
   have X:(d:Int)<(n:Int):=by omega
   obtain⟨ai,aj,ak,al,am⟩:=j.o.cells a (by rw[i.o];exact v);obtain⟨an,ao,ap,aq,ar⟩:=j.o.cells d (by rw[i.o];exact u);have T:=j.o.frozen;have M:=Aa (show swapL e a d=(e.set a (itAt e d)).set d (itAt e a) from rfl);have N:=Aa (λc=>Dl e a d c (by rw[i.o];exact v) (by rw[i.o];exact u));have G:=Aa (o.o a v);have H:=Aa (o.o d u);generalize itAt e a=E at *
   generalize itAt e d=y at *
   go_wp2_with fail
   go_region
   have J:=Aa ((j.o.put a y).put d E);have I:=Aa ((((aA.refl (λR=>R=g) wr).putTk (Or.inl rfl) a y).putTk (Or.inl rfl) d E))
   have F:=Aa (show ∀c,c<n->itAt (swapL e a d) c=if c<a+1\/n<=c+(a+1) then itAt l (n-1-c) else itAt l c from λc x=>by
      have P:=m.o;have W:d=n-1-a:=by omega
      rw[N.o c];by_cases s:c=d
      ·rw[h9 s,h9 (by omega),G.o,hZ (by omega),s];congr 1;omega
      rw[hZ s];by_cases t:c=a
      ·rw[h9 t,h9 (by omega),H.o,hZ (by omega),t];congr 1
      rw[hZ t,o.o c x];by_cases k:c<a\/n<=c+a
      ·rw[h9 k,h9 (by omega)]
      rw[hZ k,hZ (by omega)])
   have ae:IntKind.i64.wrap ((a:Int)+1)=(a:Int)+1:=by rw[ic];omega
   have af:IntKind.i64.wrap ((d:Int)-1)=(d:Int)-1:=by rw[ic];omega
   go_wp2_with fail
   refine⟨⟨a+1,(d:Int)-1,swapL e a d,by go_num,rfl,by omega,by omega,by omega,?_,?_,F,?_,?_⟩,by simp[intOf];omega⟩
   ·show _=_;have:=m.o;omega
   ·show _=_;rw[Ca];exact i.o
   ·show aP _ _ _ _;rw[M.o];exact J.o.drew
   exact(z.o.then I.o).drew
  have S:decide ((a:Int)<h)=false:=by simp;omega
  go_wp2;go_end0;refine⟨rfl,?_,z.o⟩;have aa:=i.o;have Q:=A.o;have P:=m.o
  have:e=l.reverse:=Z6 (by simp;omega) (λc x=>by
     rw[o.o c (by omega),SU l c (by omega),Q];by_cases k:c<a\/n<=c+a
     ·rw[h9 k]
     rw[hZ k];congr 1;omega)
  rw[<-this];exact j.o
end Go.Proofs.YtnokbhcennjanaaGreatDoor.Dr
namespace Go.Proofs.YtnokbhcennjanaaGreatDoor
section
theorem QE(c:Nat)(i:Option Nat)(l:List Dr.It)(w:World)(h:Dr.bB w c i l)(n:l.length<=900):
  Calls prog 208 #[.pointer (some ⟨c,0,none⟩)] w λe d=>∃g a,e=.returned (.slice (some ⟨g,0,none⟩) l.length a)/\w.heap.size<=g/\Dr.aP d g a (Dr.allL (l.length+1) l)/\(Dr.allL (l.length+1) l).length=l.length/\lO w d:=by
 cases i with
 | none =>
  obtain⟨rfl,j⟩:=h;refine(Dr.all_none c w ⟨rfl,j⟩).mono ?_;rintro e d ⟨g,a,rfl,k,o,m⟩;exact⟨g,a,rfl,k,o,rfl,m⟩
 | some g=>exact Dr.all_some c g l w h n
theorem LF{w:World}{base e:Nat}{v:Value}{n:Nat}{h:List Value}(a:w.ownsRow base 3 1 v n h)(l:e<=base): w.ownsRow e 3 1 v n h:=by
 rcases a.2 with ⟨c,d⟩ | ⟨g,i,j,c,d,k⟩
 ·exact⟨a.1,.inl ⟨c,d⟩⟩
 exact⟨a.1,.inr ⟨g,i,j,c,jI l d,k⟩⟩
def three(l:List Dr.It): List Int:=l.flatMap λx=>[x.t,x.k,x.d]
theorem JH(a b:List Dr.It): three (a++b)=three a++three b:=by simp[three]
theorem Ga(l:List Dr.It): (three l).length=3*l.length:=by
 induction l with
 | nil=>rfl
 | cons c l a=>simp[three]at a ⊢;omega
def EU(s:Nat)(r:List Dr.It): Dr.It:=if s<r.length then Dr.itAt r s else⟨0,0,0,0,0⟩
def D9(c:Cfg)(l:List Dr.It): List Int :=
 let r:=(Dr.allL (l.length+1) l).reverse
 three (r.take (min c.size.toNat r.length))++[(EU c.size.toNat r).v,(EU c.size.toNat r).d]
theorem SQ(s ae:Nat)(ay:Option Nat)(c:Cfg)(l:List Dr.It)(a m:Int)(w:World)(i:dM w s ae ay c l)(a7:1<=c.size)(a8:c.size<=5)(bb:l.length<=6):
  Calls prog 160 #[.pointer (some ⟨s,0,none⟩),.int .i64 a,.int .i64 m] w λY az=>∃g E,Y=.returned (.tuple #[.slice (some ⟨g,0,none⟩) (D9 c l).length E,.int .i64 0]) /\
   az.ownsRow w.heap.size 3 1 (.slice (some ⟨g,0,none⟩) (D9 c l).length E) (D9 c l).length (Af (D9 c l))/\lO w az:=by
 have al:=Aa i;have a4:w.cell? ⟨s,20,none⟩=some (.pointer (some ⟨ae,0,none⟩)):=i.aF.cell rfl;have ax:=i.dL;clear i;go_enter func160,ntmps160;go_wp2_with fail
 refine(QE ae ay l w ax (by omega)).mono ?_;rintro Y a3 ⟨g,E,rfl,a5,aa,hlen,au⟩;obtain⟨k,Z⟩:∃k,k=l.length:=⟨_,rfl⟩;rw[<-Z]at aa hlen ⊢;have ak:=Aa (Dr.reverse_any g E k (Dr.allL (k+1) l) a3 hlen (by omega) aa);have a0:=Aa au;have a2:=Aa Z;have a1:=Aa hlen;have bc:k<=6:=by omega
 clear aa au ax a4 Z hlen;go_wp2_with fail
 refine ak.o.mono ?_;rintro Y r ⟨rfl,ab,av⟩;have B:=Aa (a0.o.trans av (λj v z=>by omega));obtain⟨e,U⟩:∃e,e=(Dr.allL (k+1) l).reverse:=⟨_,rfl⟩;rw[<-U]at ab;have V:=Aa (show D9 c l=three (e.take (min c.size.toNat e.length))++[(EU c.size.toNat e).v,(EU c.size.toNat e).d] by unfold D9;rw[<-a2.o,<-U]);have o:=Aa (show e.length=k by rw[U];simp[a1.o]);have S:=Aa ab;have T:r.cell? ⟨s,10,none⟩=some (.int .i64 c.size):=(al.o.aF.keeps B.o id).cell rfl;have X:=Aa (show s<r.heap.size from kG al.o.aF.lt B.o.size);clear av ab U ak a5;obtain⟨q,ad⟩:∃q:Nat,c.size=(q:Int):=⟨c.size.toNat,by omega⟩;rw[ad]at T a7 a8;have W:=Aa ad;clear ad;have bd:k<=E:=by have:=S.o.le;rw[o.o]at this;exact this
 have bf:1<=q:=by omega
 have bg:q<=5:=by omega
 by_cases bj:(q:Int)<(k:Int)
 ·have bh:q<=E:=by omega
  have bi:(q:Int)<=(E:Int):=by omega
  have a9:¬E=0:=by omega
  go_wp2_with fail
  go_loopw [9,31] (λL j wr=>∃d:Nat,j=.int .i64 d/\d<=q/\Hid (wr.ownsRow r.heap.size 3 1 L (3*d) (Af (three (e.take d))))/\Hid (lO r wr)) (λ_ j _=>q-(intOf j).toNat)
  case atStart=>exact⟨0,rfl,iM _,ir _ _ _ _,aA.refl _ _⟩
  case round =>
   obtain⟨d,rfl,aq,x,n⟩:=hrel;generalize u9=L at *
   have M:=Aa (S.o.keeps n.o id);have ar:(0:Int)<=(d:Int):=by omega
   have A:=Aa (Kb x.o);by_cases z:d<q
   ·have H:(d:Int)<(q:Int):=by omega
    obtain⟨af,ag,ah,ai,aj⟩:=M.o.cells d (by rw[o.o];omega)
    have P:=Aa (show three (e.take (d+1))=three (e.take d)++[(Dr.itAt e d).t,(Dr.itAt e d).k,(Dr.itAt e d).d] by
       have I:d<e.length:=by rw[o.o];omega
       rw[jg,JH,hX I]
       simp[three,Dr.itAt,List.getD_eq_getElem?_getD,hX I])
    generalize Dr.itAt e d=h at *
    have R:=n.o.size;have C:=Aa (show(three (e.take d)).length=3*d by rw[Ga,iD,o.o,jJ (by omega)]);go_wp2_with (at_builtin;refine Fe rfl _ _ rfl r.heap.size _ (3*d) (three (e.take d)) rfl (by exact DT x.o (((aA.refl (λ_=>False) wr).alloc _).alloc _) (λ_ _ i=>i)) (wr.heap.size+1) 3 [h.t,h.k,h.d] rfl rfl (by exact aD.newAt (by simp) [.int .i64 h.t,.int .i64 h.k,.int .i64 h.d] 3) (by omega) (by omega) (by simp;omega) ?_;intro F c2 Q u t G)
    have N:=Aa (((n.o.alloc (.cells #[.int .i64 h.t,.int .i64 h.k,.int .i64 h.d,.int .i64 h.n,.int .i64 h.v] 247)).alloc (.cells #[.int .i64 h.t,.int .i64 h.k,.int .i64 h.d] 3)).trans t (λj v z=>by have:=A.o j v;omega));have O:=Aa u;clear u t G;refine⟨⟨d+1,by go_num,by omega,?_,N⟩,by simp[intOf];omega⟩;show World.ownsRow _ _ _ _ _ _ _;rw[P.o];exact O.o
   have H:d=q:=by omega
   subst H;have aw:decide ((d:Int)<(d:Int))=false:=by simp
   have R:=n.o.size;obtain⟨af,ag,ah,ai,aj⟩:=M.o.cells d (by rw[o.o];omega)
   have D:=Aa (show D9 c l=three (e.take d)++[(Dr.itAt e d).v,(Dr.itAt e d).d] by
      rw[V.o,W.o,iH,o.o,jJ (by omega)];unfold EU
      rw[h9 (by rw[o.o];omega)])
   generalize Dr.itAt e d=h at *
   have ap:decide ((d:Int)<(k:Int))=true:=by simp;omega
   have am:wr.cell? ⟨s,10,none⟩=some (.int .i64 d):=n.o.cell T id;have an:s<wr.heap.size:=by have:=X.o;omega
   have ba:g<wr.heap.size:=M.o.lt;have ao:s≠wr.heap.size:=by omega
   have C:=Aa (show(three (e.take d)).length=3*d by rw[Ga,iD,o.o,jJ (by omega)]);go_wp2_with (at_builtin;refine Fe rfl _ _ rfl r.heap.size _ (3*d) (three (e.take d)) rfl (by exact DT x.o (((aA.refl (λ_=>False) wr).alloc _).alloc _) (λ_ _ i=>i)) (wr.heap.size+1) 2 [h.v,h.d] rfl rfl (by exact aD.newAt (by simp) [.int .i64 h.v,.int .i64 h.d] 3) (by omega) (by omega) (by simp;omega) ?_;intro F c2 Q u t G)
   go_ret2;have J:(D9 c l).length=3*d+2:=by rw[D.o];simp[C.o]
   refine⟨F,c2,by rw[J];rfl,?_,?_⟩
   ·rw[J,D.o];exact LF u B.o.size
   exact B.o.then (((n.o.alloc _).alloc _).trans t (λj v z=>by have:=A.o j v;omega))
 by_cases be:(k:Int)<(q:Int)
 ·go_wp2_with fail
  go_loopw [9,31] (λL j wr=>∃d:Nat,j=.int .i64 d/\d<=k/\Hid (wr.ownsRow r.heap.size 3 1 L (3*d) (Af (three (e.take d))))/\Hid (lO r wr)) (λ_ j _=>k-(intOf j).toNat)
  case atStart=>exact⟨0,rfl,iM _,ir _ _ _ _,aA.refl _ _⟩
  case round =>
   obtain⟨d,rfl,aq,x,n⟩:=hrel;generalize u9=L at *
   have M:=Aa (S.o.keeps n.o id);have ar:(0:Int)<=(d:Int):=by omega
   have A:=Aa (Kb x.o);by_cases z:d<k
   ·have H:(d:Int)<(k:Int):=by omega
    obtain⟨af,ag,ah,ai,aj⟩:=M.o.cells d (by rw[o.o];omega)
    have P:=Aa (show three (e.take (d+1))=three (e.take d)++[(Dr.itAt e d).t,(Dr.itAt e d).k,(Dr.itAt e d).d] by
       have I:d<e.length:=by rw[o.o];omega
       rw[jg,JH,hX I]
       simp[three,Dr.itAt,List.getD_eq_getElem?_getD,hX I])
    generalize Dr.itAt e d=h at *
    have R:=n.o.size;have C:=Aa (show(three (e.take d)).length=3*d by rw[Ga,iD,o.o,jJ (by omega)]);go_wp2_with (at_builtin;refine Fe rfl _ _ rfl r.heap.size _ (3*d) (three (e.take d)) rfl (by exact DT x.o (((aA.refl (λ_=>False) wr).alloc _).alloc _) (λ_ _ i=>i)) (wr.heap.size+1) 3 [h.t,h.k,h.d] rfl rfl (by exact aD.newAt (by simp) [.int .i64 h.t,.int .i64 h.k,.int .i64 h.d] 3) (by omega) (by omega) (by simp;omega) ?_;intro F c2 Q u t G)
    have N:=Aa (((n.o.alloc (.cells #[.int .i64 h.t,.int .i64 h.k,.int .i64 h.d,.int .i64 h.n,.int .i64 h.v] 247)).alloc (.cells #[.int .i64 h.t,.int .i64 h.k,.int .i64 h.d] 3)).trans t (λj v z=>by have:=A.o j v;omega));have O:=Aa u;clear u t G;refine⟨⟨d+1,by go_num,by omega,?_,N⟩,by simp[intOf];omega⟩;show World.ownsRow _ _ _ _ _ _ _;rw[P.o];exact O.o
   have H:d=k:=by omega
   subst H;have aw:decide ((d:Int)<(d:Int))=false:=by simp
   have R:=n.o.size
   have D:=Aa (show D9 c l=three (e.take d)++[0,0] by
      rw[V.o,W.o,iH,o.o,lp (by omega)];unfold EU
      rw[hZ (by rw[o.o];omega)])
   have ap:decide ((q:Int)<(d:Int))=false:=by simp;omega
   have am:wr.cell? ⟨s,10,none⟩=some (.int .i64 q):=n.o.cell T id;have an:s<wr.heap.size:=by have:=X.o;omega
   have ao:s≠wr.heap.size:=by omega
   have C:=Aa (show(three (e.take d)).length=3*d by rw[Ga,iD,o.o,jJ (by omega)]);go_wp2_with (at_builtin;refine Fe rfl _ _ rfl r.heap.size _ (3*d) (three (e.take d)) rfl (by exact DT x.o (((aA.refl (λ_=>False) wr).alloc _).alloc _) (λ_ _ i=>i)) (wr.heap.size+1) 2 [0,0] rfl rfl (by exact aD.newAt (by simp) [.int .i64 0,.int .i64 0] 3) (by omega) (by omega) (by simp;omega) ?_;intro F c2 Q u t G)
   go_ret2;have J:(D9 c l).length=3*d+2:=by rw[D.o];simp[C.o]
   refine⟨F,c2,by rw[J];rfl,?_,?_⟩
   ·rw[J,D.o];exact LF u B.o.size
   exact B.o.then (((n.o.alloc _).alloc _).trans t (λj v z=>by have:=A.o j v;omega))
 have a6:k=q:=by omega
 subst a6;go_wp2_with fail
 go_loopw [9,31] (λL j wr=>∃d:Nat,j=.int .i64 d/\d<=k/\Hid (wr.ownsRow r.heap.size 3 1 L (3*d) (Af (three (e.take d))))/\Hid (lO r wr)) (λ_ j _=>k-(intOf j).toNat)
 case atStart=>exact⟨0,rfl,iM _,ir _ _ _ _,aA.refl _ _⟩
 case round =>
  obtain⟨d,rfl,aq,x,n⟩:=hrel;generalize u9=L at *
  have M:=Aa (S.o.keeps n.o id);have ar:(0:Int)<=(d:Int):=by omega
  have A:=Aa (Kb x.o);by_cases z:d<k
  ·have H:(d:Int)<(k:Int):=by omega
   obtain⟨af,ag,ah,ai,aj⟩:=M.o.cells d (by rw[o.o];omega)
   have P:=Aa (show three (e.take (d+1))=three (e.take d)++[(Dr.itAt e d).t,(Dr.itAt e d).k,(Dr.itAt e d).d] by
      have I:d<e.length:=by rw[o.o];omega
      rw[jg,JH,hX I]
      simp[three,Dr.itAt,List.getD_eq_getElem?_getD,hX I])
   generalize Dr.itAt e d=h at *
   have R:=n.o.size;have C:=Aa (show(three (e.take d)).length=3*d by rw[Ga,iD,o.o,jJ (by omega)]);go_wp2_with (at_builtin;refine Fe rfl _ _ rfl r.heap.size _ (3*d) (three (e.take d)) rfl (by exact DT x.o (((aA.refl (λ_=>False) wr).alloc _).alloc _) (λ_ _ i=>i)) (wr.heap.size+1) 3 [h.t,h.k,h.d] rfl rfl (by exact aD.newAt (by simp) [.int .i64 h.t,.int .i64 h.k,.int .i64 h.d] 3) (by omega) (by omega) (by simp;omega) ?_;intro F c2 Q u t G)
   have N:=Aa (((n.o.alloc (.cells #[.int .i64 h.t,.int .i64 h.k,.int .i64 h.d,.int .i64 h.n,.int .i64 h.v] 247)).alloc (.cells #[.int .i64 h.t,.int .i64 h.k,.int .i64 h.d] 3)).trans t (λj v z=>by have:=A.o j v;omega));have O:=Aa u;clear u t G;refine⟨⟨d+1,by go_num,by omega,?_,N⟩,by simp[intOf];omega⟩;show World.ownsRow _ _ _ _ _ _ _;rw[P.o];exact O.o
  have H:d=k:=by omega
  subst H;have aw:decide ((d:Int)<(d:Int))=false:=by simp
  have R:=n.o.size
  have D:=Aa (show D9 c l=three (e.take d)++[0,0] by
     rw[V.o,W.o,iH,o.o,lp (by omega)];unfold EU
     rw[hZ (by rw[o.o];omega)])
  have ap:decide ((d:Int)<(d:Int))=false:=by simp
  have am:wr.cell? ⟨s,10,none⟩=some (.int .i64 d):=n.o.cell T id;have an:s<wr.heap.size:=by have:=X.o;omega
  have ao:s≠wr.heap.size:=by omega
  have C:=Aa (show(three (e.take d)).length=3*d by rw[Ga,iD,o.o,jJ (by omega)]);go_wp2_with (at_builtin;refine Fe rfl _ _ rfl r.heap.size _ (3*d) (three (e.take d)) rfl (by exact DT x.o (((aA.refl (λ_=>False) wr).alloc _).alloc _) (λ_ _ i=>i)) (wr.heap.size+1) 2 [0,0] rfl rfl (by exact aD.newAt (by simp) [.int .i64 0,.int .i64 0] 3) (by omega) (by omega) (by simp;omega) ?_;intro F c2 Q u t G)
  go_ret2;have J:(D9 c l).length=3*d+2:=by rw[D.o];simp[C.o]
  refine⟨F,c2,by rw[J];rfl,?_,?_⟩
  ·rw[J,D.o];exact LF u B.o.size
  exact B.o.then (((n.o.alloc _).alloc _).trans t (λj v z=>by have:=A.o j v;omega))
