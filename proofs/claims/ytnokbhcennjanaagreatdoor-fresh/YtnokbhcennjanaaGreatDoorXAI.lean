import Derived.Test.YtnokbhcennjanaaGreatDoorXAH
import Derived.Deep.OwnRows
open Go.RowKit Go.Proofs.Tryz
set_option maxRecDepth 100000
set_option maxHeartbeats 16000000
namespace Go.Proofs.YtnokbhcennjanaaGreatDoor
section
structure cU (c:Cfg) (rel last:Int) (o:Pa.Pn) (cl:List Pa.Pn):Prop where
 gI:0<=o.no
 fU:o.no*Ag c<=last
 eH:cl.Pairwise (λa b=>a.no<b.no)
 lt:∀p∈cl,0<=p.no/\p.no<o.no
 gH:∀x∈o.cs,0<=x
 gF:∀p∈cl,∀x∈p.cs,0<=x
 fB:BH cl+Cq o<=rel
 len:(cl.length:Int)<=c.aM
theorem Rm: ∀(l:List Pa.Pn) (a b:Int),l.Pairwise (λa b=>a.no<b.no)->(∀p∈l,a<=p.no/\p.no<b)->(l.length:Int)<=max (b-a) 0
 | [],a,b,_,_=>by simp;omega
 | p::l,a,b,h,hb=>by
  rw[jn]at h;have e:=hb p (by simp);have i:=Rm l (p.no+1) b h.2 (λd c=>⟨by have:=h.1 d c;omega,(hb d (by simp[c])).2⟩);rw[iD]
  push_cast
  omega
theorem cU.zero(c:Cfg)(a:1<=c.aM): cU c 0 0 Pa.pn0 []:=by
 refine⟨iL _,by show(0:Int)*_<=0;simp,ν,(λp a=>(ks a).elim),?_,(λp a=>(ks a).elim),?_,(by show(0:Int)<=_;omega)⟩
 ·intro h d;have e:h∈List.replicate 48 (0:Int):=d;rw[(kj.1 e).2];omega
 have:Cq Pa.pn0<=0:=Nj (iL _) (λh d=>by
    have e:h∈List.replicate 48 (0:Int):=d;rw[(kj.1 e).2]
    omega)
 show 0+Cq Pa.pn0<=0;omega
theorem Nc(c:Cfg)(h:c.rowed)(key:Int)(cs:List Int): ∀a d:Nat,(BO c key a cs).getD d 0<=cs.getD d 0+(if d<a*16 then 1 else 0)
 | 0,d=>by rw[ig (by omega)];exact Int.le_of_eq (kW _).symm
 | a+1,d=>by
  have m:=Ij c h key a;obtain⟨p,l⟩:∃p:Nat,(AA c key a).toNat=p:=⟨_,rfl⟩;have n:p<16:=by omega
  have i:=Nc c h key cs a d;have j:=Nc c h key cs a (a*16+p);rw[ig (by omega)]at j;unfold BO FD;rw[l,γ,jI];by_cases e:a*16+p=d
  ·rw[ij e];subst e;rw[ij (show a*16+p<(a+1)*16 by omega)];by_cases k:a*16+p<(BO c key a cs).length
   ·rw[ij k];simp only[Option.getD_some];omega
   rw[ig k];rw[γ,jC (by omega)]at j;simp only[Option.getD_none]at j ⊢;omega
  rw[ig e,<-γ];split
  ·split at i <;> omega
  rw[ig (by omega)]at i;exact i
theorem Zw(c:Cfg)(h:c.rowed)(key:Int)(n:Nat)(p:Pa.Pn): Cq (E5 c key n p)<=Cq p+1:=by
 have l:0<=Cq p:=Hd _;refine Nj (by omega) (λm k=>?_);obtain⟨a,hi,rfl⟩:=jX.1 k;have e:a<p.cs.length:=by have:=Ji c key p.cs n;have i:a<(BO c key n p.cs).length:=hi;omega
 have d:=Nc c h key p.cs n a;rw[γ,h9 (show a<(BO c key n p.cs).length from hi),γ,h9 e]at d;have i:p.cs[a]<=Cq p:=JF (jk e);have j:(BO c key n p.cs)[a]'hi<=p.cs[a]+(if a<n*16 then 1 else 0):=d;show(BO c key n p.cs)[a]'hi<=_;split at j <;> omega
theorem cU.hA{c:Cfg}{rel last:Int}{o:Pa.Pn}{cl:List Pa.Pn}(e:cU c rel last o cl): (∀a∈o.cs,0<=a/\a<=rel)/\∀p∈cl,∀a∈p.cs,0<=a/\a<=rel:=by
 have h:=e.fB;have l:=JB cl;have m:0<=Cq o:=Hd _;refine⟨λa d=>⟨e.gH a d,?_⟩,λp i a d=>⟨e.gF p i a d,?_⟩⟩
 ·have:a<=Cq o:=JF d;omega
 have n:a<=Cq p:=JF d;obtain⟨j,b,k⟩:=List.append_of_mem i;rw[k,GR]at h;have q:=JB j;have r:=JB b;simp only[BH]at h;omega
theorem Rz{c:Cfg}{p:Pa.Pn}{last:Int}(a:0<=p.no)(k:p.no*Ag c<=last)(l:last<=4611686018427387904)(d:1<=Ag c)(j:Ag c<=1000): CK c p:=by
 have e:p.no*1<=p.no*Ag c:=jt d a;have h:(p.no+1)*Ag c=p.no*Ag c+Ag c:=by rw[Int.add_mul,Int.one_mul]
 have i:0<=p.no*Ag c:=kL a (by omega);exact⟨a,by omega,by omega,by omega⟩
theorem cU.hG{c:Cfg}{rel last:Int}{o:Pa.Pn}{cl:List Pa.Pn}(a:cU c rel last o cl)(h:last<=4611686018427387904)(d:1<=Ag c)(e:Ag c<=1000): CK c o:=Rz a.gI a.fU h d e
theorem cU.hE{c:Cfg}{rel last:Int}{o:Pa.Pn}{cl:List Pa.Pn}(a:cU c rel last o cl)(j:last<=4611686018427387904)(h:1<=Ag c)(i:Ag c<=1000): ∀p∈cl,CK c p:=λp k=>by
 have d:=a.lt p k;have e:p.no*Ag c<=o.no*Ag c:=j1 (by omega) (by omega);exact Rz d.1 (Int.le_trans e a.fU) j h i
theorem Kt(c:Cfg)(e:0<=Ag c)(t:Int): ∀a:List Pa.Pn,a.Pairwise (λj b=>j.no<b.no)->∀p∈a.drop (B7 c a t),t<AW c p
 | [],_,p,hp=>by simp at hp
 | q::a,h,p,hp=>by
  rw[jn]at h;unfold B7 at hp;rw[jE]at hp;split at hp
  ·rw[iD,kD]at hp;exact Kt c e t a h.2 p hp
  rename_i k;have i:t<AW c q:=by simpa using k
  rw[j4,kJ]at hp;rcases iA.1 hp with d | d
  ·rw[d];exact i
  have l:=h.1 p d;have m:(q.no+1)*Ag c<=(p.no+1)*Ag c:=j1 (by omega) e;unfold AW at i ⊢;omega
theorem Z3{c:Cfg}{rel last:Int}{o:Pa.Pn}{cl:List Pa.Pn}(a:cU c rel last o cl)(y:It)(m:Int)(O:1<=Ag c)(J:c.aM*Ag c=c.aB)(e:1<=c.aM)(H:c.rowed)(L:last<=y.t)(P:y.t<=m):
  cU c (rel+1) y.t (Cl c o cl y m).1 (Cl c o cl y m).2:=by
 obtain⟨i,t⟩:∃i,i=y.t/Ag c:=⟨_,rfl⟩;have Q:o.no<=i:=by rw[t];exact(Int.le_ediv_iff_mul_le (by omega)).2 (Int.le_trans a.fU L)
 have G:i*Ag c<=y.t:=by rw[t];exact Int.ediv_mul_le _ (by omega)
 have I:∃j d,A8 o cl i=(j,d)/\j.no=i/\d.Pairwise (λq b=>q.no<b.no)/\(∀p∈d,0<=p.no/\p.no<i)/\(∀h∈j.cs,0<=h)/\(∀p∈d,∀h∈p.cs,0<=h)/\BH d+Cq j<=rel:=by
  have A:∀h∈Ay,0<=h:=λh k=>by
   have u:h∈List.replicate 48 (0:Int):=k;rw[(kj.1 u).2];omega
  have T:Cq (Cy i)<=0:=Nj (iL _) (λh k=>by
     have u:h∈List.replicate 48 (0:Int):=k;rw[(kj.1 u).2]
     omega)
  have S:=a.fB;have R:0<=Cq o:=Hd _;unfold A8;by_cases n:o.no=i
  ·rw[ij n];exact⟨o,cl,rfl,n,a.eH,λp e=>by rw[<-n];exact a.lt p e,a.gH,a.gF,a.fB⟩
  rw[ig n];by_cases r:o.cs=Ay
  ·rw[ij r];exact⟨Cy i,cl,rfl,rfl,a.eH,λp e=>by have:=a.lt p e;omega,A,a.gF,by omega⟩
  rw[ig r];refine⟨Cy i,cl++[o],rfl,rfl,?_,?_,A,?_,by rw[GR];simp only[BH];omega⟩
  ·rw[jb];exact⟨a.eH,j7 _ _,λq E b z=>by rw[im.1 z];exact(a.lt q E).2⟩
  ·intro p e;rcases ik.1 e with l | l
   ·have:=a.lt p l;omega
   rw[im.1 l];have:=a.gI;omega
  intro p e;rcases ik.1 e with l | l
  ·exact a.gF p l
  rw[im.1 l];exact a.gH
 obtain⟨j,d,F,s,v,w,C,D,M⟩:=I;have hrel:Cl c o cl y m=(E5 c y.k c.rows.toNat j,d.drop (B7 c d (m-c.aB))):=by unfold Cl;rw[<-t,F]
 rw[hrel];have x:(d.drop (B7 c d (m-c.aB))).Pairwise (λq b=>q.no<b.no):=v.sublist (j2 _ _);refine⟨by show 0<=j.no;rw[s];have:=a.gI;omega,by show j.no*_<=_;rw[s];exact G,x,λp e=>by show _/\p.no<j.no;rw[s];exact w p (iE e),?_,λp e h k=>D p (iE e) h k,?_,?_⟩
 ·intro h k;exact(MS (c:=c) (key:=y.k) (B:=Cq j) (λh k=>⟨C h k,JF k⟩) (Hd _) c.rows.toNat h k).1
 ·have n:=Zw c H y.k c.rows.toNat j;have r:=Mr d (B7 c d (m-c.aB));show BH (d.drop (B7 c d (m-c.aB)))+Cq (E5 c y.k c.rows.toNat j)<=rel+1;omega
 have z:=Rm _ (i-c.aM) i x (λp e=>by
    refine⟨?_,(w p (iE e)).2⟩;have n:=Kt c (by omega) (m-c.aB) d v p e;unfold AW at n;have r:(i-c.aM)*Ag c<(p.no+1)*Ag c:=by
     rw[Int.sub_mul,J];omega
    have N:=Int.lt_of_mul_lt_mul_right r (by omega)
    omega)
 show((d.drop (B7 c d (m-c.aB))).length:Int)<=c.aM;omega
end
section
attribute [local go_sem ↓] AH Bs
attribute [local go_sem] AI Bt A3 A4 AJ AL Bd B2
theorem zO5: (prog.info? 215).map (λa=>(a.zero,a.size,a.bytes))=some (some (.pointer none),1,8):=by kernel_rfl
def R0(ty:TypeId)(ps:Array (Nat×Value)): Sem Next:=do pure (.value (<-Instr.build ty ps))
theorem SJ(ρ:Operand->Value)(dst:Option Tmp)(x:Array (Nat×Operand))(c:TypeId)(pos:String)(after:Array Edge)(guard:Option (Nat×Bool)):
  execOp ρ { dst,op:=.build 221 x,type:=c,pos,after,guard }=R0 221 (x.map λ(a,y)=>(a,ρ y)):=rfl
theorem WO(c:Cfg)(a n:Nat)(w:World):
  (R0 221 #[(0,.agg c.cells.toArray),(1,σ a n n)]).run prog w=.ok (.value (.agg (MA c a n).toArray)) w:=by kernel_rfl
attribute [local go_sem ↓] SJ
attribute [local go_sem] WO
theorem M8(c:Value)(n:Nat): (madeCells #[c] n).toList=List.replicate n c:=by
 apply ke;intro d;by_cases a:d<n
 ·simp[madeCells,a,Nat.mod_one]
 simp[madeCells,a]
theorem Yg(a:List (Nat×Option Nat))(n k d:Nat)(e:a.length=k)(j:k<n): (CX a++List.replicate (n-k) (Value.pointer none)).set k (π d)=CX (a++[(d,none)])++List.replicate (n-(k+1)) (.pointer none):=by
 obtain⟨c,i⟩:∃c,n-k=c+1:=⟨n-k-1,by omega⟩;have h:(CX a).length=k:=by simp[CX,e]
 rw[i,show n-(k+1)=c by omega,jU _ _ (by omega),h,j9,List.replicate_succ,List.set_cons_zero];simp[CX]
theorem LQ(a:List (Nat×Option Nat))(p:Nat×Option Nat)(j:Nat): Ar (a++[p]) j=if j<a.length then Ar a j else if j=a.length then p else(0,none):=by
 unfold Ar;simp only[γ];by_cases c:j<a.length
 ·simp[c,iN c]
 by_cases d:j=a.length
 ·subst d;simp
 rw[jC (by simp;omega),ig c,ig d];rfl
theorem Sf(c:Cfg)(n:Nat)(w:World)(aq:0<=c.bits)(ar:c.bits<=4)(D:2 ^ c.bits.toNat=n):
  Calls prog 141 #[c.val] w λV ae=>∃H ad i,V=.returned (π H)/\w.heap.size<=H/\w.heap.size<=ad/\(∀a j,a<i.length->qf (Ar i a) j->w.heap.size<=j)/\i.length=n/\dA ae H ad i c (λ_=>[])/\lX w ae:=by
 obtain⟨k,A⟩:∃k,k=w.alloc (.cells c.cells.toArray 46):=⟨_,rfl⟩;have aj:=Aa (show lX w k by rw[A];exact(aA.refl _ _).alloc _);have X:aD k w.heap.size c.cells 46:=by rw[A];exact aD.new w _ _
 have S:=Aa A;clear A;have ah:=Aa X;have a1:(2:Int) ^ c.bits.toNat=(n:Int):=by rw[<-D];simp
 have a0:n<=16:=by
  rw[<-D];have:=jr (n:=2) (by omega) (show c.bits.toNat<=4 by omega);simpa using this
 have az:1<=n:=by rw[<-D];exact lR
 have a3:wrap64 (n:Int)=(n:Int):=by unfold wrap64;omega
 have ao:=λk=>run_make_row' (P:=prog) 214 215 (.pointer none) 8 underlying214 zO5 rfl .i64 .i64 n (by omega) (by omega) k;clear X D;unfold Cfg.val;go_enter func141,ntmps141;go_wp2_with fail
 rw[show w.alloc (.cells #[ι c.kind,ι c.aL,ι c.bF,ι c.cap,ι c.k,ι c.aB,ι c.bits,ι c.rows,ι c.width,ι c.aM,ι c.size,ι c.degree,ι c.half,ι c.mark,ι c.bV,ι c.bW,ι c.cI,ι c.cJ,ι c.cS,ι c.cT] 46)=k from S.o.symm]
 have M:=Aa (show aD (k.alloc (.cells (madeCells #[.pointer none] n) 215)) k.heap.size (CX []++List.replicate (n-0) (.pointer none)) 215 by
    have:=aD.new k (madeCells #[.pointer none] n).toList 215;rw[Array.toArray_toList]at this;rw[M8]at this
    exact this)
 have al:=Aa (show k.heap.size=w.heap.size+1 by rw[S.o];simp);rw[al.o]at M;have ai:=Aa (aj.o.alloc (.cells (madeCells #[.pointer none] n) 215));have ag:=Aa (ah.o.alloc (.cells (madeCells #[.pointer none] n) 215));generalize k.alloc (.cells (madeCells #[.pointer none] n) 215)=ap at *
 generalize I:w.heap.size=m at *
 have N:=Aa I;clear I ao
 go_loopw [11] (λa wr=>∃(e:Nat) (i:List (Nat×Option Nat)),a=ι e/\e<=n/\Hid (i.length=e)/\Hid (aD wr (m+1) (CX i++List.replicate (n-e) (.pointer none)) 215)/\Hid (aD wr m c.cells 46) /\
     Hid (∀h,h<e->(Ar i h).2=none/\m+1<(Ar i h).1/\Mk.aH wr (Ar i h).1 none [])/\Hid (∀a h,a<e->h<e->(Ar i a).1=(Ar i h).1->a=h)/\Hid (lX w wr)) (λa _=>n-(intOf a).toNat)
 case atStart=>exact⟨0,[],rfl,iT _,rfl,M,ag,λh C=>by omega,λa h o=>by omega,ai⟩
 case round =>
  obtain⟨e,i,rfl,ax,s,v,O,r,Q,R⟩:=hrel;have ay:(0:Int)<=(e:Int):=by omega
  by_cases L:e<n
  ·have Z:(e:Int)<(n:Int):=by omega
   go_wp2_with fail
   refine(Mk.rowNew_any wr).mono ?_;rintro V U ⟨rfl,ab,J,a4⟩;have B:=v.o.keeps J id
   have au:κ U (m+1) e (.pointer none):=B.cell (by
      have an:(CX i).length=e:=by simp[CX,s.o]
      rw[iO (by omega),an,j9,k0,ij (by omega)])
   have av:=B.frozen;have af:=Aa B;have ak:=Aa ab;have E:=Aa J;have T:=Aa (show m+1<wr.heap.size from v.o.lt);clear B ab J;go_wp2;have x:=Aa ((aA.refl (λj=>j=m+1) U).setCell (p:=⟨m+1,e,none⟩) (Or.inl rfl) (π wr.heap.size));refine⟨⟨e+1,i++[(wr.heap.size,none)],by go_num,by omega,?_,?_,?_,?_,?_,?_⟩,by simp[intOf];omega⟩
   ·show _=_;simp[s.o]
   ·show aD _ _ _ _;rw[<-Yg i n e wr.heap.size s.o L];exact af.o.setCell e _
   ·exact(O.o.keeps E.o id).keeps x.o (by omega)
   ·intro h C;rw[LQ,s.o];by_cases l:h<e
    ·rw[ij l];obtain⟨z,G,t⟩:=r.o h l;exact⟨z,G,(t.still E.o).keeps x.o (by omega) (λ_ d=>by cases d)⟩
    rw[ig l,ij (show h=e by omega)];refine⟨rfl,T.o,?_⟩;have:=T.o;exact ak.o.keeps x.o (λd=>by have W:wr.heap.size=m+1:=d;omega) (λ_ d=>by cases d)
   ·intro a h o C d;rw[LQ,LQ,s.o]at d;by_cases l:a<e <;> by_cases q:h<e
    ·rw[ij l,ij q]at d;exact Q.o a h l q d
    ·rw[ij l,ig q,ij (show h=e by omega)]at d;have:=(r.o a l).2.2.lt.1;have W:(Ar i a).1=wr.heap.size:=d;omega
    ·rw[ig l,ij q,ij (show a=e by omega)]at d;have:=(r.o h q).2.2.lt.1;have W:wr.heap.size=(Ar i h).1:=d;omega
    omega
   exact(R.o.then E.o).trans x.o (λa o L=>by have:=N.o;omega)
  have Z:e=n:=by omega
  subst Z;obtain⟨a2,aw⟩:=CM O.o 20 rfl;go_wp2;go_ret;have I:=N.o;have aa:=s.o;have L:=v.o.lt;have am:aD wr (m+1) (CX i) 215:=by have:=v.o;rw[j9]at this;simpa using this
  have u:∀a j,a<i.length->qf (Ar i a) j->j=(Ar i a).1:=λa j o d=>by
   rcases d with d | d
   ·exact d
   rw[(r.o a (by omega)).1]at d;cases d
  have Y:∀F,lX wr (wr.alloc F):=λF=>(aA.refl (λ_=>False) wr).alloc F;refine⟨wr.heap.size,m+1,i,rfl,?_,?_,?_,aa,⟨?_,?_,?_,?_,?_,?_⟩,?_⟩
  ·omega
  ·omega
  ·intro a j o d;have l:=u a j o d;have q:=(r.o a (by omega)).2.1;omega
  ·rw[aa];exact aD.new wr (MA c (m+1) e) 221
  ·exact am.keeps (Y _) id
  ·intro a o;obtain⟨z,G,t⟩:=r.o a (by omega);rw[z];exact t.still (Y _)
  ·intro a h j o C l q;exact Q.o a h (by omega) (by omega) ((u a j o l).symm.trans (u h j C q))
  ·intro a o;obtain⟨z,G,t⟩:=r.o a (by omega);have:=t.lt.1;exact⟨λd=>by have:=u a _ o d;omega,λd=>by have:=u a _ o d;omega⟩
  ·omega
  exact R.o.alloc _
def KY(d:Nat): Value:=.func (.func 142) #[π d] #[]
def KO(d:Nat): Value:=.func (.func 146) #[π d] #[]
def KS(d:Nat): Value:=.func (.func 145) #[π d] #[]
def KX(d:Nat): Value:=.func (.func 143) #[π d] #[]
def Fa: Value:=.func (.func 144) #[] #[]
theorem RZ(c:Cfg)(n:Nat)(w:World)(Q:0<=c.bits)(R:c.bits<=4)(F:2 ^ c.bits.toNat=n):
  Calls prog 102 #[c.val] w λC I=>∃a q k,C=.returned (.agg #[KY a,KX a,Fa,KS a,KO a])/\w.heap.size<=a/\w.heap.size<=q/\(∀e j,e<k.length->qf (Ar k e) j->w.heap.size<=j)/\k.length=n/\dA I a q k c (λ_=>[])/\lX w I:=by
 obtain⟨i,m⟩:∃i,i=(w.alloc (.cells c.cells.toArray 46)).alloc (.cells #[.nilFunc,.nilFunc,.nilFunc,.nilFunc,.nilFunc] 94):=⟨_,rfl⟩;have t:=Aa (show aD i (w.heap.size+1) [.nilFunc,.nilFunc,.nilFunc,.nilFunc,.nilFunc] 94 by rw[m];exact aD.newAt (by simp) _ _);have r:=Aa (show lX w i by rw[m];exact((aA.refl (λ_=>False) w).alloc _).alloc _);have P:=Aa m;have A:=Aa (Sf c n i Q R F);clear m F;unfold Cfg.val at *
 go_enter func102,ntmps102;go_wp2_with fail
 rw[show(w.alloc (.cells #[ι c.kind,ι c.aL,ι c.bF,ι c.cap,ι c.k,ι c.aB,ι c.bits,ι c.rows,ι c.width,ι c.aM,ι c.size,ι c.degree,ι c.half,ι c.mark,ι c.bV,ι c.bW,ι c.cI,ι c.cJ,ι c.cS,ι c.cT] 46)).alloc (.cells #[.nilFunc,.nilFunc,.nilFunc,.nilFunc,.nilFunc] 94)=i from P.o.symm];generalize u:w.heap.size=d at *
 have L:=Aa u;clear u;refine A.o.mono ?_;rintro C z ⟨a,q,k,rfl,aa,ad,H,G,D,x⟩;have J:=Aa D;have h:=Aa (t.o.keeps x id);have M:=Aa (r.o.then x);have O:=Aa r.o.size;have s:=Aa t.o.lt;have B:=Aa H;have N:=Aa G;clear D x t r A H G;have Y:=h.o.frozen;have T:=h.o.c0;have U:=h.o.c1;have V:=h.o.c2;have W:=h.o.c3;have X:=h.o.c4;go_wp2;have u:=L.o;have ae:=O.o;have E:aA (λe=>e=d+1) z (((((z.setCell ⟨d+1,0,none⟩ (KY a)).setCell ⟨d+1,1,none⟩ (KX a)).setCell ⟨d+1,2,none⟩ Fa).setCell ⟨d+1,3,none⟩ (KS a)).setCell ⟨d+1,4,none⟩ (KO a)):=(((((aA.refl (λe=>e=d+1) z).setCell (p:=⟨d+1,0,none⟩) (Or.inl rfl) _).setCell (p:=⟨d+1,1,none⟩) (Or.inl rfl) _).setCell (p:=⟨d+1,2,none⟩) (Or.inl rfl) _).setCell (p:=⟨d+1,3,none⟩) (Or.inl rfl) _).setCell (p:=⟨d+1,4,none⟩) (Or.inl rfl) _;refine iV (v:=.agg #[KY a,KX a,Fa,KS a,KO a]) (by simp[results,results102,go_sem,T,U,V,W,X,KY,KX,Fa,KS,KO]) rfl ⟨a,q,k,rfl,by omega,by omega,λe j o l=>by have:=B.o e j o l;omega,N.o,?_,?_⟩
 ·exact J.o.keeps E (λl=>by have:=s.o;omega) (λl=>by have:=s.o;omega) (λe j o S Z=>by have:=B.o e j o S;have:=s.o;omega)
 exact M.o.trans E (λe o ab=>by omega)
end
end Go.Proofs.YtnokbhcennjanaaGreatDoor
namespace Go.Proofs.YtnokbhcennjanaaGreatDoor.Dr
def Own(w:World)(base:Nat)(v:Value)(l:List It): Prop:=w.ownsRow base 247 5 v l.length (flat l)
theorem Own.keeps{M:Nat->Prop}{w w':World}{base:Nat}{v:Value}{l:List It}(c:Own w base v l)(m:aA M w w')(o:∀h,v.ownBlock=some h->¬M h): Own w' base v l:=by
 rcases c.2 with ⟨a,d⟩ | ⟨g,i,j,a,d,e,k⟩
 ·exact⟨c.1,.inl ⟨a,d⟩⟩
 refine⟨c.1,.inr ⟨g,i,j,a,d,?_,k⟩⟩;have n:g<w.heap.size:=(js.1 e).1;rw[m.block g n (o g (by rw[a];simp[Value.ownBlock]))];exact e
theorem Own.base{w:World}{base:Nat}{v:Value}{l:List It}(c:Own w base v l)(i:Nat)(hi:v.ownBlock=some i): base<=i:=by
 rcases c.2 with ⟨a,_⟩ | ⟨g,d,e,a,h,_⟩
 ·rw[a]at hi;simp[Value.ownBlock]at hi
 rw[a]at hi;have:g=i:=by simpa[Value.ownBlock] using hi
 omega
theorem MP(l:List It): ∀c∈flat l,c.oneCell'=true:=by
 induction l with
 | nil=>simp[flat]
 | cons e l d =>
  intro c a;simp only[flat,iA]at a;rcases a with rfl | rfl | rfl | rfl | rfl | a
  ·rfl
  ·rfl
  ·rfl
  ·rfl
  ·rfl
  exact d c a
theorem IZ{w:World}{A:Array Oper}{rest:List Oper}{o:Oper}{a:Act}{u:Exit->Act->World->Prop}(F:o.guard=none)(s x:Operand)(J:o.op=.call { callee:=.builtin .append,args:=#[s,x],argTypes:=#[254,254] })(base:Nat)(j:Value)(d:List It)(e:Nat)(q:d.length=e)(O:a.eval s=j)(L:Own w base j d)(r h v:Nat)(c:List It)(H:c.length=h)(Q:a.eval x=σ r h v)(C:∀l m,(flat c)[l]?=some m->w.cell? ⟨r,l,none⟩=some m)(N:0<h)(hlen:e+h<=100000)(E:base<=w.heap.size)(n:∀g k t,Own t base (σ g (e+h) k) (d++c)->aA (λU=>j.ownBlock=some U) w t->(j.ownBlock=some g\/w.heap.size<=g)->wpList prog A u rest (a.put o.dst (σ g (e+h) k)) t): wpList prog A u (o::rest) a w:=by
 obtain⟨V,G,R,S,T⟩:=jg Fw;subst q H;refine jf w F s x 254 J base 247 V _ 5 40 underlying254 G R S T (by rfl) (by omega) j d.length (flat d) O L ⟨r,0,none⟩ c.length v (flat c) Q (GJ c) ?_ (MP c) N (by unfold maxLen;omega) (by omega) E w.heap.size rfl ?_
 ·intro l m P;rw[kl,ja];exact C l m P
 intro g k B M i D W;refine n g k B ?_ ⟨i.os,i.tape,i.output,i.size,λe q I=>i.block e q (λn=>I n.symm)⟩ ?_
 ·show B.ownsRow base 247 5 _ (d++c).length (flat (d++c));rw[Jg,ic];exact M
 rcases D with z | z
 ·exact .inl z
 exact .inr (by omega)
theorem Own.row{w:World}{base g n c:Nat}{l:List It}(_:l.length=n)(e:Own w base (σ g n c) l): aP w g c l/\base<=g:=by
 rcases e.2 with ⟨a,_⟩ | ⟨r,q,d,a,h,i,j,k,m,o⟩
 ·cases a
 cases a;exact⟨⟨⟨d.toList,by unfold aD;simpa using i,by simpa using m,o⟩,j,k⟩,h⟩
theorem MF(g n cap:Nat)(w:World): (binOp BinOp.eql 254 (σ g n cap) (.slice none 0 0)).run prog w=.ok (.bool false) w:=by kernel_rfl
theorem Mu(w:World): (binOp BinOp.eql 254 (.slice none 0 0) (.slice none 0 0)).run prog w=.ok (.bool true) w:=by kernel_rfl
attribute [local go_sem] MF Mu
theorem LD(w:World):
  Calls prog 232 #[.slice none 0 0] w λa c=>a=.returned (.slice none 0 0)/\c=w:=by
 go_enter func232,ntmps232;go_wp2;go_ret;exact⟨rfl,rfl⟩
theorem Ms(g cap:Nat)(l:List It)(w:World)(c:aP w g cap l)(s:l.length<=1000):
  Calls prog 232 #[σ g l.length cap] w λE v=>∃j q,E=.returned (σ j l.length q)/\w.heap.size<=j/\aP v j q l/\lX w v:=by
 obtain⟨a,k⟩:∃a,a=l.length:=⟨_,rfl⟩;have D:=Aa c;have i:=Aa k;rw[<-k]at s ⊢;obtain⟨Q,M,U,V,W⟩:=jg Fw;clear k c
 have e:=Aa (show Own (w.alloc (.cells #[] 247)) w.heap.size (σ w.heap.size 0 0) [] from
    ⟨rfl,.inr ⟨w.heap.size,0,#[],rfl,ir _,iH w _,ir _,iT _,rfl,rfl⟩⟩)
 have h:=Aa ((aA.refl (λ_=>False) w).alloc (.cells #[] 247));by_cases G:a=0
 ·subst G;have B:=Aa (show l=[] from iR.1 i.o.symm);go_enter func232,ntmps232;go_wp2_with (at_builtin;refine JU rfl _ _ 254 rfl w.heap.size 247 Q 5 underlying254 M _ 0 [] rfl e.o (some ⟨g,0,none⟩) cap rfl ?_)
  go_ret;refine⟨w.heap.size,0,rfl,ir _,?_,h.o⟩;rw[B.o];exact(Own.row rfl e.o).1
 have x:=Aa (show ∀d o,(flat l)[d]?=some o->κ (w.alloc (.cells #[] 247)) g d o from λd o n=>by
    obtain⟨S,I,s,P⟩:=D.o.ex;refine h.o.cell (I.cell ?_) id;have N:d<l.length*5:=by have:=(iq.1 n).1;rwa [GJ]at this
    rw[<-P,iW,ij N]at n
    exact n)
 have O:0<a:=by omega
 go_enter func232,ntmps232;go_wp2_with (at_builtin;refine IZ rfl _ _ rfl w.heap.size _ [] 0 rfl rfl e.o g a cap l i.o.symm rfl x.o O (by omega) (by simp) ?_;intro F c2 R t r H)
 have m:=Own.row (by have:=i.o;simp;omega) t;have C:=Aa m.1;have z:=Aa m.2
 have A:=Aa ((h.o.trans r (λu J T=>by
        have L:(Value.slice (some ⟨w.heap.size,0,none⟩) 0 0).ownBlock=some u:=J;have:w.heap.size=u:=by simpa[Value.ownBlock] using L
        omega)))
 clear m t r H;go_wp2;go_ret;exact⟨F,c2,rfl,z.o,C.o,A.o⟩
def allL: Nat->List It->List It
 | 0,_=>[]
 | f+1,l=>if l.length=0 then[] else itAt l 0::allL f (takeL l)
theorem takeL_length(l:List It): (takeL l).length=l.length-1:=by
 unfold takeL;rw[GE];simp
end Go.Proofs.YtnokbhcennjanaaGreatDoor.Dr
namespace Go.Proofs.YtnokbhcennjanaaGreatDoor.Dr
theorem Ft(a:Nat)(c:Option Nat)(l:List It)(n:Int)(w:World)(e:bB w a c l)(i:(l.length:Int)=n):
  Calls prog 206 #[π a] w λd j=>d=.returned (ι n)/\j=w :=
 (len_any a c l w e).mono λ_ _ ⟨h,hw⟩=>⟨by rw[h,i],hw⟩
theorem MV(a g:Nat)(l:List It)(x:It)(w:World)(h:bB w a (some g) l)(j:l.length<=900)(k:0<l.length)(m:itAt l 0=x):
  Calls prog 207 #[π a] w λe d=>e=.returned (.tuple #[.agg #[ι x.t,ι x.k,ι x.d,ι x.n,ι x.v],.bool true])/\bB d a (some g) (takeL l)/\aA (λc=>c=a\/c=g) w d :=
 (take_any a g l w h j k).mono λ_ _ ⟨i,hw⟩=>⟨by rw[i,m];rfl,hw⟩
theorem all_some(z g:Nat)(l:List It)(w:World)(a:bB w z (some g) l)(bm:l.length<=900):
  Calls prog 208 #[π z] w λr j=>∃g n,r=.returned (σ g l.length n)/\w.heap.size<=g/\aP j g n (allL (l.length+1) l)/\(allL (l.length+1) l).length=l.length/\lX w j:=by
 obtain⟨d,E⟩:∃d,d=l.length:=⟨_,rfl⟩;obtain⟨br,bk,bo,bp,bq⟩:=jg Fw;have R:=Aa E;have a6:=Aa a;rw[<-E]at bm ⊢;obtain⟨b3,I,V,aw⟩:=a;have b4:κ w z 0 (.func (.func 204) #[] #[]):=V.cell rfl;have b5:κ w z 1 (σ g d I):=by rw[E];exact V.cell rfl
 have ad:=Aa (show ∀A,lX w A->Calls prog 232 #[σ g d I] A λr j=>∃c c1,r=.returned (σ c d c1)/\A.heap.size<=c/\aP j c c1 l/\lX A j from λA bj=>by
    rw[E];exact Ms g I l A (aw.keeps bj id) (by omega))
 clear V aw E;go_enter func208,ntmps208;go_wp2_with fail
 go_region_held3 (λj=>j.cell? ⟨z,0,none⟩=some (.func (.func 204) #[] #[])/\j.cell? ⟨z,1,none⟩=some (σ g d I))
  (first | (go_split_ands;exact⟨by assumption,by assumption⟩) | (go_split_ands;exact⟨((aA.refl (λ_=>False) _).alloc _).cell (by assumption) id,((aA.refl (λ_=>False) _).alloc _).cell (by assumption) id⟩) | (go_split_ands;exact⟨L.cell (by assumption) id,L.cell (by assumption) id⟩))
  (first | (go_at_call 232;refine(ad.o _ (by exact(aA.refl _ _).drew)).mono ?_;rintro r m ⟨c,c1,rfl,al,Y,L⟩))
 have af:=Aa (((aA.refl (λ_=>False) w).drew).then L);have az:=Aa (show w.heap.size<=c from al);have be:=Aa af.o.size;have a1:=Aa Y.lt;have ba:=Aa Y;clear Y L ad al;obtain⟨i,J⟩:∃i,i=m.alloc (.cells #[.func (.func 204) #[] #[],σ c d c1] 278):=⟨_,rfl⟩;have ab:=Aa (show aD i m.heap.size [Cn,σ c d c1] 278 by rw[J];exact aD.new m _ _);have aa:=Aa (show lX m i by rw[J];exact(aA.refl (λ_=>False) m).alloc _);have bc:=Aa J;clear J;have ai:=Aa (show bB i m.heap.size (some c) l from⟨by have:=a1.o;omega,c1,by rw[<-R.o];exact ab.o,ba.o.keeps aa.o id⟩);have N:=Aa (af.o.then aa.o);obtain⟨ax,b2,au,X⟩:=lT (P:=prog) i w.heap.size 254 247 br _ 5 underlying254 bk bo bp .i64 .i64 d (by rw[bq];omega) (by unfold maxLen;omega) N.o.size;have ah:=Aa (show lX i ax from(aA.refl (λ_=>False) i).grown X (λo D=>by cases D));have a5:=Aa (show Own ax w.heap.size (σ i.heap.size 0 d) [] from au);clear au X;go_wp2_with fail
 rw[show m.alloc (.cells #[.func (.func 204) #[] #[],σ c d c1] 278)=i from bc.o.symm];refine(Ft z (some g) l d i (a6.o.keeps N.o id (λ_ _ a=>a)) (by rw[R.o])).mono ?_;rintro r j ⟨rfl,t⟩;rw[t];clear t j;have a8:=Aa (show m.heap.size<i.heap.size from ab.o.lt);have a0:=Aa (show c<i.heap.size from(ai.o.lt.2 c rfl).1);have a9:=Aa (show w.heap.size<=m.heap.size from be.o);generalize b6:m.heap.size=G at *
 generalize bz:i.heap.size=bf at *
 go_wp2_with fail
 go_loopg [4] (d) (λgk bs wr=>∃(q k:List It) (e n:Nat),bs=σ e k.length n/\Hid (q.length=gk)/\Hid (k.length+gk=d)/\Hid (e≠G/\e≠c)/\Hid (Own wr w.heap.size (σ e k.length n) k)/\Hid (bB wr G (some c) q)/\Hid (lX w wr)/\Hid (allL (d+1) l=k++allL (gk+1) q))
 case atStart=>exact⟨l,[],bf,d,rfl,R.o.symm,by show _=_;simp,⟨by have:=a8.o;omega,by have:=a0.o;omega⟩,a5,ai.o.keeps ah.o id (λ_ _ a=>a),N.o.then ah.o,rfl⟩
 case round =>
  obtain⟨q,k,e,n,rfl,x,H,M,S,T,Q,ae⟩:=hrel;obtain⟨o,D⟩:∃o,k.length=o:=⟨_,rfl⟩;rw[D];have v:=Aa D;clear D;by_cases bh:gk=0
  ·go_wp2_with (go_at_call 206;refine(Ft G (some c) q 0 _ T.o (by have:=x.o;omega)).mono ?_;rintro r j ⟨rfl,t⟩;rw[t];clear t j)
   go_ret;have bl:o=d:=by have:=H.o;have:=v.o;omega
   subst bl;have ar:=Own.row rfl S.o;have aj:allL (o+1) l=k:=by
    rw[ae.o,bh];unfold allL;rw[ij (by have:=x.o;omega),iC]
   refine⟨e,n,rfl,ar.2,?_,?_,Q.o⟩
   ·rw[aj];exact ar.1
   rw[aj];exact v.o
  have b1:(0:Int)<(gk:Int):=by omega
  have bx:0<gk:=by omega
  obtain⟨h,Z⟩:∃h,itAt q 0=h:=⟨_,rfl⟩;have bb:=Aa (MV G c q h wr T.o (by have:=x.o;have:=H.o;omega) (by have:=x.o;omega) Z);have bd:=Aa Z;clear Z
  go_wp2_with (first | (go_at_call 206;refine(Ft G (some c) q gk _ T.o (by have:=x.o;omega)).mono ?_;rintro r j ⟨rfl,t⟩;rw[t];clear t j) | (go_at_call 207;refine bb.o.mono ?_;rintro r B ⟨rfl,F,an⟩;have a7:=Aa F;have O:=Aa an;clear F an;have a3:=Aa (show Own B w.heap.size (σ e o n) k by rw[<-v.o];exact S.o.keeps O.o (λu s a=>by
            have am:e=u:=by simpa[Value.ownBlock] using s
            rcases a with a | a
            ·exact M.o.1 (by omega)
            exact M.o.2 (by omega)))) | (at_builtin;refine IZ rfl _ _ rfl w.heap.size _ k o v.o rfl (by exact a3.o.keeps (((aA.refl (λ_=>False) B).alloc _).alloc _) (λ_ _ a=>a)) (B.heap.size+1) 1 1 [h] rfl rfl (by exact λb7 b8 bn=>(aD.newAt (by simp) (flat [h]) 247).cell bn) (by omega) (by have:=H.o;have:=v.o;omega) (by have bu:=Q.o.size;have bv:=O.o.size;simp;omega) ?_;intro C c2 bt av ao ak))
  have F:=a7.o;have aq:=F.lt
  have ag:=Aa (((aA.refl (λu=>u=e) B).alloc (.cells #[ι h.t,ι h.k,ι h.d,ι h.n,ι h.v] 247)).alloc (.cells #[ι h.t,ι h.k,ι h.d,ι h.n,ι h.v] 247) |>.trans ao (λu s ap=>by
        have am:(Value.slice (some ⟨e,0,none⟩) o n).ownBlock=some u:=s;have:e=u:=by simpa[Value.ownBlock] using am
        exact this.symm))
  have a4:=Aa av
  have ay:=Aa (show C=e\/B.heap.size<=C from by
     rcases ak with a | a
     ·have bg:(Value.slice (some ⟨e,0,none⟩) o n).ownBlock=some C:=a;exact .inl (by have:e=C:=(by simpa[Value.ownBlock] using bg);exact this.symm)
     exact .inr (by simp at a;omega))
  clear av ao ak;have a2:=Aa (show w.heap.size<=e from S.o.base e (by simp[Value.ownBlock]));go_wp2;go_roundg (gk-1)
  case measure=>omega
  case rel =>
   have b0:=(aq.2 c rfl).1;have X:=aq.1;have U:=M.o;refine⟨takeL q,k++[h],C,c2,?_,?_,?_,?_,?_,?_,?_,?_⟩
   ·rw[ic,v.o];rfl
   ·show _=_;rw[takeL_length];have:=x.o;omega
   ·show _=_;rw[ic];have:=H.o;simp;omega
   ·show _/\_;rcases ay.o with a | a
    ·rw[a];exact U
    exact⟨by omega,by omega⟩
   ·show Own _ _ _ _;rw[ic,v.o];exact a4.o
   ·exact F.keeps ag.o (λa=>U.1 a.symm) (λg W a=>by injection W with W;exact U.2 (by rw[W];exact a.symm))
   ·have bi:lX w B:=Q.o.trans O.o (λu s ap=>by
       rcases s with s | s
       ·have:=a9.o;omega
       have:=az.o;omega)
    exact bi.trans ag.o (λu s ap=>by have:=a2.o;omega)
   show _=_;rw[ae.o]
   conv=>lhs;unfold allL
   rw[ig (by have:=x.o;omega),bd.o,show gk-1+1=gk by omega];simp
end Go.Proofs.YtnokbhcennjanaaGreatDoor.Dr
namespace Go.Proofs.YtnokbhcennjanaaGreatDoor.Dr
theorem all_none(e:Nat)(w:World)(c:bB w e none []):
  Calls prog 208 #[π e] w λi d=>∃g o,i=.returned (σ g 0 o)/\w.heap.size<=g/\aP d g o []/\lX w d:=by
 obtain⟨I,C,F,G,H⟩:=jg Fw;have z:=Aa c;have m:=c.2;have N:κ w e 0 (.func (.func 204) #[] #[]):=m.cell rfl;have O:=m.c1;clear m c;go_enter func208,ntmps208;go_wp2_with fail
 go_region_held3 (λd=>d.cell? ⟨e,0,none⟩=some (.func (.func 204) #[] #[])/\d.cell? ⟨e,1,none⟩=some (.slice none 0 0))
  (first | (go_split_ands;exact⟨by assumption,by assumption⟩) | (go_split_ands;exact⟨((aA.refl (λ_=>False) _).alloc _).cell (by assumption) id,((aA.refl (λ_=>False) _).alloc _).cell (by assumption) id⟩))
  (first | (go_at_call 232;refine(LD _).mono ?_;rintro i d ⟨rfl,rfl⟩))
 obtain⟨a,j⟩:∃a,a=(w.alloc (.cells #[.func (.func 204) #[] #[],.slice none 0 0] 278)).drew:=⟨_,rfl⟩;have v:=Aa (show aD a w.heap.size [Cn,.slice none 0 0] 278 by rw[j];exact(aD.new w _ _).drew);have l:=Aa (show lX w a by rw[j];exact((aA.refl (λ_=>False) w).alloc _).drew);have B:=Aa j;clear j;have A:=Aa (show bB a w.heap.size none [] from⟨rfl,v.o⟩);obtain⟨k,r,t,q⟩:=lT (P:=prog) a w.heap.size 254 247 I _ 5 underlying254 C F G .i64 .i64 0 (by rw[H];omega) (by unfold maxLen;omega) l.o.size;have n:=Aa (show lX a k from(aA.refl (λ_=>False) a).grown q (λQ D=>by cases D));have x:=Aa (show Own k w.heap.size (σ a.heap.size 0 0) [] from t);have M:(Instr.makeSlice 254 (ι 0) (ι 0)).run prog a=.ok (σ a.heap.size 0 0) k:=r;clear t q r;go_wp2_with fail
 rw[show(w.alloc (.cells #[.func (.func 204) #[] #[],.slice none 0 0] 278)).drew=a from B.o.symm];refine(Ft e none [] 0 a (z.o.keeps l.o id (λ_ c=>by cases c)) rfl).mono ?_;rintro i d ⟨rfl,h⟩;rw[h];clear h d;generalize E:w.heap.size=J at *
 go_wp2_with fail
 go_loopg [4] (0) (λgk L wr=>L=σ a.heap.size 0 0/\wr=k)
 case atStart=>exact⟨rfl,rfl⟩
 case round =>
  obtain⟨rfl,u⟩:=hrel;rw[u];clear u wr;go_wp2_with (go_at_call 206;refine(Ft J none [] 0 _ (A.o.keeps n.o id (λ_ c=>by cases c)) rfl).mono ?_;rintro i d ⟨rfl,h⟩;rw[h];clear h d)
  go_ret;have s:=Own.row rfl x.o;exact⟨a.heap.size,0,rfl,by rw[E];exact s.2,s.1,l.o.then n.o⟩
theorem Q8(l:List It)(i j:Nat)(x:It)(hi:i<l.length): itAt (l.set i x) j=if j=i then x else itAt l j:=by
 unfold itAt;simp only[γ,jI];by_cases a:i=j
 ·subst a;simp[hi]
 simp[a,lE a]
theorem Du(l:List It)(i j t:Nat)(hi:i<l.length)(c:j<l.length): itAt (swapL l i j) t=if t=j then itAt l i else if t=i then itAt l j else itAt l t:=by
 unfold swapL;rw[Q8 _ _ _ _ (by simpa using c)];by_cases a:t=j
 ·rw[ij a,ij a]
 rw[ig a,ig a,Q8 _ _ _ _ hi]
theorem zKc{a b:List It}(e:a.length=b.length)(i:∀c,c<a.length->itAt a c=itAt b c): a=b:=by
 apply List.ext_getElem e;intro j d h;have:=i j d;simpa[itAt,List.getD_eq_getElem?_getD,h9 d,h9 h] using this
theorem Tn(l:List It)(t:Nat)(a:t<l.length): itAt l.reverse t=itAt l (l.length-1-t):=by
 unfold itAt;simp only[γ];rw[List.getElem?_reverse a]
theorem reverse_any(g cap n:Nat)(l:List It)(w:World)(A:l.length=n)(ab:n<=900)(B:aP w g cap l):
  Calls prog 209 #[σ g n cap] w λN C=>N=.returned (.tuple #[])/\aP C g cap l.reverse/\aA (·=g) w C:=by
 have J:=Aa B;have z:=Aa A;clear B A;go_enter func209,ntmps209;go_wp2_with fail
 go_loopw [2,3] (λq b wr=>∃(a:Nat) (h:Int) (e:List It),q=ι a/\b=ι h/\a<=n/\-900<=h/\h<=900/\Hid (h=(n:Int)-1-a)/\Hid (e.length=n)/\Hid (∀c,c<n->itAt e c=if c<a\/n<=c+a then itAt l (n-1-c) else itAt l c)/\Hid (aP wr g cap e)/\Hid (aA (·=g) w wr)) (λq _ _=>n-(intOf q).toNat)
 case atStart=>exact⟨0,(n:Int)-1,l,rfl,rfl,iT _,by omega,by omega,by show _=_;simp,z,λc v=>by rw[ig (by omega)],J,aA.refl _ _⟩
 case round =>
  obtain⟨a,h,e,rfl,rfl,Y,af,ag,m,i,o,j,x⟩:=hrel;by_cases aa:(a:Int)<h
  ·obtain⟨d,rfl⟩:∃d:Nat,h=(d:Int):=⟨h.toNat,by omega⟩;have t:d<n:=by have:=m.o;omega
   have u:a<n:=by omega
   have T:(0:Int)<=(a:Int):=by omega
   have U:(a:Int)<(n:Int):=by omega
   have X:(0:Int)<=(d:Int):=by omega
   have W:(d:Int)<(n:Int):=by omega
   obtain⟨ah,ai,aj,ak,al⟩:=j.o.cells a (by rw[i.o];exact u);obtain⟨am,an,ao,ap,aq⟩:=j.o.cells d (by rw[i.o];exact t);have S:=j.o.frozen;have L:=Aa (show swapL e a d=(e.set a (itAt e d)).set d (itAt e a) from rfl);have M:=Aa (λc=>Du e a d c (by rw[i.o];exact u) (by rw[i.o];exact t));have F:=Aa (o.o a u);have G:=Aa (o.o d t);generalize itAt e a=D at *
   generalize itAt e d=y at *
   go_wp2_with fail
   go_region
   have I:=Aa ((j.o.put a y).put d D);have H:=Aa ((((aA.refl (λQ=>Q=g) wr).putTk (Or.inl rfl) a y).putTk (Or.inl rfl) d D))
   have E:=Aa (show ∀c,c<n->itAt (swapL e a d) c=if c<a+1\/n<=c+(a+1) then itAt l (n-1-c) else itAt l c from λc v=>by
      have O:=m.o;have V:d=n-1-a:=by omega
      rw[M.o c];by_cases r:c=d
      ·rw[ij r,ij (by omega),F.o,ig (by omega),r];congr 1;omega
      rw[ig r];by_cases s:c=a
      ·rw[ij s,ij (by omega),G.o,ig (by omega),s];congr 1
      rw[ig s,o.o c v];by_cases k:c<a\/n<=c+a
      ·rw[ij k,ij (by omega)]
      rw[ig k,ig (by omega)])
   have ad:IntKind.i64.wrap ((a:Int)+1)=(a:Int)+1:=by rw[il];omega
   have ae:IntKind.i64.wrap ((d:Int)-1)=(d:Int)-1:=by rw[il];omega
   go_wp2_with fail
   refine⟨⟨a+1,(d:Int)-1,swapL e a d,by go_num,rfl,by omega,by omega,by omega,?_,?_,E,?_,?_⟩,by simp[intOf];omega⟩
   ·show _=_;have:=m.o;omega
   ·show _=_;rw[Ce];exact i.o
   ·show aP _ _ _ _;rw[L.o];exact I.o.drew
   exact(x.o.then H.o).drew
  have R:decide ((a:Int)<h)=false:=by simp;omega
  go_wp2;go_end0;refine⟨rfl,?_,x.o⟩;have Z:=i.o;have P:=z.o;have O:=m.o
  have:e=l.reverse:=zKc (by simp;omega) (λc v=>by
     rw[o.o c (by omega),Tn l c (by omega),P];by_cases k:c<a\/n<=c+a
     ·rw[ij k]
     rw[ig k];congr 1;omega)
  rw[<-this];exact j.o
end Go.Proofs.YtnokbhcennjanaaGreatDoor.Dr
namespace Go.Proofs.YtnokbhcennjanaaGreatDoor
section
theorem Rl(c:Nat)(i:Option Nat)(l:List Dr.It)(w:World)(h:Dr.bB w c i l)(n:l.length<=900):
  Calls prog 208 #[π c] w λe d=>∃g a,e=.returned (σ g l.length a)/\w.heap.size<=g/\Dr.aP d g a (Dr.allL (l.length+1) l)/\(Dr.allL (l.length+1) l).length=l.length/\lX w d:=by
 cases i with
 | none =>
  obtain⟨rfl,j⟩:=h;refine(Dr.all_none c w ⟨rfl,j⟩).mono ?_;rintro e d ⟨g,a,rfl,k,o,m⟩;exact⟨g,a,rfl,k,o,rfl,m⟩
 | some g=>exact Dr.all_some c g l w h n
theorem Me{w:World}{base e:Nat}{v:Value}{n:Nat}{h:List Value}(a:w.ownsRow base 3 1 v n h)(l:e<=base): w.ownsRow e 3 1 v n h:=by
 rcases a.2 with ⟨c,d⟩ | ⟨g,i,j,c,d,k⟩
 ·exact⟨a.1,.inl ⟨c,d⟩⟩
 exact⟨a.1,.inr ⟨g,i,j,c,jN l d,k⟩⟩
def three(l:List Dr.It): List Int:=l.flatMap λx=>[x.t,x.k,x.d]
theorem Ka(a b:List Dr.It): three (a++b)=three a++three b:=by simp[three]
theorem Gf(l:List Dr.It): (three l).length=3*l.length:=by
 induction l with
 | nil=>rfl
 | cons c l a=>simp[three]at a ⊢;omega
def Fe(s:Nat)(r:List Dr.It): Dr.It:=if s<r.length then Dr.itAt r s else⟨0,0,0,0,0⟩
def DK(c:Cfg)(l:List Dr.It): List Int :=
 let r:=(Dr.allL (l.length+1) l).reverse
 three (r.take (min c.size.toNat r.length))++[(Fe c.size.toNat r).v,(Fe c.size.toNat r).d]
theorem Tk(s ae:Nat)(ay:Option Nat)(c:Cfg)(l:List Dr.It)(a m:Int)(w:World)(i:dN w s ae ay c l)(a7:1<=c.size)(a8:c.size<=5)(bb:l.length<=6):
  Calls prog 160 #[π s,ι a,ι m] w λY az=>∃g E,Y=.returned (.tuple #[σ g (DK c l).length E,ι 0]) /\
   az.ownsRow w.heap.size 3 1 (σ g (DK c l).length E) (DK c l).length (Af (DK c l))/\lX w az:=by
 have al:=Aa i;have a4:κ w s 20 (π ae):=i.aF.cell rfl;have ax:=i.dM;clear i;go_enter func160,ntmps160;go_wp2_with fail
 refine(Rl ae ay l w ax (by omega)).mono ?_;rintro Y a3 ⟨g,E,rfl,a5,aa,hlen,au⟩;obtain⟨k,Z⟩:∃k,k=l.length:=⟨_,rfl⟩;rw[<-Z]at aa hlen ⊢;have ak:=Aa (Dr.reverse_any g E k (Dr.allL (k+1) l) a3 hlen (by omega) aa);have a0:=Aa au;have a2:=Aa Z;have a1:=Aa hlen;have bc:k<=6:=by omega
 clear aa au ax a4 Z hlen;go_wp2_with fail
 refine ak.o.mono ?_;rintro Y r ⟨rfl,ab,av⟩;have B:=Aa (a0.o.trans av (λj v z=>by omega));obtain⟨e,U⟩:∃e,e=(Dr.allL (k+1) l).reverse:=⟨_,rfl⟩;rw[<-U]at ab;have V:=Aa (show DK c l=three (e.take (min c.size.toNat e.length))++[(Fe c.size.toNat e).v,(Fe c.size.toNat e).d] by unfold DK;rw[<-a2.o,<-U]);have o:=Aa (show e.length=k by rw[U];simp[a1.o]);have S:=Aa ab;have T:κ r s 10 (ι c.size):=(al.o.aF.keeps B.o id).cell rfl;have X:=Aa (show s<r.heap.size from kN al.o.aF.lt B.o.size);clear av ab U ak a5;obtain⟨q,ad⟩:∃q:Nat,c.size=(q:Int):=⟨c.size.toNat,by omega⟩;rw[ad]at T a7 a8;have W:=Aa ad;clear ad;have bd:k<=E:=by have:=S.o.le;rw[o.o]at this;exact this
 have bf:1<=q:=by omega
 have bg:q<=5:=by omega
 by_cases bj:(q:Int)<(k:Int)
 ·have bh:q<=E:=by omega
  have bi:(q:Int)<=(E:Int):=by omega
  have a9:¬E=0:=by omega
  go_wp2_with fail
  go_loopw [9,31] (λL j wr=>∃d:Nat,j=ι d/\d<=q/\Hid (wr.ownsRow r.heap.size 3 1 L (3*d) (Af (three (e.take d))))/\Hid (lX r wr)) (λ_ j _=>q-(intOf j).toNat)
  case atStart=>exact⟨0,rfl,iT _,iy _ _ _ _,aA.refl _ _⟩
  case round =>
   obtain⟨d,rfl,aq,x,n⟩:=hrel;generalize u9=L at *
   have M:=Aa (S.o.keeps n.o id);have ar:(0:Int)<=(d:Int):=by omega
   have A:=Aa (Kj x.o);by_cases z:d<q
   ·have H:(d:Int)<(q:Int):=by omega
    obtain⟨af,ag,ah,ai,aj⟩:=M.o.cells d (by rw[o.o];omega)
    have P:=Aa (show three (e.take (d+1))=three (e.take d)++[(Dr.itAt e d).t,(Dr.itAt e d).k,(Dr.itAt e d).d] by
       have I:d<e.length:=by rw[o.o];omega
       rw[ji,Ka,h9 I]
       simp[three,Dr.itAt,List.getD_eq_getElem?_getD,h9 I])
    generalize Dr.itAt e d=h at *
    have R:=n.o.size;have C:=Aa (show(three (e.take d)).length=3*d by rw[Gf,iG,o.o,jG (by omega)]);go_wp2_with (at_builtin;refine Fl rfl _ _ rfl r.heap.size _ (3*d) (three (e.take d)) rfl (by exact DY x.o (((aA.refl (λ_=>False) wr).alloc _).alloc _) (λ_ _ i=>i)) (wr.heap.size+1) 3 [h.t,h.k,h.d] rfl rfl (by exact aD.newAt (by simp) [ι h.t,ι h.k,ι h.d] 3) (by omega) (by omega) (by simp;omega) ?_;intro F c2 Q u t G)
    have N:=Aa (((n.o.alloc (.cells #[ι h.t,ι h.k,ι h.d,ι h.n,ι h.v] 247)).alloc (.cells #[ι h.t,ι h.k,ι h.d] 3)).trans t (λj v z=>by have:=A.o j v;omega));have O:=Aa u;clear u t G;refine⟨⟨d+1,by go_num,by omega,?_,N⟩,by simp[intOf];omega⟩;show World.ownsRow _ _ _ _ _ _ _;rw[P.o];exact O.o
   have H:d=q:=by omega
   subst H;have aw:decide ((d:Int)<(d:Int))=false:=by simp
   have R:=n.o.size;obtain⟨af,ag,ah,ai,aj⟩:=M.o.cells d (by rw[o.o];omega)
   have D:=Aa (show DK c l=three (e.take d)++[(Dr.itAt e d).v,(Dr.itAt e d).d] by
      rw[V.o,W.o,iM,o.o,jG (by omega)];unfold Fe
      rw[ij (by rw[o.o];omega)])
   generalize Dr.itAt e d=h at *
   have ap:decide ((d:Int)<(k:Int))=true:=by simp;omega
   have am:κ wr s 10 (ι d):=n.o.cell T id;have an:s<wr.heap.size:=by have:=X.o;omega
   have ba:g<wr.heap.size:=M.o.lt;have ao:s≠wr.heap.size:=by omega
   have C:=Aa (show(three (e.take d)).length=3*d by rw[Gf,iG,o.o,jG (by omega)]);go_wp2_with (at_builtin;refine Fl rfl _ _ rfl r.heap.size _ (3*d) (three (e.take d)) rfl (by exact DY x.o (((aA.refl (λ_=>False) wr).alloc _).alloc _) (λ_ _ i=>i)) (wr.heap.size+1) 2 [h.v,h.d] rfl rfl (by exact aD.newAt (by simp) [ι h.v,ι h.d] 3) (by omega) (by omega) (by simp;omega) ?_;intro F c2 Q u t G)
   go_ret2;have J:(DK c l).length=3*d+2:=by rw[D.o];simp[C.o]
   refine⟨F,c2,by rw[J];rfl,?_,?_⟩
   ·rw[J,D.o];exact Me u B.o.size
   exact B.o.then (((n.o.alloc _).alloc _).trans t (λj v z=>by have:=A.o j v;omega))
 by_cases be:(k:Int)<(q:Int)
 ·go_wp2_with fail
  go_loopw [9,31] (λL j wr=>∃d:Nat,j=ι d/\d<=k/\Hid (wr.ownsRow r.heap.size 3 1 L (3*d) (Af (three (e.take d))))/\Hid (lX r wr)) (λ_ j _=>k-(intOf j).toNat)
  case atStart=>exact⟨0,rfl,iT _,iy _ _ _ _,aA.refl _ _⟩
  case round =>
   obtain⟨d,rfl,aq,x,n⟩:=hrel;generalize u9=L at *
   have M:=Aa (S.o.keeps n.o id);have ar:(0:Int)<=(d:Int):=by omega
   have A:=Aa (Kj x.o);by_cases z:d<k
   ·have H:(d:Int)<(k:Int):=by omega
    obtain⟨af,ag,ah,ai,aj⟩:=M.o.cells d (by rw[o.o];omega)
    have P:=Aa (show three (e.take (d+1))=three (e.take d)++[(Dr.itAt e d).t,(Dr.itAt e d).k,(Dr.itAt e d).d] by
       have I:d<e.length:=by rw[o.o];omega
       rw[ji,Ka,h9 I]
       simp[three,Dr.itAt,List.getD_eq_getElem?_getD,h9 I])
    generalize Dr.itAt e d=h at *
    have R:=n.o.size;have C:=Aa (show(three (e.take d)).length=3*d by rw[Gf,iG,o.o,jG (by omega)]);go_wp2_with (at_builtin;refine Fl rfl _ _ rfl r.heap.size _ (3*d) (three (e.take d)) rfl (by exact DY x.o (((aA.refl (λ_=>False) wr).alloc _).alloc _) (λ_ _ i=>i)) (wr.heap.size+1) 3 [h.t,h.k,h.d] rfl rfl (by exact aD.newAt (by simp) [ι h.t,ι h.k,ι h.d] 3) (by omega) (by omega) (by simp;omega) ?_;intro F c2 Q u t G)
    have N:=Aa (((n.o.alloc (.cells #[ι h.t,ι h.k,ι h.d,ι h.n,ι h.v] 247)).alloc (.cells #[ι h.t,ι h.k,ι h.d] 3)).trans t (λj v z=>by have:=A.o j v;omega));have O:=Aa u;clear u t G;refine⟨⟨d+1,by go_num,by omega,?_,N⟩,by simp[intOf];omega⟩;show World.ownsRow _ _ _ _ _ _ _;rw[P.o];exact O.o
   have H:d=k:=by omega
   subst H;have aw:decide ((d:Int)<(d:Int))=false:=by simp
   have R:=n.o.size
   have D:=Aa (show DK c l=three (e.take d)++[0,0] by
      rw[V.o,W.o,iM,o.o,lD (by omega)];unfold Fe
      rw[ig (by rw[o.o];omega)])
   have ap:decide ((q:Int)<(d:Int))=false:=by simp;omega
   have am:κ wr s 10 (ι q):=n.o.cell T id;have an:s<wr.heap.size:=by have:=X.o;omega
   have ao:s≠wr.heap.size:=by omega
   have C:=Aa (show(three (e.take d)).length=3*d by rw[Gf,iG,o.o,jG (by omega)]);go_wp2_with (at_builtin;refine Fl rfl _ _ rfl r.heap.size _ (3*d) (three (e.take d)) rfl (by exact DY x.o (((aA.refl (λ_=>False) wr).alloc _).alloc _) (λ_ _ i=>i)) (wr.heap.size+1) 2 [0,0] rfl rfl (by exact aD.newAt (by simp) [ι 0,ι 0] 3) (by omega) (by omega) (by simp;omega) ?_;intro F c2 Q u t G)
   go_ret2;have J:(DK c l).length=3*d+2:=by rw[D.o];simp[C.o]
   refine⟨F,c2,by rw[J];rfl,?_,?_⟩
   ·rw[J,D.o];exact Me u B.o.size
   exact B.o.then (((n.o.alloc _).alloc _).trans t (λj v z=>by have:=A.o j v;omega))
 have a6:k=q:=by omega
 subst a6;go_wp2_with fail
 go_loopw [9,31] (λL j wr=>∃d:Nat,j=ι d/\d<=k/\Hid (wr.ownsRow r.heap.size 3 1 L (3*d) (Af (three (e.take d))))/\Hid (lX r wr)) (λ_ j _=>k-(intOf j).toNat)
 case atStart=>exact⟨0,rfl,iT _,iy _ _ _ _,aA.refl _ _⟩
 case round =>
  obtain⟨d,rfl,aq,x,n⟩:=hrel;generalize u9=L at *
  have M:=Aa (S.o.keeps n.o id);have ar:(0:Int)<=(d:Int):=by omega
  have A:=Aa (Kj x.o);by_cases z:d<k
  ·have H:(d:Int)<(k:Int):=by omega
   obtain⟨af,ag,ah,ai,aj⟩:=M.o.cells d (by rw[o.o];omega)
   have P:=Aa (show three (e.take (d+1))=three (e.take d)++[(Dr.itAt e d).t,(Dr.itAt e d).k,(Dr.itAt e d).d] by
      have I:d<e.length:=by rw[o.o];omega
      rw[ji,Ka,h9 I]
      simp[three,Dr.itAt,List.getD_eq_getElem?_getD,h9 I])
   generalize Dr.itAt e d=h at *
   have R:=n.o.size;have C:=Aa (show(three (e.take d)).length=3*d by rw[Gf,iG,o.o,jG (by omega)]);go_wp2_with (at_builtin;refine Fl rfl _ _ rfl r.heap.size _ (3*d) (three (e.take d)) rfl (by exact DY x.o (((aA.refl (λ_=>False) wr).alloc _).alloc _) (λ_ _ i=>i)) (wr.heap.size+1) 3 [h.t,h.k,h.d] rfl rfl (by exact aD.newAt (by simp) [ι h.t,ι h.k,ι h.d] 3) (by omega) (by omega) (by simp;omega) ?_;intro F c2 Q u t G)
   have N:=Aa (((n.o.alloc (.cells #[ι h.t,ι h.k,ι h.d,ι h.n,ι h.v] 247)).alloc (.cells #[ι h.t,ι h.k,ι h.d] 3)).trans t (λj v z=>by have:=A.o j v;omega));have O:=Aa u;clear u t G;refine⟨⟨d+1,by go_num,by omega,?_,N⟩,by simp[intOf];omega⟩;show World.ownsRow _ _ _ _ _ _ _;rw[P.o];exact O.o
  have H:d=k:=by omega
  subst H;have aw:decide ((d:Int)<(d:Int))=false:=by simp
  have R:=n.o.size
  have D:=Aa (show DK c l=three (e.take d)++[0,0] by
     rw[V.o,W.o,iM,o.o,lD (by omega)];unfold Fe
     rw[ig (by rw[o.o];omega)])
  have ap:decide ((d:Int)<(d:Int))=false:=by simp
  have am:κ wr s 10 (ι d):=n.o.cell T id;have an:s<wr.heap.size:=by have:=X.o;omega
  have ao:s≠wr.heap.size:=by omega
  have C:=Aa (show(three (e.take d)).length=3*d by rw[Gf,iG,o.o,jG (by omega)]);go_wp2_with (at_builtin;refine Fl rfl _ _ rfl r.heap.size _ (3*d) (three (e.take d)) rfl (by exact DY x.o (((aA.refl (λ_=>False) wr).alloc _).alloc _) (λ_ _ i=>i)) (wr.heap.size+1) 2 [0,0] rfl rfl (by exact aD.newAt (by simp) [ι 0,ι 0] 3) (by omega) (by omega) (by simp;omega) ?_;intro F c2 Q u t G)
  go_ret2;have J:(DK c l).length=3*d+2:=by rw[D.o];simp[C.o]
  refine⟨F,c2,by rw[J];rfl,?_,?_⟩
  ·rw[J,D.o];exact Me u B.o.size
  exact B.o.then (((n.o.alloc _).alloc _).trans t (λj v z=>by have:=A.o j v;omega))
end
section
attribute [local go_sem ↓] AH Bs
attribute [local go_sem] AI Bt A3 A4 AJ AL Bd B2
def Ri(ty:TypeId)(ps:Array (Nat×Value)): Sem Next:=do pure (.value (<-Instr.build ty ps))
theorem Sn(ρ:Operand->Value)(dst:Option Tmp)(x:Array (Nat×Operand))(c:TypeId)(pos:String)(after:Array Edge)(guard:Option (Nat×Bool)):
  execOp ρ { dst,op:=.build 250 x,type:=c,pos,after,guard }=Ri 250 (x.map λ(a,y)=>(a,ρ y)):=rfl
theorem U2(c:Cfg)(a:Nat)(w:World):
  (Ri 250 #[(0,.agg c.cells.toArray),(1,π a)]).run prog w=.ok (.value (.agg (MH c a).toArray)) w:=by kernel_rfl
attribute [local go_sem ↓] Sn
attribute [local go_sem] U2
theorem T4(c:Cfg)(w:World):
  Calls prog 158 #[c.val] w λq e=>∃k t,q=.returned (π k)/\w.heap.size<=k/\w.heap.size<=t/\dN e k t none c []/\lX w e:=by
 obtain⟨a,h⟩:∃a,a=w.alloc (.cells c.cells.toArray 46):=⟨_,rfl⟩;have n:=Aa (show aD a w.heap.size c.cells 46 by rw[h];exact aD.new w _ _);have o:=Aa (show lX w a by rw[h];exact(aA.refl (λ_=>False) w).alloc _);have v:=Aa h;clear h;unfold Cfg.val;go_enter func158,ntmps158;go_wp2_with fail
 rw[show w.alloc (.cells #[ι c.kind,ι c.aL,ι c.bF,ι c.cap,ι c.k,ι c.aB,ι c.bits,ι c.rows,ι c.width,ι c.aM,ι c.size,ι c.degree,ι c.half,ι c.mark,ι c.bV,ι c.bW,ι c.cI,ι c.cJ,ι c.cS,ι c.cT] 46)=a from v.o.symm];generalize r:w.heap.size=j at *
 have u:=Aa r;clear r;have s:j<a.heap.size:=n.o.lt;obtain⟨H,G⟩:=CM n.o 20 rfl;go_region_held3 (λe=>Ap e j 0 20=.agg c.cells.toArray/\Az e j 0 20=true)
  (first | (simp[*,A3,A4,B8,B9];done) | (go_split_ands;exact⟨(F6 m (by simpa using s)).1.trans (by assumption),(F6 m (by simpa using s)).2.trans (by assumption)⟩))
  (first | (go_at_call 203;refine(Dr.new_any _).mono ?_;rintro q d ⟨rfl,B,m,C⟩))
 go_wp2;go_ret;have z:lX a d:=((aA.refl _ _).drew).then m;have A:∀i,lX d (d.alloc i):=λi=>(aA.refl (λ_=>False) d).alloc i;have E:=o.o.size;have F:=u.o;have D:d.heap.size=a.heap.size+1:=by simpa using C
 exact⟨a.heap.size+1,a.heap.size,rfl,by omega,by omega,⟨aD.newAt D (MH c a.heap.size) 250,B.keeps (A _) id (λ_ l=>by cases l),by omega,λg x=>by cases x⟩,(o.o.then z).alloc _⟩
def KM(d:Nat): Value:=.func (.func 159) #[π d] #[]
def KD(d:Nat): Value:=.func (.func 162) #[π d] #[]
def KH(d:Nat): Value:=.func (.func 161) #[π d] #[]
def KL(d:Nat): Value:=.func (.func 160) #[π d] #[]
theorem Sx(c:Cfg)(w:World):
  Calls prog 115 #[c.val] w λu A=>∃a k,u=.returned (.agg #[KM a,KL a,Fa,KH a,KD a])/\w.heap.size<=a/\w.heap.size<=k/\dN A a k none c []/\lX w A:=by
 obtain⟨h,i⟩:∃h,h=(w.alloc (.cells c.cells.toArray 46)).alloc (.cells #[.nilFunc,.nilFunc,.nilFunc,.nilFunc,.nilFunc] 94):=⟨_,rfl⟩;have m:=Aa (show aD h (w.heap.size+1) [.nilFunc,.nilFunc,.nilFunc,.nilFunc,.nilFunc] 94 by rw[i];exact aD.newAt (by simp) _ _);have l:=Aa (show lX w h by rw[i];exact((aA.refl (λ_=>False) w).alloc _).alloc _);have F:=Aa i;have t:=Aa (T4 c h);clear i;unfold Cfg.val at *
 go_enter func115,ntmps115;go_wp2_with fail
 rw[show(w.alloc (.cells #[ι c.kind,ι c.aL,ι c.bF,ι c.cap,ι c.k,ι c.aB,ι c.bits,ι c.rows,ι c.width,ι c.aM,ι c.size,ι c.degree,ι c.half,ι c.mark,ι c.bV,ι c.bW,ι c.cI,ι c.cJ,ι c.cS,ι c.cT] 46)).alloc (.cells #[.nilFunc,.nilFunc,.nilFunc,.nilFunc,.nilFunc] 94)=h from F.o.symm];generalize o:w.heap.size=d at *
 have C:=Aa o;clear o;refine t.o.mono ?_;rintro u r ⟨a,k,rfl,O,R,x,q⟩;have B:=Aa x;have e:=Aa (m.o.keeps q id);have D:=Aa (l.o.then q);have E:=Aa l.o.size;have s:=Aa m.o.lt;clear x q m l t;have N:=e.o.frozen;have H:=e.o.c0;have I:=e.o.c1;have J:=e.o.c2;have L:=e.o.c3;have M:=e.o.c4;go_wp2;have o:=C.o;have S:=E.o;have z:aA (λj=>j=d+1) r (((((r.setCell ⟨d+1,0,none⟩ (KM a)).setCell ⟨d+1,1,none⟩ (KL a)).setCell ⟨d+1,2,none⟩ Fa).setCell ⟨d+1,3,none⟩ (KH a)).setCell ⟨d+1,4,none⟩ (KD a)):=(((((aA.refl (λj=>j=d+1) r).setCell (p:=⟨d+1,0,none⟩) (Or.inl rfl) _).setCell (p:=⟨d+1,1,none⟩) (Or.inl rfl) _).setCell (p:=⟨d+1,2,none⟩) (Or.inl rfl) _).setCell (p:=⟨d+1,3,none⟩) (Or.inl rfl) _).setCell (p:=⟨d+1,4,none⟩) (Or.inl rfl) _;refine iV (v:=.agg #[KM a,KL a,Fa,KH a,KD a]) (by simp[results,results115,go_sem,H,I,J,L,M,KM,KL,Fa,KH,KD]) rfl ⟨a,k,rfl,by omega,by omega,?_,?_⟩
 ·exact B.o.keeps z (λn=>by have:=s.o;omega) (λn=>by have:=s.o;omega) (λg G=>by cases G)
 exact D.o.trans z (λj P Q=>by omega)
end
section
theorem MQ(c:Cfg): ∀(n s j:Nat),Fq c n s=true->s<=j->j<s+n->c.seed j=true
 | 0,s,j,_,h1,h2=>by omega
 | n+1,s,j,h,h1,h2=>by
  unfold Fq at h;rw[iQ]at h;by_cases a:j=s
  ·rw[a];exact h.1
  exact MQ c n (s+1) j h.2 (by omega) (by omega)
theorem QP{c:Cfg}{j:Nat}(a:c.seed j=true): 0<=De c j/\De c j<2305843009213693951/\0<=Df c j/\Df c j<2305843009213693951:=by
 match j with
 | 0=>simp only[Cfg.seed,FW,Ab,iQ,iP]at a;show 0<=c.bV/\c.bV<_/\0<=c.bW/\c.bW<_;omega
 | 1=>simp only[Cfg.seed,FW,Ab,iQ,iP]at a;show 0<=c.cI/\c.cI<_/\0<=c.cJ/\c.cJ<_;omega
 | j+2=>simp only[Cfg.seed,FW,Ab,iQ,iP]at a;show 0<=c.cS/\c.cS<_/\0<=c.cT/\c.cT<_;omega
theorem D5{c:Cfg}{k:Nat}(a:Ak c=true)(j:c.kind=k)(i:k=3): c.paned/\c.rowed/\1<=Ag c/\Ag c<=1000/\c.aM*Ag c=c.aB:=by
 subst i;simp only[Ak,j,iQ]at a;have d:EY c=true:=a.2.2;simp only[EY,Cg,Ab,iQ,iP,beq_iff_eq]at d;obtain⟨⟨t,u⟩,⟨v,w⟩,⟨r,s⟩,⟨o,q⟩,B,m⟩:=d;have e:c.aM*(c.aB/c.aM)=c.aB:=by have:=Int.mul_ediv_add_emod c.aB c.aM;omega
 have l:1<=c.aB/c.aM:=by
  rcases Int.lt_or_le (c.aB/c.aM) 1 with a | a
  ·have x:0<=c.aB/c.aM:=jO (by omega) (by omega);have h:c.aB/c.aM=0:=by omega
   rw[h]at e;omega
  exact a
 have A:c.aB/c.aM<=c.aB:=jS _ (by omega);refine⟨⟨o,q,r,s⟩,⟨t,u,v,w,λn z=>QP (MQ c c.rows.toNat 0 n m (iT _) (by omega))⟩,l,by show c.aB/c.aM<=1000;omega,e⟩
theorem FJ{c:Cfg}{k:Nat}(d:Ak c=true)(n:c.kind=k)(a:k=2): c.pair0/\1<=c.bits/\c.bits<=4/\1<=c.aB/\c.aB<=1000:=by
 subst a;simp only[Ak,n,iQ]at d;have a:GL c=true:=d.2.2;simp only[GL,Cg,Ab,iQ,iP]at a;obtain⟨⟨l,m⟩,⟨q,r⟩,o⟩:=a;have:=QP (MQ c 1 0 0 o (ir _) (by omega));obtain⟨e,h,i,j⟩:=this;exact⟨⟨e,h,i,j⟩,l,m,q,r⟩
theorem EA{c:Cfg}{k:Nat}(a:Ak c=true)(h:c.kind=k)(e:k=5): 1<=c.size/\c.size<=5:=by
 subst e;simp only[Ak,h,iQ]at a;have d:Fz c=true:=a.2.2;simp only[Fz,Ab,iQ,iP]at d;omega
theorem Ub{c:Cfg}{l:List Dr.It}(y:It)(a:(l.length:Int)<=c.size+1): ((AY c l y).length:Int)<=c.size+1:=by
 unfold AY;split
 ·rw[Dr.takeL_length,Dr.riseL_length,ic];simp only[jh];omega
 rename_i d;rw[Dr.riseL_length,ic];simp only[jh];omega
theorem Oy(c:Cfg)(n:Nat)(a:Nat->List Bk)(y:It)(m:Int)(j:Nat): (BU c n a y m j).length<=(a j).length+1:=by
 unfold BU;split
 ·have:=T5 ((a j).drop (Mk.pastN (a j) (m-c.aB))) ⟨y.t,Cr (AG c.bV c.bW y.k/n)⟩;rw[iU]at this;omega
 omega
theorem Wg{c:Cfg}{n:Nat}{i:Nat->List Bk}(h:∀a,∀b∈i a,1<=b.t/\b.t<=40)(y:It)(m:Int): ∀a,∀b∈BU c n i y m a,1<=b.t/\b.t<=40:=by
 intro a b d;unfold BU at d;split at d
 ·rcases Jy d with e | e
  ·exact h a b (iE e)
  rw[e];exact K6 _
 exact h a b d
structure aU where
 q:Int
 r:Int
 bs:List Bk
 rg:Nat->List Bk
 op:Pa.Pn
 cl:List Pa.Pn
 tk:List Dr.It
def CH: aU:=⟨0,0,[],λ_=>[],Pa.pn0,[],[]⟩
structure NB where
 d:Nat
 r:Nat
 g:Option Nat
 qs:List (Nat×Option Nat)
def BK(k:Nat)(b:NB)(i:Nat): Prop :=
 (k=1/\(i=b.d\/i=b.r\/b.g=some i))\/(k=4/\i=b.d)\/(k=2/\(i=b.d\/i=b.r\/∃j,j<b.qs.length/\qf (Ar b.qs j) i)) \/
 (k=3/\(i=b.d\/i=b.r\/b.g=some i))\/(k=5/\(i=b.d\/i=b.r\/b.g=some i))
def B1(c:Cfg): Nat:=2 ^ c.bits.toNat
structure cB (w:World) (k:Nat) (b:NB) (c:Cfg) (nt:aU):Prop where
 dec:k=4->aD w b.d (ED c nt.q nt.r) 194
 bL:k=1->bU w b.d b.r b.g c nt.bs
 dS:k=2->dA w b.d b.r b.qs c nt.rg/\b.qs.length=B1 c
 dY:k=3->cR w b.d b.r b.g c nt.op nt.cl
 cZ:k=5->dN w b.d b.r b.g c nt.tk
def BE(k:Nat)(c:Cfg)(nt:aU)(y:It)(m:Int): aU :=
 if k=4 then { nt with q:=nt.q+(nt.r+As (Am c y.t))/2305843009213693952,r:=(nt.r+As (Am c y.t))%2305843009213693952 }
 else if k=1 then { nt with bs:=C7 c nt.bs y.t m }
 else if k=2 then { nt with rg:=BU c (B1 c) nt.rg y m }
 else if k=3 then { nt with op:=(Cl c nt.op nt.cl y m).1,cl:=(Cl c nt.op nt.cl y m).2 }
 else if k=5 then { nt with tk:=AY c nt.tk y } else nt
def Bc(k:Nat)(c:Cfg)(nt:aU)(a m:Int): Int×List Int :=
 if k=4 then(0,[nt.q,nt.r,As (Am c m)])
 else if k=1 then(if Ab a 1 c.aB=true then(0,[Fj nt.bs (m-a)]) else(13,[]))
 else if k=2 then Gb c (B1 c) nt.rg a m
 else if k=3 then(if Ab a 0 2147483648=true then(0,[Gc c nt.op nt.cl a m]) else(10,[]))
 else if k=5 then(0,DK c nt.tk) else(1,[])
def Bj(k:Nat)(c:Cfg)(nt:aU)(m b:Int): aU×Int×Int :=
 if k=1 then({ nt with bs:=nt.bs.drop (DO c nt.bs m b).toNat },DO c nt.bs m b,(pastN nt.bs (m-c.aB):Int)-DO c nt.bs m b) else(nt,0,0)
structure bT (k:Nat) (c:Cfg) (rel last:Int) (nt:aU):Prop where
 q0:0<=nt.q
 qn:nt.q<=rel
 r0:0<=nt.r
 r1:nt.r<2305843009213693952
 one:∀b∈nt.bs,1<=b.sz
 sum:Ao nt.bs<=rel
 rk:∀i,∀b∈nt.rg i,1<=b.t/\b.t<=40
 rl:∀i,((nt.rg i).length:Int)<=rel
 oi:k=3->cU c rel last nt.op nt.cl
 tl:k=5->(nt.tk.length:Int)<=c.size+1
 lw:k=1->1<=c.k/\c.k<=10/\Lw c.k.toNat 0 nt.bs
 nb:k≠1->nt.bs=[]
 rf:∀i,dP (nt.rg i)
theorem bT.fR{k:Nat}{c:Cfg}{rel last:Int}{d:aU}(a:bT k c rel last d)(o:rel<=4611686018427387904): d.bs.length<=682/\∀b∈d.bs,b.sz<4611686018427387904:=by
 by_cases e:k=1
 ·obtain⟨j,l,h⟩:=a.lw e;have m:=a.sum;have:=h.fR (by omega) (by omega);refine⟨?_,this.2⟩;have n:62*(c.k.toNat+1)<=62*11:=Nat.mul_le_mul_left _ (by omega);omega
 rw[a.nb e];exact⟨by simp,λb i=>by cases i⟩
theorem bT.fZ{k:Nat}{c:Cfg}{rel last:Int}{d:aU}(a:bT k c rel last d)(e:rel<=4611686018427387904): cP d.bs:=⟨a.one,by have:=a.sum;omega,by have:=(a.fR e).1;omega⟩
theorem bT.gB{k:Nat}{c:Cfg}{rel last:Int}{a:aU}(d:bT k c rel last a)(i:Nat): (a.rg i).length<=40:=by
 have:=Kd (a.rg i) 40 (d.rf i) (d.rk i);omega
theorem bT.dJ{k:Nat}{c:Cfg}{rel last:Int}{d:aU}(a:bT k c rel last d): 0<=rel:=by have:=a.q0;have:=a.qn;omega
theorem P3{K:Int}(n:0<=K)(f:Nat)(l:List Bk)(a:Int)(e:Nat)(c:∀b∈l,1<=b.sz)(o:e<=l.length)(r:1<=a): (∀b∈joinL K f l a e,1<=b.sz)/\Ao (joinL K f l a e)=Ao l:=by
 induction f generalizing l a e with
 | zero=>exact⟨c,rfl⟩
 | succ f h =>
  unfold joinL;split
  ·exact⟨c,rfl⟩
  rename_i m;have q:AC l a e+2<=e:=by omega
  have j:(Ad l (AC l a e)).sz=a:=Iq l a e _ (by omega) (by omega);have k:(Ad l (AC l a e+1)).sz=a:=Iq l a e _ (by omega) (by omega);have d:=OA l (AC l a e) ⟨2*a,(Ad l (AC l a e+1)).t⟩ (by omega) (by show 2*a=_;omega);have hlen:=Fo (⟨2*a,(Ad l (AC l a e+1)).t⟩:Bk) (l:=l) (i:=AC l a e) (by omega);have:=h (BJ l (AC l a e) ⟨2*a,(Ad l (AC l a e+1)).t⟩) (2*a) (AC l a e+1) (Kp l _ _ c (by show 1<=2*a;omega)) (by omega) (by omega);exact⟨this.1,this.2.trans d⟩
theorem bT.drop{k:Nat}{c:Cfg}{rel last:Int}{d:aU}(a:bT k c rel last d)(j:Nat): bT k c rel last { d with bs:=d.bs.drop j }:=by
 refine⟨a.q0,a.qn,a.r0,a.r1,λb h=>a.one b (iE h),?_,a.rk,a.rl,a.oi,a.tl,λe=>⟨(a.lw e).1,(a.lw e).2.1,(a.lw e).2.2.drop (by have:=(a.lw e).1;omega) j⟩,λe=>by show d.bs.drop j=[];rw[a.nb e];exact List.drop_nil,a.rf⟩;have i:=Ih d.bs j;have m:=Ej (l:=d.bs.take j) (λb h=>a.one b (iZ h));have n:=a.sum;show Ao (d.bs.drop j)<=rel;omega
theorem zKw{k:Nat}{c:Cfg}{rel last:Int}{d:aU}(a:bT k c rel last d)(m b:Int): bT k c rel last (Bj k c d m b).1:=by
 unfold Bj;split
 ·exact a.drop _
 exact a
theorem Ek{c:Cfg}{k:Nat}(a:Ak c=true)(h:c.kind=k)(d:k=1): 1<=c.k/\c.k<=10/\1<=c.aB/\c.aB<=1000:=by
 subst d;simp only[Ak,h,iQ]at a;have e:countB c=true:=a.2.2;simp only[countB,Cg,Ab,iQ,iP]at e;omega
theorem Ge{c:Cfg}{k:Nat}(d:Ak c=true)(h:c.kind=k)(i:4<=k)(j:k<=5): c.bI:=by
 have e:CV c=true:=by
  have:k=4\/k=5:=by omega
  simp only[Ak,h,iM,iQ]at d;rcases this with a | a
  ·have:=d.2.2;rw[a]at this;exact this
  have:=d.2.2;rw[a]at this;simp only[Gs,Fz,iQ]at this;exact this.2
 simp only[CV,Ab,iQ,iP]at e;exact⟨by omega,by omega,by omega,by omega,by omega,by omega⟩
theorem Zy(b:Int)(e:1<=b)(n:Nat)(p:Int)(i:1<=p)(j:p<=2305843009213693952): 0<=As (Bo b n p)/\As (Bo b n p)<=2305843009213693952:=by
 induction n generalizing p with
 | zero=>simp only[Bo,As];omega
 | succ n h =>
  unfold Bo;split
  ·simp[As]
  rename_i a;obtain⟨c,d⟩:=Lb p b i e a;exact h _ c d
theorem Gn(c:Cfg)(t:Int): 0<=As (Am c t)/\As (Am c t)<=2305843009213693952:=by
 unfold Am;split
 ·simp[As]
 split
 ·exact Zy _ (by omega) _ 1 (by omega) (by omega)
 split
 ·simp[As]
 rename_i a d e;have:=G0 ((t-c.mark)/c.half).toNat (by omega);simp only[As];omega
theorem ZV{k:Nat}{c:Cfg}{rel last:Int}{d:aU}(a:bT k c rel last d)(w:Ak c=true)(v:c.kind=k)(y:It)(m:Int)(D:last<=y.t)(A:y.t<=m): bT k c (rel+1) y.t (BE k c d y m):=by
 have L:=Gn c y.t;have j:=a.q0;have b:=a.qn;have r:=a.r0;have s:=a.r1;have J:=a.sum
 have q:∀h,((d.rg h).length:Int)<=rel+1:=λh=>by have:=a.rl h;omega
 unfold BE;split
 ·rename_i G;exact⟨by show 0<=d.q+_;omega,by show d.q+_<=_;omega,by show 0<=_%_;omega,by show _%_<_;omega,a.one,by show Ao d.bs<=_;omega,a.rk,q,λe=>by omega,a.tl,λe=>by omega,a.nb,a.rf⟩
 split
 ·rename_i n;obtain⟨E,F,M,N⟩:=Ek w v n;have t:∀b∈C5 c d.bs y.t m,1<=b.sz:=λb i=>by
   unfold C5 at i;rcases ik.1 i with i | i
   ·exact a.one b (iE i)
   rw[im]at i;rw[i];exact iL _
  have u:=P3 (K:=c.k) (by omega) ((C5 c d.bs y.t m).length+1) (C5 c d.bs y.t m) 1 _ t (ir _) (by omega);refine⟨j,by show d.q<=_;omega,r,s,u.1,?_,a.rk,q,λe=>by omega,a.tl,λe=>⟨E,F,(Rh (c:=c) (K:=c.k.toNat) (by omega) (by omega) d.bs y.t m (a.lw e).2.2).1⟩,λe=>absurd n e,a.rf⟩;show Ao (C7 c d.bs y.t m)<=_;unfold C7;rw[u.2];have n:=Ih d.bs (pastN d.bs (m-c.aB));have x:=Ej (l:=d.bs.take (pastN d.bs (m-c.aB))) (λb i=>a.one b (iZ i));unfold C5;rw[F3];unfold EG;simp only[Ao];omega
 split
 ·exact⟨j,by show d.q<=_;omega,r,s,a.one,by show Ao d.bs<=_;omega,Wg a.rk y m,λh=>by
     have n:=Oy c (B1 c) d.rg y m h;have x:=a.rl h;show((BU c (B1 c) d.rg y m h).length:Int)<=_;omega,λe=>by omega,a.tl,λe=>by omega,a.nb,λh=>by
     show dP (BU c (B1 c) d.rg y m h);unfold BU;split
     ·exact Pd _ ((a.rf h).drop _)
     exact a.rf h⟩
 split
 ·rename_i o;obtain⟨t,C,z,I,B⟩:=D5 w v o;exact⟨j,by show d.q<=_;omega,r,s,a.one,by show Ao d.bs<=_;omega,a.rk,q,λ_=>Z3 (a.oi o) y m z B t.p0 C D A,a.tl,λe=>by omega,a.nb,a.rf⟩
 rename_i o;split
 ·rename_i H;exact⟨j,by show d.q<=_;omega,r,s,a.one,by show Ao d.bs<=_;omega,a.rk,q,λe=>(o e).elim,λe=>Ub y (a.tl e),λe=>by omega,a.nb,a.rf⟩
 rename_i n _ _;exact⟨j,by omega,r,s,a.one,by omega,a.rk,q,λe=>(o e).elim,a.tl,λe=>absurd e (by omega),a.nb,a.rf⟩
theorem bT.zero(k:Nat)(c:Cfg)(e:Ak c=true)(d:c.kind=k): bT k c 0 0 CH:=by
 refine⟨iL _,iL _,iL _,by show(0:Int)<_;omega,(λb h=>(ks h).elim),by show Ao []<=0;simp[Ao],(λi b h=>(ks h).elim),(λi=>by show((([]:List Bk).length:Nat):Int)<=0;simp),?_,?_,(λa=>⟨(Ek e d a).1,(Ek e d a).2.1,Lw.nil _ _⟩),(λ_=>rfl),(λ_=>ν)⟩
 ·intro a;exact cU.zero c (D5 e d a).1.p0
 intro a;have:=(EA e d a).1;show(0:Int)<=_;omega
theorem cB.keeps{M:Nat->Prop}{w w':World}{k:Nat}{b:NB}{c:Cfg}{q:aU}(d:cB w k b c q)(i:aA M w w')(a:∀n,BK k b n->¬M n): cB w' k b c q :=
 ⟨λo=>(d.dec o).keeps i (a _ (.inr (.inl ⟨o,rfl⟩))),
    λj=>(d.bL j).keeps i (a _ (.inl ⟨j,.inl rfl⟩)) (a _ (.inl ⟨j,.inr (.inl rfl)⟩)) (λ_ h=>a _ (.inl ⟨j,.inr (.inr h)⟩)),
    λe=>⟨(d.dS e).1.keeps i (a _ (.inr (.inr (.inl ⟨e,.inl rfl⟩)))) (a _ (.inr (.inr (.inl ⟨e,.inr (.inl rfl)⟩)))) (λn _ s r=>a _ (.inr (.inr (.inl ⟨e,.inr (.inr ⟨n,s,r⟩)⟩)))),(d.dS e).2⟩,
    λl=>(d.dY l).keeps i (a _ (.inr (.inr (.inr (.inl ⟨l,.inl rfl⟩))))) (a _ (.inr (.inr (.inr (.inl ⟨l,.inr (.inl rfl)⟩))))) (λ_ h=>a _ (.inr (.inr (.inr (.inl ⟨l,.inr (.inr h)⟩))))),
    λm=>(d.cZ m).keeps i (a _ (.inr (.inr (.inr (.inr ⟨m,.inl rfl⟩))))) (a _ (.inr (.inr (.inr (.inr ⟨m,.inr (.inl rfl)⟩))))) (λ_ h=>a _ (.inr (.inr (.inr (.inr ⟨m,.inr (.inr h)⟩)))))⟩
theorem cB.still{w w':World}{k:Nat}{b:NB}{c:Cfg}{d:aU}(a:cB w k b c d)(e:lX w w'): cB w' k b c d:=a.keeps e (λ_ _ a=>a)
theorem cB.lt{w:World}{k:Nat}{b:NB}{c:Cfg}{o:aU}(a:cB w k b c o)(i:Nat)(hi:BK k b i): i<w.heap.size:=by
 rcases hi with ⟨e,hi | hi | hi⟩ | ⟨n,hi⟩ | ⟨d,hi | hi | ⟨m,l,hi | hi⟩⟩ | ⟨h,hi | hi | hi⟩ | ⟨j,hi | hi | hi⟩
 ·rw[hi];exact(a.bL e).aF.lt
 ·rw[hi];exact(a.bL e).row.lt.1
 ·exact((a.bL e).row.lt.2 i hi).1
 ·rw[hi];exact(a.dec n).lt
 ·rw[hi];exact(a.dS d).1.aF.lt
 ·rw[hi];exact(a.dS d).1.fK.lt
 ·rw[hi];exact((a.dS d).1.row m l).lt.1
 ·exact(((a.dS d).1.row m l).lt.2 i hi).1
 ·rw[hi];exact(a.dY h).aF.lt
 ·rw[hi];exact(a.dY h).row.lt.1
 ·exact((a.dY h).row.lt.2 i hi).1
 ·rw[hi];exact(a.cZ j).aF.lt
 ·rw[hi];exact(a.cZ j).dM.lt.1
 exact((a.cZ j).dM.lt.2 i hi).1
def JO: Nat->Nat | 1=>134 | 2=>142 | 3=>148 | 4=>153 | _=>159
def I3: Nat->Nat | 1=>135 | 2=>143 | 3=>149 | 4=>154 | _=>160
def I4: Nat->Nat | 1=>136 | _=>144
def I5: Nat->Nat | 1=>137 | 2=>145 | 3=>150 | 4=>155 | _=>161
def Iy: Nat->Nat | 1=>138 | 2=>146 | 3=>151 | 4=>156 | _=>162
def Et(d:Nat): Array Value:=#[π d]
def Le(k d:Nat): Array Value:=if k=1 then #[π d] else #[]
def Hn(k d:Nat): Value:=.func (.func (JO k)) (Et d) #[]
def Hm(k d:Nat): Value:=.func (.func (I3 k)) (Et d) #[]
def Ho(k d:Nat): Value:=.func (.func (I5 k)) (Et d) #[]
def GA(k d:Nat): Value:=.func (.func (Iy k)) (Et d) #[]
def Hp(k d:Nat): Value:=.func (.func (I4 k)) (Le k d) #[]
theorem IM(args:Array Value)(w:World): (callFunc 134 args).run prog w=.ok (.enter 134 args) w:=C9 func134 (by kernel_rfl) (by kernel_rfl) args w
theorem IL(args:Array Value)(w:World): (callFunc 135 args).run prog w=.ok (.enter 135 args) w:=C9 func135 (by kernel_rfl) (by kernel_rfl) args w
theorem IN(args:Array Value)(w:World): (callFunc 136 args).run prog w=.ok (.enter 136 args) w:=C9 func136 (by kernel_rfl) (by kernel_rfl) args w
theorem IQ(args:Array Value)(w:World): (callFunc 153 args).run prog w=.ok (.enter 153 args) w:=C9 func153 (by kernel_rfl) (by kernel_rfl) args w
theorem IP(args:Array Value)(w:World): (callFunc 154 args).run prog w=.ok (.enter 154 args) w:=C9 func154 (by kernel_rfl) (by kernel_rfl) args w
theorem IV(args:Array Value)(w:World): (callFunc 142 args).run prog w=.ok (.enter 142 args) w:=C9 func142 (by kernel_rfl) (by kernel_rfl) args w
theorem IU(args:Array Value)(w:World): (callFunc 143 args).run prog w=.ok (.enter 143 args) w:=C9 func143 (by kernel_rfl) (by kernel_rfl) args w
theorem IS(args:Array Value)(w:World): (callFunc 148 args).run prog w=.ok (.enter 148 args) w:=C9 func148 (by kernel_rfl) (by kernel_rfl) args w
theorem IR(args:Array Value)(w:World): (callFunc 149 args).run prog w=.ok (.enter 149 args) w:=C9 func149 (by kernel_rfl) (by kernel_rfl) args w
theorem IX(args:Array Value)(w:World): (callFunc 159 args).run prog w=.ok (.enter 159 args) w:=C9 func159 (by kernel_rfl) (by kernel_rfl) args w
theorem IW(args:Array Value)(w:World): (callFunc 160 args).run prog w=.ok (.enter 160 args) w:=C9 func160 (by kernel_rfl) (by kernel_rfl) args w
theorem IT(args:Array Value)(w:World): (callFunc 144 args).run prog w=.ok (.enter 144 args) w:=C9 func144 (by kernel_rfl) (by kernel_rfl) args w
theorem zPj(args:Array Value)(w:World): (callFunc 137 args).run prog w=.ok (.enter 137 args) w:=C9 func137 (by kernel_rfl) (by kernel_rfl) args w
theorem zPo(args:Array Value)(w:World): (callFunc 138 args).run prog w=.ok (.enter 138 args) w:=C9 func138 (by kernel_rfl) (by kernel_rfl) args w
theorem zOp(args:Array Value)(w:World): (callFunc 145 args).run prog w=.ok (.enter 145 args) w:=C9 func145 (by kernel_rfl) (by kernel_rfl) args w
theorem zO8(args:Array Value)(w:World): (callFunc 146 args).run prog w=.ok (.enter 146 args) w:=C9 func146 (by kernel_rfl) (by kernel_rfl) args w
theorem zPa(args:Array Value)(w:World): (callFunc 150 args).run prog w=.ok (.enter 150 args) w:=C9 func150 (by kernel_rfl) (by kernel_rfl) args w
theorem zOy(args:Array Value)(w:World): (callFunc 151 args).run prog w=.ok (.enter 151 args) w:=C9 func151 (by kernel_rfl) (by kernel_rfl) args w
theorem zO7(args:Array Value)(w:World): (callFunc 155 args).run prog w=.ok (.enter 155 args) w:=C9 func155 (by kernel_rfl) (by kernel_rfl) args w
theorem zOq(args:Array Value)(w:World): (callFunc 156 args).run prog w=.ok (.enter 156 args) w:=C9 func156 (by kernel_rfl) (by kernel_rfl) args w
theorem zPx(args:Array Value)(w:World): (callFunc 161 args).run prog w=.ok (.enter 161 args) w:=C9 func161 (by kernel_rfl) (by kernel_rfl) args w
theorem zO6(args:Array Value)(w:World): (callFunc 162 args).run prog w=.ok (.enter 162 args) w:=C9 func162 (by kernel_rfl) (by kernel_rfl) args w
theorem Au{k:Nat}(a:1<=k)(c:k<=5): k=1\/k=2\/k=3\/k=4\/k=5:=by omega
theorem zMk(k:Nat)(c:1<=k)(d:k<=5)(args:Array Value)(w:World): (callFunc (JO k) args).run prog w=.ok (.enter (JO k) args) w:=by
 rcases Au c d with a | a | a | a | a <;> subst a
 ·exact IM args w
 ·exact IV args w
 ·exact IS args w
 ·exact IQ args w
 exact IX args w
theorem zL6(k:Nat)(c:1<=k)(d:k<=5)(args:Array Value)(w:World): (callFunc (I3 k) args).run prog w=.ok (.enter (I3 k) args) w:=by
 rcases Au c d with a | a | a | a | a <;> subst a
 ·exact IL args w
 ·exact IU args w
 ·exact IR args w
 ·exact IP args w
 exact IW args w
theorem zNj(k:Nat)(c:1<=k)(d:k<=5)(args:Array Value)(w:World): (callFunc (I4 k) args).run prog w=.ok (.enter (I4 k) args) w:=by
 rcases Au c d with a | a | a | a | a <;> subst a
 ·exact IN args w
 all_goals exact IT args w
theorem zNq(k:Nat)(c:1<=k)(d:k<=5)(args:Array Value)(w:World): (callFunc (I5 k) args).run prog w=.ok (.enter (I5 k) args) w:=by
 rcases Au c d with a | a | a | a | a <;> subst a
 ·exact zPj args w
 ·exact zOp args w
 ·exact zPa args w
 ·exact zO7 args w
 exact zPx args w
theorem zN3(k:Nat)(c:1<=k)(d:k<=5)(args:Array Value)(w:World): (callFunc (Iy k) args).run prog w=.ok (.enter (Iy k) args) w:=by
 rcases Au c d with a | a | a | a | a <;> subst a
 ·exact zPo args w
 ·exact zO8 args w
 ·exact zOy args w
 ·exact zOq args w
 exact zO6 args w
theorem zL4{rel last:Int}(k:Nat)(b:NB)(c:Cfg)(j:aU)(y:It)(m:Int)(args:Array Value)(w:World)(W:args=Et b.d++#[y.val,ι m])(a:cB w k b c j)(hi:bT k c rel last j)(ak:rel+1<=4611686018427387904)(t:Ak c=true)(l:c.kind=k)(af:1<=k)(ag:k<=5)(S:-100<=m)(H:m<=4611686018427387904)(I:0<=y.t)(J:y.t<=4611686018427387904)(P:k=2\/k=3->0<=y.k/\y.k<=2147483648)(U:eG w)(V:¬BK k b 2)(Q:last<=4611686018427387904):
  Calls prog (JO k) args w λe r=>e=.returned (.tuple #[])/\∃F:NB,cB r k F c (BE k c j y m)/\F.d=b.d/\(∀d,BK k F d->BK k b d\/w.heap.size<=d)/\aA (BK k b) w r:=by
 subst W;rcases Au af ag with e | e | e | e | e
 ·subst e;obtain⟨o,s,u,v⟩:=Ek t l rfl;refine(S9 b.d b.r b.g c j.bs y m w (a.bL rfl) (hi.fZ (by omega)) (by have:=hi.sum;omega) (by have:=(hi.fR (by omega)).1;omega) S H (by omega) v o s).mono ?_;rintro e r ⟨rfl,q,x,l,A⟩;refine⟨rfl,⟨b.d,b.r,q,[]⟩,⟨(λa=>by omega),(λ_=>x),(λa=>by omega),(λa=>by omega),(λa=>by omega)⟩,rfl,?_,l.mono (λd _ hi=>.inl ⟨rfl,.inr hi⟩)⟩;rintro d (⟨_,hi | hi | hi⟩ | ⟨h,_⟩ | ⟨h,_⟩ | ⟨h,_⟩ | ⟨h,_⟩)
  ·exact .inl (.inl ⟨rfl,.inl hi⟩)
  ·exact .inl (.inl ⟨rfl,.inr (.inl hi)⟩)
  ·rcases A with a | ⟨E,a,B⟩
   ·exact .inl (.inl ⟨rfl,.inr (.inr (by rw[<-a];exact hi))⟩)
   have i:q=some d:=hi;rw[a]at i;injection i with i;exact .inr (by omega)
  all_goals omega
 ·subst e;obtain⟨o,s,u,v,N⟩:=FJ t l rfl;obtain⟨Y,D⟩:=a.dS rfl;obtain⟨L,M⟩:=P (.inl rfl);have ab:1<=b.qs.length:=by rw[D];exact Nat.pow_pos (by omega)
  have ad:b.qs.length<=16:=by rw[D];exact jr (n:=2) (by omega) (show c.bits.toNat<=4 by omega)
  refine(S7 b.d b.r b.qs c j.rg y m w Y U (λd hi T=>V (.inr (.inr (.inl ⟨rfl,.inr (.inr ⟨d,hi,T⟩)⟩)))) ab ad o (by omega) N S H L M (λd=>by have:=hi.gB d;omega)).mono ?_;rintro e r ⟨rfl,ah,O,aa,Z,z⟩;refine⟨rfl,⟨b.d,b.r,b.g,ah⟩,⟨(λa=>by omega),(λa=>by omega),(λ_=>⟨by rw[D]at O;exact O,aa.trans D⟩),(λa=>by omega),(λa=>by omega)⟩,rfl,?_,z.mono (λd _ hi=>.inr (.inr (.inl ⟨rfl,.inr (.inr hi)⟩)))⟩;rintro d (⟨h,_⟩ | ⟨h,_⟩ | ⟨_,hi | hi | ⟨E,B,hi⟩⟩ | ⟨h,_⟩ | ⟨h,_⟩)
  ·omega
  ·omega
  ·exact .inl (.inr (.inr (.inl ⟨rfl,.inl hi⟩)))
  ·exact .inl (.inr (.inr (.inl ⟨rfl,.inr (.inl hi)⟩)))
  ·rcases Z E d B hi with G | G
   ·exact .inl (.inr (.inr (.inl ⟨rfl,.inr (.inr G)⟩)))
   exact .inr G
  ·omega
  omega
 ·subst e;obtain⟨o,s,u,v,N⟩:=D5 t l rfl;obtain⟨L,M⟩:=P (.inr rfl);have C:=hi.oi rfl;have aj:j.cl.length<=8:=by have:=C.len;have:=o.p1;omega
  refine(Sy b.d b.r b.g c j.op j.cl y m w (a.dY rfl) o s u I J L M (by omega) H (by omega) (C.hE Q u v) (C.hG Q u v) (λai ae=>by have:=C.hA.1 ai ae;omega)).mono ?_;rintro e r ⟨rfl,q,x,z,A⟩;refine⟨rfl,⟨b.d,b.r,q,[]⟩,⟨(λa=>by omega),(λa=>by omega),(λa=>by omega),(λ_=>x),(λa=>by omega)⟩,rfl,?_,z.mono (λd _ hi=>.inr (.inr (.inr (.inl ⟨rfl,hi⟩))))⟩;rintro d (⟨h,_⟩ | ⟨h,_⟩ | ⟨h,_⟩ | ⟨_,hi | hi | hi⟩ | ⟨h,_⟩)
  ·omega
  ·omega
  ·omega
  ·exact .inl (.inr (.inr (.inr (.inl ⟨rfl,.inl hi⟩))))
  ·exact .inl (.inr (.inr (.inr (.inl ⟨rfl,.inr (.inl hi)⟩))))
  ·have i:q=some d:=hi;rcases A with a | ⟨E,a,B⟩
   ·exact .inl (.inr (.inr (.inr (.inl ⟨rfl,.inr (.inr (by rw[<-a];exact i))⟩))))
   rw[a]at i;injection i with i;exact .inr (by omega)
  omega
 ·subst e;have R:=Gn c y.t;refine(Sr b.d c j.q j.r y m w (a.dec rfl) (Ge t l (by omega) (by omega)) I J hi.r0 hi.r1 hi.q0 (by have:=hi.qn;omega) R.1 R.2).mono ?_;rintro e r ⟨rfl,X,l⟩;exact⟨rfl,b,⟨(λ_=>X),(λa=>by omega),(λa=>by omega),(λa=>by omega),(λa=>by omega)⟩,rfl,(λ_ a=>.inl a),l.mono (λd _ hi=>.inr (.inl ⟨rfl,hi⟩))⟩
 subst e;obtain⟨o,s⟩:=EA t l rfl;refine(N3 b.d b.r b.g c j.tk y m w (a.cZ rfl) (Ge t l (by omega) (by omega)) I J o s (by have:=hi.tl rfl;omega)).mono ?_;rintro e r ⟨rfl,q,x,z,A⟩;refine⟨rfl,⟨b.d,b.r,q,[]⟩,⟨(λa=>by omega),(λa=>by omega),(λa=>by omega),(λa=>by omega),(λ_=>x)⟩,rfl,?_,z.mono (λd _ hi=>.inr (.inr (.inr (.inr ⟨rfl,.inr hi⟩))))⟩;rintro d (⟨h,_⟩ | ⟨h,_⟩ | ⟨h,_⟩ | ⟨h,_⟩ | ⟨_,hi | hi | hi⟩)
 ·omega
 ·omega
 ·omega
 ·omega
 ·exact .inl (.inr (.inr (.inr (.inr ⟨rfl,.inl hi⟩))))
 ·exact .inl (.inr (.inr (.inr (.inr ⟨rfl,.inr (.inl hi)⟩))))
 have i:q=some d:=hi;rcases A with a | ⟨E,a,B⟩
 ·exact .inl (.inr (.inr (.inr (.inr ⟨rfl,.inr (.inr (by rw[<-a];exact i))⟩))))
 rw[a]at i;injection i with i;exact .inr (by omega)
def La(w:World)(base:Nat)(v:Value)(l:List Int): Prop:=w.ownsRow base 3 1 v l.length (l.map (ι ·))
theorem zN0{rel last:Int}(k:Nat)(b:NB)(c:Cfg)(d:aU)(a m:Int)(args:Array Value)(w:World)(J:args=Et b.d++#[ι a,ι m])(s:cB w k b c d)(hi:bT k c rel last d)(N:rel<=4611686018427387904)(H:last<=4611686018427387904)(z:Ak c=true)(e:c.kind=k)(P:1<=k)(Q:k<=5)(D:-100<=m)(B:m<=4611686018427387904):
  Calls prog (I3 k) args w λh i=>∃I E r,h=.returned (.tuple #[.slice I E r,ι (Bc k c d a m).1])/\La i w.heap.size (.slice I E r) (Bc k c d a m).2/\lX w i:=by
 subst J;have C:∀i:World,La i w.heap.size (.slice none 0 0) []:=λi=>iy _ _ _ _;rcases Au P Q with h | h | h | h | h
 ·subst h;obtain⟨q,t,A,u⟩:=Ek z e rfl;cases hin:Ab a 1 c.aB
  ·refine(UW b.d b.r b.g c d.bs a m w (s.bL rfl) hin).mono ?_;rintro h i ⟨rfl,e⟩;have l:Bc 1 c d a m=(13,[]):=by unfold Bc;rw[ig (by omega),ij rfl,ig (by rw[hin];simp)]
   rw[l];exact⟨none,0,0,rfl,C _,e⟩
  refine(Tw b.d b.r b.g c d.bs a m w (s.bL rfl) (hi.fZ N) hin D B u).mono ?_;rintro h i ⟨g,rfl,x,v,e⟩;have l:Bc 1 c d a m=(0,[Fj d.bs (m-a)]):=by unfold Bc;rw[ig (by omega),ij rfl,ij hin]
  rw[l];exact⟨some ⟨g,0,none⟩,1,1,rfl,⟨rfl,.inr ⟨g,1,_,rfl,x,v,by simp,by unfold maxLen;omega,rfl,rfl⟩⟩,e⟩
 ·subst h;obtain⟨q,t,A,u,F⟩:=FJ z e rfl;obtain⟨G,l⟩:=s.dS rfl;have L:1<=b.qs.length:=by rw[l];exact Nat.pow_pos (by omega)
  have M:b.qs.length<=16:=by rw[l];exact jr (n:=2) (by omega) (show c.bits.toNat<=4 by omega)
  cases hin:Ab a 1 c.aB
  ·refine(UY b.d b.r b.qs c d.rg a m w G hin).mono ?_;rintro h i ⟨rfl,e⟩;have o:Bc 2 c d a m=(13,[]):=by unfold Bc;rw[ig (by omega),ig (by omega),ij rfl];unfold Gb;rw[ig (by rw[hin];simp)]
   rw[o];exact⟨none,0,0,rfl,C _,e⟩
  refine(T0 b.d b.r b.qs c d.rg a m w G hin L M F D B (λO=>by have:=hi.gB O;omega) hi.rk).mono ?_;rintro h i ⟨g,r,rfl,j,e⟩;have o:Bc 2 c d a m=(0,Cw d.rg b.qs.length (m-a)++[7*b.qs.length*b.qs.length*1099511627776/(10*CO (Cw d.rg b.qs.length (m-a)))]):=by unfold Bc;rw[ig (by omega),ig (by omega),ij rfl];unfold Gb;rw[ij hin,l]
  rw[o];refine⟨some ⟨g,0,none⟩,b.qs.length+1,r,rfl,?_,e⟩;unfold La;rw[ic,Je,jh];exact j
 ·subst h;obtain⟨q,t,A,u,F⟩:=D5 z e rfl;have j:=hi.oi rfl;have R:d.cl.length<=8:=by have:=j.len;have:=q.p1;omega
  cases hin:Ab a 0 2147483648
  ·refine(U1 b.d a m w hin).mono ?_;rintro h i ⟨rfl,e⟩;have o:Bc 3 c d a m=(10,[]):=by unfold Bc;rw[ig (by omega),ig (by omega),ig (by omega),ij rfl,ig (by rw[hin];simp)]
   rw[o];exact⟨none,0,0,rfl,C _,e⟩
  refine(TO b.d b.r b.g c d.op d.cl a m w (s.dY rfl) hin q t (by omega) B (by omega) (j.hE H A u) (j.hG H A u) j.gH j.gF (by have:=j.fB;omega)).mono ?_;rintro h i ⟨g,rfl,x,v,e⟩;have o:Bc 3 c d a m=(0,[Gc c d.op d.cl a m]):=by unfold Bc;rw[ig (by omega),ig (by omega),ig (by omega),ij rfl,ij hin]
  rw[o];exact⟨some ⟨g,0,none⟩,1,1,rfl,⟨rfl,.inr ⟨g,1,_,rfl,x,v,by simp,by unfold maxLen;omega,rfl,rfl⟩⟩,e⟩
 ·subst h;refine(TR b.d c d.q d.r a m w (s.dec rfl) (Ge z e (by omega) (by omega)) D B).mono ?_;rintro h i ⟨g,rfl,x,v,e⟩;exact⟨some ⟨g,0,none⟩,3,3,rfl,⟨rfl,.inr ⟨g,3,_,rfl,x,v,by simp[Bc],by unfold maxLen;omega,rfl,rfl⟩⟩,e⟩
 subst h;obtain⟨q,t⟩:=EA z e rfl;refine(Tk b.d b.r b.g c d.tk a m w (s.cZ rfl) q t (by have:=hi.tl rfl;omega)).mono ?_;rintro h i ⟨g,r,rfl,j,e⟩;exact⟨some ⟨g,0,none⟩,_,r,rfl,j,e⟩
theorem zM3{rel last:Int}(k:Nat)(b:NB)(c:Cfg)(h:aU)(m d:Int)(args:Array Value)(w:World)(q:args=Le k b.d++#[ι m,ι d])(e:cB w k b c h)(hi:bT k c rel last h)(s:rel<=4611686018427387904)(t:Ak c=true)(j:c.kind=k)(u:1<=k)(v:k<=5)(x:-100<=m)(z:m<=4611686018427387904)(n:0<=d)(o:d<=100):
  Calls prog (I4 k) args w λa i=>a=.returned (.tuple #[ι (Bj k c h m d).2.1,ι (Bj k c h m d).2.2])/\cB i k b c (Bj k c h m d).1/\aA (BK k b) w i:=by
 subst q;rcases Au u v with a | a | a | a | a
 ·subst a;obtain⟨A,B,C,l⟩:=Ek t j rfl;refine(Tu b.d b.r b.g c h.bs m d w (e.bL rfl) (hi.fZ s) x z (by omega) l n o).mono ?_;rintro a i ⟨rfl,r,j⟩;exact⟨rfl,⟨(λe=>by omega),(λ_=>r),(λe=>by omega),(λe=>by omega),(λe=>by omega)⟩,j.mono (λD _ hi=>.inl ⟨rfl,.inr hi⟩)⟩
 all_goals
  subst a;refine(RV m d w).mono ?_;rintro a i ⟨rfl,rfl⟩;exact⟨rfl,e,aA.refl _ _⟩
end
section
attribute [local go_sem ↓] AH Bs
attribute [local go_sem] AI Bt A3 A4 AJ AL Bd B2
def G1(c:Cfg): List Value:=c.cells++(Pa.pn0.cells++[.pointer none])
theorem SI(ρ:Operand->Value)(dst:Option Tmp)(x:Array (Nat×Operand))(c:TypeId)(pos:String)(after:Array Edge)(guard:Option (Nat×Bool)):
  execOp ρ { dst,op:=.build 233 x,type:=c,pos,after,guard }=Hc 233 (x.map λ(a,y)=>(a,ρ y)):=rfl
theorem O9(c:Cfg)(w:World):
  (Hc 233 #[(0,.agg c.cells.toArray)]).run prog w=.ok (.value (.agg (G1 c).toArray)) w:=by kernel_rfl
theorem Ug(c:Cfg)(w:World):
  (Hc 233 #[(0,.agg #[ι c.kind,ι c.aL,ι c.bF,ι c.cap,ι c.k,ι c.aB,ι c.bits,ι c.rows,ι c.width,ι c.aM,ι c.size,ι c.degree,ι c.half,ι c.mark,ι c.bV,ι c.bW,ι c.cI,ι c.cJ,ι c.cS,ι c.cT])]).run prog w=.ok (.value (.agg (G1 c).toArray)) w:=O9 c w
attribute [local go_sem ↓] SI
attribute [local go_sem] O9 Ug
theorem WN(c:Cfg)(a:Nat): (G1 c).set 69 (π a)=Bm c Pa.pn0 a:=by
 unfold G1 Bm;have d:c.cells.length=20:=by simp[Cfg.cells]
 rw[jU _ _ (by omega),d,jU _ _ (by rw[Pa.Pn.aE];omega),Pa.Pn.aE];rfl
theorem VF(c:Cfg): (G1 c)[69]?=some (.pointer none):=by
 unfold G1;rw[iO (by simp[Cfg.cells]),iO (by rw[Pa.Pn.aE];simp[Cfg.cells])];simp[Cfg.cells,Pa.Pn.aE]
theorem TW(c:Cfg)(w:World):
  Calls prog 147 #[c.val] w λu A=>∃l z,u=.returned (π l)/\w.heap.size<=l/\w.heap.size<=z/\cR A l z none c Pa.pn0 []/\lX w A:=by
 obtain⟨d,j⟩:∃d,d=w.alloc (.cells c.cells.toArray 46):=⟨_,rfl⟩;have B:=Aa (show aD d w.heap.size c.cells 46 by rw[j];exact aD.new w _ _);have D:=Aa (show lX w d by rw[j];exact(aA.refl (λ_=>False) w).alloc _);have t:=Aa j;clear j;unfold Cfg.val;go_enter func147,ntmps147;go_wp2_with fail
 rw[show w.alloc (.cells #[ι c.kind,ι c.aL,ι c.bF,ι c.cap,ι c.k,ι c.aB,ι c.bits,ι c.rows,ι c.width,ι c.aM,ι c.size,ι c.degree,ι c.half,ι c.mark,ι c.bV,ι c.bW,ι c.cI,ι c.cJ,ι c.cS,ι c.cT] 46)=d from t.o.symm];generalize n:w.heap.size=a at *
 have s:=Aa n;clear n;obtain⟨L,I⟩:=CM B.o 20 rfl;go_wp2_with fail
 have v:d.heap.size=a+1:=by rw[t.o];simp[s.o]
 obtain⟨e,i⟩:∃e,e=d.alloc (.cells (G1 c).toArray 233):=⟨_,rfl⟩;rw[<-i];have C:=Aa (show aD e (a+1) (G1 c) 233 by rw[i];exact aD.newAt v _ _);have E:=Aa (show lX d e by rw[i];exact(aA.refl _ _).alloc _);have J:e.heap.size=a+1+1:=by rw[i];simp[v]
 clear i L I;refine(Pa.rowNew_any (a+1) e).mono ?_;rintro u H ⟨rfl,r,q,S⟩;rw[J]at r ⊢;have k:=Aa (C.o.keeps q id);have N:κ H (a+1) 69 (.pointer none):=k.o.cell (VF c);have O:=k.o.frozen;have F:=Aa ((D.o.then E.o).then q);have G:=Aa r;clear q r;go_wp2;go_ret;have x:=k.o.setCell 69 (π (a+1+1));rw[WN]at x;have n:=s.o;refine⟨a+1,a+1+1,rfl,by omega,by omega,⟨x,?_,by omega,λg o=>by cases o⟩,?_⟩
 ·exact G.o.keeps (M:=λh=>h=a+1) ((aA.refl (λh=>h=a+1) _).setCell (p:=⟨a+1,69,none⟩) (Or.inl rfl) _) (λm=>by have P:a+1+1=a+1:=m;omega) (λg o=>by cases o)
 exact F.o.trans ((aA.refl (λh=>h=a+1) _).setCell (p:=⟨a+1,69,none⟩) (Or.inl rfl) _) (λh Q R=>by omega)
def KV(d:Nat): Value:=.func (.func 148) #[π d] #[]
def KJ(d:Nat): Value:=.func (.func 151) #[π d] #[]
def KN(d:Nat): Value:=.func (.func 150) #[π d] #[]
def KP(d:Nat): Value:=.func (.func 149) #[π d] #[]
theorem Sm(c:Cfg)(w:World):
  Calls prog 106 #[c.val] w λu A=>∃a k,u=.returned (.agg #[KV a,KP a,Fa,KN a,KJ a])/\w.heap.size<=a/\w.heap.size<=k/\cR A a k none c Pa.pn0 []/\lX w A:=by
 obtain⟨h,i⟩:∃h,h=(w.alloc (.cells c.cells.toArray 46)).alloc (.cells #[.nilFunc,.nilFunc,.nilFunc,.nilFunc,.nilFunc] 94):=⟨_,rfl⟩;have m:=Aa (show aD h (w.heap.size+1) [.nilFunc,.nilFunc,.nilFunc,.nilFunc,.nilFunc] 94 by rw[i];exact aD.newAt (by simp) _ _);have l:=Aa (show lX w h by rw[i];exact((aA.refl (λ_=>False) w).alloc _).alloc _);have F:=Aa i;have t:=Aa (TW c h);clear i;unfold Cfg.val at *
 go_enter func106,ntmps106;go_wp2_with fail
 rw[show(w.alloc (.cells #[ι c.kind,ι c.aL,ι c.bF,ι c.cap,ι c.k,ι c.aB,ι c.bits,ι c.rows,ι c.width,ι c.aM,ι c.size,ι c.degree,ι c.half,ι c.mark,ι c.bV,ι c.bW,ι c.cI,ι c.cJ,ι c.cS,ι c.cT] 46)).alloc (.cells #[.nilFunc,.nilFunc,.nilFunc,.nilFunc,.nilFunc] 94)=h from F.o.symm];generalize o:w.heap.size=d at *
 have C:=Aa o;clear o;refine t.o.mono ?_;rintro u r ⟨a,k,rfl,O,R,x,q⟩;have B:=Aa x;have e:=Aa (m.o.keeps q id);have D:=Aa (l.o.then q);have E:=Aa l.o.size;have s:=Aa m.o.lt;clear x q m l t;have N:=e.o.frozen;have H:=e.o.c0;have I:=e.o.c1;have J:=e.o.c2;have L:=e.o.c3;have M:=e.o.c4;go_wp2;have o:=C.o;have S:=E.o;have z:aA (λj=>j=d+1) r (((((r.setCell ⟨d+1,0,none⟩ (KV a)).setCell ⟨d+1,1,none⟩ (KP a)).setCell ⟨d+1,2,none⟩ Fa).setCell ⟨d+1,3,none⟩ (KN a)).setCell ⟨d+1,4,none⟩ (KJ a)):=(((((aA.refl (λj=>j=d+1) r).setCell (p:=⟨d+1,0,none⟩) (Or.inl rfl) _).setCell (p:=⟨d+1,1,none⟩) (Or.inl rfl) _).setCell (p:=⟨d+1,2,none⟩) (Or.inl rfl) _).setCell (p:=⟨d+1,3,none⟩) (Or.inl rfl) _).setCell (p:=⟨d+1,4,none⟩) (Or.inl rfl) _;refine iV (v:=.agg #[KV a,KP a,Fa,KN a,KJ a]) (by simp[results,results106,go_sem,H,I,J,L,M,KV,KP,Fa,KN,KJ]) rfl ⟨a,k,rfl,by omega,by omega,?_,?_⟩
 ·exact B.o.keeps z (λn=>by have:=s.o;omega) (λn=>by have:=s.o;omega) (λg G=>by cases G)
 exact D.o.trans z (λj P Q=>by omega)
end
section
theorem XS(c:Cfg)(k:Nat)(w:World)(u:1<=k)(v:k<=5)(D:Ak c=true)(A:c.kind=k):
  Calls prog (Be k) #[c.val] w λo n=>∃b:NB,o=.returned (.agg #[Hn k b.d,Hm k b.d,Hp k b.d,Ho k b.d,GA k b.d])/\(∀i,BK k b i->w.heap.size<=i)/\cB n k b c CH/\lX w n:=by
 rcases Au u v with h | h | h | h | h
 ·subst h;refine(S4 c w).mono ?_;rintro o n ⟨j,l,rfl,q,r,m,h⟩;refine⟨⟨j,l,none,[]⟩,rfl,?_,⟨(λd=>by omega),(λ_=>m),(λd=>by omega),(λd=>by omega),(λd=>by omega)⟩,h⟩;rintro i (⟨_,a | a | a⟩ | ⟨e,_⟩ | ⟨e,_⟩ | ⟨e,_⟩ | ⟨e,_⟩)
  ·have:i=j:=a;omega
  ·have:i=l:=a;omega
  ·cases a
  all_goals omega
 ·subst h;obtain⟨G,H,t,I,J⟩:=FJ D A rfl;refine(RZ c (B1 c) w (by omega) t rfl).mono ?_;rintro o n ⟨j,s,F,rfl,q,r,C,B,m,h⟩;refine⟨⟨j,s,none,F⟩,rfl,?_,⟨(λd=>by omega),(λd=>by omega),(λ_=>⟨m,B⟩),(λd=>by omega),(λd=>by omega)⟩,h⟩;rintro i (⟨e,_⟩ | ⟨e,_⟩ | ⟨_,a | a | ⟨E,z,a⟩⟩ | ⟨e,_⟩ | ⟨e,_⟩)
  ·omega
  ·omega
  ·have:i=j:=a;omega
  ·have:i=s:=a;omega
  ·exact C E i z a
  all_goals omega
 ·subst h;refine(Sm c w).mono ?_;rintro o n ⟨j,l,rfl,q,r,m,h⟩;refine⟨⟨j,l,none,[]⟩,rfl,?_,⟨(λd=>by omega),(λd=>by omega),(λd=>by omega),(λ_=>m),(λd=>by omega)⟩,h⟩;rintro i (⟨e,_⟩ | ⟨e,_⟩ | ⟨e,_⟩ | ⟨_,a | a | a⟩ | ⟨e,_⟩)
  ·omega
  ·omega
  ·omega
  ·have:i=j:=a;omega
  ·have:i=l:=a;omega
  ·cases a
  omega
 ·subst h;refine(Sq c w).mono ?_;rintro o n ⟨j,rfl,q,x,h⟩;refine⟨⟨j,0,none,[]⟩,rfl,?_,⟨(λ_=>x),(λd=>by omega),(λd=>by omega),(λd=>by omega),(λd=>by omega)⟩,h⟩;rintro i (⟨e,_⟩ | ⟨_,a⟩ | ⟨e,_⟩ | ⟨e,_⟩ | ⟨e,_⟩)
  ·omega
  ·have:i=j:=a;omega
  all_goals omega
 subst h;refine(Sx c w).mono ?_;rintro o n ⟨j,l,rfl,q,r,m,h⟩;refine⟨⟨j,l,none,[]⟩,rfl,?_,⟨(λd=>by omega),(λd=>by omega),(λd=>by omega),(λd=>by omega),(λ_=>m)⟩,h⟩;rintro i (⟨e,_⟩ | ⟨e,_⟩ | ⟨e,_⟩ | ⟨e,_⟩ | ⟨_,a | a | a⟩)
 ·omega
 ·omega
 ·omega
 ·omega
 ·have:i=j:=a;omega
 ·have:i=l:=a;omega
 cases a
def dI(a b:It): Prop:=a.t<b.t\/(a.t=b.t/\a.n<=b.n)
theorem dI.refl(a:It): dI a a:=.inr ⟨rfl,iL _⟩
theorem dI.trans{a b c:It}(d:dI a b)(k:dI b c): dI a c:=by
 unfold dI at *;omega
theorem M0{a b:It}(c:BY a b=true): dI a b:=by
 unfold BY at c;unfold dI;split at c
 ·rename_i d;simp at c;omega
 simp at c;omega
theorem L1{a b:It}(c:BY a b=false): dI b a:=by
 unfold BY at c;unfold dI;split at c
 ·rename_i d;simp at c;omega
 simp at c;omega
def bE(l:List It): Prop:=∀i,0<i->i<l.length->dI (itAt l ((i-1)/2)) (itAt l i)
theorem Du(l:List It)(i j k:Nat)(hi:i<l.length)(d:j<l.length)(e:k<l.length):
  itAt (swapL l i j) k=if k=j then itAt l i else if k=i then itAt l j else itAt l k:=by
 unfold swapL itAt;rw[γ,jI];by_cases a:j=k
 ·subst a;simp[d]
 rw[ig a,ig (lE a),jI];by_cases c:i=k
 ·subst c;simp[hi]
 rw[ig c,ig (lE c),γ]
structure eU (l:List It) (i:Nat):Prop where
 up:∀j,0<j->j<l.length->j≠i->dI (itAt l ((j-1)/2)) (itAt l j)
 over:∀c,0<i->c<l.length->0<c->(c-1)/2=i->dI (itAt l ((i-1)/2)) (itAt l c)
theorem Mi(f:Nat): ∀(l:List It) (i:Nat),i<l.length->i<f->eU l i->bE (riseL f l i):=by
 induction f with
 | zero=>intro l i _ d;omega
 | succ f B =>
  intro l i k C d;unfold riseL;split
  ·rename_i v;intro a e c;exact d.up a e c (by omega)
  rename_i v;split
  ·rename_i q;have m:=M0 q;have D:(i-1)/2<i:=by omega
   generalize t:(i-1)/2=p at *
   refine B _ p (by rw[Ce];omega) (by omega) ⟨?_,?_⟩
   ·intro a e c z;rw[Ce]at c;rw[Du l i p _ k (by omega) (by omega),Du l i p a k (by omega) c];rw[ig z];by_cases h:a=i
    ·subst h;rw[ij t,ij rfl];exact m
    rw[ig h];by_cases n:(a-1)/2=p
    ·rw[ij n];have:=d.up a e c h;rw[n]at this;exact m.trans this
    rw[ig n];by_cases o:(a-1)/2=i
    ·rw[ij o];have:=d.over a (by omega) c e o;rw[t]at this;exact this
    rw[ig o];exact d.up a e c h
   intro j A s w x;rw[Ce]at s;rw[Du l i p _ k (by omega) (by omega),Du l i p j k (by omega) s];rw[ig (show(p-1)/2≠p by omega),ig (show(p-1)/2≠i by omega),ig (show j≠p by omega)];have u:=d.up p A (by omega) (by omega);by_cases r:j=i
   ·rw[ij r];exact u
   rw[ig r];have:=d.up j w s r;rw[x]at this;exact u.trans this
  rename_i q;have m:=L1 (by simpa using q);intro a e c;by_cases h:a=i
  ·subst h;exact m
  exact d.up a e c h
structure eV (l:List It) (i:Nat):Prop where
 up:∀j,0<j->j<l.length->(j-1)/2≠i->dI (itAt l ((j-1)/2)) (itAt l j)
 over:∀c,0<i->c<l.length->0<c->(c-1)/2=i->dI (itAt l ((i-1)/2)) (itAt l c)
theorem LA(l:List It)(i c:Nat)(e:Bn l i=c): 0<c/\(c-1)/2=i/\∀a,a<l.length->0<a->(a-1)/2=i->dI (itAt l c) (itAt l a):=by
 unfold Bn at e;split at e
 ·split at e
  ·split at e
   ·rename_i k m h;have d:c=2*i+2:=by omega
    subst d;refine⟨by omega,by omega,λa n j o=>?_⟩;have:a=2*i+1\/a=2*i+2:=by omega
    rcases this with rfl | rfl
    ·exact M0 h
    exact dI.refl _
   rename_i k m h;have d:c=2*i+1:=by omega
   subst d;refine⟨by omega,by omega,λa n j o=>?_⟩;have:a=2*i+1\/a=2*i+2:=by omega
   rcases this with rfl | rfl
   ·exact dI.refl _
   exact L1 (by simpa using h)
  rename_i k m;have d:c=2*i+1:=by omega
  subst d;refine⟨by omega,by omega,λa n j o=>?_⟩;have:a=2*i+1:=by omega
  subst this;exact dI.refl _
 omega
theorem LK(l:List It)(i:Nat)(c:Bn l i<0): ∀a,a<l.length->0<a->(a-1)/2≠i:=by
 intro a e d h;unfold Bn at c;split at c
 ·split at c
  ·split at c <;> omega
  omega
 omega
theorem Mn(f:Nat): ∀(l:List It) (i:Nat),i<l.length->l.length<=f+i->eV l i->bE (sinkL f l i):=by
 induction f with
 | zero=>intro l i _ j;omega
 | succ f D =>
  intro l i n F j;unfold sinkL;split
  ·rename_i u;intro a e d;exact j.up a e d (LK l i u a d e)
  rename_i u;rcases GI l i with q | ⟨c,q,G,k⟩
  ·omega
  rw[q,iM];obtain⟨z,r,v⟩:=LA l i c q;split
  ·rename_i o;have t:=M0 o;refine D _ c (by rw[Ce];omega) (by rw[Ce];omega) ⟨?_,?_⟩
   ·intro a e d C;rw[Ce]at d;rw[Du l i c _ n k (by omega),Du l i c a n k d,ig C];by_cases w:a=c
    ·subst w;rw[ij r,ij rfl];exact t
    rw[ig w];by_cases x:a=i
    ·subst x;rw[ig (show(a-1)/2≠a by omega),ij rfl];exact j.over c e k z r
    rw[ig x];by_cases h:(a-1)/2=i
    ·rw[ij h];exact v a d e h
    rw[ig h];exact j.up a e d h
   intro m E s A B;rw[Ce]at s;rw[Du l i c _ n k (by omega),Du l i c m n k s];rw[ig (show(c-1)/2≠c by omega),ij r,ig (show m≠c by omega),ig (show m≠i by omega)];have:=j.up m A s (by omega);rw[B]at this;exact this
  rename_i o;have t:=L1 (by simpa using o);intro a e d;by_cases h:(a-1)/2=i
  ·rw[h];exact t.trans (v a d e h)
  exact j.up a e d h
theorem bE.first{l:List It}(a:bE l)(j:Nat)(d:j<l.length): dI (itAt l 0) (itAt l j):=by
 induction j using Nat.strongRecOn with
 | _ j ih =>
  by_cases c:j=0
  ·subst c;exact dI.refl _
  exact(ih ((j-1)/2) (by omega) (by omega)).trans (a j (by omega) d)
theorem bE.cE{l:List It}(e:bE l){y:It}(i:y∈l): (itAt l 0).t<=y.t:=by
 obtain⟨a,d,rfl⟩:=jX.1 i;have c:=e.first a d
 have h:itAt l a=l[a]:=by unfold itAt;rw[γ,h9 d];rfl
 rw[h]at c;unfold dI at c;omega
theorem itAt_get(l:List It)(j:Nat)(a:j<l.length): itAt l j=l[j]:=by
 unfold itAt;rw[γ,h9 a];rfl
theorem Jr(l:List It)(i j:Nat)(hi:i<l.length)(a:j<l.length): (swapL l i j).Perm l:=by
 unfold swapL;rw[itAt_get l i hi,itAt_get l j a];exact List.set_set_perm hi a
theorem LR(f:Nat): ∀(l:List It) (i:Nat),i<l.length->(riseL f l i).Perm l:=by
 induction f with
 | zero=>intro l i _;exact jj _
 | succ f c =>
  intro l i a;unfold riseL;split
  ·exact jj _
  split
  ·exact(c _ _ (by rw[Ce];omega)).trans (Jr l _ _ a (by omega))
  exact jj _
theorem Md(f:Nat): ∀(l:List It) (i:Nat),i<l.length->(sinkL f l i).Perm l:=by
 induction f with
 | zero=>intro l i _;exact jj _
 | succ f e =>
  intro l i d;unfold sinkL;split
  ·exact jj _
  rename_i j;rcases GI l i with a | ⟨h,a,k,c⟩
  ·omega
  rw[a,iM];split
  ·exact(e _ _ (by rw[Ce];omega)).trans (Jr l _ _ d c)
  exact jj _
theorem put_heap(l:List It)(x:It)(e:bE l): bE (riseL (l.length+1) (l++[x]) l.length)/\(riseL (l.length+1) (l++[x]) l.length).Perm (x::l):=by
 have d:∀a,a<l.length->itAt (l++[x]) a=itAt l a:=by
  intro a c;unfold itAt;rw[γ,γ,iN c]
 refine⟨Mi _ _ _ (by simp) (by omega) ⟨?_,?_⟩,(LR _ _ _ (by simp)).trans (ka x l)⟩
 ·intro a c i o;rw[ic,jh]at i;rw[d _ (by omega),d a (by omega)];exact e a c (by omega)
 intro j k h m n;rw[ic,jh]at h;omega
theorem take_heap(l:List It)(q:bE l)(n:l≠[]): bE (takeL l)/\(itAt l 0::takeL l).Perm l:=by
 have z:0<l.length:=jK.2 n;unfold takeL;by_cases j:l.length=1
 ·obtain⟨a,rfl⟩:=List.length_eq_one_iff.1 j;refine⟨?_,?_⟩
  ·intro A _ t;rw[show(([a].set 0 (itAt [a] ([a].length-1))).take ([a].length-1))=[] from rfl]at t;have:(sinkL [a].length [] 0).length=0:=rfl;omega
  exact jj _
 obtain⟨a,h,rfl⟩:∃a h,l=a::h:=by cases l with | nil=>exact absurd rfl n | cons a h=>exact⟨a,h,rfl⟩
 obtain⟨d,c,rfl⟩:∃d c,h=d++[c]:=by
  refine⟨h.dropLast,h.getLast (by intro o;subst o;simp at j),?_⟩;rw[List.dropLast_concat_getLast]
 have u:itAt (a::(d++[c])) ((a::(d++[c])).length-1)=c:=by
  rw[itAt_get _ _ (by simp)];simp
 have s:((a::(d++[c])).set 0 (itAt (a::(d++[c])) ((a::(d++[c])).length-1))).take ((a::(d++[c])).length-1)=c::d:=by
  rw[u];simp
 rw[s];have k:∀e,0<e->e<(c::d).length->itAt (c::d) e=itAt (a::(d++[c])) e:=by
  intro e r i;simp only[iD]at i;rw[itAt_get _ _ (by simpa using i),itAt_get _ _ (by simp;omega)];obtain⟨e,rfl⟩:∃v,e=v+1:=⟨e-1,by omega⟩;simp only[List.getElem_cons_succ];rw[List.getElem_append_left (by omega)]
 refine⟨Mn _ _ 0 (by simp) (by simp) ⟨?_,?_⟩,?_⟩
 ·intro e i m x;rw[k _ (by omega) (by omega),k e i m];exact q e i (by simp at m ⊢;omega)
 ·intro w r;omega
 refine(List.Perm.cons _ (Md _ _ 0 (by simp))).trans ?_;show(a::c::d).Perm (a::(d++[c]));exact List.Perm.cons a (ka c d).symm
end
section
attribute [local go_sem ↓] AH Bs
attribute [local go_sem] AI Bt A3 A4 AJ AL B8 B9 Bd B2
structure aJ where
 id:Int
 c:Cfg
 k:Nat
 acc:Int
 rel:Int
 ref:List Int
 l:List It
 nt:aU
 last:Int
structure SB where
 s:Nat
 q:Nat
 g:Option Nat
 n:NB
def Cfg.eC(c:Cfg)(rest:List Value): List Value:=ι c.kind::ι c.aL::ι c.bF::ι c.cap::ι c.k::ι c.aB::ι c.bits::ι c.rows::ι c.width::ι c.aM::ι c.size::ι c.degree::ι c.half::ι c.mark::ι c.bV::ι c.bW::ι c.cI::ι c.cJ::ι c.cS::ι c.cT::rest
def D8(b:SB)(x:aJ): List Value :=
 ι x.id::x.c.eC (fn (Bi x.k)::fn (AU x.k)::fn (AV x.k)::fn (AO x.k)::fn (AR x.k)::fn (Be x.k)::Hn x.k b.n.d::Hm x.k b.n.d::Hp x.k b.n.d::Ho x.k b.n.d::GA x.k b.n.d::π b.q::ι x.acc::ι x.rel::x.ref.map (ι ·))
structure bJ (w:World) (b:SB) (x:aJ):Prop where
 aF:aD w b.s (D8 b x) 98
 dM:bB w b.q b.g x.l
 note:cB w x.k b.n x.c x.nt
 sq:b.s≠b.q
 sg:∀g,b.g=some g->b.s≠g
 sn:∀i,BK x.k b.n i->i≠b.s/\i≠b.q/\b.g≠some i
def SB.aQ(b:SB)(k:Nat)(i:Nat): Prop:=i=b.s\/i=b.q\/b.g=some i\/BK k b.n i
theorem bJ.keeps{M:Nat->Prop}{w w':World}{b:SB}{x:aJ}(a:bJ w b x)(e:aA M w w')(c:∀d,b.aQ x.k d->¬M d): bJ w' b x :=
 ⟨a.aF.keeps e (c _ (.inl rfl)),a.dM.keeps e (c _ (.inr (.inl rfl))) (λ_ h=>c _ (.inr (.inr (.inl h)))),
    a.note.keeps e (λd i=>c d (.inr (.inr (.inr i)))),a.sq,a.sg,a.sn⟩
theorem bJ.still{w w':World}{b:SB}{x:aJ}(a:bJ w b x)(c:lX w w'): bJ w' b x:=a.keeps c (λ_ _ a=>a)
theorem bJ.lt{w:World}{b:SB}{x:aJ}(a:bJ w b x)(i:Nat)(hi:b.aQ x.k i): i<w.heap.size:=by
 rcases hi with hi | hi | hi | hi
 ·subst hi;exact a.aF.lt
 ·subst hi;exact a.dM.lt.1
 ·exact(a.dM.lt.2 i hi).1
 exact a.note.lt i hi
structure aT (n:Int) (x:aJ):Prop where
 valid:Ak x.c=true
 kind:x.c.kind=x.k
 k1:1<=x.k
 k5:x.k<=5
 eL:0<=x.acc
 dH:x.acc<=n
 dJ:0<=x.rel
 dE:x.rel+x.l.length=x.acc
 bS:x.ref.length=12
 cN:∀v,v∈x.ref->0<=v/\v<=n
 cap:(x.l.length:Int)<=x.c.cap
 times:∀y,y∈x.l->0<=y.t/\y.t<=4611686018427387904
 note:bT x.k x.c x.rel x.last x.nt
 heap:bE x.l
 eB:0<=x.last
 dR:x.last<=4611686018427387904
 dX:∀y,y∈x.l->x.last<=y.t
 fits:∀y,y∈x.l->AP x.c x.k y=0
theorem aT.common{n:Int}{x:aJ}(a:aT n x): 0<=x.c.aL/\x.c.aL<=100/\0<=x.c.bF/\x.c.bF<=100/\1<=x.c.cap/\x.c.cap<=8:=by
 have:=a.valid;simp only[Ak,B5,Ab,iQ,iP]at this;omega
theorem aT.bI{n:Int}{x:aJ}(a:aT n x)(c:4<=x.k): x.c.bI:=Ge a.valid a.kind c a.k5
theorem G3(s:Nat)(a clock:Int)(w:World)(e:w.cell? ⟨s,2,none⟩=some (ι a))(h:0<=a)(i:a<=100)(c0:0<=clock)(c1:clock<=4611686018427387904):
  Calls prog 43 #[π s,ι clock] w λc d=>c=.returned (ι (clock-a))/\d=w:=by
 go_enter func43,ntmps43;go_wp2;go_ret;exact⟨rfl,rfl⟩
def bO(x:aJ)(clock:Int)(y:It): Int :=
 if Ab y.t 0 4611686018427387904 then
  if y.t<=clock-x.c.aL then 6
  else if clock+x.c.bF<y.t then 7
  else if AP x.c x.k y≠0 then AP x.c x.k y
  else if x.c.cap<=x.l.length then 11 else if 4611686018427387904<=x.acc then 11 else 0
 else 5
