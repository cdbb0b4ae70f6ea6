import Derived.Laws.Cover2
import Derived.Laws.StructEq
import Derived.Laws.Tables
import Derived.Test.YtnokbhcennjanaaGreatDoorXAM
open Go.RowKit Go.Proofs.Tryz
set_option maxRecDepth 100000
set_option maxHeartbeats 16000000
namespace Go.Proofs.YtnokbhcennjanaaGreatDoor
section
theorem M0{P:Program}(w:World)(c:Nat->Option Bool×Unit->Sem (ForInStep (Option Bool×Unit)))(g:Nat->Bool): ∀(n s:Nat),(∀a,s<=a->a<s+n->(c a (none,())).run P w=.ok (if g a=true then .yield (none,()) else .done (some false,())) w) ->
  (forIn (List.range' s n) (none,()) c).run P w=.ok (if (List.range' s n).all g=true then(none,()) else(some false,())) w
 | 0,s,_=>rfl
 | n+1,s,h=>by
  rw[lq,List.forIn_cons,jm,h s (il _) (by omega)];by_cases d:g s=true
  ·simp only[d,lH,jy,List.all_cons,Bool.true_and];exact M0 w c g n (s+1) (λa e i=>h a (by omega) (by omega))
  simp[d]
theorem Iu(l:Nat)(c d:List Int)(A:c.length=16)(B:d.length=16)(w:World): (Op.equalIn (l+1+1) 226 (.agg (Af c).toArray) (.agg (Af d).toArray)).run prog w=.ok (decide (c=d)) w:=by
 have u3:=underlying3;have k:=isAgg3;have x:=sizeOf3;rw[Op.equalIn];simp only[jm,jY underlying226,jy,x];simp only[lF,Std.Legacy.Range.size,Nat.sub_zero,lK,Nat.div_one];refine(congrArg (λv=>Result.andThen v _) (M0 w _ (λa=>decide (c.getD a 0=d.getD a 0)) 16 0 ?_)).trans ?_
 ·intro a _ z;have h:a<c.length:=by omega
  have i:a<d.length:=by omega
  have m:(Af c).toArray[a*1]?=some (.int .i64 c[a]):=by simp[Af,h]
  have n:(Af d).toArray[a*1]?=some (.int .i64 d[a]):=by simp[Af,i]
  have t:(part 3 (Af c).toArray (a*1)).run prog w=.ok (.int .i64 c[a]) w:=by simp only[part,jm,k,jy,m];rfl
  have u:(part 3 (Af d).toArray (a*1)).run prog w=.ok (.int .i64 d[a]) w:=by simp only[part,jm,k,jy,n];rfl
  have s:(Op.equalIn (l+1) 3 (.int .i64 c[a]) (.int .i64 d[a])).run prog w=.ok (c[a]==d[a]) w:=by simp[Op.equalIn,jY u3]
  simp only[jm,t,u,jy,s];have o:c.getD a 0=c[a]:=by simp[List.getD_eq_getElem?_getD,h]
  have q:d.getD a 0=d[a]:=by simp[List.getD_eq_getElem?_getD,i]
  rw[o,q];by_cases e:c[a]=d[a]
  ·simp[e]
  simp[e]
 simp only[jy];have r:(List.range' 0 16).all (λa=>decide (c.getD a 0=d.getD a 0))=decide (c=d):=by
  rw[lA];simp only[ki,iI,List.mem_range'_1];constructor
  ·intro j;apply List.ext_getElem (by omega);intro a h i;have:=j a ⟨by omega,by omega⟩;simpa[List.getD_eq_getElem?_getD,h,i] using this
  intro j a _;rw[j]
 rw[r];by_cases e:c=d
 ·simp[e]
 simp[e]
theorem zO9(w:World): (isAgg 226).run prog w=.ok true w:=by kernel_rfl
theorem zNh(w:World): (sizeOf 226).run prog w=.ok 16 w:=by kernel_rfl
theorem Va(e:Nat)(u:∀c d:List Int,c.length=16->d.length=16->∀w,(Op.equalIn e 226 (.agg (Af c).toArray) (.agg (Af d).toArray)).run prog w=.ok (decide (c=d)) w)(c d:List Int)(v:c.length=48)(x:d.length=48)(w:World): (Op.equalIn (e+1) 228 (.agg (Af c).toArray) (.agg (Af d).toArray)).run prog w=.ok (decide (c=d)) w:=by
 have k:=zO9 w;have j:=zNh w;rw[Op.equalIn];simp only[jm,jY underlying228,jy,j];simp only[lF,Std.Legacy.Range.size,Nat.sub_zero,lK,Nat.div_one];refine(congrArg (λz=>Result.andThen z _) (M0 w _ (λa=>decide ((c.drop (a*16)).take 16=(d.drop (a*16)).take 16)) 3 0 ?_)).trans ?_
 ·intro a _ A;have l:∀h:List Int,(Af h).toArray.extract (a*16) (a*16+16)=(Af ((h.drop (a*16)).take 16)).toArray:=λh=>by
   simp[Af]
  have s:(part 226 (Af c).toArray (a*16)).run prog w=.ok (.agg (Af ((c.drop (a*16)).take 16)).toArray) w:=by simp only[part,jm,k,jy,j,lH,l];rfl
  have t:(part 226 (Af d).toArray (a*16)).run prog w=.ok (.agg (Af ((d.drop (a*16)).take 16)).toArray) w:=by simp only[part,jm,k,jy,j,lH,l];rfl
  have r:(Op.equalIn e 226 (.agg (Af ((c.drop (a*16)).take 16)).toArray) (.agg (Af ((d.drop (a*16)).take 16)).toArray)).run prog w=.ok (decide ((c.drop (a*16)).take 16=(d.drop (a*16)).take 16)) w :=
   u ((c.drop (a*16)).take 16) ((d.drop (a*16)).take 16) (by simp;omega) (by simp;omega) w
  simp only[jm,s,t,jy,r];generalize decide ((c.drop (a*16)).take 16=(d.drop (a*16)).take 16)=b;cases b <;> rfl
 simp only[jy];have m:∀h:List Int,h.length=48->h=(h.drop (0*16)).take 16++((h.drop (1*16)).take 16++(h.drop (2*16)).take 16):=λh B=>by
  have o:(h.drop (2*16)).take 16=h.drop 32:=iq (by simp;omega);rw[o];have n:h.drop 16=(h.drop 16).take 16++h.drop 32:=by conv=>lhs;rw[<-List.take_append_drop 16 (h.drop 16)];simp[List.drop_drop]
  conv=>lhs;rw[<-List.take_append_drop 16 h,n]
  simp
 have q:(List.range' 0 3).all (λa=>decide ((c.drop (a*16)).take 16=(d.drop (a*16)).take 16))=decide (c=d):=by
  rw[lA];simp only[ki,iI,List.mem_range'_1];constructor
  ·intro i;rw[m c v,m d x,i 0 (by omega),i 1 (by omega),i 2 (by omega)]
  intro i a _;rw[i]
 rw[q];generalize decide (c=d)=b;cases b <;> rfl
theorem zLt(a c:List Int)(d:a.length=48)(e:c.length=48)(w:World): (Op.equalIn 10000 228 (.agg (Af a).toArray) (.agg (Af c).toArray)).run prog w=.ok (decide (a=c)) w :=
 Va 9999 (λa c d e w=>Iu 9997 a c d e w) a c d e w
end
end Go.Proofs.YtnokbhcennjanaaGreatDoor
namespace Go.Proofs.YtnokbhcennjanaaGreatDoor.Dr
structure It where
 t:Int
 k:Int
 d:Int
 n:Int
 v:Int
def It.cells(x:It): Array Value:=#[.int .i64 x.t,.int .i64 x.k,.int .i64 x.d,.int .i64 x.n,.int .i64 x.v]
def It.val(x:It): Value:=.agg #[.int .i64 x.t,.int .i64 x.k,.int .i64 x.d,.int .i64 x.n,.int .i64 x.v]
def aheadT(a b:It): Bool :=
 if a.v%18446744073709551616*(b.d%18446744073709551616)=b.v%18446744073709551616*(a.d%18446744073709551616) then decide (a.n<b.n)
 else decide (b.v%18446744073709551616*(a.d%18446744073709551616)<a.v%18446744073709551616*(b.d%18446744073709551616))
def BU(a b:It): Bool:=aheadT b a
theorem UV(a b:It)(w:World):
  Calls prog 228 #[a.val,b.val] w λe i=>e=.returned (.bool (aheadT a b))/\i=(w.alloc (.cells a.cells 247)).alloc (.cells b.cells 247):=by
 unfold It.val It.cells;have wr:∀k:Int,IntKind.u64.wrap k=k%18446744073709551616:=λk=>jC k
 have n:=Aa (show ∀(l y:Int) (w:World),Calls prog 165 #[.int .u64 (l%18446744073709551616),.int .u64 (y%18446744073709551616)] w λe i=>e=.returned (.tuple #[.int .u64 (l%18446744073709551616*(y%18446744073709551616)/18446744073709551616),.int .u64 (l%18446744073709551616*(y%18446744073709551616)%18446744073709551616)])/\i=w from
    λl y w=>Mr _ _ (by omega) (by omega) (by omega) (by omega) w)
 have m:=Aa (show aheadT a b=if a.v%18446744073709551616*(b.d%18446744073709551616)=b.v%18446744073709551616*(a.d%18446744073709551616) then decide (a.n<b.n) else decide (b.v%18446744073709551616*(a.d%18446744073709551616)<a.v%18446744073709551616*(b.d%18446744073709551616)) from rfl);go_enter func228,ntmps228;go_wp2_with fail
 refine(n.o a.v b.d _).mono ?_;rintro e i ⟨rfl,rfl⟩;go_wp2_with fail
 refine(n.o b.v a.d _).mono ?_;rintro e i ⟨rfl,rfl⟩;generalize a.v%18446744073709551616*(b.d%18446744073709551616)=p at *
 generalize b.v%18446744073709551616*(a.d%18446744073709551616)=c at *
 by_cases h:p/18446744073709551616=c/18446744073709551616
 ·have o:(p/18446744073709551616 !=c/18446744073709551616)=false:=by simp[h]
  by_cases j:p%18446744073709551616=c%18446744073709551616
  ·have q:(p%18446744073709551616 !=c%18446744073709551616)=false:=by simp[j]
   have d:=Aa (show decide (a.n<b.n)=aheadT a b by rw[m.o,h9 (by omega)]);clear h j;go_wp2;go_ret;exact⟨Bz d.o,rfl⟩
  have q:(p%18446744073709551616 !=c%18446744073709551616)=true:=by simp[j]
  have d:=Aa (show decide (c%18446744073709551616<p%18446744073709551616)=aheadT a b by rw[m.o,hZ (by omega)];simp only[decide_eq_decide];omega);clear h j;go_wp2;go_ret;exact⟨Bz d.o,rfl⟩
 have o:(p/18446744073709551616 !=c/18446744073709551616)=true:=by simp[h]
 have d:=Aa (show decide (c/18446744073709551616<p/18446744073709551616)=aheadT a b by rw[m.o,hZ (by omega)];simp only[decide_eq_decide];omega);clear h;go_wp2;go_ret;exact⟨Bz d.o,rfl⟩
theorem H7(a b:It)(w:World):
  Calls prog 204 #[a.val,b.val] w λc d=>c=.returned (.bool (BU a b))/\d=(((w.alloc (.cells a.cells 247)).alloc (.cells b.cells 247)).alloc (.cells b.cells 247)).alloc (.cells a.cells 247):=by
 have e:=Aa (UV b a ((w.alloc (.cells a.cells 247)).alloc (.cells b.cells 247)));unfold It.val It.cells at *
 go_enter func204,ntmps204;go_wp2_with fail
 refine e.o.mono ?_;rintro c d ⟨rfl,rfl⟩;go_wp2;go_ret;exact⟨rfl,rfl⟩
theorem JN(a b:It)(w:World):
  Calls prog 204 #[a.val,b.val] w λc e=>c=.returned (.bool (BU a b))/\lO w e :=
 (H7 a b w).mono λ_ _ ⟨d,hw⟩=>⟨d,by rw[hw];exact((((aA.refl _ _).alloc _).alloc _).alloc _).alloc _⟩
def itAt(l:List It)(i:Nat): It:=l.getD i ⟨0,0,0,0,0⟩
def flat: List It->List Value
 | []=>[]
 | x::l=>.int .i64 x.t::.int .i64 x.k::.int .i64 x.d::.int .i64 x.n::.int .i64 x.v::flat l
theorem G4(l:List It): (flat l).length=l.length*5:=by
 induction l with
 | nil=>rfl
 | cons c l a=>simp[flat,a];omega
theorem IS(a b:List It): flat (a++b)=flat a++flat b:=by
 induction a with
 | nil=>rfl
 | cons e d c=>simp[flat,c]
theorem flat_get(l:List It)(i:Nat)(a:i<l.length): (flat l)[i*5]?=some (.int .i64 (itAt l i).t)/\(flat l)[i*5+1]?=some (.int .i64 (itAt l i).k)/\(flat l)[i*5+2]?=some (.int .i64 (itAt l i).d)/\(flat l)[i*5+3]?=some (.int .i64 (itAt l i).n)/\(flat l)[i*5+4]?=some (.int .i64 (itAt l i).v):=by
 induction l generalizing i with
 | nil=>simp at a
 | cons d l c =>
  cases i with
  | zero=>simp[flat,itAt]
  | succ i =>
   have:=c i (by simpa using a);rw[show(i+1)*5=i*5+5 by omega];simpa[flat,itAt] using this
theorem Mu(l:List It)(i:Nat)(x:It): flat (l.set i x)=(((((flat l).set (i*5) (.int .i64 x.t)).set (i*5+1) (.int .i64 x.k)).set (i*5+2) (.int .i64 x.d)).set (i*5+3) (.int .i64 x.n)).set (i*5+4) (.int .i64 x.v):=by
 induction l generalizing i with
 | nil=>simp[flat]
 | cons y l a =>
  cases i with
  | zero=>simp[flat]
  | succ i=>rw[show(i+1)*5=i*5+5 by omega];simp[flat,a]
structure aP (w:World) (g cap:Nat) (l:List It):Prop where
 ex:∃cur:List Value,aD w g cur 247/\cur.length=cap*5/\cur.take (l.length*5)=flat l
 le:l.length<=cap
 max:cap<=maxLen
theorem aP.lt{w:World}{g a:Nat}{l:List It}(c:aP w g a l): g<w.heap.size:=by obtain⟨e,d,_⟩:=c.ex;exact d.lt
theorem aP.frozen{w:World}{g a:Nat}{l:List It}(c:aP w g a l)(o:Nat): w.frozen? ⟨g,o,none⟩=false:=by obtain⟨e,d,_⟩:=c.ex;exact d.frozen o
theorem aP.cells{w:World}{g j:Nat}{l:List It}(o:aP w g j l)(i:Nat)(hi:i<l.length):
  w.cell? ⟨g,i*5,none⟩=some (.int .i64 (itAt l i).t)/\w.cell? ⟨g,i*5+1,none⟩=some (.int .i64 (itAt l i).k)/\w.cell? ⟨g,i*5+2,none⟩=some (.int .i64 (itAt l i).d)/\w.cell? ⟨g,i*5+3,none⟩=some (.int .i64 (itAt l i).n)/\w.cell? ⟨g,i*5+4,none⟩=some (.int .i64 (itAt l i).v):=by
 obtain⟨k,a,s,r⟩:=o.ex;have c:∀d,d<l.length*5->k[d]?=(flat l)[d]?:=λd q=>by rw[<-r,iV,h9 q]
 obtain⟨e,b,h,m,n⟩:=flat_get l i hi;exact⟨a.cell (by rw[c _ (by omega)];exact e),a.cell (by rw[c _ (by omega)];exact b),a.cell (by rw[c _ (by omega)];exact h),a.cell (by rw[c _ (by omega)];exact m),a.cell (by rw[c _ (by omega)];exact n)⟩
theorem aP.keeps{M:Nat->Prop}{w w':World}{g c:Nat}{l:List It}(a:aP w g c l)(k:aA M w w')(h:¬M g): aP w' g c l:=by
 obtain⟨d,e,i⟩:=a.ex;exact⟨⟨d,e.keeps k h,i⟩,a.le,a.max⟩
theorem aP.drew{w:World}{g c:Nat}{l:List It}(a:aP w g c l): aP w.drew g c l:=by
 obtain⟨d,e,h⟩:=a.ex;exact⟨⟨d,e.drew,h⟩,a.le,a.max⟩
def bP(w:World)(g i:Nat)(x:It): World :=
 ((((w.setCell ⟨g,i*5,none⟩ (.int .i64 x.t)).setCell ⟨g,i*5+1,none⟩ (.int .i64 x.k)).setCell ⟨g,i*5+2,none⟩ (.int .i64 x.d)).setCell ⟨g,i*5+3,none⟩ (.int .i64 x.n)).setCell ⟨g,i*5+4,none⟩ (.int .i64 x.v)
theorem aP.put{w:World}{g c:Nat}{l:List It}(a:aP w g c l)(i:Nat)(x:It): aP (bP w g i x) g c (l.set i x):=by
 obtain⟨j,d,e,h⟩:=a.ex;refine⟨⟨_,((((d.setCell _ _).setCell _ _).setCell _ _).setCell _ _).setCell _ _,by simp[e],?_⟩,by simpa using a.le,a.max⟩;rw[Mu,<-h,jx];simp only[List.take_set]
theorem _root_.Go.Proofs.YtnokbhcennjanaaGreatDoor.aA.putTk{M:Nat->Prop}{a w:World}(d:aA M a w){g:Nat}(c:M g\/a.heap.size<=g)(i:Nat)(x:It): aA M a (bP w g i x) :=
 ((((d.setCell c _).setCell c _).setCell c _).setCell c _).setCell c _
end Go.Proofs.YtnokbhcennjanaaGreatDoor.Dr
namespace Go.Proofs.YtnokbhcennjanaaGreatDoor.Dr
def Ci: Value:=.func (.func 204) #[] #[]
structure QB (w:World) (q:Nat) (v:Value):Prop where
 b:aD w q [Ci,v] 278
def swapL(l:List It)(i j:Nat): List It:=(l.set i (itAt l j)).set j (itAt l i)
theorem Jt(d g i j a n:Nat)(w:World)(l:List It)(r:l.length=n)(e:QB w d (.slice (some ⟨g,0,none⟩) n a))(c:aP w g a l)(hi:i<n)(z:j<n)(v:i≠j)(E:d≠g):
  Calls prog 235 #[.pointer (some ⟨d,0,none⟩),.int .i64 i,.int .i64 j] w λq h=>q=.returned (.tuple #[])/\aA (·=g) w h/\aP h g a (swapL l i j):=by
 have D:w.cell? ⟨d,1,none⟩=some (.slice (some ⟨g,0,none⟩) n a):=e.b.cell rfl;have u:(0:Int)<=(i:Int):=by omega
 have x:(i:Int)<(n:Int):=by omega
 have A:(0:Int)<=(j:Int):=by omega
 have B:(j:Int)<(n:Int):=by omega
 obtain⟨F,G,H,I,J⟩:=c.cells i (by omega);obtain⟨L,M,N,O,P⟩:=c.cells j (by omega);have t:=c.frozen;have C:i*5≠j*5:=by omega
 have m:Hid (aP w g a l):=c;clear c e r;have o:Hid (swapL l i j=(l.set i (itAt l j)).set j (itAt l i)):=rfl;generalize itAt l i=k at *
 generalize itAt l j=y at *
 go_enter func235,ntmps235;go_region
 go_end0;refine⟨rfl,?_,?_⟩
 ·exact(((aA.refl (λs=>s=g) w).putTk (Or.inl rfl) i y).putTk (Or.inl rfl) j k).drew
 rw[o.out];exact((m.out.put i y).put j k).drew
def riseL: Nat->List It->Nat->List It
 | 0,l,_=>l
 | f+1,l,i=>if i=0 then l else if BU (itAt l i) (itAt l ((i-1)/2)) then riseL f (swapL l i ((i-1)/2)) ((i-1)/2) else l
theorem Ca(l:List It)(i j:Nat): (swapL l i j).length=l.length:=by simp[swapL]
theorem M5(k g i j n:Nat)(w:World)(l:List It)(J:l.length=n)(ab:n<=1000)(M:QB w k (.slice (some ⟨g,0,none⟩) n j))(N:aP w g j l)(hi:i<n)(v:k≠g):
  Calls prog 229 #[.pointer (some ⟨k,0,none⟩),.int .i64 i] w λB d=>B=.returned (.tuple #[])/\aA (·=g) w d/\aP d g j (riseL (i+1) l i):=by
 have A:Hid (QB w k (.slice (some ⟨g,0,none⟩) n j)):=M;have U:Hid (aP w g j l):=N;have T:Hid (l.length=n):=J;clear M N J;go_enter func229,ntmps229;go_wp2;go_loopw [1] (λD wr=>∃(c f:Nat) (h:List It),D=.int .i64 c/\c<n/\c<=f/\Hid (h.length=n)/\Hid (aA (·=g) w wr)/\Hid (aP wr g j h)/\Hid (riseL (i+1) l i=riseL (f+1) h c)) (λD _=>(intOf D).toNat)
 case atStart=>exact⟨i,i,l,rfl,hi,il _,T,aA.refl _ _,U,rfl⟩
 case round =>
  obtain⟨c,f,h,rfl,G,Y,t,o,q,x⟩:=hrel;by_cases X:0<c
  ·have ah:wr.cell? ⟨k,1,none⟩=some (.slice (some ⟨g,0,none⟩) n j):=o.out.cell (A.out.b.cell rfl) v;have W:wr.cell? ⟨k,0,none⟩=some Ci:=o.out.cell (A.out.b.cell rfl) v;unfold Ci at W;obtain⟨p,L⟩:∃p,p=(c-1)/2:=⟨_,rfl⟩;have af:p<c:=by omega
   have ae:((c:Int)-1)/2=(p:Int):=by omega
   have z:Hid (p=(c-1)/2):=L;clear L;obtain⟨ai,aj,ak,al,am⟩:=q.out.cells c (by rw[t.out];exact G);obtain⟨an,ao,ap,aq,ar⟩:=q.out.cells p (by rw[t.out];omega);have Z:(0:Int)<=(c:Int):=by omega
   have aa:(c:Int)<(n:Int):=by omega
   have ad:(0:Int)<=(p:Int):=by omega
   have ag:(p:Int)<(n:Int):=by omega
   generalize P:itAt h c=m at *
   generalize Q:itAt h p=y at *
   have E:Hid (itAt h c=m):=P;have F:Hid (itAt h p=y):=Q;clear P Q;cases hab:BU m y;all_goals
    go_wp2
    go_region_held3 (λd=>d.cell? ⟨k,0,none⟩=some (.func (.func 204) #[] #[])/\d.cell? ⟨k,1,none⟩=some (.slice (some ⟨g,0,none⟩) n j) /\
       d.cell? ⟨g,c*5,none⟩=some (.int .i64 m.t)/\d.cell? ⟨g,c*5+1,none⟩=some (.int .i64 m.k)/\d.cell? ⟨g,c*5+2,none⟩=some (.int .i64 m.d)/\d.cell? ⟨g,c*5+3,none⟩=some (.int .i64 m.n)/\d.cell? ⟨g,c*5+4,none⟩=some (.int .i64 m.v) /\
       d.cell? ⟨g,p*5,none⟩=some (.int .i64 y.t)/\d.cell? ⟨g,p*5+1,none⟩=some (.int .i64 y.k)/\d.cell? ⟨g,p*5+2,none⟩=some (.int .i64 y.d)/\d.cell? ⟨g,p*5+3,none⟩=some (.int .i64 y.n)/\d.cell? ⟨g,p*5+4,none⟩=some (.int .i64 y.v)) (first | (go_split_ands;exact⟨by assumption,by assumption,by assumption,by assumption,by assumption,by assumption,by assumption,by assumption,by assumption,by assumption,by assumption,by assumption⟩) | (go_split_ands;exact⟨e.cell (by assumption) id,e.cell (by assumption) id,e.cell (by assumption) id,e.cell (by assumption) id,e.cell (by assumption) id,e.cell (by assumption) id,e.cell (by assumption) id,e.cell (by assumption) id,e.cell (by assumption) id,e.cell (by assumption) id,e.cell (by assumption) id,e.cell (by assumption) id⟩))
     (first | (go_at_call 204;refine(JN m y _).mono ?_;rintro B u ⟨rfl,e⟩))
    have H:lO wr u:=((aA.refl _ _).drew).then e;clear e;have r:Hid (lO wr u):=H;clear H
   ·go_wp2;refine iN (ks rfl _ _ _) rfl ?_;refine⟨rfl,o.out.trans r.out (λ_ a=>a.elim),?_⟩;have s:=hab;rw[<-E.out,<-F.out,z.out]at s;rw[x.out];simp only[riseL,hZ (show ¬c=0 by omega),s];exact q.out.keeps r.out id
   go_wp2_with fail
   refine(Jt k g c p j n u h t.out ⟨(A.out.b.keeps o.out v).keeps r.out id⟩ (q.out.keeps r.out id) G (by omega) (by omega) v).mono ?_;rintro B R ⟨rfl,I,O⟩;have S:Hid (aA (·=g) u R):=I;have V:Hid (aP R g j (swapL h c p)):=O;clear I O;go_wp2;go_roundw;case rel =>
    obtain⟨C,rfl⟩:∃C,f=C+1:=⟨f-1,by omega⟩;refine⟨p,C,swapL h c p,rfl,by omega,by omega,(Ca _ _ _).trans t.out,(o.out.trans r.out (λ_ a=>a.elim)).then S.out,V,?_⟩;show _=_;have s:=hab;rw[<-E.out,<-F.out,z.out]at s;rw[x.out,z.out]
    conv=>lhs;unfold riseL
    rw[hZ (by omega),h9 s]
   case measure=>simp[intOf];omega
  go_wp2;go_end0;refine⟨rfl,o.out,?_⟩;rw[x.out,show c=0 by omega];simpa[riseL] using q.out
