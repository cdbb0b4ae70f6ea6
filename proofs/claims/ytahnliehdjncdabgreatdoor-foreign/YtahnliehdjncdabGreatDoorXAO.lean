import Derived.Laws.Cover2
import Derived.Laws.StructEq
import Derived.Laws.Tables
import Derived.Test.YtahnliehdjncdabGreatDoorXAN
import Derived.BigQuiet
import Derived.BigRegion
import Derived.Deep.AppendLies
import Derived.Deep.QuietTactic
import Derived.Deep.RegionHeld3
import Derived.Deep.RegionLaw
import Derived.Laws.EntriesVeiled
set_option maxRecDepth 100000
set_option maxHeartbeats 16000000
namespace Go.Proofs.YtahnliehdjncdabGreatDoor
section
open Go.RowKit
theorem qP9{P:Program}(w:World)(F:Nat->Option Bool×Unit->Sem (ForInStep (Option Bool×Unit)))(g:Nat->Bool): ∀(n s:Nat),(∀i,s<=i->i<s+n->(F i (none,())).run P w=.ok (if g i=true then .yield (none,()) else .done (some false,())) w) ->
  (forIn (List.range' s n) (none,()) F).run P w=.ok (if (List.range' s n).all g=true then(none,()) else(some false,())) w
 | 0,s,_=>rfl
 | n+1,s,h=>by
  rw[List.range'_succ,List.forIn_cons,Sem.run_bind,h s (Nat.le_refl _) (by omega)]
  by_cases hg:g s=true
  ·simp only[hg,if_true,Result.andThen_ok,List.all_cons,Bool.true_and]
   exact qP9 w F g n (s+1) (λi h1 h2=>h i (by omega) (by omega))
  ·simp[hg]
theorem eqRow(d:Nat)(xs ys:List Int)(hx:xs.length=16)(hy:ys.length=16)(w:World): (Op.equalIn (d+1+1) 233 (.agg (qAv xs).toArray) (.agg (qAv ys).toArray)).run Tryz.prog w=.ok (decide (xs=ys)) w:=by
 have u3:=Tryz.underlying3;have a3:=Tryz.isAgg3;have z3:=Tryz.sizeOf3;rw[Op.equalIn];simp only[Sem.run_bind,run_underlying Tryz.underlying233,Result.andThen_ok,z3];simp only[Std.Legacy.Range.forIn_eq_forIn_range',Std.Legacy.Range.size,Nat.sub_zero,Nat.add_sub_cancel,Nat.div_one];refine(congrArg (λr=>Result.andThen r _) (qP9 w _ (λi=>decide (xs.getD i 0=ys.getD i 0)) 16 0 ?_)).trans ?_
 ·intro i _ hi
  have h1:i<xs.length:=by omega
  have h2:i<ys.length:=by omega
  have e1:(qAv xs).toArray[i*1]?=some (.int .i64 xs[i]):=by simp[qAv,h1]
  have e2:(qAv ys).toArray[i*1]?=some (.int .i64 ys[i]):=by simp[qAv,h2]
  have hp1:(part 3 (qAv xs).toArray (i*1)).run Tryz.prog w=.ok (.int .i64 xs[i]) w:=by simp only[part,Sem.run_bind,a3,Result.andThen_ok,e1];rfl
  have hp2:(part 3 (qAv ys).toArray (i*1)).run Tryz.prog w=.ok (.int .i64 ys[i]) w:=by simp only[part,Sem.run_bind,a3,Result.andThen_ok,e2];rfl
  have he:(Op.equalIn (d+1) 3 (.int .i64 xs[i]) (.int .i64 ys[i])).run Tryz.prog w=.ok (xs[i]==ys[i]) w:=by simp[Op.equalIn,run_underlying u3]
  simp only[Sem.run_bind,hp1,hp2,Result.andThen_ok,he];have g1:xs.getD i 0=xs[i]:=by simp[List.getD_eq_getElem?_getD,h1]
  have g2:ys.getD i 0=ys[i]:=by simp[List.getD_eq_getElem?_getD,h2]
  rw[g1,g2]
  by_cases hc:xs[i]=ys[i]
  ·simp[hc]
  ·simp[hc]
 simp only[Result.andThen_ok];have hall:(List.range' 0 16).all (λi=>decide (xs.getD i 0=ys.getD i 0))=decide (xs=ys):=by
  rw[Bool.eq_iff_iff];simp only[List.all_eq_true,decide_eq_true_eq,List.mem_range'_1]
  constructor
  ·intro h
   apply List.ext_getElem (by omega);intro i h1 h2;have:=h i ⟨by omega,by omega⟩;simpa[List.getD_eq_getElem?_getD,h1,h2] using this
  ·intro h i _;rw[h]
 rw[hall]
 by_cases hc:xs=ys
 ·simp[hc]
 ·simp[hc]
theorem zIx(w:World): (isAgg 233).run Tryz.prog w=.ok true w:=by kernel_rfl
theorem zG8(w:World): (sizeOf 233).run Tryz.prog w=.ok 16 w:=by kernel_rfl
theorem qXp(e:Nat)(hrow:∀xs ys:List Int,xs.length=16->ys.length=16->∀w,(Op.equalIn e 233 (.agg (qAv xs).toArray) (.agg (qAv ys).toArray)).run Tryz.prog w=.ok (decide (xs=ys)) w)(xs ys:List Int)(hx:xs.length=48)(hy:ys.length=48)(w:World): (Op.equalIn (e+1) 235 (.agg (qAv xs).toArray) (.agg (qAv ys).toArray)).run Tryz.prog w=.ok (decide (xs=ys)) w:=by
 have u3:=Tryz.underlying233;have a3:=zIx w;have z3:=zG8 w;rw[Op.equalIn];simp only[Sem.run_bind,run_underlying Tryz.underlying235,Result.andThen_ok,z3];simp only[Std.Legacy.Range.forIn_eq_forIn_range',Std.Legacy.Range.size,Nat.sub_zero,Nat.add_sub_cancel,Nat.div_one];refine(congrArg (λr=>Result.andThen r _) (qP9 w _ (λi=>decide ((xs.drop (i*16)).take 16=(ys.drop (i*16)).take 16)) 3 0 ?_)).trans ?_
 ·intro i _ hi
  have ex:∀zs:List Int,(qAv zs).toArray.extract (i*16) (i*16+16)=(qAv ((zs.drop (i*16)).take 16)).toArray:=λzs=>by
   simp[qAv]
  have hp1:(part 233 (qAv xs).toArray (i*16)).run Tryz.prog w=.ok (.agg (qAv ((xs.drop (i*16)).take 16)).toArray) w:=by simp only[part,Sem.run_bind,a3,Result.andThen_ok,z3,if_true,ex];rfl
  have hp2:(part 233 (qAv ys).toArray (i*16)).run Tryz.prog w=.ok (.agg (qAv ((ys.drop (i*16)).take 16)).toArray) w:=by simp only[part,Sem.run_bind,a3,Result.andThen_ok,z3,if_true,ex];rfl
  have he:(Op.equalIn e 233 (.agg (qAv ((xs.drop (i*16)).take 16)).toArray) (.agg (qAv ((ys.drop (i*16)).take 16)).toArray)).run Tryz.prog w=.ok (decide ((xs.drop (i*16)).take 16=(ys.drop (i*16)).take 16)) w :=
   hrow ((xs.drop (i*16)).take 16) ((ys.drop (i*16)).take 16) (by simp;omega) (by simp;omega) w
  simp only[Sem.run_bind,hp1,hp2,Result.andThen_ok,he];generalize decide ((xs.drop (i*16)).take 16=(ys.drop (i*16)).take 16)=b;cases b <;> rfl
 simp only[Result.andThen_ok];have hsp:∀zs:List Int,zs.length=48->zs=(zs.drop (0*16)).take 16++((zs.drop (1*16)).take 16++(zs.drop (2*16)).take 16):=λzs hz=>by
  have h3:(zs.drop (2*16)).take 16=zs.drop 32:=List.take_of_length_le (by simp;omega);rw[h3];have h2:zs.drop 16=(zs.drop 16).take 16++zs.drop 32:=by conv=>lhs;rw[<-List.take_append_drop 16 (zs.drop 16)];simp[List.drop_drop]
  conv=>lhs;rw[<-List.take_append_drop 16 zs,h2]
  simp
 have hall:(List.range' 0 3).all (λi=>decide ((xs.drop (i*16)).take 16=(ys.drop (i*16)).take 16))=decide (xs=ys):=by
  rw[Bool.eq_iff_iff];simp only[List.all_eq_true,decide_eq_true_eq,List.mem_range'_1]
  constructor
  ·intro h
   rw[hsp xs hx,hsp ys hy,h 0 (by omega),h 1 (by omega),h 2 (by omega)]
  ·intro h i _;rw[h]
 rw[hall];generalize decide (xs=ys)=b;cases b <;> rfl
theorem zHx(xs ys:List Int)(hx:xs.length=48)(hy:ys.length=48)(w:World): (Op.equalIn 10000 235 (.agg (qAv xs).toArray) (.agg (qAv ys).toArray)).run Tryz.prog w=.ok (decide (xs=ys)) w :=
 qXp 9999 (λxs ys hx hy w=>eqRow 9997 xs ys hx hy w) xs ys hx hy w
end
end Go.Proofs.YtahnliehdjncdabGreatDoor
namespace Go.Proofs.YtahnliehdjncdabGreatDoor.Dr
open Go.RowKit
structure It where
 t:Int
 k:Int
 d:Int
 n:Int
 v:Int
def It.cells(x:It): Array Value:=#[.int .i64 x.t,.int .i64 x.k,.int .i64 x.d,.int .i64 x.n,.int .i64 x.v]
def It.val(x:It): Value:=.agg #[.int .i64 x.t,.int .i64 x.k,.int .i64 x.d,.int .i64 x.n,.int .i64 x.v]
def qK2(a b:It): Bool :=
 if a.v%18446744073709551616*(b.d%18446744073709551616)=b.v%18446744073709551616*(a.d%18446744073709551616) then decide (a.n<b.n)
 else decide (b.v%18446744073709551616*(a.d%18446744073709551616)<a.v%18446744073709551616*(b.d%18446744073709551616))
def qCj(a b:It): Bool:=qK2 b a
theorem qY4(a b:It)(w:World):
  Calls Tryz.prog 239 #[a.val,b.val] w λe w'=>e=.returned (.bool (qK2 a b))/\w'=(w.alloc (.cells a.cells 254)).alloc (.cells b.cells 254):=by
 unfold It.val It.cells;have wr:∀n:Int,IntKind.u64.wrap n=n%18446744073709551616:=λn=>IntKind.wrap_u64 n
 have HM:=hide (show ∀(x y:Int) (w:World),Calls Tryz.prog 176 #[.int .u64 (x%18446744073709551616),.int .u64 (y%18446744073709551616)] w λe w'=>e=.returned (.tuple #[.int .u64 (x%18446744073709551616*(y%18446744073709551616)/18446744073709551616),.int .u64 (x%18446744073709551616*(y%18446744073709551616)%18446744073709551616)])/\w'=w from
    λx y w=>qL8 _ _ (by omega) (by omega) (by omega) (by omega) w)
 have HA:=hide (show qK2 a b=if a.v%18446744073709551616*(b.d%18446744073709551616)=b.v%18446744073709551616*(a.d%18446744073709551616) then decide (a.n<b.n) else decide (b.v%18446744073709551616*(a.d%18446744073709551616)<a.v%18446744073709551616*(b.d%18446744073709551616)) from rfl);go_enter Tryz.func239,Tryz.ntmps239
 go_wp2_with fail
 refine(uh HM a.v b.d _).mono ?_;rintro e w' ⟨rfl,rfl⟩;go_wp2_with fail
 refine(uh HM b.v a.d _).mono ?_;rintro e w' ⟨rfl,rfl⟩;generalize a.v%18446744073709551616*(b.d%18446744073709551616)=p at *;generalize b.v%18446744073709551616*(a.d%18446744073709551616)=q at *
 by_cases h1:p/18446744073709551616=q/18446744073709551616
 ·have hb1:(p/18446744073709551616 !=q/18446744073709551616)=false:=by simp[h1]
  by_cases h2:p%18446744073709551616=q%18446744073709551616
  ·have hb2:(p%18446744073709551616 !=q%18446744073709551616)=false:=by simp[h2]
   have HR:=hide (show decide (a.n<b.n)=qK2 a b by rw[uh HA,if_pos (by omega)]);clear h1 h2;go_wp2
   go_ret
   exact⟨qBe (uh HR),rfl⟩
  ·have hb2:(p%18446744073709551616 !=q%18446744073709551616)=true:=by simp[h2]
   have HR:=hide (show decide (q%18446744073709551616<p%18446744073709551616)=qK2 a b by rw[uh HA,if_neg (by omega)];simp only[decide_eq_decide];omega);clear h1 h2;go_wp2
   go_ret
   exact⟨qBe (uh HR),rfl⟩
 ·have hb1:(p/18446744073709551616 !=q/18446744073709551616)=true:=by simp[h1]
  have HR:=hide (show decide (q/18446744073709551616<p/18446744073709551616)=qK2 a b by rw[uh HA,if_neg (by omega)];simp only[decide_eq_decide];omega);clear h1;go_wp2
  go_ret
  exact⟨qBe (uh HR),rfl⟩
theorem qGa(a b:It)(w:World):
  Calls Tryz.prog 215 #[a.val,b.val] w λe w'=>e=.returned (.bool (qCj a b))/\w'=(((w.alloc (.cells a.cells 254)).alloc (.cells b.cells 254)).alloc (.cells b.cells 254)).alloc (.cells a.cells 254):=by
 have HT:=hide (qY4 b a ((w.alloc (.cells a.cells 254)).alloc (.cells b.cells 254)));unfold It.val It.cells at *;go_enter Tryz.func215,Tryz.ntmps215
 go_wp2_with fail
 refine(uh HT).mono ?_;rintro e w' ⟨rfl,rfl⟩;go_wp2
 go_ret
 exact⟨rfl,rfl⟩
theorem qGx(a b:It)(w:World):
  Calls Tryz.prog 215 #[a.val,b.val] w λe w'=>e=.returned (.bool (qCj a b))/\Keeps (λ_=>False) w w' :=
 (qGa a b w).mono λ_ _ ⟨he,hw⟩=>⟨he,by rw[hw];exact((((Keeps.refl _ _).alloc _).alloc _).alloc _).alloc _⟩
def itAt(l:List It)(i:Nat): It:=l.getD i ⟨0,0,0,0,0⟩
def flat: List It->List Value
 | []=>[]
 | x::l=>.int .i64 x.t::.int .i64 x.k::.int .i64 x.d::.int .i64 x.n::.int .i64 x.v::flat l
theorem qD6(l:List It): (flat l).length=l.length*5:=by
 induction l with
 | nil=>rfl
 | cons x l ih=>simp[flat,ih];omega
theorem qFf(a b:List It): flat (a++b)=flat a++flat b:=by
 induction a with
 | nil=>rfl
 | cons x l ih=>simp[flat,ih]
theorem flat_get(l:List It)(i:Nat)(h:i<l.length): (flat l)[i*5]?=some (.int .i64 (itAt l i).t)/\(flat l)[i*5+1]?=some (.int .i64 (itAt l i).k)/\(flat l)[i*5+2]?=some (.int .i64 (itAt l i).d)/\(flat l)[i*5+3]?=some (.int .i64 (itAt l i).n)/\(flat l)[i*5+4]?=some (.int .i64 (itAt l i).v):=by
 induction l generalizing i with
 | nil=>simp at h
 | cons x l ih =>
  cases i with
  | zero=>simp[flat,itAt]
  | succ i =>
   have:=ih i (by simpa using h);rw[show(i+1)*5=i*5+5 by omega];simpa[flat,itAt] using this
theorem qQh(l:List It)(i:Nat)(x:It): flat (l.set i x)=(((((flat l).set (i*5) (.int .i64 x.t)).set (i*5+1) (.int .i64 x.k)).set (i*5+2) (.int .i64 x.d)).set (i*5+3) (.int .i64 x.n)).set (i*5+4) (.int .i64 x.v):=by
 induction l generalizing i with
 | nil=>simp[flat]
 | cons y l ih =>
  cases i with
  | zero=>simp[flat]
  | succ i=>rw[show(i+1)*5=i*5+5 by omega];simp[flat,ih]
structure IRow (w:World) (g cap:Nat) (l:List It):Prop where
 ex:∃cur:List Value,Blk w g cur 254/\cur.length=cap*5/\cur.take (l.length*5)=flat l
 le:l.length<=cap
 max:cap<=maxLen
theorem IRow.lt{w:World}{g cap:Nat}{l:List It}(h:IRow w g cap l): g<w.heap.size:=by obtain⟨cur,hb,_⟩:=h.ex;exact hb.lt
theorem IRow.frozen{w:World}{g cap:Nat}{l:List It}(h:IRow w g cap l)(o:Nat): w.frozen? ⟨g,o,none⟩=false:=by obtain⟨cur,hb,_⟩:=h.ex;exact hb.frozen o
theorem IRow.cells{w:World}{g cap:Nat}{l:List It}(h:IRow w g cap l)(i:Nat)(hi:i<l.length):
  w.cell? ⟨g,i*5,none⟩=some (.int .i64 (itAt l i).t)/\w.cell? ⟨g,i*5+1,none⟩=some (.int .i64 (itAt l i).k)/\w.cell? ⟨g,i*5+2,none⟩=some (.int .i64 (itAt l i).d)/\w.cell? ⟨g,i*5+3,none⟩=some (.int .i64 (itAt l i).n)/\w.cell? ⟨g,i*5+4,none⟩=some (.int .i64 (itAt l i).v):=by
 obtain⟨cur,hb,hl,ht⟩:=h.ex;have hg:∀k,k<l.length*5->cur[k]?=(flat l)[k]?:=λk hk=>by rw[<-ht,List.getElem?_take,if_pos hk]
 obtain⟨a,b,c,d,e⟩:=flat_get l i hi;exact⟨hb.cell (by rw[hg _ (by omega)];exact a),hb.cell (by rw[hg _ (by omega)];exact b),hb.cell (by rw[hg _ (by omega)];exact c),hb.cell (by rw[hg _ (by omega)];exact d),hb.cell (by rw[hg _ (by omega)];exact e)⟩
theorem IRow.keeps{M:Nat->Prop}{w w':World}{g cap:Nat}{l:List It}(h:IRow w g cap l)(k:Keeps M w w')(hn:¬M g): IRow w' g cap l:=by
 obtain⟨cur,hb,r⟩:=h.ex;exact⟨⟨cur,hb.keeps k hn,r⟩,h.le,h.max⟩
theorem IRow.drew{w:World}{g cap:Nat}{l:List It}(h:IRow w g cap l): IRow w.drew g cap l:=by
 obtain⟨cur,hb,r⟩:=h.ex;exact⟨⟨cur,hb.drew,r⟩,h.le,h.max⟩
def putIt(w:World)(g i:Nat)(x:It): World :=
 ((((w.setCell ⟨g,i*5,none⟩ (.int .i64 x.t)).setCell ⟨g,i*5+1,none⟩ (.int .i64 x.k)).setCell ⟨g,i*5+2,none⟩ (.int .i64 x.d)).setCell ⟨g,i*5+3,none⟩ (.int .i64 x.n)).setCell ⟨g,i*5+4,none⟩ (.int .i64 x.v)
theorem IRow.put{w:World}{g cap:Nat}{l:List It}(h:IRow w g cap l)(i:Nat)(x:It): IRow (putIt w g i x) g cap (l.set i x):=by
 obtain⟨cur,hb,hl,ht⟩:=h.ex;refine⟨⟨_,((((hb.setCell _ _).setCell _ _).setCell _ _).setCell _ _).setCell _ _,by simp[hl],?_⟩,by simpa using h.le,h.max⟩;rw[qQh,<-ht,List.length_set];simp only[List.take_set]
theorem _root_.Go.Proofs.YtahnliehdjncdabGreatDoor.Keeps.putTk{M:Nat->Prop}{a w:World}(h:Keeps M a w){g:Nat}(hp:M g\/a.heap.size<=g)(i:Nat)(x:It): Keeps M a (putIt w g i x) :=
 ((((h.setCell hp _).setCell hp _).setCell hp _).setCell hp _).setCell hp _
end Go.Proofs.YtahnliehdjncdabGreatDoor.Dr
namespace Go.Proofs.YtahnliehdjncdabGreatDoor.Dr
open Go.RowKit
def qCw: Value:=.func (.func 215) #[] #[]
structure QB (w:World) (q:Nat) (v:Value):Prop where
 b:Blk w q [qCw,v] 285
def swapL(l:List It)(i j:Nat): List It:=(l.set i (itAt l j)).set j (itAt l i)
theorem qJj(q g i j cap n:Nat)(w:World)(l:List It)(hn:l.length=n)(hq:QB w q (.slice (some ⟨g,0,none⟩) n cap))(hr:IRow w g cap l)(hi:i<n)(hj:j<n)(hij:i≠j)(hqg:q≠g):
  Calls Tryz.prog 246 #[.pointer (some ⟨q,0,none⟩),.int .i64 i,.int .i64 j] w λe w'=>e=.returned (.tuple #[])/\Keeps (·=g) w w'/\IRow w' g cap (swapL l i j):=by
 have hq1:w.cell? ⟨q,1,none⟩=some (.slice (some ⟨g,0,none⟩) n cap):=hq.b.cell rfl;have hi0:(0:Int)<=(i:Int):=by omega
 have hin:(i:Int)<(n:Int):=by omega
 have hj0:(0:Int)<=(j:Int):=by omega
 have hjn:(j:Int)<(n:Int):=by omega
 obtain⟨x0,x1,x2,x3,x4⟩:=hr.cells i (by omega);obtain⟨y0,y1,y2,y3,y4⟩:=hr.cells j (by omega);have hf:=hr.frozen;have hne:i*5≠j*5:=by omega
 have HR:Hid (IRow w g cap l):=hr;clear hr hq hn;have HS:Hid (swapL l i j=(l.set i (itAt l j)).set j (itAt l i)):=rfl;generalize itAt l i=x at *;generalize itAt l j=y at *;go_enter Tryz.func246,Tryz.ntmps246
 go_region
 go_end0
 refine⟨rfl,?_,?_⟩
 ·exact(((Keeps.refl (λk=>k=g) w).putTk (Or.inl rfl) i y).putTk (Or.inl rfl) j x).drew
 ·rw[HS.out];exact((HR.out.put i y).put j x).drew
def riseL: Nat->List It->Nat->List It
 | 0,l,_=>l
 | f+1,l,i=>if i=0 then l else if qCj (itAt l i) (itAt l ((i-1)/2)) then riseL f (swapL l i ((i-1)/2)) ((i-1)/2) else l
theorem qAp(l:List It)(i j:Nat): (swapL l i j).length=l.length:=by simp[swapL]
theorem qQy(q g i cap n:Nat)(w:World)(l:List It)(hn:l.length=n)(hn8:n<=1000)(hq:QB w q (.slice (some ⟨g,0,none⟩) n cap))(hr:IRow w g cap l)(hi:i<n)(hqg:q≠g):
  Calls Tryz.prog 240 #[.pointer (some ⟨q,0,none⟩),.int .i64 i] w λe w'=>e=.returned (.tuple #[])/\Keeps (·=g) w w'/\IRow w' g cap (riseL (i+1) l i):=by
 have HQ:Hid (QB w q (.slice (some ⟨g,0,none⟩) n cap)):=hq;have HR:Hid (IRow w g cap l):=hr;have HN:Hid (l.length=n):=hn;clear hq hr hn;go_enter Tryz.func240,Tryz.ntmps240
 go_wp2
 go_loopw [1] (λs wr=>∃(k f:Nat) (m:List It),s=.int .i64 k/\k<n/\k<=f/\Hid (m.length=n)/\Hid (Keeps (·=g) w wr)/\Hid (IRow wr g cap m)/\Hid (riseL (i+1) l i=riseL (f+1) m k)) (λs _=>(intOf s).toNat)
 case atStart=>exact⟨i,i,l,rfl,hi,Nat.le_refl _,HN,Keeps.refl _ _,HR,rfl⟩
 case round =>
  obtain⟨k,f,m,rfl,hk,hf,HL,HK,HI,HE⟩:=hrel
  by_cases h0:0<k
  ·have hq1:wr.cell? ⟨q,1,none⟩=some (.slice (some ⟨g,0,none⟩) n cap):=HK.out.cell (HQ.out.b.cell rfl) hqg
   have hq0:wr.cell? ⟨q,0,none⟩=some qCw:=HK.out.cell (HQ.out.b.cell rfl) hqg;unfold qCw at hq0;obtain⟨p,hp⟩:∃p,p=(k-1)/2:=⟨_,rfl⟩;have hpk:p<k:=by omega
   have hpi:((k:Int)-1)/2=(p:Int):=by omega
   have HP:Hid (p=(k-1)/2):=hp;clear hp;obtain⟨x0,x1,x2,x3,x4⟩:=HI.out.cells k (by rw[HL.out];exact hk);obtain⟨y0,y1,y2,y3,y4⟩:=HI.out.cells p (by rw[HL.out];omega);have hk0:(0:Int)<=(k:Int):=by omega
   have hkn:(k:Int)<(n:Int):=by omega
   have hp0:(0:Int)<=(p:Int):=by omega
   have hpn:(p:Int)<(n:Int):=by omega
   generalize hx:itAt m k=x at *;generalize hy:itAt m p=y at *;have HX:Hid (itAt m k=x):=hx;have HY:Hid (itAt m p=y):=hy;clear hx hy;cases hab:qCj x y
   all_goals
    go_wp2
    go_region_held3 (λw'=>w'.cell? ⟨q,0,none⟩=some (.func (.func 215) #[] #[])/\w'.cell? ⟨q,1,none⟩=some (.slice (some ⟨g,0,none⟩) n cap) /\
       w'.cell? ⟨g,k*5,none⟩=some (.int .i64 x.t)/\w'.cell? ⟨g,k*5+1,none⟩=some (.int .i64 x.k)/\w'.cell? ⟨g,k*5+2,none⟩=some (.int .i64 x.d)/\w'.cell? ⟨g,k*5+3,none⟩=some (.int .i64 x.n)/\w'.cell? ⟨g,k*5+4,none⟩=some (.int .i64 x.v) /\
       w'.cell? ⟨g,p*5,none⟩=some (.int .i64 y.t)/\w'.cell? ⟨g,p*5+1,none⟩=some (.int .i64 y.k)/\w'.cell? ⟨g,p*5+2,none⟩=some (.int .i64 y.d)/\w'.cell? ⟨g,p*5+3,none⟩=some (.int .i64 y.n)/\w'.cell? ⟨g,p*5+4,none⟩=some (.int .i64 y.v)) (first | (go_split_ands;exact⟨by assumption,by assumption,by assumption,by assumption,by assumption,by assumption,by assumption,by assumption,by assumption,by assumption,by assumption,by assumption⟩) | (go_split_ands;exact⟨hka.cell (by assumption) (λh=>h),hka.cell (by assumption) (λh=>h),hka.cell (by assumption) (λh=>h),hka.cell (by assumption) (λh=>h),hka.cell (by assumption) (λh=>h),hka.cell (by assumption) (λh=>h),hka.cell (by assumption) (λh=>h),hka.cell (by assumption) (λh=>h),hka.cell (by assumption) (λh=>h),hka.cell (by assumption) (λh=>h),hka.cell (by assumption) (λh=>h),hka.cell (by assumption) (λh=>h)⟩))
     (first | (go_at_call 215;refine(qGx x y _).mono ?_;rintro e W1 ⟨rfl,hka⟩))
    have hk1:Keeps (λ_=>False) wr W1:=((Keeps.refl _ _).drew).then hka;clear hka;have HK1:Hid (Keeps (λ_=>False) wr W1):=hk1;clear hk1
   ·go_wp2
    refine bodyPost_ret (results_none rfl _ _ _) rfl ?_;refine⟨rfl,HK.out.trans HK1.out (λ_ h=>h.elim),?_⟩;have hab':=hab;rw[<-HX.out,<-HY.out,HP.out]at hab';rw[HE.out];simp only[riseL,if_neg (show ¬k=0 by omega),hab'];exact HI.out.keeps HK1.out (λh=>h)
   ·go_wp2_with fail
    refine(qJj q g k p cap n W1 m HL.out ⟨(HQ.out.b.keeps HK.out hqg).keeps HK1.out (λh=>h)⟩ (HI.out.keeps HK1.out (λh=>h)) hk (by omega) (by omega) hqg).mono ?_;rintro e w2 ⟨rfl,hk2,hr2⟩;have HK2:Hid (Keeps (·=g) W1 w2):=hk2;have HR2:Hid (IRow w2 g cap (swapL m k p)):=hr2;clear hk2 hr2;go_wp2
    go_roundw
    case rel =>
     obtain⟨f',rfl⟩:∃f',f=f'+1:=⟨f-1,by omega⟩;refine⟨p,f',swapL m k p,rfl,by omega,by omega,(qAp _ _ _).trans HL.out,(HK.out.trans HK1.out (λ_ h=>h.elim)).then HK2.out,HR2,?_⟩;show _=_;have hab':=hab;rw[<-HX.out,<-HY.out,HP.out]at hab';rw[HE.out,HP.out]
     conv=>lhs;unfold riseL
     rw[if_neg (by omega),if_pos hab']
    case measure=>simp[intOf];omega
  ·go_wp2
   go_end0
   refine⟨rfl,HK.out,?_⟩;rw[HE.out,show k=0 by omega];simpa[riseL] using HI.out
end Go.Proofs.YtahnliehdjncdabGreatDoor.Dr
