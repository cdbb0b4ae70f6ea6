import Derived.Test.YtahnliehdjncdabGreatDoorXBN
import Derived.Test.YtahnliehdjncdabGreatDoorXBM
import Derived.Test.YtahnliehdjncdabGreatDoorXAL
import Derived.Test.YtahnliehdjncdabGreatDoorXBE
import Derived.Test.YtahnliehdjncdabGreatDoorXBJ
import Derived.Test.YtahnliehdjncdabGreatDoorXAQ
import Derived.Test.YtahnliehdjncdabGreatDoorXBD
import Derived.Test.YtahnliehdjncdabGreatDoorXBG
import Derived.Test.YtahnliehdjncdabGreatDoorXBK
set_option maxRecDepth 100000
set_option maxHeartbeats 16000000
namespace Go.Proofs.YtahnliehdjncdabGreatDoor
section
open Go.RowKit
theorem qGh{α:Type}(p:α->Bool): ∀l:List α,l.drop (l.takeWhile p).length=l.dropWhile p
 | []=>rfl
 | x::l=>by
  unfold List.takeWhile List.dropWhile
  cases h:p x with
  | true=>exact qGh p l
  | false=>rfl
theorem qT3{α:Type}{p q:α->Bool}(h:∀x,q x=true->p x=true): ∀l:List α,(l.dropWhile q).dropWhile p=l.dropWhile p
 | []=>rfl
 | x::l=>by
  by_cases hq:q x=true
  ·rw[List.dropWhile_cons_of_pos hq,List.dropWhile_cons_of_pos (h x hq)]
   exact qT3 h l
  ·rw[List.dropWhile_cons_of_neg hq]
theorem zAh{α:Type}(p:α->Bool)(r:List α): ∀l:List α,(l++r).dropWhile p=if l.dropWhile p=[] then r.dropWhile p else l.dropWhile p++r
 | []=>by simp
 | x::l=>by
  by_cases hq:p x=true
  ·rw[List.cons_append,List.dropWhile_cons_of_pos hq,List.dropWhile_cons_of_pos hq]
   exact zAh p r l
  ·rw[List.cons_append,List.dropWhile_cons_of_neg hq,List.dropWhile_cons_of_neg hq,if_neg (by simp)];rfl
def qQz(t:Int)(b:Bk): Bool:=decide (b.sz<=t)
def qCq(c:Cfg)(m:Int)(l:List Bk): List Bk:=l.drop (Mk.pastN l (m-c.window))
theorem qJl(c:Cfg)(m:Int)(l:List Bk): qCq c m l=l.dropWhile (qQz (m-c.window)):=qGh _ l
theorem qUz{c:Cfg}{m m':Int}(h:m<=m'){l l':List Bk}(e:qCq c m l=qCq c m l'): qCq c m' l=qCq c m' l':=by
 rw[qJl,qJl]at e ⊢
 have hd:∀x,qQz (m-c.window) x=true->qQz (m'-c.window) x=true:=λx hx=>by
  simp only[qQz,decide_eq_true_eq]at hx ⊢;omega
 rw[<-qT3 hd l,<-qT3 hd l',e]
theorem qOj{c:Cfg}{m t:Int}(h:m-c.window<=t)(l:List Bk): qGl l t=(qB7 ((qCq c m l).dropWhile (qQz t)) 0).t:=by
 have hd:∀x,qQz (m-c.window) x=true->qQz t x=true:=λx hx=>by
  simp only[qQz,decide_eq_true_eq]at hx ⊢;omega
 rw[qJl,qT3 hd,<-qGh]
 show qGl l t=(qB7 (l.drop (Mk.pastN l t)) 0).t
 unfold qGl
 split
 ·rename_i e
  rw[e,List.drop_length];rfl
 ·simp[qB7,List.getD_eq_getElem?_getD]
theorem qUy{c:Cfg}{m t:Int}(h:m-c.window<=t){ls ls':Nat->List Bk}(n:Nat)(e:∀j,j<n->qCq c m (ls j)=qCq c m (ls' j)): qDy ls n t=qDy ls' n t:=by
 unfold qDy
 refine List.map_congr_left (λi hi=>?_)
 rw[qOj h,qOj h,e i (List.mem_range.1 hi)]
theorem qZr{c:Cfg}{m:Int}{ls ls':Nat->List Bk}(n:Nat)(e:∀j,j<n->qCq c m (ls j)=qCq c m (ls' j)): qQj ls n (m-c.window)=qQj ls' n (m-c.window):=by
 have h:∀l:List Bk,qWb l (m-c.window)=((qCq c m l).length:Int)::qDm (qCq c m l):=λl=>by
  unfold qWb qCq;rw[List.length_drop]
 unfold qQj
 have:∀a:List Nat,(∀j∈a,j<n)->a.flatMap (λi=>qWb (ls i) (m-c.window))=a.flatMap (λi=>qWb (ls' i) (m-c.window)):=by
  intro a
  induction a with
  | nil=>intro _;rfl
  | cons x a ih =>
   intro ha
   rw[List.flatMap_cons,List.flatMap_cons,ih (λj hj=>ha j (by simp[hj])),h,h,e x (ha x (by simp))]
 exact this _ (λj hj=>List.mem_range.1 hj)
theorem qZ9{c:Cfg}{m:Int}{n:Nat}{ls ls':Nat->List Bk}(y:It)(e:∀j,j<n->qCq c m (ls j)=qCq c m (ls' j)): ∀j,j<n->qCq c m (qM4 c n ls y m j)=qCq c m (qM4 c n ls' y m j):=by
 intro j hj
 unfold qM4
 split
 ·have h:=e j hj
  unfold qCq at h
  rw[h]
 ·exact e j hj
def qDr(c:Cfg)(t:Int)(p:Pa.Pn): Bool:=decide (qDd c p<=t)
theorem qFl(c:Cfg)(o:Pa.Pn)(cl:List Pa.Pn)(t:Int): qA8 c o cl t=cl.dropWhile (qDr c t)++(if t<qDd c o/\o.cs≠qAu then[o] else[]):=by
 unfold qA8 qEn
 rw[qGh];rfl
theorem zA0{c:Cfg}(hL:0<=qA6 c){a b:Pa.Pn}(h:a.no<=b.no): qDd c a<=qDd c b:=by
 unfold qDd
 have:=Int.mul_le_mul_of_nonneg_right (show a.no+1<=b.no+1 by omega) hL
 omega
structure OAt (c:Cfg) (o:Pa.Pn) (cl:List Pa.Pn):Prop where
 asc:cl.Pairwise (λa b=>a.no<b.no)
 lt:∀p∈cl,p.no<o.no
 long:0<=qA6 c
theorem OAt.live{c:Cfg}{o:Pa.Pn}{cl:List Pa.Pn}(h:OAt c o cl){t:Int}(hne:cl.dropWhile (qDr c t)≠[]): t<qDd c o:=by
 cases hd:cl.dropWhile (qDr c t) with
 | nil=>exact absurd hd hne
 | cons p r =>
  have hp:p∈cl:=(List.dropWhile_sublist (qDr c t)).subset (by rw[hd];simp)
  have h1:¬qDr c t p=true:=by
   have:=List.head_dropWhile_not (qDr c t) hne
   simp only[hd,List.head_cons]at this
   rw[this];simp
  have h2:=h.lt p hp
  have h3:=zA0 (c:=c) h.long (show p.no<=o.no by omega)
  simp only[qDr,decide_eq_true_eq]at h1
  omega
theorem qUv{c:Cfg}{o o':Pa.Pn}{cl cl':List Pa.Pn}(h:OAt c o cl)(h':OAt c o' cl'){t t':Int}(ht:t<=t')(e:qA8 c o cl t=qA8 c o' cl' t): qA8 c o cl t'=qA8 c o' cl' t':=by
 have key:∀ {o:Pa.Pn} {cl:List Pa.Pn},OAt c o cl->qA8 c o cl t'=(qA8 c o cl t).dropWhile (qDr c t'):=by
  intro o cl h
  have hd:∀x,qDr c t x=true->qDr c t' x=true:=λx hx=>by
   simp only[qDr,decide_eq_true_eq]at hx ⊢;omega
  rw[qFl,qFl,zAh,qT3 hd]
  by_cases hz:o.cs=qAu
  ·have a:∀t:Int,(if t<qDd c o/\o.cs≠qAu then[o] else[])=[]:=λt=>if_neg (λh=>h.2 hz)
   rw[a,a]
   split
   ·rename_i e;rw[e];rfl
   ·rfl
  ·by_cases hl:t'<qDd c o
   ·have a1:(if t'<qDd c o/\o.cs≠qAu then[o] else[])=[o]:=if_pos ⟨hl,hz⟩
    have a2:(if t<qDd c o/\o.cs≠qAu then[o] else[])=[o]:=if_pos ⟨by omega,hz⟩
    rw[a1,a2]
    have:¬qDr c t' o=true:=by simp only[qDr,decide_eq_true_eq];omega
    split
    ·rename_i e;rw[e,List.dropWhile_cons_of_neg this];rfl
    ·rfl
   ·have a1:(if t'<qDd c o/\o.cs≠qAu then[o] else[])=[]:=if_neg (λh=>hl h.1)
    rw[a1]
    have e:cl.dropWhile (qDr c t')=[]:=by
     cases he:cl.dropWhile (qDr c t') with
     | nil=>rfl
     | cons p r=>exact absurd (h.live (t:=t') (by rw[he];simp)) hl
    rw[e,if_pos rfl]
    split
    ·rw[List.dropWhile_cons_of_pos (by simp only[qDr,decide_eq_true_eq];omega)];rfl
    ·rfl
 rw[key h,key h',e]
def zG0(n:Int)(P:List Pa.Pn): Pa.Pn:=(P.find? (λp=>p.no==n)).getD (qM3 n)
theorem zG7{a b:Pa.Pn}(h1:a.no=b.no)(h2:a.cs=b.cs): a=b:=by
 cases a;cases b;simp at h1 h2;subst h1;subst h2;rfl
theorem qXq{n:Int}(l r:List Pa.Pn)(h:∀p∈l,p.no<n): (l++r).find? (λp=>p.no==n)=r.find? (λp=>p.no==n):=by
 rw[List.find?_append,List.find?_eq_none.2 (λp hp=>by have:=h p hp;simp;omega)];rfl
theorem qRl{c:Cfg}{o:Pa.Pn}{cl:List Pa.Pn}(h:OAt c o cl){n t:Int}(hn:o.no<=n)(ht:t<(n+1)*qA6 c-1): (qBz o cl n).1=zG0 n (qA8 c o cl t):=by
 have hless:∀p∈cl.dropWhile (qDr c t),p.no<n:=λp hp=>by
  have:=h.lt p ((List.dropWhile_sublist (qDr c t)).subset hp);omega
 unfold zG0 qBz
 rw[qFl,qXq _ _ hless]
 by_cases e:o.no=n
 ·rw[if_pos e]
  have hlo:t<qDd c o:=by unfold qDd;rw[e];exact ht
  by_cases hz:o.cs=qAu
  ·rw[if_neg (λh=>h.2 hz)]
   exact zG7 e hz
  ·rw[if_pos ⟨hlo,hz⟩]
   simp[e]
 ·rw[if_neg e]
  show qM3 n=_
  by_cases hx:t<qDd c o/\o.cs≠qAu
  ·rw[if_pos hx];simp[e]
  ·rw[if_neg hx];rfl
theorem qYs{c:Cfg}{o:Pa.Pn}{cl:List Pa.Pn}(h:OAt c o cl){n t:Int}(hn:o.no<=n): (qBz o cl n).2.dropWhile (qDr c t)=(qA8 c o cl t).filter (λp=>p.no !=n):=by
 have hless:∀p∈cl.dropWhile (qDr c t),p.no<o.no:=λp hp=>h.lt p ((List.dropWhile_sublist (qDr c t)).subset hp)
 have hf:(cl.dropWhile (qDr c t)).filter (λp=>p.no !=n)=cl.dropWhile (qDr c t):=List.filter_eq_self.2 (λp hp=>by have:=hless p hp;simp;omega)
 unfold qBz
 rw[qFl,List.filter_append,hf]
 by_cases e:o.no=n
 ·rw[if_pos e]
  show cl.dropWhile (qDr c t)=_
  split
  ·simp[e]
  ·simp
 ·rw[if_neg e]
  show(if o.cs=qAu then cl else cl++[o]).dropWhile (qDr c t)=_
  by_cases hz:o.cs=qAu
  ·rw[if_pos hz,if_neg (λh=>h.2 hz)];simp
  ·rw[if_neg hz,zAh]
   by_cases hl:t<qDd c o
   ·have a1:(if t<qDd c o/\o.cs≠qAu then[o] else[])=[o]:=if_pos ⟨hl,hz⟩
    rw[a1]
    have hd:¬qDr c t o=true:=by simp only[qDr,decide_eq_true_eq];omega
    have:[o].filter (λp=>p.no !=n)=[o]:=by simp[e]
    rw[this]
    split
    ·rename_i e2;rw[e2,List.dropWhile_cons_of_neg hd];rfl
    ·rfl
   ·have a1:(if t<qDd c o/\o.cs≠qAu then[o] else[])=[]:=if_neg (λh=>hl h.1)
    rw[a1]
    have e2:cl.dropWhile (qDr c t)=[]:=by
     cases he:cl.dropWhile (qDr c t) with
     | nil=>rfl
     | cons p r=>exact absurd (h.live (t:=t) (by rw[he];simp)) hl
    rw[e2,if_pos rfl,List.dropWhile_cons_of_pos (by simp only[qDr,decide_eq_true_eq];omega)];rfl
theorem qZ5{c:Cfg}{o o':Pa.Pn}{cl cl':List Pa.Pn}(h:OAt c o cl)(h':OAt c o' cl')(y:It)(m:Int)(hn:o.no<=y.t/qA6 c)(hn':o'.no<=y.t/qA6 c)(e:qA8 c o cl (m-c.window)=qA8 c o' cl' (m-c.window)):
  qA8 c (qK2 c o cl y m).1 (qK2 c o cl y m).2 (m-c.window)=qA8 c (qK2 c o' cl' y m).1 (qK2 c o' cl' y m).2 (m-c.window):=by
 have hno:∀(o:Pa.Pn) (cl:List Pa.Pn) (n:Int),(qBz o cl n).1.no=n:=λo cl n=>by
  unfold qBz;split
  ·assumption
  ·rfl
 have key:∀ {o:Pa.Pn} {cl:List Pa.Pn},OAt c o cl->o.no<=y.t/qA6 c->(qK2 c o cl y m).2.dropWhile (qDr c (m-c.window))=(qA8 c o cl (m-c.window)).filter (λp=>p.no !=y.t/qA6 c):=by
  intro o cl h hn
  show((qBz o cl (y.t/qA6 c)).2.drop (qEn c (qBz o cl (y.t/qA6 c)).2 (m-c.window))).dropWhile _=_
  unfold qEn
  rw[qGh]
  show((qBz o cl (y.t/qA6 c)).2.dropWhile (qDr c (m-c.window))).dropWhile _=_
  rw[qT3 (λ_ h=>h),qYs h hn]
 rw[qFl,qFl,key h hn,key h' hn',e]
 congr 1
 have hl:∀(o:Pa.Pn) (cl:List Pa.Pn),qDd c (qK2 c o cl y m).1=(y.t/qA6 c+1)*qA6 c-1:=λo cl=>by
  show((qBz o cl (y.t/qA6 c)).1.no+1)*qA6 c-1=_
  rw[hno]
 rw[hl,hl]
 by_cases ht:m-c.window<(y.t/qA6 c+1)*qA6 c-1
 ·have ho:(qK2 c o cl y m).1=(qK2 c o' cl' y m).1:=by
   show qUa c y.k c.rows.toNat (qBz o cl (y.t/qA6 c)).1=qUa c y.k c.rows.toNat (qBz o' cl' (y.t/qA6 c)).1
   rw[qRl h hn ht,qRl h' hn' ht,e]
  rw[ho]
 ·rw[if_neg (λh=>ht h.1),if_neg (λh=>ht h.1)]
structure PnF (R W:Nat) (s:Int) (cs:List Int):Prop where
 nn:∀i,0<=cs.getD i 0
 ze:∀i,(R<=i/16\/W<=i%16)->cs.getD i 0=0
 row:∀j,j<R->qG0 (qM5 W cs j)=s
theorem PnF.f{R W:Nat}{s:Int}{cs:List Int}(h:PnF R W s cs)(h0:0<s): LdF R W s s cs:=⟨h.nn,h.ze,h.row,h0,Int.le_refl _⟩
theorem LdF.p{R W:Nat}{a s:Int}{cs:List Int}(h:LdF R W a s cs): PnF R W s cs:=⟨h.nn,h.ze,h.row⟩
theorem qFs(a b:List Int): qG0 (a++b)=qG0 a+qG0 b:=by
 induction a with
 | nil=>simp[qG0]
 | cons x a ih=>rw[List.cons_append,qEs,qEs,ih];omega
theorem qI1(a:Int): qG0 [a]=a:=by rw[qEs];exact Int.add_zero a
theorem qKd(i:Nat): qAu.getD i 0=0:=by
 unfold qAu
 rw[List.getD_eq_getElem?_getD,List.getElem?_replicate]
 split <;> rfl
theorem qOf(W j:Nat): qG0 (qM5 W qAu j)=0:=by
 induction W with
 | zero=>rfl
 | succ W ih=>rw[qJk,qFs,ih,qEs,qKd];rfl
theorem PnF.zero(R W:Nat): PnF R W 0 qAu:=⟨λi=>by rw[qKd];omega,λi _=>qKd i,λj _=>qOf W j⟩
theorem qZb(cs cs':List Int)(j W:Nat)(p:Int)(p0:0<=p)(h:∀i,i<W->cs'.getD (j*16+i) 0=cs.getD (j*16+i) 0+if p=(i:Int) then 1 else 0): qG0 (qM5 W cs' j)=qG0 (qM5 W cs j)+if p<(W:Int) then 1 else 0:=by
 induction W with
 | zero=>rw[if_neg (by omega)];rfl
 | succ W ih =>
  rw[qJk,qJk,qFs,qFs,ih (λi hi=>h i (by omega)),h W (by omega)]
  rw[qI1,qI1]
  split <;> split <;> split <;> omega
theorem PnF.bump{c:Cfg}(hc:c.rowed){R W:Nat}(hR:c.rows=(R:Int))(hW:c.width=(W:Int)){s:Int}{cs:List Int}(hl:cs.length=48)(h:PnF R W s cs)(key:Int): PnF R W (s+1) (qE0 c key R cs):=by
 have hr:=hc.r1
 have hw:=hc.w1
 have hw0:=hc.w0
 have hpl:∀j,0<=qBw c key j/\qBw c key j<(W:Int):=λj=>by
  unfold qBw
  rw[hW]
  exact⟨Int.emod_nonneg _ (by omega),Int.emod_lt_of_pos _ (by omega)⟩
 have key2:∀j pl:Nat,pl<16->(qE0 c key R cs).getD (j*16+pl) 0=cs.getD (j*16+pl) 0+if j<R/\qBw c key j=(pl:Int) then 1 else 0:=λj pl h16=>qZ7 c hc key cs hl j pl h16 R (by omega)
 have key3:∀i,(qE0 c key R cs).getD i 0=cs.getD i 0+if i/16<R/\qBw c key (i/16)=((i%16:Nat):Int) then 1 else 0:=λi=>by
  have:=key2 (i/16) (i%16) (by omega)
  rw[show i/16*16+i%16=i by omega]at this
  exact this
 refine⟨λi=>?_,λi hi=>?_,λj hj=>?_⟩
 ·rw[key3];have:=h.nn i;split <;> omega
 ·rw[key3,h.ze i hi,if_neg (λhh=>?_)]
  ·rfl
  ·have:=hpl (i/16)
   rcases hi with hi | hi <;> omega
 ·rw[qZb cs _ j W (qBw c key j) (hpl j).1 (λi hi=>by
       rw[key2 j i (by omega)]
       congr 1
       by_cases e:qBw c key j=(i:Int)
       ·rw[if_pos ⟨hj,e⟩,if_pos e]
       ·rw[if_neg (λh=>e h.2),if_neg e]),if_pos (hpl j).2,h.row j hj]
structure OZ (c:Cfg) (R W:Nat) (rel:Int) (o:Pa.Pn) (cl:List Pa.Pn):Prop where
 cls:∀p∈cl,LdF R W (sP W p) (sP W p) p.cs
 opn:PnF R W (sP W o) o.cs
 pos:o.cs=qAu\/0<sP W o
 sum:qG0 (cl.map (sP W))+sP W o<=rel
theorem qQf(l:List Int)(h:∀x∈l,0<=x): 0<=qG0 l:=by
 induction l with
 | nil=>exact Int.le_refl _
 | cons x l ih=>rw[qEs];have:=h x (by simp);have:=ih (λy hy=>h y (by simp[hy]));omega
theorem qVi(l:List Int)(n:Nat)(h:∀x∈l,0<=x): qG0 (l.drop n)<=qG0 l:=by
 have h1:=qFs (l.take n) (l.drop n)
 rw[List.take_append_drop]at h1
 have:=qQf (l.take n) (λx hx=>h x (List.mem_of_mem_take hx))
 omega
theorem qIm{W:Nat}{p:Pa.Pn}(h:p.cs=qAu): sP W p=0:=by unfold sP;rw[h];exact qOf W 0
theorem OZ.zero(c:Cfg)(R W:Nat): OZ c R W 0 Pa.pn0 []:=by
 have h:sP W Pa.pn0=0:=qIm rfl
 refine⟨λp hp=>by simp at hp,?_,.inl rfl,?_⟩
 ·rw[h];exact PnF.zero R W
 ·rw[h];exact Int.le_refl _
theorem OZ.turn{c:Cfg}{R W:Nat}{rel:Int}{o:Pa.Pn}{cl:List Pa.Pn}(h:OZ c R W rel o cl)(n:Int): OZ c R W rel (qBz o cl n).1 (qBz o cl n).2:=by
 unfold qBz
 split
 ·exact h
 ·have h0:sP W (qM3 n)=0:=qIm rfl
  have hs:=h.sum
  by_cases hz:o.cs=qAu
  ·refine⟨?_,?_,.inl rfl,?_⟩
   ·show ∀p∈(if o.cs=qAu then cl else cl++[o]),_
    rw[if_pos hz];exact h.cls
   ·show PnF R W (sP W (qM3 n)) qAu
    rw[h0];exact PnF.zero R W
   ·show qG0 ((if o.cs=qAu then cl else cl++[o]).map (sP W))+sP W (qM3 n)<=rel
    rw[if_pos hz,h0]
    rw[qIm hz]at hs
    exact hs
  ·have hp:=h.pos.resolve_left hz
   refine⟨?_,?_,.inl rfl,?_⟩
   ·show ∀p∈(if o.cs=qAu then cl else cl++[o]),_
    rw[if_neg hz]
    intro p hp2
    rcases List.mem_append.1 hp2 with e | e
    ·exact h.cls p e
    ·rw[List.mem_singleton]at e;subst e;exact h.opn.f hp
   ·show PnF R W (sP W (qM3 n)) qAu
    rw[h0];exact PnF.zero R W
   ·show qG0 ((if o.cs=qAu then cl else cl++[o]).map (sP W))+sP W (qM3 n)<=rel
    rw[if_neg hz,h0,List.map_append,qFs]
    rw[List.map_cons,List.map_nil,qI1]
    omega
theorem OZ.rel{c:Cfg}(hc:c.rowed){R W:Nat}(hR:c.rows=(R:Int))(hW:c.width=(W:Int)){rel:Int}{o:Pa.Pn}{cl:List Pa.Pn}(h:OZ c R W rel o cl)(y:It)(m:Int): OZ c R W (rel+1) (qK2 c o cl y m).1 (qK2 c o cl y m).2:=by
 have ht:=h.turn (y.t/qA6 c)
 have hr0:=hc.r0
 have hRt:c.rows.toNat=R:=by omega
 have hb:=ht.opn.bump hc hR hW (qBz o cl (y.t/qA6 c)).1.len y.k
 have hs:sP W (qK2 c o cl y m).1=sP W (qBz o cl (y.t/qA6 c)).1+1:=by
  have:=hb.row 0 (by omega)
  show qG0 (qM5 W (qE0 c y.k c.rows.toNat _) 0)=_
  rw[hRt];exact this
 have hnn:0<=sP W (qBz o cl (y.t/qA6 c)).1:=by
  rcases ht.pos with e | e
  ·rw[qIm e];exact Int.le_refl _
  ·omega
 refine⟨λp hp=>ht.cls p (List.mem_of_mem_drop hp),?_,.inr (by rw[hs];omega),?_⟩
 ·rw[hs]
  show PnF R W _ (qE0 c y.k c.rows.toNat _)
  rw[hRt];exact hb
 ·rw[hs]
  have h1:=ht.sum
  have h2:qG0 (((qBz o cl (y.t/qA6 c)).2.drop (qEn c (qBz o cl (y.t/qA6 c)).2 (m-c.window))).map (sP W))<=qG0 ((qBz o cl (y.t/qA6 c)).2.map (sP W)):=by
   rw[List.map_drop]
   refine qVi _ _ (λx hx=>?_)
   obtain⟨p,hp,rfl⟩:=List.mem_map.1 hx
   have:=(ht.cls p hp).s0;omega
  have h3:(qK2 c o cl y m).2=(qBz o cl (y.t/qA6 c)).2.drop (qEn c (qBz o cl (y.t/qA6 c)).2 (m-c.window)):=rfl
  rw[h3];omega
theorem qRa(ps:List Pa.Pn)(p:Pa.Pn)(ha:(ps++[p]).Pairwise (λa b=>a.no<b.no))(hz:∀q∈ps,q.cs≠qAu): qSr (ps++[p])=(p,ps):=by
 have h:∀n:Nat,∀(ps:List Pa.Pn) (p:Pa.Pn),ps.length=n->(ps++[p]).Pairwise (λa b=>a.no<b.no)->(∀q∈ps,q.cs≠qAu)->qSr (ps++[p])=(p,ps):=by
  intro n
  induction n with
  | zero =>
   intro ps p hn _ _
   rw[List.length_eq_zero_iff.1 hn]
   show(p,(qBz Pa.pn0 [] p.no).2)=(p,[])
   congr 1
   unfold qBz
   split
   ·rfl
   ·show(if Pa.pn0.cs=qAu then[] else[]++[Pa.pn0])=[]
    rw[if_pos (show Pa.pn0.cs=qAu from rfl)]
  | succ n ih =>
   intro ps p hn ha hz
   rcases List.eq_nil_or_concat ps with e | ⟨qs,q,e⟩
   ·rw[e]at hn;simp at hn
   ·rw[List.concat_eq_append]at e
    subst e
    have h1:=ih qs q (by simpa using hn) (ha.sublist (List.sublist_append_left _ _)) (λx hx=>hz x (by simp[hx]))
    unfold qSr at h1 ⊢
    rw[List.foldl_append,h1]
    show(p,(qBz q qs p.no).2)=(p,qs++[q])
    have hlt:q.no<p.no:=(List.pairwise_append.1 ha).2.2 q (by simp) p (by simp)
    congr 1
    unfold qBz
    rw[if_neg (by omega)]
    show(if q.cs=qAu then qs else qs++[q])=_
    rw[if_neg (hz q (by simp))]
 exact h _ ps p rfl ha hz
theorem qW9{c:Cfg}{t:Int}(ps:List Pa.Pn)(ha:ps.Pairwise (λa b=>a.no<b.no))(hz:∀q∈ps,q.cs≠qAu)(hl:∀q∈ps,t<qDd c q): qA8 c (qSr ps).1 (qSr ps).2 t=ps:=by
 rcases List.eq_nil_or_concat ps with e | ⟨qs,q,e⟩
 ·rw[e,qFl]
  show[].dropWhile (qDr c t)++(if t<qDd c Pa.pn0/\Pa.pn0.cs≠qAu then[Pa.pn0] else[])=[]
  rw[if_neg (λh=>h.2 rfl)];rfl
 ·rw[List.concat_eq_append]at e
  subst e
  rw[qRa qs q ha (λx hx=>hz x (by simp[hx])),qFl]
  show qs.dropWhile (qDr c t)++(if t<qDd c q/\q.cs≠qAu then[q] else[])=qs++[q]
  rw[if_pos ⟨hl q (by simp),hz q (by simp)⟩]
  congr 1
  cases qs with
  | nil=>rfl
  | cons x xs=>rw[List.dropWhile_cons_of_neg (by have:=hl x (by simp);simp only[qDr,decide_eq_true_eq];omega)]
theorem qIs{c:Cfg}{R W:Nat}{rel last t:Int}{o:Pa.Pn}{cl:List Pa.Pn}(h:OZ c R W rel o cl)(hi:OInv c rel last o cl)(hL:0<=qA6 c):
  (qA8 c o cl t).Pairwise (λa b=>a.no<b.no)/\(∀q∈qA8 c o cl t,q.cs≠qAu/\t<qDd c q/\LdF R W (sP W q) (sP W q) q.cs/\(q∈cl\/q=o))/\qG0 ((qA8 c o cl t).map (sP W))<=rel:=by
 have hz:∀q∈cl,q.cs≠qAu:=λq hq e=>by
  have:=(h.cls q hq).s0
  rw[qIm e]at this;omega
 have hsum:=h.sum
 have hd:qG0 ((cl.drop (qEn c cl t)).map (sP W))<=qG0 (cl.map (sP W)):=by
  rw[List.map_drop]
  refine qVi _ _ (λx hx=>?_)
  obtain⟨p,hp,rfl⟩:=List.mem_map.1 hx
  have:=(h.cls p hp).s0;omega
 have hp0:0<=sP W o:=by
  rcases h.pos with e | e
  ·rw[qIm e];exact Int.le_refl _
  ·omega
 have hcl:∀q∈cl.drop (qEn c cl t),q.cs≠qAu/\t<qDd c q/\LdF R W (sP W q) (sP W q) q.cs/\(q∈cl\/q=o):=λq hq =>
  ⟨hz q (List.mem_of_mem_drop hq),qJ2 c hL t cl hi.asc q hq,h.cls q (List.mem_of_mem_drop hq),.inl (List.mem_of_mem_drop hq)⟩
 unfold qA8
 split
 ·rename_i ho
  refine⟨?_,λq hq=>?_,?_⟩
  ·refine List.pairwise_append.2 ⟨hi.asc.sublist (List.drop_sublist _ _),List.pairwise_singleton _ _,λa ha b hb=>?_⟩
   rw[List.mem_singleton]at hb;subst hb
   exact(hi.lt a (List.mem_of_mem_drop ha)).2
  ·rcases List.mem_append.1 hq with e | e
   ·exact hcl q e
   ·rw[List.mem_singleton]at e;subst e
    exact⟨ho.2,ho.1,h.opn.f (h.pos.resolve_left ho.2),.inr rfl⟩
  ·rw[List.map_append,qFs]
   rw[List.map_cons,List.map_nil,qI1]
   omega
 ·rw[List.append_nil]
  exact⟨hi.asc.sublist (List.drop_sublist _ _),hcl,by omega⟩
theorem zA2{c:Cfg}{R W:Nat}{rel last t:Int}{o:Pa.Pn}{cl:List Pa.Pn}(h:OZ c R W rel o cl)(hi:OInv c rel last o cl)(hL:0<=qA6 c)(hl0:0<=last)(hp1:1<=c.panes):
  OInv c rel last (qSr (qA8 c o cl t)).1 (qSr (qA8 c o cl t)).2/\OZ c R W rel (qSr (qA8 c o cl t)).1 (qSr (qA8 c o cl t)).2:=by
 obtain⟨f1,f2,f3⟩:=qIs (t:=t) h hi hL
 have hlen:((qA8 c o cl t).length:Int)<=c.panes+1:=by
  have:=hi.len
  unfold qA8
  rw[List.length_append,List.length_drop]
  split
  ·simp;omega
  ·simp;omega
 have hr0:0<=rel:=by
  have h1:=h.sum
  have h2:=qQf (cl.map (sP W)) (λx hx=>by obtain⟨p,hp,rfl⟩:=List.mem_map.1 hx;have:=(h.cls p hp).s0;omega)
  have h3:0<=sP W o:=by
   rcases h.pos with e | e
   ·rw[qIm e];exact Int.le_refl _
   ·omega
  omega
 generalize qA8 c o cl t=P at *
 rcases List.eq_nil_or_concat P with e | ⟨qs,q,e⟩
 ·rw[e]
  have z:=OInv.zero c hp1
  refine⟨⟨z.on0,by have:=z.onT;show Pa.pn0.no*qA6 c<=last;simp[Pa.pn0];exact hl0,z.asc,z.lt,λx hx=>?_,λp hp=>by simp[qSr]at hp,z.len⟩,?_⟩
  ·have:=z.ocs x hx;omega
  ·have z2:=OZ.zero c R W
   exact⟨z2.cls,z2.opn,z2.pos,by have:=z2.sum;show qG0 ([].map (sP W))+sP W Pa.pn0<=rel;simp only[List.map_nil]at this ⊢;omega⟩
 ·rw[List.concat_eq_append]at e
  subst e
  rw[qRa qs q f1 (λx hx=>(f2 x (by simp[hx])).1)]
  have hall:∀p∈qs++[q],0<=p.no/\p.no*qA6 c<=last/\∀x∈p.cs,0<=x/\x<=3*rel:=λp hp=>by
   rcases(f2 p hp).2.2.2 with e | e
   ·have h1:=hi.lt p e
    refine⟨h1.1,?_,hi.ccs p e⟩
    have:=Int.mul_le_mul_of_nonneg_right (show p.no<=o.no by omega) hL
    have:=hi.onT
    omega
   ·rw[e];exact⟨hi.on0,hi.onT,hi.ocs⟩
  have hq:=hall q (by simp)
  refine⟨⟨hq.1,hq.2.1,f1.sublist (List.sublist_append_left _ _),λp hp=>⟨(hall p (by simp[hp])).1,(List.pairwise_append.1 f1).2.2 p hp q (by simp)⟩,hq.2.2,λp hp=>(hall p (by simp[hp])).2.2,?_⟩,?_⟩
  ·rw[List.length_append,List.length_singleton]at hlen
   show(qs.length:Int)<=c.panes;omega
  ·have hf:=(f2 q (by simp)).2.2.1
   refine⟨λp hp=>(f2 p (by simp[hp])).2.2.1,hf.p,.inr hf.s0,?_⟩
   rw[List.map_append,qFs]at f3
   rw[List.map_cons,List.map_nil,qI1]at f3
   exact f3
def qEt: List (List Int)->List Bk
 | []=>[]
 | g::gs=>g.map (λt=>⟨2 ^ gs.length,t⟩)++qEt gs
def qH7: List (List Int)->List Int
 | []=>[]
 | g::gs=>(g.length:Int)::(g++qH7 gs)
structure LdC (K m rel:Int) (gs:List (List Int)):Prop where
 len:gs.length<=62
 cnt:∀g,g∈gs->(g.length:Int)<=K+1
 fst:∀g,gs.head?=some g->1<=g.length
 lst:∀g,g∈gs.tail->K<=(g.length:Int)
 tm:∀b,b∈qEt gs->0<=b.t/\b.t<=m
 srt:(qEt gs).Pairwise (λa b=>a.t<=b.t)
 sum:qDx (qEt gs)<=rel
 lnb:(qEt gs).length<=1000
structure CL (w:World) (d rr r:Nat) (og:Option Nat) (c:Cfg) (l:List Bk) (tl:List Nat) (og2:Option Nat) (wr:World):Prop where
 cr:CRep wr d rr og2 c l
 rd:RdRep wr r tl
 kp:Keeps (λi=>i=r\/i=rr\/og=some i) w wr
 fo:og2=og\/∃k,og2=some k/\w.heap.size<=k
 ap:d≠r/\rr≠r/\og≠some r/\r<w.heap.size
theorem CL.g{w:World}{d rr r:Nat}{og:Option Nat}{c:Cfg}{l:List Bk}{tl:List Nat}{og2:Option Nat}{wr:World}(h:CL w d rr r og c l tl og2 wr)(g:Nat)(hg:og2=some g): g≠r:=λe=>by
 rcases h.fo with f | ⟨k,f,hz⟩
 ·exact h.ap.2.2.1 (by rw[<-f,hg,e])
 ·rw[hg]at f
  have:=Option.some.inj f
  have:=h.ap.2.2.2
  omega
theorem CL.still{w:World}{d rr r:Nat}{og:Option Nat}{c:Cfg}{l:List Bk}{tl:List Nat}{og2:Option Nat}{wr w2:World}(h:CL w d rr r og c l tl og2 wr)(hk:Keeps (λ_=>False) wr w2): CL w d rr r og c l tl og2 w2 :=
 ⟨h.cr.still hk,h.rd.keeps hk (λh=>h),h.kp.trans hk (λ_ h _=>h.elim),h.fo,h.ap⟩
theorem CL.number{w:World}{d rr r:Nat}{og:Option Nat}{c:Cfg}{l:List Bk}{n lo hi:Int}{tl:List Nat}{og2:Option Nat}{wr:World}(h:CL w d rr r og c l (enc n++tl) og2 wr)(n0:0<=n)(n1:n<=9223372036854775807)(h1:lo<=n)(h2:n<=hi):
  Calls Tryz.prog 88 #[.pointer (some ⟨r,0,none⟩),.int .i64 lo,.int .i64 hi] wr λe w2=>e=.returned (.int .i64 n)/\CL w d rr r og c l tl og2 w2:=by
 refine(qB3 r n lo hi tl wr h.rd n0 n1 h1 h2).mono ?_
 rintro e w2 ⟨rfl,hr,hk⟩
 exact⟨rfl,⟨h.cr.keeps hk h.ap.1 h.ap.2.1 (λg hg=>h.g g hg),hr,h.kp.trans hk (λ_ h _=>.inl h),h.fo,h.ap⟩⟩
theorem CL.put{w:World}{d rr r:Nat}{og:Option Nat}{c:Cfg}{l:List Bk}{tl:List Nat}{og2 og3:Option Nat}{wr w2:World}{x:Bk}(h:CL w d rr r og c l tl og2 wr)(hr:RowRep w2 rr og3 (l++[x]))(hk:Keeps (λk=>k=rr\/og2=some k) wr w2)(hog:og3=og2\/∃k,og3=some k/\wr.heap.size<=k): CL w d rr r og c (l++[x]) tl og3 w2:=by
 have hsz:=h.kp.size
 refine⟨⟨h.cr.blk.keeps hk (λe=>e.elim h.cr.dr (λe=>h.cr.dg d e rfl)),hr,h.cr.dr,λg hg=>?_⟩,h.rd.keeps hk (λe=>e.elim (λe=>h.ap.2.1 e.symm) (λe=>h.g r e rfl)),h.kp.trans hk (λi hi hlt=>?_),?_,h.ap⟩
 ·rcases hog with f | ⟨k,f,hz⟩
  ·exact h.cr.dg g (by rw[<-f,hg])
  ·rw[hg]at f
   have:=Option.some.inj f
   have:=h.cr.blk.lt
   omega
 ·rcases hi with e | e
  ·exact .inr (.inl e)
  ·rcases h.fo with f | ⟨k,f,hz⟩
   ·exact .inr (.inr (by rw[<-f];exact e))
   ·have e2:og2=some i:=e
    rw[f]at e2
    have:=Option.some.inj e2
    omega
 ·rcases hog with f | ⟨k,f,hz⟩
  ·rw[f];exact h.fo
  ·exact .inr ⟨k,f,by omega⟩
theorem qU9(gs:List (List Int)): ∀b,b∈qEt gs->1<=b.sz:=by
 induction gs with
 | nil=>intro b hb;simp[qEt]at hb
 | cons g gs ih =>
  intro b hb
  rw[qEt,List.mem_append]at hb
  rcases hb with hb | hb
  ·obtain⟨t,_,rfl⟩:=List.mem_map.1 hb
   show(1:Int)<=2 ^ gs.length
   exact Int.add_one_le_iff.2 (Int.pow_pos (by omega))
  ·exact ih b hb
theorem qS6(d rr r kn:Nat)(og:Option Nat)(c:Cfg)(m acc rel:Int)(nv:Value)(gs:List (List Int))(tl:List Nat)(w:World)(h:CRep w d rr og c [])(hr:RdRep w r (qBe ((gs.length:Int)::qH7 gs)++tl))(hk:Blk w kn (qEl m acc rel nv) 184)(hap:d≠r/\rr≠r/\og≠some r)(hkn:kn≠r/\kn≠rr/\og≠some kn)(hc:LdC c.k m rel gs)(k1:1<=c.k)(k10:c.k<=10)(m1:m<=4611686018427387904)(r1:rel<=4611686018427387904):
  Calls Tryz.prog 149 #[.pointer (some ⟨d,0,none⟩),.pointer (some ⟨r,0,none⟩),.pointer (some ⟨kn,0,none⟩)] w λe w'=>e=.returned (.tuple #[])/\∃og2,CL w d rr r og c (qEt gs) tl og2 w':=by
 have hrl:=hr.blk.lt
 have HCK:=hide (show ∀w',Keeps (λi=>i=r\/i=rr\/og=some i) w w'->w'.cell? ⟨kn,0,none⟩=some (.int .i64 m)/\w'.cell? ⟨kn,2,none⟩=some (.int .i64 rel) from λw' hkp=>by
    have hn:¬(kn=r\/kn=rr\/og=some kn):=λe=>e.elim hkn.1 (λe=>e.elim hkn.2.1 hkn.2.2)
    exact⟨(hk.keeps hkp hn).cell rfl,(hk.keeps hkp hn).cell rfl⟩)
 have HCL:=hide (show CL w d rr r og c [] (enc (gs.length:Int)++(qBe (qH7 gs)++tl)) og w by
    rw[qAy,List.append_assoc]at hr
    exact⟨h,hr,Keeps.refl _ _,.inl rfl,⟨hap.1,hap.2.1,hap.2.2,hrl⟩⟩)
 have HC:=hide hc
 have hgl:=hc.len
 obtain⟨K,hK⟩:∃K,c.k=K:=⟨_,rfl⟩
 have HK:=hide hK
 rw[hK]at k1 k10
 obtain⟨S,hS⟩:∃S,gs.length=S:=⟨_,rfl⟩
 have HS:=hide hS
 rw[hS]at hgl
 clear h hr hk hc hap hkn hK hS
 have hwS:IntKind.i64.wrap ((S:Int)-1)=(S:Int)-1:=by rw[IntKind.wrap_i64];omega
 go_enter Tryz.func149,Tryz.ntmps149
 go_wp2_with fail
 refine((show CL w d rr r og c [] (enc (S:Int)++(qBe (qH7 gs)++tl)) og w by rw[<-uh HS];exact uh HCL).number (by omega) (by omega) (by omega) (by omega)).mono ?_
 rintro e w1 ⟨rfl,hl1⟩
 have HC1:=hide hl1
 clear hl1 HCL
 go_wp2_with fail
 go_loopw [6,7,8,9] (λa b t f wr=>∃(le it tm:Int) (gr:List (List Int)) (l:List Bk) (og2:Option Nat),a=.int .i64 le/\b=.int .i64 it/\t=.int .i64 tm/\f=.int .i64 ((gr.length:Int)-1)/\1<=le/\0<=it/\it<=rel/\0<=tm/\gr.length<=62/\Hid (l++qEt gr=qEt gs)/\Hid (qDx l=it)/\Hid (∀b,b∈qEt gr->tm<=b.t)/\Hid (∀g,gr.head?=some g->le<=(g.length:Int))/\Hid (∀g,g∈gr.tail->K<=(g.length:Int))/\Hid (∀g,g∈gr->(g.length:Int)<=K+1)/\Hid (CL w d rr r og c l (qBe (qH7 gr)++tl) og2 wr)) (λ_ _ _ f _=>(intOf f+1).toNat)
 case atStart =>
  refine⟨1,0,0,gs,[],_,rfl,rfl,rfl,by rw[uh HS],by omega,by omega,?_,by omega,by rw[uh HS];exact hgl,rfl,rfl,λb hb=>((uh HC).tm b hb).1,λg hg=>by have:=(uh HC).fst g hg;omega,λg hg=>?_,λg hg=>?_,HC1⟩
  ·have h1:=(uh HC).sum
   have h2:=qB2 (qU9 gs)
   omega
  ·have:=(uh HC).lst g hg
   rw[uh HK]at this
   exact this
  ·have:=(uh HC).cnt g hg
   rw[uh HK]at this
   exact this
 case round =>
  obtain⟨le,it,tm,gr,l,og2,rfl,rfl,rfl,rfl,le1,it0,it1,tm0,hg62,HLG,HSU,HTM,HHD,HTL,HCN,HL⟩:=hrel
  cases gr with
  | nil =>
   go_wp2
   go_end0
   have hE:l=qEt gs:=by have:=uh HLG;rw[qEt,List.append_nil]at this;exact this
   refine⟨rfl,og2,?_⟩
   rw[<-hE]
   exact uh HL
  | cons g gr =>
   obtain⟨f,hf⟩:∃f,gr.length=f:=⟨_,rfl⟩
   have HF:=hide hf
   have hf61:f<=61:=by rw[List.length_cons]at hg62;omega
   have e1:(((g::gr).length:Nat):Int)-1=(f:Int):=by rw[List.length_cons,hf];omega
   rw[e1]
   have hgK:=uh HCN g (by simp)
   have hgl1:=uh HHD g rfl
   obtain⟨q,hq⟩:∃q,g.length=q:=⟨_,rfl⟩
   rw[hq]at hgK hgl1
   have HQ:=hide hq
   have HLa:=hide (show CL w d rr r og c l (enc (q:Int)++(qBe g++(qBe (qH7 gr)++tl))) og2 wr by
      have:=uh HL
      rw[qH7,qAy,qAk,hq]at this
      simpa only[List.append_assoc] using this)
   have hck:wr.cell? ⟨d,4,none⟩=some (.int .i64 K):=by rw[<-uh HK];exact(uh HL).cr.blk.cell rfl
   have hwK:IntKind.i64.wrap (K+1)=K+1:=by rw[IntKind.wrap_i64];omega
   clear HL hf hq e1
   have hk0:(0:Int)<=(f:Int):=by omega
   go_wp2_with fail
   refine((uh HLa).number (by omega) (by omega) hgl1 hgK).mono ?_
   rintro e w2 ⟨rfl,hl2⟩
   have HL2:=hide hl2
   clear hl2 HLa hck hwK
   go_wp2_with fail
   have p2:=qMi f hf61
   obtain⟨P,hP⟩:∃P,(2:Int) ^ f=P:=⟨_,rfl⟩
   rw[hP]at p2
   obtain⟨p21,p22⟩:=p2
   have hwP:IntKind.i64.wrap P=P:=by rw[IntKind.wrap_i64];omega
   go_loopw [7,8,26] (λb t i wr=>∃(it tm:Int) (j:Nat) (l:List Bk) (og2:Option Nat),b=.int .i64 it/\t=.int .i64 tm/\i=.int .i64 (j:Int)/\j<=q/\0<=it/\it<=rel/\0<=tm/\Hid (l++((g.drop j).map (λt=>(⟨2 ^ f,t⟩:Bk))++qEt gr)=qEt gs)/\Hid (qDx l=it)/\Hid (∀b,b∈(g.drop j).map (λt=>(⟨2 ^ f,t⟩:Bk))++qEt gr->tm<=b.t)/\Hid (CL w d rr r og c l (qBe (g.drop j)++(qBe (qH7 gr)++tl)) og2 wr)) (λ_ _ i _=>q-(intOf i).toNat)
   case atStart =>
    have HGF:=hide (show qEt (g::gr)=g.map (λt=>(⟨2 ^ f,t⟩:Bk))++qEt gr by rw[qEt,uh HF])
    rw[uh HGF]at HLG HTM
    exact⟨it,tm,0,l,og2,rfl,rfl,rfl,Nat.zero_le _,it0,it1,tm0,HLG,HSU,HTM,HL2⟩
   case round =>
    clear HL2 HLG HSU HTM it0 it1 tm0
    obtain⟨it,tm,j,l,og2,rfl,rfl,rfl,hj,it0,it1,tm0,HLG,HSU,HTM,HL⟩:=hrel
    by_cases hjq:j<q
    ·obtain⟨t,ht⟩:∃t,g[j]?=some t:=⟨_,List.getElem?_eq_getElem (by rw[uh HQ];exact hjq)⟩
     have HDR:=hide (show g.drop j=t::g.drop (j+1) by
        have hlt:=List.getElem?_eq_some_iff.1 ht
        rw[List.drop_eq_getElem_cons hlt.1,hlt.2])
     rw[uh HDR,List.map_cons,List.cons_append]at HLG HTM
     rw[uh HDR,qAy,List.append_assoc]at HL
     have htm:=uh HTM ⟨2 ^ f,t⟩ (by simp)
     have hbm:(⟨2 ^ f,t⟩:Bk)∈qEt gs:=by rw[<-uh HLG];simp
     obtain⟨t0,t1⟩:=(uh HC).tm _ hbm
     have HSR:=hide (show ∀b,b∈(g.drop (j+1)).map (λt=>(⟨2 ^ f,t⟩:Bk))++qEt gr->t<=b.t by
        have:=(uh HC).srt
        rw[<-uh HLG]at this
        have h2:=(List.pairwise_append.1 this).2.1
        intro b hb
        exact(List.pairwise_cons.1 h2).1 b hb)
     have hsum:it+P<=rel:=by
      have h1:=(uh HC).sum
      rw[<-uh HLG,show l++((⟨2 ^ f,t⟩:Bk)::((g.drop (j+1)).map (λt=>(⟨2 ^ f,t⟩:Bk))++qEt gr))=(l++[⟨2 ^ f,t⟩])++((g.drop (j+1)).map (λt=>(⟨2 ^ f,t⟩:Bk))++qEt gr) by simp,qDn,qDn,uh HSU]at h1
      have h2:0<=qDx ((g.drop (j+1)).map (λt=>(⟨2 ^ f,t⟩:Bk))++qEt gr):=qB2 (λb hb=>qU9 gs b (by rw[<-uh HLG];exact List.mem_append_right _ (List.mem_cons_of_mem _ hb)))
      have h3:qDx [(⟨2 ^ f,t⟩:Bk)]=P:=by rw[<-hP];simp[qDx]
      omega
     have hlen:l.length<=4398046511104:=by
      have h1:=(uh HC).lnb
      rw[<-uh HLG,List.length_append]at h1
      omega
     have t0':0<=t:=t0
     have t1':t<=m:=t1
     have htm':tm<=t:=htm
     clear t0 t1 htm hbm
     obtain⟨ck0,ck2⟩:=uh HCK wr (uh HL).kp
     have hjI:(j:Int)<(q:Int):=by omega
     go_wp2_with fail
     refine((uh HL).number t0' (by omega) htm' t1').mono ?_
     rintro e w3 ⟨rfl,hl3⟩
     have HL3:=hide hl3
     clear hl3 HL ck0 ck2
     have hc20:w3.cell? ⟨d,20,none⟩=some (.pointer (some ⟨rr,0,none⟩)):=(uh HL3).cr.blk.cell rfl
     have hx:=show(⟨2 ^ f,t⟩:Bk).val=.agg #[.int .i64 P,.int .i64 t] by rw[<-hP];rfl
     go_wp2_with fail
     go_region_with (go_at_call 184;rw[<-hx];refine(rowPut_any rr og2 l ⟨2 ^ f,t⟩ _ (by exact(uh HL3).cr.row.still (Keeps.refl _ _).drew) hlen).mono ?_;rintro e w4 ⟨rfl,og3,hr4,hk4,hog⟩)
     have HL4:=hide (((uh HL3).still ((Keeps.refl _ _).drew)).put hr4 hk4 hog)
     clear hr4 hk4 hog HL3 hc20
     obtain⟨ck0,ck2⟩:=uh HCK w4 (uh HL4).kp
     have hwi:IntKind.i64.wrap (it+P)=it+P:=by rw[IntKind.wrap_i64];omega
     have hle:decide (it+P<=rel)=true:=by simpa using hsum
     go_wp2_with fail
     refine(qEr r _).mono ?_
     rintro e w5 ⟨rfl,hw5⟩
     rw[hw5]
     clear hw5 w5
     go_wp2
     go_roundw
     case rel=>exact⟨it+P,t,j+1,l++[⟨2 ^ f,t⟩],og3,rfl,rfl,by go_num,by omega,by omega,hsum,t0',by show _=_;rw[<-uh HLG];simp,by show qDx (l++[_])=_;rw[qDn,uh HSU,<-hP];simp[qDx],HSR,HL4⟩
     case measure=>simp[intOf];omega
    ·have hjE:j=q:=by omega
     subst hjE
     have hf':decide ((j:Int)<(j:Int))=false:=by simp
     have HE:=hide (show g.drop j=[] by rw[<-uh HQ];exact List.drop_length)
     rw[uh HE,List.map_nil,List.nil_append]at HLG HTM
     rw[uh HE,qB8,List.nil_append]at HL
     have hck:wr.cell? ⟨d,4,none⟩=some (.int .i64 K):=by rw[<-uh HK];exact(uh HL).cr.blk.cell rfl
     go_wp2
     go_roundw
     case rel=>exact⟨K,it,tm,gr,l,og2,rfl,rfl,rfl,by rw[uh HF],k1,it0,it1,tm0,by rw[uh HF];omega,HLG,HSU,HTM,λx hx=>uh HTL x (List.mem_of_mem_head? hx),λx hx=>uh HTL x (List.mem_of_mem_tail hx),λx hx=>uh HCN x (List.mem_cons_of_mem _ hx),HL⟩
     case measure=>simp[intOf]
end
section
theorem zCx{g i:Nat}(h:g+1<=i): (2:Int) ^ i≠2 ^ g:=by
 intro e
 have h1:(2:Nat) ^ i=2 ^ g:=by exact_mod_cast e
 have h2:(2:Nat) ^ g<2 ^ i:=Nat.pow_lt_pow_right (by omega) (by omega)
 omega
theorem qVk{H a:List Bk}(S:List Bk){j:Nat}(hj:j<a.length): qB7 (H++a++S) (H.length+j)=a[j]:=by
 unfold qB7
 rw[List.append_assoc,List.getD_eq_getElem?_getD,List.getElem?_append_right (by omega),Nat.add_sub_cancel_left,List.getElem?_append_left hj,List.getElem?_eq_getElem hj]
 rfl
theorem zCm{H:List Bk}(S:List Bk){j:Nat}(hj:j<H.length): qB7 (H++S) j=H[j]:=by
 unfold qB7
 rw[List.getD_eq_getElem?_getD,List.getElem?_append_left hj,List.getElem?_eq_getElem hj]
 rfl
theorem qWj{H:List Bk}(b0 b1:Bk)(a' S:List Bk)(x:Bk): qDg (H++(b0::b1::a')++S) H.length x=H++[x]++(a'++S):=by
 unfold qDg
 have e:H++(b0::b1::a')++S=H++(b0::b1::(a'++S)):=by simp
 rw[e,List.take_left,<-List.drop_drop,List.drop_left]
 simp
end
section
open Go.RowKit
def qX6(g:Nat): List (List Int)->List Bk
 | []=>[]
 | x::xs=>x.map (λt=>⟨2 ^ (g+xs.length),t⟩)++qX6 g xs
def GsOk(K:Nat): List (List Int)->Prop
 | []=>True
 | x::xs=>1<=x.length/\x.length<=K+1/\∀h,h∈xs->K<=h.length/\h.length<=K+1
theorem qR2: ∀gs,qX6 0 gs=qEt gs
 | []=>rfl
 | x::xs=>by unfold qX6 qEt;rw[qR2 xs,Nat.zero_add]
theorem qLm(g:Nat)(ts:List Int): ∀hs,qX6 g (hs++[ts])=qX6 (g+1) hs++ts.map (λt=>⟨2 ^ g,t⟩)
 | []=>by simp[qX6]
 | x::xs=>by
  rw[List.cons_append]
  unfold qX6
  rw[qLm g ts xs,List.length_append,List.length_singleton,show g+(xs.length+1)=g+1+xs.length by omega,List.append_assoc]
def Lw(K g:Nat)(l:List Bk): Prop:=∃gs,l=qX6 g gs/\GsOk K gs
theorem Lw.nil(K g:Nat): Lw K g []:=⟨[],rfl,trivial⟩
theorem Lw.put{K g:Nat}{H a:List Bk}(h:Lw K (g+1) H)(ha:∀b∈a,b.sz=2 ^ g)(h1:1<=a.length)(hl:a.length<=K+1)(hk:H≠[]->K<=a.length): Lw K g (H++a):=by
 obtain⟨gs,e,hg⟩:=h
 have ea:(a.map (·.t)).map (λt=>(⟨2 ^ g,t⟩:Bk))=a:=by
  rw[List.map_map]
  conv=>rhs;rw[<-List.map_id a]
  refine List.map_congr_left (λb hb=>?_)
  show(⟨2 ^ g,b.t⟩:Bk)=b
  rw[<-ha b hb]
 refine⟨gs++[a.map (·.t)],by rw[qLm,e,ea],?_⟩
 cases gs with
 | nil=>exact⟨by simpa using h1,by simpa using hl,λh hh=>by cases hh⟩
 | cons x xs =>
  obtain⟨g1,g2,g3⟩:=hg
  have hne:H≠[]:=by
   rw[e];unfold qX6
   intro e2
   have h9:=congrArg List.length e2
   rw[List.length_append,List.length_map,List.length_nil]at h9
   omega
  refine⟨g1,g2,λh hh=>?_⟩
  rcases List.mem_append.1 hh with hh | hh
  ·exact g3 h hh
  ·rw[List.mem_singleton]at hh;subst hh;rw[List.length_map];exact⟨hk hne,hl⟩
theorem Lw.get{K g:Nat}{l:List Bk}(h:Lw K g l): ∃H a,l=H++a/\Lw K (g+1) H/\(∀b∈a,b.sz=2 ^ g)/\a.length<=K+1/\(H≠[]->K<=a.length):=by
 obtain⟨gs,e,hg⟩:=h
 rcases List.eq_nil_or_concat gs with e2 | ⟨hs,ts,e2⟩
 ·subst e2;exact⟨[],[],e,Lw.nil K _,(λb hb=>by cases hb),Nat.zero_le _,λh=>absurd rfl h⟩
 ·rw[List.concat_eq_append]at e2
  subst e2
  rw[qLm]at e
  refine⟨_,_,e,⟨hs,rfl,?_⟩,λb hb=>?_,?_,λhne=>?_⟩
  ·cases hs with
   | nil=>trivial
   | cons x xs=>exact⟨hg.1,hg.2.1,λh hh=>hg.2.2 h (List.mem_append_left _ hh)⟩
  ·obtain⟨t,_,rfl⟩:=List.mem_map.1 hb;rfl
  ·rw[List.length_map]
   cases hs with
   | nil=>exact hg.2.1
   | cons x xs=>exact(hg.2.2 ts (List.mem_append_right _ (List.mem_singleton.2 rfl))).2
  ·rw[List.length_map]
   cases hs with
   | nil=>exact absurd rfl hne
   | cons x xs=>exact(hg.2.2 ts (List.mem_append_right _ (List.mem_singleton.2 rfl))).1
theorem zAl(g:Nat): ∀gs,∀b∈qX6 g gs,∃i,g<=i/\b.sz=2 ^ i
 | []=>λb hb=>by cases hb
 | x::xs=>λb hb=>by
  unfold qX6 at hb
  rcases List.mem_append.1 hb with hb | hb
  ·obtain⟨t,_,rfl⟩:=List.mem_map.1 hb;exact⟨_,Nat.le_add_right _ _,rfl⟩
  ·exact zAl g xs b hb
theorem Lw.drop{K g:Nat}(hK:1<=K)(n:Nat): ∀ {l:List Bk},Lw K g l->Lw K g (l.drop n):=by
 induction n with
 | zero=>intro l h;exact h
 | succ n ih =>
  intro l h
  have h1:Lw K g (l.drop 1):=by
   obtain⟨gs,e,hg⟩:=h
   match gs,e,hg with
   | [],e,_=>subst e;exact Lw.nil K g
   | []::xs,_,hg=>exact absurd hg.1 (by simp)
   | [t]::[],e,_=>subst e;exact Lw.nil K g
   | [t]::y::ys,e,hg =>
    subst e
    refine⟨y::ys,rfl,?_,?_,λh hh=>hg.2.2 h (by simp[hh])⟩
    ·have:=(hg.2.2 y (by simp)).1;omega
    ·exact(hg.2.2 y (by simp)).2
   | (t::u::x)::xs,e,hg =>
    subst e
    refine⟨(u::x)::xs,rfl,by simp,?_,hg.2.2⟩
    have:=hg.2.1
    simp at this ⊢;omega
  have:=ih h1
  rw[List.drop_drop]at this
  rw[show n+1=1+n by omega]
  exact this
theorem zF1{g:Nat}{H a:List Bk}(S:List Bk)(hH:∀b∈H,∃i,g+1<=i/\b.sz=2 ^ i)(ha:∀b∈a,b.sz=2 ^ g): ∀j,j<=a.length->qCe (H++a++S) (2 ^ g) (H.length+j)=H.length:=by
 intro j
 induction j with
 | zero =>
  intro _
  rw[Nat.add_zero]
  cases hn:H.length with
  | zero=>rfl
  | succ n =>
   unfold qCe
   rw[if_neg]
   rw[List.append_assoc,zCm (a++S) (by omega:n<H.length)]
   obtain⟨i,hi,hs⟩:=hH H[n] (List.getElem_mem _)
   rw[hs];exact zCx hi
 | succ j ih =>
  intro hj
  rw[<-Nat.add_assoc]
  unfold qCe
  rw[if_pos (by rw[qVk S (by omega)];exact ha _ (List.getElem_mem _))]
  exact ih (by omega)
theorem zCi{K:Nat}(hK:1<=K)(f:Nat): ∀(g:Nat) (H a S:List Bk),Lw K (g+1) H->(∀b∈a,b.sz=2 ^ g)->1<=a.length->a.length<=K+2->(H≠[]->K<=a.length)->(H.length<f\/a.length<=K+1)->(∀Q,Q≠[]->Lw K g Q->Lw K 0 (Q++S)) ->
  Lw K 0 (joinL (K:Int) f (H++a++S) (2 ^ g) (H.length+a.length))/\((joinL (K:Int) f (H++a++S) (2 ^ g) (H.length+a.length)).map (·.t)).Sublist ((H++a++S).map (·.t)):=by
 have hap:∀ {H a:List Bk},1<=a.length->H++a≠[]:=fun {H a} h e=>by
  have h9:=congrArg List.length e
  rw[List.length_append,List.length_nil]at h9;omega
 induction f with
 | zero =>
  intro g H a S hH ha h1 hl hk hf hS
  rcases hf with h | h
  ·omega
  ·exact⟨hS _ (hap h1) (hH.put ha h1 h hk),List.Sublist.refl _⟩
 | succ f ih =>
  intro g H a S hH ha h1 hl hk hf hS
  unfold joinL
  rw[zF1 S (by obtain⟨gs,e,_⟩:=hH;rw[e];exact zAl _ gs) ha a.length (Nat.le_refl _)]
  by_cases hc:((H.length+a.length:Nat):Int)-(H.length:Int)<=(K:Int)+1
  ·rw[if_pos hc]
   exact⟨hS _ (hap h1) (hH.put ha h1 (by omega) hk),List.Sublist.refl _⟩
  ·rw[if_neg hc]
   match a,ha,h1,hl,hk,hf,hc with
   | [],_,h1,_,_,_,_=>simp at h1
   | [_],_,_,_,_,_,hc=>simp at hc;omega
   | b0::b1::a',ha,_,hl,hk,hf,hc =>
    have hl2:a'.length+2<=K+2:=by simpa using hl
    have hl3:K<=a'.length:=by simp at hc;omega
    rw[qWj]
    have hb1:(qB7 (H++b0::b1::a'++S) (H.length+1)).t=b1.t:=by rw[qVk S (by simp)];rfl
    rw[hb1]
    obtain⟨H',a2,e2,g1,g2,g3,g4⟩:=hH.get
    have hx:(2:Int)*2 ^ g=2 ^ (g+1):=by rw[Int.pow_succ,Int.mul_comm]
    rw[hx]
    have e3:H++[(⟨2 ^ (g+1),b1.t⟩:Bk)]++(a'++S)=H'++(a2++[(⟨2 ^ (g+1),b1.t⟩:Bk)])++(a'++S):=by rw[e2];simp only[List.append_assoc]
    have e4:H.length+1=H'.length+(a2++[(⟨2 ^ (g+1),b1.t⟩:Bk)]).length:=by rw[e2,List.length_append,List.length_append];simp;omega
    have hsub:((H++[(⟨2 ^ (g+1),b1.t⟩:Bk)]++(a'++S)).map (·.t)).Sublist ((H++b0::b1::a'++S).map (·.t)):=by
     simp only[List.map_append,List.map_cons,List.append_assoc,List.cons_append,List.nil_append]
     exact List.Sublist.append_left (List.Sublist.cons _ (List.Sublist.refl _)) _
    rw[e3]at hsub ⊢
    rw[e4]
    have:=ih (g+1) H' (a2++[(⟨2 ^ (g+1),b1.t⟩:Bk)]) (a'++S) g1 (λb hb=>by
       rcases List.mem_append.1 hb with hb | hb
       ·exact g2 b hb
       ·rw[List.mem_singleton]at hb;rw[hb]) (by rw[List.length_append];simp) (by rw[List.length_append];simp;omega) (λhn=>by have:=g4 hn;rw[List.length_append];omega) (by
       by_cases ha2:a2=[]
       ·right;rw[ha2];simp
       ·left
        have hpos:0<a2.length:=List.length_pos_iff.2 ha2
        have hHl:H.length=H'.length+a2.length:=by rw[e2,List.length_append]
        rcases hf with h | h
        ·omega
        ·simp at h hc;omega) (λQ hn hQ=>by
       rw[<-List.append_assoc]
       exact hS _ (hap (by omega)) (hQ.put (λb hb=>ha b (by simp[hb])) (by omega) (by omega) (λ_=>hl3)))
    exact⟨this.1,this.2.trans hsub⟩
theorem zEx{c:Cfg}{K:Nat}(hK:1<=K)(hc:c.k=K)(l:List Bk)(t m:Int)(h:Lw K 0 l): Lw K 0 (zAp c l t m)/\((zAp c l t m).map (·.t)).Sublist (l.map (·.t)++[t]):=by
 unfold zAp qSq qSo
 rw[hc]
 have hsb:(((l.drop (pastN l (m-c.window)))).map (·.t)).Sublist (l.map (·.t)):=(List.drop_sublist _ _).map _
 obtain⟨H,a,e,h1,h2,h3,h4⟩:=(h.drop hK (pastN l (m-c.window))).get
 rw[e]at hsb ⊢
 have:=zCi hK ((H++a++[(⟨1,t⟩:Bk)]).length+1) 0 H (a++[(⟨1,t⟩:Bk)]) [] h1 (λb hb=>by
    rcases List.mem_append.1 hb with hb | hb
    ·exact h2 b hb
    ·rw[List.mem_singleton]at hb;rw[hb];rfl) (by rw[List.length_append];simp) (by rw[List.length_append];simp;omega) (λhn=>by have:=h4 hn;rw[List.length_append];omega) (.inl (by simp;omega)) (λQ _ hQ=>by rw[List.append_nil];exact hQ)
 rw[List.append_nil,<-List.append_assoc]at this
 have e2:H.length+(a++[(⟨1,t⟩:Bk)]).length=(H++a++[(⟨1,t⟩:Bk)]).length:=by simp only[List.length_append,List.length_singleton];omega
 rw[e2]at this
 refine⟨this.1,this.2.trans ?_⟩
 rw[List.map_append]
 exact hsb.append_right _
theorem qY1{α:Type}{p:α->Bool}(a r:List α)(ha:∀x∈a,p x=true)(hr:∀x,r.head?=some x->p x=false): (a++r).takeWhile p=a:=by
 induction a with
 | nil =>
  cases r with
  | nil=>rfl
  | cons x r=>rw[List.nil_append,List.takeWhile_cons_of_neg (by rw[hr x rfl];simp)]
 | cons x a ih=>rw[List.cons_append,List.takeWhile_cons_of_pos (ha x (by simp)),ih (λy hy=>ha y (by simp[hy]))]
theorem zDv(gs:List (List Int)): ∀(pre:List Bk),qWh (pre++qEt gs) gs.length pre.length=qH7 gs:=by
 induction gs with
 | nil=>intro pre;rfl
 | cons x xs ih =>
  intro pre
  have e:(pre++qEt (x::xs)).drop pre.length=qEt (x::xs):=List.drop_left
  have e1:qLl (pre++qEt (x::xs)) (2 ^ xs.length) pre.length=pre.length+x.length:=by
   unfold qLl
   rw[e]
   unfold qEt
   rw[qY1 _ _ (λb hb=>by obtain⟨t,_,rfl⟩:=List.mem_map.1 hb;simp) (λb hb=>by
        have hm:b∈qEt xs:=List.mem_of_head? hb
        have:∃i,i<xs.length/\b.sz=2 ^ i:=by
         clear ih e hb
         induction xs with
         | nil=>cases hm
         | cons z zs ih2 =>
          unfold qEt at hm
          rcases List.mem_append.1 hm with hm | hm
          ·obtain⟨t,_,rfl⟩:=List.mem_map.1 hm;exact⟨zs.length,by simp,rfl⟩
          ·obtain⟨i,h1,h2⟩:=ih2 hm;exact⟨i,by simp;omega,h2⟩
        obtain⟨i,hi,hs⟩:=this
        simp only[decide_eq_false_iff_not]
        rw[hs]
        exact λh=>zCx (g:=i) (i:=xs.length) (by omega) h.symm),List.length_map]
  rw[List.length_cons,qMe,e1,show pre.length+x.length-pre.length=x.length by omega,e]
  have e2:(qEt (x::xs)).take x.length=x.map (λt=>(⟨2 ^ xs.length,t⟩:Bk)):=by
   unfold qEt
   rw[List.take_append_of_le_length (by simp),List.take_of_length_le (by simp)]
  have e3:qWh (pre++qEt (x::xs)) xs.length (pre.length+x.length)=qH7 xs:=by
   have:=ih (pre++x.map (λt=>(⟨2 ^ xs.length,t⟩:Bk)))
   rw[List.append_assoc,List.length_append,List.length_map]at this
   exact this
  rw[e2,e3,List.map_map]
  show(x.length:Int)::(x.map id++qH7 xs)=(x.length:Int)::(x++qH7 xs)
  rw[List.map_id]
theorem zDq{K:Nat}{gs:List (List Int)}(h:GsOk K gs): zCe (qEt gs)=(gs.length:Int)::qH7 gs:=by
 have hs:qEy (qEt gs)=gs.length:=by
  unfold qEy
  cases gs with
  | nil=>rfl
  | cons x xs =>
   cases x with
   | nil=>exact absurd h.1 (by simp)
   | cons t x =>
    rw[if_neg (by simp[qEt])]
    show bitLen ((2:Int) ^ xs.length).toNat=_
    have:((2:Int) ^ xs.length).toNat=2 ^ xs.length:=by
     rw[show(2:Int) ^ xs.length=((2 ^ xs.length:Nat):Int) by simp];rfl
    rw[this,qV6];rfl
 unfold zCe
 rw[hs]
 congr 1
 exact zDv gs []
theorem zBb{K:Nat}: ∀gs,GsOk K gs->(qEt gs).length<=gs.length*(K+1)
 | [],_=>by simp[qEt]
 | x::xs,h=>by
  have:∀ys:List (List Int),(∀h,h∈ys->h.length<=K+1)->(qEt ys).length<=ys.length*(K+1):=by
   intro ys
   induction ys with
   | nil=>intro _;simp[qEt]
   | cons y ys ih =>
    intro hy
    have h1:=ih (λh hh=>hy h (by simp[hh]))
    have h2:=hy y (by simp)
    unfold qEt
    rw[List.length_append,List.length_map,List.length_cons,Nat.succ_mul];omega
  exact this (x::xs) (λg hg=>by
     rcases List.mem_cons.1 hg with e | e
     ·subst e;exact h.2.1
     ·exact(h.2.2 g e).2)
def qKi(lv:Nat->List Bk): Nat->Nat->List Int
 | 0,_=>[]
 | k+1,s=>((lv s).length:Int)::(qDm (lv s)++qKi lv k (s+1))
def qO8(lv:Nat->List Bk): Nat->Nat->Nat
 | 0,_=>0
 | k+1,s=>(lv s).length+qO8 lv k (s+1)
structure LdD (m rel:Int) (n:Nat) (lv:Nat->List Bk):Prop where
 len:∀i,(lv i).length<=40
 tm:∀i b,b∈lv i->0<=b.sz/\b.sz<=m/\1<=b.t/\b.t<=40
 srt:∀i,(lv i).Pairwise (λa b=>a.sz<b.sz/\b.t<a.t)
 sum:(qO8 lv n 0:Int)<=rel
structure DL (w:World) (d rg r:Nat) (qs0:List (Nat×Option Nat)) (c:Cfg) (ls:Nat->List Bk) (tl:List Nat) (qs:List (Nat×Option Nat)) (wr:World):Prop where
 dr:DRep wr d rg qs c ls
 rd:RdRep wr r tl
 ln:qs.length=qs0.length
 fo:∀i a,i<qs.length->qf (qAt qs i) a->(∃j,j<qs0.length/\qf (qAt qs0 j) a)\/w.heap.size<=a
 kp:Keeps (λa=>a=r\/∃j,j<qs0.length/\qf (qAt qs0 j) a) w wr
 ap:d≠r/\rg≠r/\(∀j,j<qs0.length->¬qf (qAt qs0 j) r)/\r<w.heap.size
theorem DL.apart{w:World}{d rg r:Nat}{qs0:List (Nat×Option Nat)}{c:Cfg}{ls:Nat->List Bk}{tl:List Nat}{qs:List (Nat×Option Nat)}{wr:World}(h:DL w d rg r qs0 c ls tl qs wr)(i a:Nat)(hi:i<qs.length)(hq:qf (qAt qs i) a): a≠r:=λe=>by
 rcases h.fo i a hi hq with ⟨j,hj,f⟩ | f
 ·exact h.ap.2.2.1 j hj (by rw[<-e];exact f)
 ·have:=h.ap.2.2.2;omega
theorem DL.still{w:World}{d rg r:Nat}{qs0:List (Nat×Option Nat)}{c:Cfg}{ls:Nat->List Bk}{tl:List Nat}{qs:List (Nat×Option Nat)}{wr w2:World}(h:DL w d rg r qs0 c ls tl qs wr)(hk:Keeps (λ_=>False) wr w2): DL w d rg r qs0 c ls tl qs w2 :=
 ⟨h.dr.still hk,h.rd.keeps hk (λh=>h),h.ln,h.fo,h.kp.trans hk (λ_ h _=>h.elim),h.ap⟩
theorem DL.new{w:World}{d rg r:Nat}{qs0:List (Nat×Option Nat)}{c:Cfg}{ls:Nat->List Bk}{tl:List Nat}{qs:List (Nat×Option Nat)}{wr w2:World}{bx:Nat}(h:DL w d rg r qs0 c ls tl qs wr)(hk:Keeps (λi=>i=bx) wr w2)(hb:bx≠d/\bx≠rg/\bx≠r/\w.heap.size<=bx)(hq:∀i,i<qs.length->¬qf (qAt qs i) bx): DL w d rg r qs0 c ls tl qs w2 :=
 ⟨h.dr.keeps hk (λe=>hb.1 e.symm) (λe=>hb.2.1 e.symm) (λi a hi hf e=>hq i hi (by rw[<-show a=bx from e];exact hf)),h.rd.keeps hk (λe=>hb.2.2.1 e.symm),h.ln,h.fo,h.kp.trans hk (λi hi hlt=>by have hi2:i=bx:=hi;omega),h.ap⟩
theorem DL.number{w:World}{d rg r:Nat}{qs0:List (Nat×Option Nat)}{c:Cfg}{ls:Nat->List Bk}{n lo hi:Int}{tl:List Nat}{qs:List (Nat×Option Nat)}{wr:World}(h:DL w d rg r qs0 c ls (enc n++tl) qs wr)(n0:0<=n)(n1:n<=9223372036854775807)(h1:lo<=n)(h2:n<=hi):
  Calls Tryz.prog 88 #[.pointer (some ⟨r,0,none⟩),.int .i64 lo,.int .i64 hi] wr λe w2=>e=.returned (.int .i64 n)/\DL w d rg r qs0 c ls tl qs w2/\Keeps (λi=>i=r) wr w2:=by
 refine(qB3 r n lo hi tl wr h.rd n0 n1 h1 h2).mono ?_
 rintro e w2 ⟨rfl,hr,hk⟩
 exact⟨rfl,⟨h.dr.keeps hk h.ap.1 h.ap.2.1 (λi a hi hf=>h.apart i a hi hf),hr,h.ln,h.fo,h.kp.trans hk (λ_ h _=>.inl h),h.ap⟩,hk⟩
def zGt(ls:Nat->List Bk)(i:Nat)(x:Bk): Nat->List Bk:=λj=>if j=i then ls i++[x] else ls j
theorem DL.put{w:World}{d rg r:Nat}{qs0:List (Nat×Option Nat)}{c:Cfg}{ls:Nat->List Bk}{tl:List Nat}{qs:List (Nat×Option Nat)}{wr w2:World}{i:Nat}{x:Bk}{og:Option Nat}(h:DL w d rg r qs0 c ls tl qs wr)(hIQ:i<qs.length)(hr:Mk.RowRep w2 (qAt qs i).1 og (ls i++[x]))(hk:Keeps (λk=>k=(qAt qs i).1\/(qAt qs i).2=some k) wr w2)(hog:og=(qAt qs i).2\/∃k,og=some k/\wr.heap.size<=k):
  DL w d rg r qs0 c (zGt ls i x) tl (qs.set i ((qAt qs i).1,og)) w2:=by
 have hsz:=h.kp.size
 have hset:∀j,j<qs.length->qAt (qs.set i ((qAt qs i).1,og)) j=if j=i then((qAt qs i).1,og) else qAt qs j:=λj hj=>by
  unfold qAt
  simp only[List.getD_eq_getElem?_getD,List.getElem?_set]
  by_cases h:i=j
  ·subst h;simp[hj]
  ·simp[h,Ne.symm h]
 have hD1:=h.dr
 have hfoot:∀a,qf ((qAt qs i).1,og) a->qf (qAt qs i) a\/wr.heap.size<=a:=λa ha=>by
  rcases ha with ha | ha
  ·exact .inl (.inl ha)
  ·rcases hog with h | ⟨k,h,hk⟩
   ·exact .inl (.inr (by rw[<-h];exact ha))
   ·have ha':og=some a:=ha
    rw[h]at ha'
    injection ha' with ha'
    exact .inr (by omega)
 have hfresh:∀a,wr.heap.size<=a->a≠d/\a≠rg/\∀j,j<qs.length->¬qf (qAt qs j) a:=λa ha=>by
  refine⟨λh=>?_,λh=>?_,λj hj h=>?_⟩
  ·have:=hD1.blk.lt;omega
  ·have:=hD1.reg.lt;omega
  ·rcases h with h | h
   ·have:=(hD1.row j hj).lt.1;omega
   ·have:=((hD1.row j hj).lt.2 a h).1;omega
 refine⟨⟨?_,?_,?_,?_,?_,hD1.dr⟩,h.rd.keeps hk (λe=>h.apart i r hIQ e rfl),by rw[List.length_set];exact h.ln,?_,h.kp.trans hk (λa ha hlt=>?_),h.ap⟩
 ·rw[List.length_set]
  exact hD1.blk.keeps hk (λe=>(hD1.nd i hIQ).1 e)
 ·have:qFv (qs.set i ((qAt qs i).1,og))=qFv qs:=by
   unfold qFv
   rw[List.map_set]
   apply List.ext_getElem?
   intro j
   rw[List.getElem?_set]
   split
   ·rename_i h;subst h
    split
    ·rename_i h2
     have:=qGk hIQ
     unfold qFv at this
     rw[this]
    ·rename_i h2;simp at h2;omega
   ·rfl
  rw[this]
  exact hD1.reg.keeps hk (λe=>(hD1.nd i hIQ).2 e)
 ·intro j hj
  rw[List.length_set]at hj
  rw[hset j hj]
  unfold zGt
  by_cases hji:j=i
  ·subst hji
   rw[if_pos rfl,if_pos rfl]
   exact hr
  ·rw[if_neg hji,if_neg hji]
   exact(hD1.row j hj).keeps hk (λh=>hji (hD1.dj j i _ hj hIQ (.inl rfl) h)) (λg hg h=>hji (hD1.dj j i g hj hIQ (.inr hg) h))
 ·intro j1 j2 a h1 h2 f1 f2
  rw[List.length_set]at h1 h2
  rw[hset j1 h1]at f1
  rw[hset j2 h2]at f2
  by_cases e1:j1=i <;> by_cases e2:j2=i
  ·omega
  ·rw[if_pos e1]at f1;rw[if_neg e2]at f2
   rcases hfoot a f1 with h | h
   ·exact e1.trans (hD1.dj i j2 a hIQ h2 h f2)
   ·exact((hfresh a h).2.2 j2 h2 f2).elim
  ·rw[if_neg e1]at f1;rw[if_pos e2]at f2
   rcases hfoot a f2 with h | h
   ·exact(hD1.dj j1 i a h1 hIQ f1 h).trans e2.symm
   ·exact((hfresh a h).2.2 j1 h1 f1).elim
  ·rw[if_neg e1]at f1;rw[if_neg e2]at f2
   exact hD1.dj j1 j2 a h1 h2 f1 f2
 ·intro j hj
  rw[List.length_set]at hj
  rw[hset j hj]
  by_cases e1:j=i
  ·rw[if_pos e1]
   refine⟨λf=>?_,λf=>?_⟩
   ·rcases hfoot _ f with h | h
    ·exact(hD1.nd i hIQ).1 h
    ·exact(hfresh _ h).1 rfl
   ·rcases hfoot _ f with h | h
    ·exact(hD1.nd i hIQ).2 h
    ·exact(hfresh _ h).2.1 rfl
  ·rw[if_neg e1]
   exact hD1.nd j hj
 ·intro j a hj f
  rw[List.length_set]at hj
  rw[hset j hj]at f
  by_cases e1:j=i
  ·rw[if_pos e1]at f
   rcases hfoot a f with g | g
   ·exact h.fo i a hIQ g
   ·exact .inr (by omega)
  ·rw[if_neg e1]at f
   exact h.fo j a hj f
 ·rcases h.fo i a hIQ ha with g | g
  ·exact .inr g
  ·omega
theorem zHb{qs:List (Nat×Option Nat)}{wr:World}{i bx:Nat}{og:Option Nat}(hog:og=(qAt qs i).2\/∃k,og=some k/\wr.heap.size<=k)(hbx:bx<wr.heap.size)(hq:∀j,j<qs.length->¬qf (qAt qs j) bx): ∀j,j<(qs.set i ((qAt qs i).1,og)).length->¬qf (qAt (qs.set i ((qAt qs i).1,og)) j) bx:=by
 intro j hj f
 rw[List.length_set]at hj
 unfold qAt at f
 simp only[List.getD_eq_getElem?_getD,List.getElem?_set]at f
 by_cases e:i=j
 ·subst e
  simp only[hj,if_pos]at f
  rcases f with f | f
  ·exact hq i hj (.inl f)
  ·rcases hog with g | ⟨k,g,hz⟩
   ·exact hq i hj (.inr (g ▸ f))
   ·have f2:og=some bx:=f
    rw[g]at f2
    have:=Option.some.inj f2
    omega
 ·rw[if_neg e]at f
  exact hq j hj (by unfold qAt;rw[List.getD_eq_getElem?_getD];exact f)
def unT(z:Dr.It): It:=⟨z.t,z.k,z.d,z.n⟩
structure NZ (k:Nat) (c:Cfg) (rel last:Int) (nt:Note):Prop where
 dec:k=4->rel<=nt.q*2305843009213693952+nt.r/\nt.q*2305843009213693952+nt.r<=rel*2305843009213693952
 cnt:k=1->Lw c.k.toNat 0 nt.bs/\(nt.bs.map (·.t)).Pairwise (·<=·)/\∀t,t∈nt.bs.map (·.t)->0<=t/\t<=last
 dis:k=2->(∀j,SortB (nt.rg j))/\(∀j b,b∈nt.rg j->0<=b.sz/\b.sz<=last)/\(qO8 nt.rg (qG6 c) 0:Int)<=rel
 oft:k=3->OZ c c.rows.toNat c.width.toNat rel nt.op nt.cl
 drw:k=5->Dr.HeapT nt.tk/\(nt.tk.length:Int)=(if c.size+1<rel then c.size+1 else rel)/\∀z,z∈nt.tk->z=tick c (unT z)/\qDb c 5 (unT z)=0/\0<=z.t/\z.t<=last
theorem NZ.zero(k:Nat)(c:Cfg)(hs:k=5->1<=c.size): NZ k c 0 0 qFy where
 dec:=λ_=>⟨Int.le_refl _,Int.le_refl _⟩
 cnt:=λ_=>⟨Lw.nil _ _,List.Pairwise.nil,λt ht=>by cases ht⟩
 dis:=λ_=>⟨λ_=>List.Pairwise.nil,λ_ b hb=>(by cases hb),by
    have:∀n s,qO8 (λ_=>[]) n s=0:=by
     intro n
     induction n with
     | zero=>intro s;rfl
     | succ n ih=>intro s;unfold qO8;rw[ih];rfl
    show((qO8 (λ_=>[]) _ 0:Nat):Int)<=0
    rw[this];exact Int.le_refl _⟩
 oft:=λ_=>OZ.zero c _ _
 drw:=λh=>⟨⟨λj hj=>by simp[qFy]at hj,λi _ hi=>by simp[qFy]at hi⟩,by rw[if_neg (by have:=hs h;omega)];rfl,λz hz=>by cases hz⟩
theorem zAm(b:Int)(hb:1<=b)(n:Nat): ∀p,1<=p->(qGt b n p).isSome=true->1<=qCb (qGt b n p):=by
 induction n with
 | zero=>intro p hp _;exact hp
 | succ n ih =>
  intro p hp h
  unfold qGt at h ⊢
  split at h
  ·cases h
  ·rename_i h1
   rw[if_neg h1]
   exact ih _ (qZd p b hp hb h1).1 h
theorem qWi{c:Cfg}{t:Int}(h:(qBf c t).isSome=true): 1<=qCb (qBf c t):=by
 unfold qBf at h ⊢
 split at h
 ·cases h
 ·rename_i h1
  rw[if_neg h1]
  split at h
  ·rename_i h2
   rw[if_pos h2]
   exact zAm _ (by omega) _ 1 (by omega) h
  ·rename_i h2
   rw[if_neg h2]
   split at h
   ·cases h
   ·rename_i h3
    rw[if_neg h3]
    exact zCb _
theorem qV3{c:Cfg}{y:It}(h:qDb c 4 y=0): (qBf c y.t).isSome=true:=by
 have h1:qFf c y=0:=h
 unfold qFf at h1
 split at h1
 ·assumption
 ·omega
theorem qOc{c:Cfg}{y:It}(h:qDb c 5 y=0): (0<=y.k/\y.k<=2147483648)/\1<=y.d/\y.d<=2147483648:=by
 have h1:qIy c y=0:=h
 unfold qIy at h1
 split at h1
 ·split at h1
  ·rename_i hk
   split at h1
   ·rename_i hd
    exact⟨by simpa[inB] using hk,by simpa[inB] using hd⟩
   ·omega
  ·omega
 ·omega
theorem qJo{c:Cfg}{y:It}(h:qDb c 5 y=0): Dr.dpos (tick c y):=by
 have:=(qOc h).2
 show 0<y.d%18446744073709551616
 omega
theorem zDu{a b:Nat->List Bk}(i:Nat)(h:∀j,j≠i->(a j).length=(b j).length)(hi:(a i).length<=(b i).length+1): ∀n s,qO8 a n s<=qO8 b n s+(if s<=i/\i<s+n then 1 else 0):=by
 intro n
 induction n with
 | zero=>intro s;simp[qO8]
 | succ n ih =>
  intro s
  unfold qO8
  have h1:=ih (s+1)
  by_cases e:s=i
  ·subst e
   rw[if_neg (by omega)]at h1
   rw[if_pos (by omega)];omega
  ·have h2:=h s e
   by_cases e2:s+1<=i/\i<s+1+n
   ·rw[if_pos e2]at h1
    rw[if_pos (by omega)];omega
   ·rw[if_neg e2]at h1;omega
theorem qRs{a b:Nat->List Bk}(h:∀j,(a j).length<=(b j).length): ∀n s,qO8 a n s<=qO8 b n s:=by
 intro n
 induction n with
 | zero=>intro s;exact Nat.le_refl _
 | succ n ih=>intro s;have:=ih (s+1);have:=h s;unfold qO8;omega
theorem SortB.drop{l:List Bk}(h:SortB l)(n:Nat): SortB (l.drop n):=List.Pairwise.sublist (List.drop_sublist _ _) h
theorem NZ.rel{k:Nat}{c:Cfg}{rel last:Int}{nt:Note}(h:NZ k c rel last nt)(hi:NInv k c rel last nt)(hv:qA7 c=true)(hk:c.kind=k)(y:It)(m:Int)(y0:0<=y.t)(hy:last<=y.t)(hE:qDb c k y=0): NZ k c (rel+1) y.t (qLf k c nt y m):=by
 refine⟨λe=>?_,λe=>?_,λe=>?_,λe=>?_,λe=>?_⟩
 ·subst e
  obtain⟨h1,h2⟩:=h.dec rfl
  have hw1:=qWi (qV3 hE)
  have hw2:=(qLx c y.t).2
  show rel+1<=(nt.q+(nt.r+qCb (qBf c y.t))/2305843009213693952)*2305843009213693952+(nt.r+qCb (qBf c y.t))%2305843009213693952/\(nt.q+(nt.r+qCb (qBf c y.t))/2305843009213693952)*2305843009213693952+(nt.r+qCb (qBf c y.t))%2305843009213693952<=(rel+1)*2305843009213693952
  omega
 ·subst e
  obtain⟨h1,h2,h3⟩:=h.cnt rfl
  have hc:=qC3 hv hk rfl
  have hl:=zEx (c:=c) (K:=c.k.toNat) (by omega) (by omega) nt.bs y.t m h1
  have hs:(nt.bs.map (·.t)++[y.t]).Pairwise (·<=·):=List.pairwise_append.2 ⟨h2,List.pairwise_singleton _ _,λa ha b hb=>by
     rw[List.mem_singleton]at hb;subst hb;have:=(h3 a ha).2;omega⟩
  refine⟨hl.1,hs.sublist hl.2,λt ht=>?_⟩
  rcases List.mem_append.1 (hl.2.subset ht) with e | e
  ·have:=h3 t e;omega
  ·rw[List.mem_singleton]at e;subst e;omega
 ·subst e
  obtain⟨h1,h2,h3⟩:=h.dis rfl
  show(∀j,SortB (qM4 c (qG6 c) nt.rg y m j))/\(∀j b,b∈qM4 c (qG6 c) nt.rg y m j->0<=b.sz/\b.sz<=y.t)/\(qO8 (qM4 c (qG6 c) nt.rg y m) (qG6 c) 0:Int)<=rel+1
  refine⟨λj=>?_,λj b hb=>?_,?_⟩
  ·unfold qM4
   split
   ·exact zAo ((h1 j).drop _) (λb hb=>by have:=h2 j b (List.mem_of_mem_drop hb);show b.sz<=y.t;omega)
   ·exact h1 j
  ·unfold qM4 at hb
   split at hb
   ·rcases qL7 hb with e | e
    ·have:=h2 j b (List.mem_of_mem_drop e);omega
    ·subst e;exact⟨y0,Int.le_refl _⟩
   ·have:=h2 j b hb;omega
  ·have:=zDu (a:=qM4 c (qG6 c) nt.rg y m) (b:=nt.rg) (regI c (qG6 c) y.k) (λj hj=>by unfold qM4;rw[if_neg hj]) (qMt c (qG6 c) nt.rg y m _) (qG6 c) 0
   split at this <;> omega
 ·subst e
  obtain⟨hp,hr,hL,hL1,hpl⟩:=qBp hv hk rfl
  have hr0:=hr.r0
  have hw0:=hr.w0
  exact(h.oft rfl).rel hr (by omega) (by omega) y m
 ·subst e
  obtain⟨h1,h2,h3⟩:=h.drw rfl
  have hs:=qDf hv hk rfl
  obtain⟨g1,D,g2,g3⟩:=qJb c y h1 (qJo hE)
  refine⟨g1,?_,λz hz=>?_⟩
  ·show((qGm c nt.tk y).length:Int)=_
   have h4:=g2.length_eq
   rw[List.length_append,List.length_cons]at h4
   have hr0:=hi.rel0
   split at g3 <;> split at h2 <;> split <;> omega
  ·rcases List.mem_cons.1 (g2.subset (List.mem_append_right _ hz)) with e | e
   ·subst e;exact⟨rfl,hE,y0,Int.le_refl _⟩
   ·have:=h3 z e;exact⟨this.1,this.2.1,this.2.2.1,by have:=this.2.2.2;omega⟩
theorem NZ.swp{k:Nat}{c:Cfg}{rel last:Int}{nt:Note}(h:NZ k c rel last nt)(hv:qA7 c=true)(hk:c.kind=k)(m b:Int): NZ k c rel last (qIx k c nt m b).1:=by
 unfold qIx
 split
 ·rename_i e
  refine⟨h.dec,λ_=>?_,h.dis,h.oft,h.drw⟩
  obtain⟨h1,h2,h3⟩:=h.cnt e
  have hc:=qC3 hv hk e
  have hsub:((nt.bs.drop (qD8 c nt.bs m b).toNat).map (·.t)).Sublist (nt.bs.map (·.t)):=(List.drop_sublist _ _).map _
  exact⟨h1.drop (by omega) _,h2.sublist hsub,λt ht=>h3 t (hsub.subset ht)⟩
 ·exact h
structure NSim (k:Nat) (c:Cfg) (m:Int) (a b:Note):Prop where
 dec:k=4->a.q=b.q/\a.r=b.r
 cnt:k=1->a.bs=b.bs
 dis:k=2->∀j,j<qG6 c->qCq c m (a.rg j)=qCq c m (b.rg j)
 oft:k=3->qA8 c a.op a.cl (m-c.window)=qA8 c b.op b.cl (m-c.window)
 drw:k=5->a.tk.Perm b.tk
theorem NSim.refl(k:Nat)(c:Cfg)(m:Int)(a:Note): NSim k c m a a:=⟨λ_=>⟨rfl,rfl⟩,λ_=>rfl,λ_ _ _=>rfl,λ_=>rfl,λ_=>List.Perm.refl _⟩
theorem NInv.K{k:Nat}{c:Cfg}{rel last:Int}{nt:Note}(h:NInv k c rel last nt): NInv k (qCd k c) rel last nt:=by
 refine⟨h.q0,h.qn,h.r0,h.r1,h.one,h.sum,h.rk,h.rl,λe=>?_,λe=>?_⟩
 ·subst e
  have:=h.oi rfl
  exact⟨this.on0,this.onT,this.asc,this.lt,this.ocs,this.ccs,this.len⟩
 ·subst e;exact h.tl rfl
theorem NZ.K{k:Nat}{c:Cfg}{rel last:Int}{nt:Note}(h:NZ k c rel last nt): NZ k (qCd k c) rel last nt:=by
 refine⟨h.dec,λe=>?_,λe=>?_,λe=>?_,λe=>?_⟩
 ·subst e;exact h.cnt rfl
 ·subst e;exact h.dis rfl
 ·subst e
  have:=h.oft rfl
  exact⟨this.cls,this.opn,this.pos,this.sum⟩
 ·subst e;exact h.drw rfl
theorem OInv.at'{c:Cfg}{rel last:Int}{o:Pa.Pn}{cl:List Pa.Pn}(h:OInv c rel last o cl)(hL:0<=qA6 c): OAt c o cl:=⟨h.asc,λp hp=>(h.lt p hp).2,hL⟩
theorem NSim.later{k:Nat}{c:Cfg}{m m' ra la rb lb:Int}{a b:Note}(h:NSim k c m a b)(hm:m<=m')(ha:NInv k c ra la a)(hb:NInv k c rb lb b)(hv:qA7 c=true)(hk:c.kind=k): NSim k c m' a b:=by
 refine⟨h.dec,h.cnt,λe j hj=>qUz hm (h.dis e j hj),λe=>?_,h.drw⟩
 have hL:=(qBp hv hk e).2.2.1
 exact qUv ((ha.oi e).at' (by omega)) ((hb.oi e).at' (by omega)) (by omega) (h.oft e)
theorem NSim.rel{k:Nat}{c:Cfg}{m rel last:Int}{a b:Note}(h:NSim k c m a b)(ha:NInv k c rel last a)(hb:NInv k c rel last b)(za:NZ k c rel last a)(zb:NZ k c rel last b)(hv:qA7 c=true)(hk:c.kind=k)(y:It)(hy:last<=y.t)(hE:qDb c k y=0)(hn:(y.n::a.tk.map (·.n)).Nodup): NSim k c m (qLf k c a y m) (qLf k c b y m):=by
 refine⟨λe=>?_,λe=>?_,λe=>?_,λe=>?_,λe=>?_⟩
 ·subst e
  obtain⟨h1,h2⟩:=h.dec rfl
  show a.q+(a.r+_)/_=b.q+(b.r+_)/_/\(a.r+_)%_=(b.r+_)%_
  rw[h1,h2];exact⟨rfl,rfl⟩
 ·subst e
  show zAp c a.bs y.t m=zAp c b.bs y.t m
  rw[h.cnt rfl]
 ·subst e
  exact qZ9 y (h.dis rfl)
 ·subst e
  have hL:=(qBp hv hk rfl).2.2.1
  have h1:=ha.oi rfl
  have h2:=hb.oi rfl
  exact qZ5 (h1.at' (by omega)) (h2.at' (by omega)) y m (Int.le_ediv_of_mul_le (by omega) (by have:=h1.onT;omega)) (Int.le_ediv_of_mul_le (by omega) (by have:=h2.onT;omega)) (h.oft rfl)
 ·subst e
  exact zAn c y (za.drw rfl).1 (zb.drw rfl).1 (qJo hE) (by rw[List.map_cons];exact hn) (h.drw rfl)
theorem NSim.qry{k:Nat}{c:Cfg}{m:Int}{a b:Note}(h:NSim k c m a b)(k1:1<=k)(k5:k<=5){rel last:Int}(za:NZ k c rel last a)(zb:NZ k c rel last b)(hn:(a.tk.map (·.n)).Nodup)(q:Int): qHl k c a q m=qHl k c b q m:=by
 rcases five k1 k5 with e | e | e | e | e <;> subst e
 ·show(if inB q 1 c.window=true then((0:Int),[zC4 a.bs (m-q)]) else(13,[]))=(if inB q 1 c.window=true then((0:Int),[zC4 b.bs (m-q)]) else(13,[]))
  rw[h.cnt rfl]
 ·show zCs c (qG6 c) a.rg q m=zCs c (qG6 c) b.rg q m
  unfold zCs
  split
  ·rename_i hq
   obtain⟨q0,q1⟩:=qDp hq
   rw[qUy (m:=m) (t:=m-q) (by omega) (qG6 c) (h.dis rfl)]
  ·rfl
 ·show(if inB q 0 2147483648=true then((0:Int),[zEk c a.op a.cl q m]) else(10,[]))=(if inB q 0 2147483648=true then((0:Int),[zEk c b.op b.cl q m]) else(10,[]))
  unfold zEk
  rw[<-qKj,<-qKj,h.oft rfl]
 ·obtain⟨h1,h2⟩:=h.dec rfl
  show((0:Int),[a.q,a.r,_])=(0,[b.q,b.r,_])
  rw[h1,h2]
 ·have hp:=h.drw rfl
  show((0:Int),qQh c a.tk)=(0,qQh c b.tk)
  unfold qQh
  rw[hp.length_eq,qQ0 _ (za.drw rfl).1 (zb.drw rfl).1 hn hp]
theorem NSim.sav{k:Nat}{c:Cfg}{m:Int}{a b:Note}(h:NSim k c m a b)(k1:1<=k)(k5:k<=5){rel last:Int}(za:NZ k c rel last a)(zb:NZ k c rel last b)(hn:(a.tk.map (·.n)).Nodup): qQq k c a m=qQq k c b m:=by
 rcases five k1 k5 with e | e | e | e | e <;> subst e
 ·show zCe a.bs=zCe b.bs
  rw[h.cnt rfl]
 ·exact qZr (qG6 c) (h.dis rfl)
 ·show zD7 c a.op a.cl (m-c.window)=zD7 c b.op b.cl (m-c.window)
  unfold zD7
  rw[h.oft rfl]
 ·obtain⟨h1,h2⟩:=h.dec rfl
  show[a.q,a.r]=[b.q,b.r]
  rw[h1,h2]
 ·have hp:=h.drw rfl
  show qK6 (Dr.allL (a.tk.length+1) a.tk)=qK6 (Dr.allL (b.tk.length+1) b.tk)
  rw[hp.length_eq,qQ0 _ (za.drw rfl).1 (zb.drw rfl).1 hn hp]
theorem NSim.swp{k:Nat}{c:Cfg}{m:Int}{a b:Note}(h:NSim k c m a b)(bu:Int): NSim k c m (qIx k c a m bu).1 (qIx k c b m bu).1/\(qIx k c a m bu).2=(qIx k c b m bu).2:=by
 unfold qIx
 by_cases e:k=1
 ·rw[if_pos e,if_pos e,h.cnt e]
  exact⟨⟨h.dec,λ_=>rfl,h.dis,h.oft,h.drw⟩,rfl⟩
 ·rw[if_neg e,if_neg e]
  exact⟨h,rfl⟩
structure SZ (clock:Int) (x:Ser):Prop where
 ref5:∀j,j<5->qAs x.ref j=0
 due:∀y,y∈x.l->clock-x.c.lag<y.t/\y.t<=clock+x.c.skew
 num:∀y,y∈x.l->1<=y.n/\y.n<=x.acc
 tkn:∀z,z∈x.nt.tk->1<=z.n/\z.n<=x.acc
 nod:(x.l.map (·.n)++x.nt.tk.map (·.n)).Nodup
 most:x.rel<=qGg x.c clock
 mark:0<x.rel->x.last<=clock-x.c.lag
 note:NZ x.k x.c x.rel x.last x.nt
theorem zBj{c:Cfg}(clock:Int)(hc:1<=c.cap): 0<=qGg c clock:=by
 have h0:∀t:Int,0<=t->0<=(if 4611686018427387904/c.cap<t then 4611686018427387904 else c.cap*t):=λt ht=>by
  split
  ·omega
  ·exact Int.mul_nonneg (by omega) ht
 unfold qGg
 refine h0 _ ?_
 split <;> omega
theorem zB5{c:Cfg}{clock nc rel r':Int}(hc1:1<=c.cap)(c0:0<=clock)(h:rel<=qGg c clock)(hcn:clock<=nc)(hr:r'=rel\/(r'<=rel+c.cap/\clock<nc/\c.lag<=nc))(hm:r'<=4611686018427387904): r'<=qGg c nc:=by
 have key:∀cl:Int,qGg c cl=(if 4611686018427387904/c.cap<(if 0<(if cl-c.lag+1<cl then cl-c.lag+1 else cl) then(if cl-c.lag+1<cl then cl-c.lag+1 else cl) else 0) then 4611686018427387904 else c.cap*(if 0<(if cl-c.lag+1<cl then cl-c.lag+1 else cl) then(if cl-c.lag+1<cl then cl-c.lag+1 else cl) else 0)):=λ_=>rfl
 rw[key]at h ⊢
 obtain⟨a,ha,ha0⟩:∃a:Int,(if 0<(if clock-c.lag+1<clock then clock-c.lag+1 else clock) then(if clock-c.lag+1<clock then clock-c.lag+1 else clock) else 0)=a/\0<=a:=⟨_,rfl,by split <;> omega⟩
 obtain⟨b,hb,hab,hab2⟩:∃b:Int,(if 0<(if nc-c.lag+1<nc then nc-c.lag+1 else nc) then(if nc-c.lag+1<nc then nc-c.lag+1 else nc) else 0)=b/\a<=b/\(clock<nc/\c.lag<=nc->a+1<=b):=by
  refine⟨_,rfl,?_,?_⟩ <;> rw[<-ha] <;> (repeat' split) <;> omega
 rw[ha]at h
 rw[hb]
 split
 ·exact hm
 ·rename_i h1
  split at h
  ·rename_i h2;omega
  ·have m1:=Int.mul_le_mul_of_nonneg_left hab (show 0<=c.cap by omega)
   rcases hr with e | ⟨e1,e2,e3⟩
   ·omega
   ·have m2:=Int.mul_le_mul_of_nonneg_left (hab2 ⟨e2,e3⟩) (show 0<=c.cap by omega)
    rw[Int.mul_add,Int.mul_one]at m2
    omega
theorem SZ.new{clock id:Int}{c:Cfg}(hv:qA7 c=true): SZ clock (qBk id c c.kind.toNat):=by
 obtain⟨k,hk,h1,h5,hc,_⟩:=qFb hv
 have hkn:c.kind.toNat=k:=by omega
 simp only[qDk,inB,Bool.and_eq_true,decide_eq_true_eq]at hc
 refine⟨λj hj=>?_,λy hy=>(by cases hy),λy hy=>(by cases hy),λz hz=>(by cases hz),List.Pairwise.nil,zBj clock (by show 1<=c.cap;omega),λh=>absurd h (Int.lt_irrefl 0),?_⟩
 ·have:j=0\/j=1\/j=2\/j=3\/j=4:=by omega
  rcases this with e | e | e | e | e <;> subst e <;> rfl
 ·rw[hkn]
  exact NZ.zero k c (λe=>(qDf hv hk e).1)
theorem qZf(l:List Int)(i j:Nat)(v:Int)(h:j≠i): qAs (l.set i v) j=qAs l j:=by
 unfold qAs
 rw[List.getD_eq_getElem?_getD,List.getD_eq_getElem?_getD,List.getElem?_set_ne (Ne.symm h)]
theorem SZ.ref{clock:Int}{x:Ser}(h:SZ clock x)(code:Nat)(hc:5<=code): SZ clock (refS x code) :=
 ⟨λj hj=>by show qAs (x.ref.set code _) j=0;rw[qZf _ _ _ _ (by omega)];exact h.ref5 j hj,h.due,h.num,h.tkn,h.nod,h.most,h.mark,h.note⟩
theorem SZ.acc{n clock:Int}{x:Ser}(h:SZ clock x)(hi:SInv n x)(y:It)(hr:refE x clock y=0): SZ clock (accS x y):=by
 obtain⟨t0,t1,hc,hl,hs,hk,_⟩:=qMc hr
 have hp:=(put_heap x.l (numbered y (x.acc+1)) hi.heap).2
 have hmem:∀z,z∈(accS x y).l->z=numbered y (x.acc+1)\/z∈x.l:=λz hz=>List.mem_cons.1 (hp.subset hz)
 have ha0:=hi.acc0
 refine⟨h.ref5,λz hz=>?_,λz hz=>?_,λz hz=>?_,?_,h.most,h.mark,h.note⟩
 ·rcases hmem z hz with e | e
  ·subst e;exact⟨hl,hs⟩
  ·exact h.due z e
 ·show 1<=z.n/\z.n<=x.acc+1
  rcases hmem z hz with e | e
  ·subst e;show 1<=x.acc+1/\x.acc+1<=x.acc+1;omega
  ·have:=h.num z e;omega
 ·have:=h.tkn z hz;show 1<=z.n/\z.n<=x.acc+1;omega
 ·have h1:((accS x y).l.map (·.n)++x.nt.tk.map (·.n)).Perm ((x.acc+1)::(x.l.map (·.n)++x.nt.tk.map (·.n))):=List.Perm.append_right _ (hp.map (·.n))
  refine h1.nodup_iff.2 (List.nodup_cons.2 ⟨λhm=>?_,h.nod⟩)
  rcases List.mem_append.1 hm with hm | hm
  ·obtain⟨z,hz,e⟩:=List.mem_map.1 hm;have:=h.num z hz;omega
  ·obtain⟨z,hz,e⟩:=List.mem_map.1 hm;have:=h.tkn z hz;omega
theorem SZ.swp{n clock:Int}{x:Ser}(h:SZ clock x)(hi:SInv n x)(b:Int): SZ clock (qWw clock b x):=by
 have ht:(qIx x.k x.c x.nt (clock-x.c.lag) b).1.tk=x.nt.tk:=by unfold qIx;split <;> rfl
 refine⟨h.ref5,h.due,h.num,λz hz=>?_,?_,h.most,h.mark,h.note.swp hi.valid hi.kind _ _⟩
 ·exact h.tkn z (by rw[<-ht];exact hz)
 ·show(x.l.map (·.n)++(qIx x.k x.c x.nt (clock-x.c.lag) b).1.tk.map (·.n)).Nodup
  rw[ht];exact h.nod
structure SY (m:Int) (x:Ser):Prop where
 ref5:∀j,j<5->qAs x.ref j=0
 num:∀y,y∈x.l->1<=y.n/\y.n<=x.acc
 tkn:∀z,z∈x.nt.tk->1<=z.n/\z.n<=x.acc
 nod:(x.l.map (·.n)++x.nt.tk.map (·.n)).Nodup
 mark:0<x.rel->x.last<=m
 note:NZ x.k x.c x.rel x.last x.nt
theorem zC1(k:Nat)(c:Cfg)(nt:Note)(y:It)(m:Int)(h5:k≠5): (qLf k c nt y m).tk=nt.tk:=by
 unfold qLf
 split
 ·rfl
 ·split
  ·rfl
  ·split
   ·rfl
   ·split
    ·rfl
    ·first | rfl | rw[if_neg h5]
theorem SY.one{n m:Int}{x:Ser}(h:SY m x)(hi:SInv n x)(hl:x.l≠[])(hm:¬m<(itAt x.l 0).t): SY m (qEx x m):=by
 have hp:=(take_heap x.l hi.heap hl).2
 have h0:=qFt hl
 have hE:=hi.fits _ h0
 have hN:=h.note.rel hi.note hi.valid hi.kind (itAt x.l 0) m (hi.times _ h0).1 (hi.lastl _ h0) hE
 have hpn:((itAt x.l 0).n::((takeL x.l).map (·.n)++x.nt.tk.map (·.n))).Perm (x.l.map (·.n)++x.nt.tk.map (·.n)):=List.Perm.append_right _ (hp.map (·.n))
 have hnd:=hpn.nodup_iff.2 h.nod
 refine⟨h.ref5,λy hy=>h.num y (hp.subset (List.mem_cons_of_mem _ hy)),λz hz=>?_,?_,λ_=>by show(itAt x.l 0).t<=m;omega,hN⟩
 ·show 1<=z.n/\z.n<=x.acc
  have hz':z∈(qLf x.k x.c x.nt (itAt x.l 0) m).tk:=hz
  by_cases e:x.k=5
  ·have e2:(qLf x.k x.c x.nt (itAt x.l 0) m).tk=qGm x.c x.nt.tk (itAt x.l 0):=by rw[e];rfl
   rw[e2]at hz'
   obtain⟨_,D,g2,_⟩:=qJb x.c (itAt x.l 0) (h.note.drw e).1 (qJo (by rw[e]at hE;exact hE))
   rcases List.mem_cons.1 (g2.subset (List.mem_append_right _ hz')) with e3 | e3
   ·subst e3;exact h.num _ h0
   ·exact h.tkn z e3
  ·rw[zC1 _ _ _ _ _ e]at hz'
   exact h.tkn z hz'
 ·show((takeL x.l).map (·.n)++(qLf x.k x.c x.nt (itAt x.l 0) m).tk.map (·.n)).Nodup
  by_cases e:x.k=5
  ·have e2:(qLf x.k x.c x.nt (itAt x.l 0) m).tk=qGm x.c x.nt.tk (itAt x.l 0):=by rw[e];rfl
   rw[e2]
   obtain⟨_,D,g2,_⟩:=qJb x.c (itAt x.l 0) (h.note.drw e).1 (qJo (by rw[e]at hE;exact hE))
   have h3:((takeL x.l).map (·.n)++(D.map (·.n)++(qGm x.c x.nt.tk (itAt x.l 0)).map (·.n))).Perm ((itAt x.l 0).n::((takeL x.l).map (·.n)++x.nt.tk.map (·.n))):=by
    have h4:=g2.map (·.n)
    rw[List.map_append,List.map_cons]at h4
    refine(List.Perm.append_left _ h4).trans ?_
    exact List.perm_middle
   have h5:=h3.nodup_iff.2 hnd
   refine h5.sublist ?_
   exact List.Sublist.append_left (List.sublist_append_right _ _) _
  ·rw[zC1 _ _ _ _ _ e]
   exact(List.nodup_cons.1 hnd).2
theorem zFd{n m:Int}(f:Nat): ∀ {x:Ser},SY m x->SInv n x->SY m (relS f x m):=by
 induction f with
 | zero=>intro x h _;exact h
 | succ f ih =>
  intro x h hi
  unfold relS
  split
  ·exact h
  ·rename_i he
   have hl:x.l≠[]:=λe=>he (by rw[e];rfl)
   split
   ·exact h
   ·rename_i hm
    exact ih (h.one hi hl hm) (qE1 hi hl m hm)
theorem zBc{m:Int}(f:Nat): ∀ {x:Ser},x.l.length<f->HeapL x.l->∀y,y∈(relS f x m).l->m<y.t/\y∈x.l:=by
 induction f with
 | zero=>intro x h;omega
 | succ f ih =>
  intro x hf hh y hy
  unfold relS at hy
  split at hy
  ·rename_i he
   rw[List.isEmpty_iff.1 he]at hy;cases hy
  ·rename_i he
   have hl:x.l≠[]:=λe=>he (by rw[e];rfl)
   split at hy
   ·rename_i hm
    have:=hh.first_mem hy
    exact⟨by omega,hy⟩
   ·have ht:=take_heap x.l hh hl
    have:=ih (x:=qEx x m) (by have:=List.length_pos_iff.2 hl;show(takeL x.l).length<f;rw[takeL_length];omega) ht.1 y hy
    exact⟨this.1,ht.2.subset (List.mem_cons_of_mem _ this.2)⟩
theorem qZk(f:Nat)(x:Ser)(m:Int): (relS f x m).rel=x.rel\/∃y,y∈x.l/\y.t<=m:=by
 cases f with
 | zero=>exact .inl rfl
 | succ f =>
  unfold relS
  split
  ·exact .inl rfl
  ·rename_i he
   have hl:x.l≠[]:=λe=>he (by rw[e];rfl)
   split
   ·exact .inl rfl
   ·exact .inr ⟨_,qFt hl,by omega⟩
theorem qY3(f:Nat): ∀(x:Ser) (m:Int),(relS f x m).acc=x.acc/\(relS f x m).ref=x.ref:=by
 induction f with
 | zero=>intro x m;exact⟨rfl,rfl⟩
 | succ f ih =>
  intro x m
  unfold relS
  split
  ·exact⟨rfl,rfl⟩
  ·split
   ·exact⟨rfl,rfl⟩
   ·exact ih (qEx x m) m
theorem SZ.tick{n clock nc:Int}{x:Ser}(h:SZ clock x)(hi:SInv n x)(hcn:clock<=nc)(c0:0<=clock)(hn:n<=4611686018427387904): SZ nc (qCh nc x):=by
 have hk:=qVh (x.l.length+1) x (nc-x.c.lag)
 have hy:=zFd (x.l.length+1) (x:=x) (m:=nc-x.c.lag) ⟨h.ref5,h.num,h.tkn,h.nod,λhr=>by have:=h.mark hr;omega,h.note⟩ hi
 have hd:=zBc (m:=nc-x.c.lag) (x.l.length+1) (x:=x) (by omega) hi.heap
 have hi':=qJp (x.l.length+1) hi (nc-x.c.lag)
 have ha:=(qY3 (x.l.length+1) x (nc-x.c.lag)).1
 have hcm:=hi.common
 refine⟨hy.ref5,λy hm=>?_,hy.num,hy.tkn,hy.nod,?_,?_,hy.note⟩
 ·have h1:=hd y hm
  have h2:=h.due y h1.2
  show nc-(relS _ x _).c.lag<y.t/\y.t<=nc+(relS _ x _).c.skew
  rw[hk.2.1]
  exact⟨h1.1,by omega⟩
 ·show(relS _ x _).rel<=qGg (relS _ x _).c nc
  rw[hk.2.1]
  have h1:=hi'.rela
  have h2:=hi.rela
  have h3:=hi.cap
  have h4:=hi'.accn
  rw[ha]at h1 h4
  refine zB5 (by omega) c0 h.most hcn ?_ (by omega)
  rcases qZk (x.l.length+1) x (nc-x.c.lag) with e | ⟨y,hym,hyt⟩
  ·exact .inl e
  ·have h5:=h.due y hym
   have h6:=hi.times y hym
   exact .inr ⟨by omega,by omega,by omega⟩
 ·show 0<(relS _ x _).rel->(relS _ x _).last<=nc-(relS _ x _).c.lag
  rw[hk.2.1]
  exact hy.mark
def EZ(s:WS): Prop:=∀x,x∈s.xs->SZ s.clock x
theorem zAw{n:Int}{s:WS}(o:OpM)(h:EZ s)(hi:EInv n s.clock s.xs)(hn:n<=4611686018427387904)(h7:o.kind≠7): EZ (qBq s o).1:=by
 unfold qBq
 split
 ·unfold qDa
  split
  ·split
   ·split
    ·rename_i h2 _
     intro x hx
     rcases List.mem_append.1 hx with hx | hx
     ·exact h x hx
     ·rw[List.mem_singleton]at hx;subst hx;exact SZ.new h2
    ·exact h
   ·exact h
  ·exact h
 ·split
  ·unfold qSp
   split
   ·exact h
   ·rename_i x hf
    have hx:x∈s.xs:=List.mem_of_find?_eq_some hf
    split
    ·rename_i hr
     intro z hz
     rcases qFq hz with hz | hz
     ·exact h z hz
     ·subst hz;exact(h x hx).acc (hi.sers x hx) o.item hr
    ·rename_i hr
     intro z hz
     rcases qFq hz with hz | hz
     ·exact h z hz
     ·subst hz
      refine(h x hx).ref _ ?_
      have:refE x s.clock o.item=0\/5<=refE x s.clock o.item:=by
       unfold refE
       (repeat' split) <;> first | omega | skip
       rename_i hk _
       unfold qDb qXn qFf qIy
       (repeat' split) <;> omega
      omega
  ·split
   ·unfold qIt
    split
    ·rename_i ha
     obtain⟨a0,a1⟩:=qDp ha
     have hmx:s.clock<=qH1 s.clock o.a:=by unfold qH1;split <;> omega
     split
     ·have key:=qH6 (P:=λz=>SZ (qH1 s.clock o.a) z/\SInv n z) (qH1 s.clock o.a) (λb x hx=>⟨hx.1.swp hx.2 b,qPb _ b hx.2⟩) o.b (s.xs.map (qCh (qH1 s.clock o.a))) (λz hz=>by
         obtain⟨x,hx,rfl⟩:=List.mem_map.1 hz
         exact⟨(h x hx).tick (hi.sers x hx) hmx hi.c0 hn,qJp _ (hi.sers x hx) _⟩)
      exact λz hz=>(key z hz).1
     ·exact h
    ·exact h
   ·split
    ·unfold qG2
     split <;> exact h
    ·split
     ·unfold qG3
      split <;> exact h
     ·split
      ·exact h
      ·exact h
structure Sim (clock:Int) (x y:Ser):Prop where
 id:y.id=x.id
 k:y.k=x.k
 c:qCd x.k y.c=qCd x.k x.c
 acc:y.acc=x.acc
 rel:y.rel=x.rel
 ref:y.ref=x.ref
 last:y.last=x.last
 buf:(x.l.map (itK x.k)).Perm (y.l.map (itK x.k))
 note:NSim x.k (qCd x.k x.c) (clock-x.c.lag) x.nt y.nt
theorem Sim.refl(clock:Int)(x:Ser): Sim clock x x:=⟨rfl,rfl,rfl,rfl,rfl,rfl,rfl,List.Perm.refl _,NSim.refl _ _ _ _⟩
theorem Sim.head{n clock:Int}{x y:Ser}(h:Sim clock x y)(hi:SInv n x): y.c.lag=x.c.lag/\y.c.skew=x.c.skew/\y.c.cap=x.c.cap:=by
 have a:=qIb x.k x.c hi.k1 hi.k5
 have b:=qIb x.k y.c hi.k1 hi.k5
 rw[h.c]at b
 exact⟨by rw[<-b.2.1,a.2.1],by rw[<-b.2.2.1,a.2.2.1],by rw[<-b.2.2.2,a.2.2.2]⟩
theorem Sim.len{clock:Int}{x y:Ser}(h:Sim clock x y): y.l.length=x.l.length:=by
 have:=h.buf.length_eq
 rw[List.length_map,List.length_map]at this
 exact this.symm
theorem Sim.refE{n clock:Int}{x y:Ser}(h:Sim clock x y)(hi:SInv n x)(it:It): refE y clock it=refE x clock it:=by
 have hh:=h.head hi
 have hk:qDb y.c y.k it=qDb x.c x.k it:=by
  rw[h.k,<-qVa x.k y.c it hi.k1 hi.k5,h.c,qVa x.k x.c it hi.k1 hi.k5]
 unfold Go.Proofs.YtahnliehdjncdabGreatDoor.refE
 rw[hk,hh.1,hh.2.1,hh.2.2,h.len,h.acc]
theorem Sim.accS{n1 n2 clock:Int}{x y:Ser}(h:Sim clock x y)(hi:SInv n1 x)(hj:SInv n2 y)(it:It): Sim clock (accS x it) (accS y it):=by
 have a:=(put_heap x.l (numbered it (x.acc+1)) hi.heap).2
 have b:=(put_heap y.l (numbered it (y.acc+1)) hj.heap).2
 refine⟨h.id,h.k,h.c,by show y.acc+1=x.acc+1;rw[h.acc],h.rel,h.ref,h.last,?_,h.note⟩
 refine(a.map _).trans (List.Perm.trans ?_ (b.map _).symm)
 rw[List.map_cons,List.map_cons,h.acc]
 exact List.Perm.cons _ h.buf
theorem Sim.refS{clock:Int}{x y:Ser}(h:Sim clock x y)(c:Nat): Sim clock (refS x c) (refS y c) :=
 ⟨h.id,h.k,h.c,h.acc,h.rel,by show y.ref.set c _=x.ref.set c _;rw[h.ref],h.last,h.buf,h.note⟩
structure Both (k:Nat) (ck:Cfg) (rel last:Int) (a b:Note):Prop where
 ia:NInv k ck rel last a
 ib:NInv k ck rel last b
 za:NZ k ck rel last a
 zb:NZ k ck rel last b
 v:qA7 ck=true
 kd:ck.kind=k
theorem Sim.both{n1 n2 clock:Int}{x y:Ser}(h:Sim clock x y)(hi:SInv n1 x)(hj:SInv n2 y)(zx:NZ x.k x.c x.rel x.last x.nt)(zy:NZ y.k y.c y.rel y.last y.nt): Both x.k (qCd x.k x.c) x.rel x.last x.nt y.nt:=by
 have a:=hj.note.K
 have b:=zy.K
 rw[h.k,h.c,h.rel,h.last]at a b
 exact⟨hi.note.K,a,zx.K,b,qPk x.k x.c hi.k1 hi.k5 hi.valid hi.kind,by rw[(qIb x.k x.c hi.k1 hi.k5).1];exact hi.kind⟩
theorem Sim.later{n1 n2 clock nc:Int}{x y:Ser}(h:Sim clock x y)(hi:SInv n1 x)(hj:SInv n2 y)(zx:SZ clock x)(zy:SZ clock y)(hcn:clock<=nc): Sim nc x y:=by
 have hb:=h.both hi hj zx.note zy.note
 exact⟨h.id,h.k,h.c,h.acc,h.rel,h.ref,h.last,h.buf,h.note.later (by omega) hb.ia hb.ib hb.v hb.kd⟩
theorem Sim.one{n1 n2 nc m:Int}{x y:Ser}(h:Sim nc x y)(hm:m=nc-x.c.lag)(hi:SInv n1 x)(hj:SInv n2 y)(zx:SY m x)(zy:SY m y)(hl:x.l≠[]): Sim nc (qEx x m) (qEx y m)/\(itAt y.l 0).t=(itAt x.l 0).t:=by
 have hb:=h.both hi hj zx.note zy.note
 have hnd:=List.nodup_append.1 zx.nod
 obtain⟨e,p⟩:=qQy hi.heap hj.heap hnd.1 hl h.buf
 have ht:(itAt y.l 0).t=(itAt x.l 0).t:=by rw[<-qMg x.k (itAt y.l 0),<-e,qMg]
 have h0:=qFt hl
 refine⟨⟨h.id,h.k,h.c,h.acc,by show y.rel+1=x.rel+1;rw[h.rel],h.ref,ht,p,?_⟩,ht⟩
 show NSim x.k (qCd x.k x.c) (nc-x.c.lag) (qLf x.k x.c x.nt (itAt x.l 0) m) (qLf y.k y.c y.nt (itAt y.l 0) m)
 have hN:=h.note
 rw[<-hm]at hN ⊢
 have e1:qLf x.k x.c x.nt (itAt x.l 0) m=qLf x.k (qCd x.k x.c) x.nt (itK x.k (itAt x.l 0)) m:=(zGc x.k x.c x.nt _ m hi.k1 hi.k5).symm
 have e2:qLf y.k y.c y.nt (itAt y.l 0) m=qLf x.k (qCd x.k x.c) y.nt (itK x.k (itAt x.l 0)) m:=by
  rw[h.k,e,<-h.c];exact(zGc x.k y.c y.nt _ m hi.k1 hi.k5).symm
 rw[e1,e2]
 refine hN.rel hb.ia hb.ib hb.za hb.zb hb.v hb.kd (itK x.k (itAt x.l 0)) (by rw[qMg];exact hi.lastl _ h0) (by rw[qTt x.k x.c _ hi.k1 hi.k5];exact hi.fits _ h0) ?_
 rw[qHs]
 refine List.nodup_cons.2 ⟨λhm2=>hnd.2.2 (itAt x.l 0).n (List.mem_map_of_mem h0) _ hm2 rfl,hnd.2.1⟩
theorem Sim.relS{n1 n2 nc m:Int}(f:Nat): ∀ {x y:Ser},Sim nc x y->m=nc-x.c.lag->SInv n1 x->SInv n2 y->SY m x->SY m y->Sim nc (relS f x m) (relS f y m):=by
 induction f with
 | zero=>intro x y h _ _ _ _ _;exact h
 | succ f ih =>
  intro x y h hm hi hj zx zy
  unfold Go.Proofs.YtahnliehdjncdabGreatDoor.relS
  by_cases hl:x.l=[]
  ·have hl':y.l=[]:=(qEv h.buf).1 hl
   rw[if_pos (by rw[hl];rfl),if_pos (by rw[hl'];rfl)]
   exact h
  ·have hl':y.l≠[]:=λe=>hl ((qEv h.buf).2 e)
   have h1:=h.one hm hi hj zx zy hl
   have b1:¬x.l.isEmpty=true:=by rw[List.isEmpty_iff];exact hl
   have b2:¬y.l.isEmpty=true:=by rw[List.isEmpty_iff];exact hl'
   rw[if_neg b1,if_neg b2,h1.2]
   by_cases ht:m<(itAt x.l 0).t
   ·rw[if_pos ht,if_pos ht];exact h
   ·rw[if_neg ht,if_neg ht]
    exact ih h1.1 hm (qE1 hi hl m ht) (qE1 hj hl' m (by rw[h1.2];exact ht)) (zx.one hi hl ht) (zy.one hj hl' (by rw[h1.2];exact ht))
theorem SZ.y{clock nc:Int}{x:Ser}(h:SZ clock x)(hcn:clock<=nc): SY (nc-x.c.lag) x:=⟨h.ref5,h.num,h.tkn,h.nod,λhr=>by have:=h.mark hr;omega,h.note⟩
theorem Sim.tick{n1 n2 clock nc:Int}{x y:Ser}(h:Sim clock x y)(hi:SInv n1 x)(hj:SInv n2 y)(zx:SZ clock x)(zy:SZ clock y)(hcn:clock<=nc): Sim nc (qCh nc x) (qCh nc y):=by
 have hh:=h.head hi
 have hy:=zy.y hcn
 unfold qCh
 rw[hh.1]at hy ⊢
 rw[h.len]
 exact(h.later hi hj zx zy hcn).relS _ rfl hi hj (zx.y hcn) hy
theorem Sim.swp{n1 clock:Int}{x y:Ser}(h:Sim clock x y)(hi:SInv n1 x)(b:Int): Sim clock (qWw clock b x) (qWw clock b y)/\qZy clock b y=qZy clock b x/\qO4 clock b y=qO4 clock b x:=by
 have hh:=h.head hi
 have e1:qIx x.k x.c x.nt (clock-x.c.lag) b=qIx x.k (qCd x.k x.c) x.nt (clock-x.c.lag) b:=(zG5 x.k x.c x.nt _ b hi.k1 hi.k5).symm
 have e2:qIx y.k y.c y.nt (clock-y.c.lag) b=qIx x.k (qCd x.k x.c) y.nt (clock-x.c.lag) b:=by
  rw[h.k,hh.1,<-h.c];exact(zG5 x.k y.c y.nt _ b hi.k1 hi.k5).symm
 obtain⟨s1,s2⟩:=h.note.swp b
 unfold qWw qZy qO4
 rw[e1,e2]
 refine⟨⟨h.id,h.k,h.c,h.acc,h.rel,h.ref,h.last,h.buf,s1⟩,?_,?_⟩
 ·rw[s2]
 ·rw[s2]
theorem Sim.qry{n1 n2 clock:Int}{x y:Ser}(h:Sim clock x y)(hi:SInv n1 x)(hj:SInv n2 y)(zx:SZ clock x)(zy:SZ clock y)(a:Int): qHl y.k y.c y.nt a (clock-y.c.lag)=qHl x.k x.c x.nt a (clock-x.c.lag):=by
 have hh:=h.head hi
 have hb:=h.both hi hj zx.note zy.note
 rw[hh.1,<-zF4 x.k x.c x.nt a _ hi.k1 hi.k5 hi.valid hi.kind,h.k]
 rw[<-zF4 x.k y.c y.nt a _ hi.k1 hi.k5 hj.valid (by rw[hj.kind,h.k]),h.c]
 exact(h.note.qry hi.k1 hi.k5 hb.za hb.zb (List.nodup_append.1 zx.nod).2.1 a).symm
theorem Sim.nums{n1 n2 clock:Int}{x y:Ser}(h:Sim clock x y)(hi:SInv n1 x)(hj:SInv n2 y)(zx:SZ clock x)(zy:SZ clock y): qCx clock y=qCx clock x:=by
 have hh:=h.head hi
 have hb:=h.both hi hj zx.note zy.note
 have e1:qBo y.k y.c=qBo x.k x.c:=by
  rw[h.k,<-zC2 x.k x.c hi.k1 hi.k5 hi.valid hi.kind,<-h.c,zC2 x.k y.c hi.k1 hi.k5 hj.valid (by rw[hj.kind,h.k])]
 have e2:qQq y.k y.c y.nt (clock-y.c.lag)=qQq x.k x.c x.nt (clock-x.c.lag):=by
  rw[hh.1,h.k,<-zGy x.k x.c x.nt _ hi.k1 hi.k5,<-zGy x.k y.c y.nt _ hi.k1 hi.k5,h.c]
  exact(h.note.sav hi.k1 hi.k5 hb.za hb.zb (List.nodup_append.1 zx.nod).2.1).symm
 have e3:qGr y.k (Qi.allL (y.l.length+1) y.l)=qGr x.k (Qi.allL (x.l.length+1) x.l):=by
  rw[h.k,h.len,<-zC5 x.k _ hi.k1 hi.k5,<-zCp (x.l.length+1) hi.heap hj.heap (List.nodup_append.1 zx.nod).1 h.buf,zC5 x.k _ hi.k1 hi.k5]
 unfold qCx qE7
 rw[e1,e2,e3,h.id,h.ref,h.rel,h.len]
inductive SimL (clock:Int):List Ser->List Ser->Prop
 | nil:SimL clock [] []
 | cons {x y:Ser} {xs ys:List Ser} (h:Sim clock x y) (r:SimL clock xs ys):SimL clock (x::xs) (y::ys)
structure Ok (n:Int) (s:WS):Prop where
 i:EInv n s.clock s.xs
 z:EZ s
structure SimW (s t:WS):Prop where
 clock:t.clock=s.clock
 xs:SimL s.clock s.xs t.xs
theorem SimL.len{clock:Int}{xs ys:List Ser}(h:SimL clock xs ys): ys.length=xs.length:=by
 induction h with
 | nil=>rfl
 | cons _ _ ih=>rw[List.length_cons,List.length_cons,ih]
theorem SimL.find{clock id:Int}{xs ys:List Ser}(h:SimL clock xs ys): (qFd xs id=none/\qFd ys id=none)\/∃x y,qFd xs id=some x/\qFd ys id=some y/\Sim clock x y/\x∈xs/\y∈ys/\∀x' y',Sim clock x' y'->SimL clock (qKs xs id x') (qKs ys id y'):=by
 induction h with
 | nil=>exact .inl ⟨rfl,rfl⟩
 | cons hs r ih =>
  rename_i x y xs ys
  by_cases e:(x.id==id)=true
  ·have e':(y.id==id)=true:=by rw[hs.id];exact e
   refine .inr ⟨x,y,?_,?_,hs,by simp,by simp,λx' y' h'=>?_⟩
   ·unfold qFd;rw[List.find?_cons_of_pos (p:=λz:Ser=>z.id==id) e]
   ·unfold qFd;rw[List.find?_cons_of_pos (p:=λz:Ser=>z.id==id) e']
   ·unfold qKs;rw[if_pos e,if_pos e'];exact .cons h' r
  ·have e':¬(y.id==id)=true:=by rw[hs.id];exact e
   have f1:qFd (x::xs) id=qFd xs id:=by unfold qFd;rw[List.find?_cons_of_neg (p:=λz:Ser=>z.id==id) e]
   have f2:qFd (y::ys) id=qFd ys id:=by unfold qFd;rw[List.find?_cons_of_neg (p:=λz:Ser=>z.id==id) e']
   rcases ih with ⟨g1,g2⟩ | ⟨x2,y2,g1,g2,g3,g4,g5,g6⟩
   ·exact .inl ⟨by rw[f1];exact g1,by rw[f2];exact g2⟩
   ·refine .inr ⟨x2,y2,by rw[f1];exact g1,by rw[f2];exact g2,g3,by simp[g4],by simp[g5],λx' y' h'=>?_⟩
    unfold qKs;rw[if_neg e,if_neg e'];exact .cons hs (g6 x' y' h')
theorem SimL.app{clock:Int}{xs ys:List Ser}(h:SimL clock xs ys)(x:Ser): SimL clock (xs++[x]) (ys++[x]):=by
 induction h with
 | nil=>exact .cons (Sim.refl clock x) .nil
 | cons hs _ ih=>exact .cons hs ih
theorem SimL.tick{n1 n2 clock nc:Int}(hcn:clock<=nc){xs ys:List Ser}(h:SimL clock xs ys): (∀x,x∈xs->SInv n1 x/\SZ clock x)->(∀y,y∈ys->SInv n2 y/\SZ clock y)->SimL nc (xs.map (qCh nc)) (ys.map (qCh nc)):=by
 induction h with
 | nil=>intros;exact .nil
 | cons hs _ ih =>
  rename_i x y xs ys _
  intro hx hy
  have a:=hx x (by simp)
  have b:=hy y (by simp)
  exact .cons (hs.tick a.1 b.1 a.2 b.2 hcn) (ih (λz hz=>hx z (by simp[hz])) (λz hz=>hy z (by simp[hz])))
theorem SimL.sweep{n1 nc:Int}{xs ys:List Ser}(h:SimL nc xs ys): ∀b,(∀x,x∈xs->SInv n1 x)->SimL nc (qCj nc b xs).1 (qCj nc b ys).1/\(qCj nc b ys).2=(qCj nc b xs).2:=by
 induction h with
 | nil=>intro b _;exact⟨.nil,rfl⟩
 | cons hs _ ih =>
  rename_i x y xs ys _
  intro b hx
  obtain⟨s1,s2,s3⟩:=hs.swp (hx x (by simp)) b
  obtain⟨i1,i2⟩:=ih (b-qZy nc b x) (λz hz=>hx z (by simp[hz]))
  unfold qCj
  rw[s2,s3,i2]
  exact⟨.cons s1 i1,rfl⟩
theorem SimL.nums{n1 n2 clock:Int}{xs ys:List Ser}(h:SimL clock xs ys): (∀x,x∈xs->SInv n1 x/\SZ clock x)->(∀y,y∈ys->SInv n2 y/\SZ clock y)->qC5 clock ys=qC5 clock xs:=by
 induction h with
 | nil=>intros;rfl
 | cons hs _ ih =>
  rename_i x y xs ys _
  intro hx hy
  have a:=hx x (by simp)
  have b:=hy y (by simp)
  have:=ih (λz hz=>hx z (by simp[hz])) (λz hz=>hy z (by simp[hz]))
  unfold qC5 at this ⊢
  rw[List.flatMap_cons,List.flatMap_cons,this,hs.nums a.1 b.1 a.2 b.2]
theorem SimW.saved{n1 n2:Int}{s t:WS}(h:SimW s t)(hs:Ok n1 s)(ht:Ok n2 t): qFj t=qFj s:=by
 have hz:∀y,y∈t.xs->SInv n2 y/\SZ s.clock y:=λy hy=>⟨ht.i.sers y hy,by rw[<-h.clock];exact ht.z y hy⟩
 have:=h.xs.nums (λx hx=>⟨hs.i.sers x hx,hs.z x hx⟩) hz
 unfold qFj qD1 qHc qF2 qCs
 rw[h.clock,this,h.xs.len]
theorem SimW.step{n1 n2:Int}{s t:WS}(h:SimW s t)(hs:Ok n1 s)(ht:Ok n2 t)(o:OpM)(h7:o.kind≠7): SimW (qBq s o).1 (qBq t o).1/\(qBq t o).2=(qBq s o).2/\qCu t o=qCu s o:=by
 have hb:qCu t o=qCu s o:=by
  unfold qCu
  split
  ·exact h.saved hs ht
  ·rfl
 have hx:∀x,x∈s.xs->SInv n1 x/\SZ s.clock x:=λx hx=>⟨hs.i.sers x hx,hs.z x hx⟩
 have hy:∀y,y∈t.xs->SInv n2 y/\SZ s.clock y:=λy hy=>⟨ht.i.sers y hy,by rw[<-h.clock];exact ht.z y hy⟩
 have key:SimW (qBq s o).1 (qBq t o).1/\(qBq t o).2=(qBq s o).2:=by
  unfold qBq
  split
  ·unfold qDa
   have hf:(qFd t.xs o.id).isNone=(qFd s.xs o.id).isNone:=by
    rcases h.xs.find (id:=o.id) with ⟨g1,g2⟩ | ⟨x,y,g1,g2,_⟩ <;> rw[g1,g2] <;> rfl
   rw[hf,h.xs.len]
   split
   ·split
    ·split
     ·refine⟨⟨h.clock,?_⟩,rfl⟩
      show SimL s.clock (s.xs++[_]) (t.xs++[_])
      exact h.xs.app _
     ·exact⟨h,rfl⟩
    ·exact⟨h,rfl⟩
   ·exact⟨h,rfl⟩
  ·split
   ·unfold qSp
    rcases h.xs.find (id:=o.id) with ⟨g1,g2⟩ | ⟨x,y,g1,g2,g3,g4,g5,g6⟩
    ·rw[g1,g2];exact⟨h,rfl⟩
    ·rw[g1,g2]
     simp only
     rw[h.clock,g3.refE (hx x g4).1,g3.acc]
     split
     ·refine⟨⟨rfl,?_⟩,rfl⟩
      exact g6 _ _ (g3.accS (hx x g4).1 (hy y g5).1 o.item)
     ·refine⟨⟨rfl,?_⟩,rfl⟩
      exact g6 _ _ (g3.refS _)
   ·split
    ·unfold qIt
     rw[h.clock]
     split
     ·split
      ·have hmx:s.clock<=qH1 s.clock o.a:=by unfold qH1;split <;> omega
       have h1:=h.xs.tick hmx hx hy
       have h2:=h1.sweep o.b (n1:=n1) (λz hz=>by
          obtain⟨x,hxm,rfl⟩:=List.mem_map.1 hz
          exact qJp _ (hx x hxm).1 _)
       exact⟨⟨rfl,h2.1⟩,by rw[h2.2]⟩
      ·exact⟨h,rfl⟩
     ·exact⟨h,rfl⟩
    ·split
     ·unfold qG2
      rcases h.xs.find (id:=o.id) with ⟨g1,g2⟩ | ⟨x,y,g1,g2,g3,g4,g5,g6⟩
      ·rw[g1,g2];exact⟨h,rfl⟩
      ·rw[g1,g2]
       refine⟨h,?_⟩
       show qHl y.k y.c y.nt o.a (t.clock-y.c.lag)=qHl x.k x.c x.nt o.a (s.clock-x.c.lag)
       rw[h.clock]
       exact g3.qry (hx x g4).1 (hy y g5).1 (hx x g4).2 (hy y g5).2 o.a
     ·split
      ·unfold qG3
       rcases h.xs.find (id:=o.id) with ⟨g1,g2⟩ | ⟨x,y,g1,g2,g3,g4,g5,g6⟩
       ·rw[g1,g2];exact⟨h,rfl⟩
       ·rw[g1,g2]
        refine⟨h,?_⟩
        show((0:Int),qCg y)=(0,qCg x)
        unfold qCg
        rw[g3.acc,g3.rel,g3.ref]
      ·split
       ·exact⟨h,rfl⟩
       ·exact⟨h,rfl⟩
 exact⟨key.1,key.2,hb⟩
def zC9(k:Nat)(c:Cfg)(m:Int)(nt:Note): Note :=
 if k=1 then { qFy with bs:=nt.bs }
 else if k=2 then { qFy with rg:=λj=>qCq c m (nt.rg j) }
 else if k=3 then { qFy with op:=(qSr (qA8 c nt.op nt.cl (m-c.window))).1,cl:=(qSr (qA8 c nt.op nt.cl (m-c.window))).2 }
 else if k=4 then { qFy with q:=nt.q,r:=nt.r }
 else { qFy with tk:=((Dr.allL (nt.tk.length+1) nt.tk).map unT).foldl (qGm c) [] }
def qN0(clock:Int)(x:Ser): Ser:=⟨x.id,qCd x.k x.c,x.k,x.rel+(x.l.length:Int),x.rel,qDo x.ref 7,qKt x.k (Qi.allL (x.l.length+1) x.l),zC9 x.k (qCd x.k x.c) (clock-x.c.lag) x.nt,x.last⟩
theorem foldT(c:Cfg): ∀(ys:List It) (l:List Dr.It),Dr.HeapT l->(∀y,y∈ys->Dr.dpos (tick c y))->(l.length:Int)+ys.length<=c.size+1->Dr.HeapT (ys.foldl (qGm c) l)/\(ys.foldl (qGm c) l).Perm (ys.map (tick c)++l):=by
 intro ys
 induction ys with
 | nil=>intro l h _ _;exact⟨h,List.Perm.refl _⟩
 | cons y ys ih =>
  intro l h hd hl
  rw[List.length_cons]at hl
  obtain⟨g1,D,g2,g3⟩:=qJb c y h (hd y (by simp))
  rw[if_neg (by omega)]at g3
  have hD:D=[]:=List.length_eq_zero_iff.1 (by omega)
  subst hD
  have hlen:=g2.length_eq
  rw[List.nil_append,List.length_cons]at hlen
  obtain⟨i1,i2⟩:=ih (qGm c l y) g1 (λz hz=>hd z (by simp[hz])) (by omega)
  refine⟨i1,i2.trans ?_⟩
  refine(List.Perm.append_left _ g2).trans ?_
  rw[List.map_cons,List.cons_append]
  exact List.perm_middle
theorem qVb{c:Cfg}{rel last:Int}{nt:Note}(h:NZ 5 c rel last nt):
  Dr.HeapT (((Dr.allL (nt.tk.length+1) nt.tk).map unT).foldl (qGm c) [])/\(((Dr.allL (nt.tk.length+1) nt.tk).map unT).foldl (qGm c) []).Perm nt.tk:=by
 obtain⟨h1,h2,h3⟩:=h.drw rfl
 have hp:=(Dr.allL_spec (nt.tk.length+1) nt.tk (by omega) h1).1
 have:=foldT c ((Dr.allL (nt.tk.length+1) nt.tk).map unT) [] ⟨λj hj=>by simp at hj,λi _ hi=>by simp at hi⟩ (λy hy=>by
    obtain⟨z,hz,rfl⟩:=List.mem_map.1 hy
    exact qJo (h3 z (hp.subset hz)).2.1) (by
    rw[List.length_map,hp.length_eq]
    show((0:Nat):Int)+_<=_
    split at h2 <;> omega)
 refine⟨this.1,this.2.trans ?_⟩
 rw[List.append_nil,List.map_map]
 have e:(Dr.allL (nt.tk.length+1) nt.tk).map (tick c ∘ unT)=Dr.allL (nt.tk.length+1) nt.tk:=by
  conv=>rhs;rw[<-List.map_id (Dr.allL (nt.tk.length+1) nt.tk)]
  exact List.map_congr_left (λz hz=>(h3 z (hp.subset hz)).1.symm)
 rw[e]
 exact hp
theorem zE0{k:Nat}{c:Cfg}{rel last:Int}{nt:Note}(m:Int)(hi:NInv k c rel last nt)(hz:NZ k c rel last nt)(k1:1<=k)(k5:k<=5)(hv:qA7 c=true)(hk:c.kind=k)(hl:0<=last):
  NInv k c rel last (zC9 k c m nt)/\NZ k c rel last (zC9 k c m nt)/\NSim k c m nt (zC9 k c m nt):=by
 have hr:=hi.rel0
 rcases five k1 k5 with e | e | e | e | e <;> subst e
 ·refine⟨⟨Int.le_refl _,hr,Int.le_refl _,(show(0:Int)<2305843009213693952 by decide),hi.one,hi.sum,λi b hb=>(by cases hb),λi=>hr,λe=>by omega,λe=>by omega⟩,⟨λe=>by omega,λ_=>hz.cnt rfl,λe=>by omega,λe=>by omega,λe=>by omega⟩,⟨λe=>by omega,λ_=>rfl,λe=>by omega,λe=>by omega,λe=>by omega⟩⟩
 ·obtain⟨z1,z2,z3⟩:=hz.dis rfl
  have hmem:∀i b,b∈qCq c m (nt.rg i)->b∈nt.rg i:=λi b hb=>List.mem_of_mem_drop hb
  have hlen:∀i,(qCq c m (nt.rg i)).length<=(nt.rg i).length:=λi=>by unfold qCq;rw[List.length_drop];omega
  refine⟨⟨Int.le_refl _,hr,Int.le_refl _,(show(0:Int)<2305843009213693952 by decide),λb hb=>(by cases hb),hr,λi b hb=>hi.rk i b (hmem i b hb),λi=>by have:=hi.rl i;have:=hlen i;show((qCq c m (nt.rg i)).length:Int)<=rel;omega,λe=>by omega,λe=>by omega⟩,⟨λe=>by omega,λe=>by omega,λ_=>⟨λj=>(z1 j).drop _,λj b hb=>z2 j b (hmem j b hb),?_⟩,λe=>by omega,λe=>by omega⟩,⟨λe=>by omega,λe=>by omega,λ_ j _=>?_,λe=>by omega,λe=>by omega⟩⟩
  ·have:=qRs (a:=λj=>qCq c m (nt.rg j)) (b:=nt.rg) hlen (qG6 c) 0
   show((qO8 (λj=>qCq c m (nt.rg j)) (qG6 c) 0:Nat):Int)<=rel
   omega
  ·show qCq c m (nt.rg j)=qCq c m (qCq c m (nt.rg j))
   rw[qJl c m (qCq c m (nt.rg j)),qJl,qT3 (λ_ h=>h)]
 ·have hL:=(qBp hv hk rfl).2.2.1
  have hp1:=(qBp hv hk rfl).1.p0
  have h1:=zA2 (t:=m-c.window) (hz.oft rfl) (hi.oi rfl) (by omega) hl hp1
  obtain⟨f1,f2,_⟩:=qIs (t:=m-c.window) (hz.oft rfl) (hi.oi rfl) (by omega)
  refine⟨⟨Int.le_refl _,hr,Int.le_refl _,(show(0:Int)<2305843009213693952 by decide),λb hb=>(by cases hb),hr,λi b hb=>(by cases hb),λi=>hr,λ_=>h1.1,λe=>by omega⟩,⟨λe=>by omega,λe=>by omega,λe=>by omega,λ_=>h1.2,λe=>by omega⟩,⟨λe=>by omega,λe=>by omega,λe=>by omega,λ_=>?_,λe=>by omega⟩⟩
  exact(qW9 _ f1 (λq hq=>(f2 q hq).1) (λq hq=>(f2 q hq).2.1)).symm
 ·refine⟨⟨hi.q0,hi.qn,hi.r0,hi.r1,λb hb=>(by cases hb),hr,λi b hb=>(by cases hb),λi=>hr,λe=>by omega,λe=>by omega⟩,⟨λ_=>hz.dec rfl,λe=>by omega,λe=>by omega,λe=>by omega,λe=>by omega⟩,⟨λ_=>⟨rfl,rfl⟩,λe=>by omega,λe=>by omega,λe=>by omega,λe=>by omega⟩⟩
 ·obtain⟨g1,g2⟩:=qVb hz
  obtain⟨z1,z2,z3⟩:=hz.drw rfl
  refine⟨⟨Int.le_refl _,hr,Int.le_refl _,(show(0:Int)<2305843009213693952 by decide),λb hb=>(by cases hb),hr,λi b hb=>(by cases hb),λi=>hr,λe=>by omega,λ_=>?_⟩,⟨λe=>by omega,λe=>by omega,λe=>by omega,λe=>by omega,λ_=>⟨g1,?_,λz hz=>z3 z (g2.subset hz)⟩⟩,⟨λe=>by omega,λe=>by omega,λe=>by omega,λe=>by omega,λ_=>g2.symm⟩⟩
  ·show((((Dr.allL (nt.tk.length+1) nt.tk).map unT).foldl (qGm c) []).length:Int)<=_
   rw[g2.length_eq];exact hi.tl rfl
  ·show((((Dr.allL (nt.tk.length+1) nt.tk).map unT).foldl (qGm c) []).length:Int)=_
   rw[g2.length_eq];exact z2
theorem zGw{k:Nat}{c:Cfg}{rel last:Int}{nt:Note}(m:Int)(h:NX k nt)(hz:NZ k c rel last nt)(k1:1<=k)(k5:k<=5): NX k (zC9 k c m nt):=by
 rcases five k1 k5 with e | e | e | e | e <;> subst e
 ·exact⟨h.bt,λi b hb=>(by cases hb),λi=>List.Pairwise.nil,λe=>by omega⟩
 ·exact⟨λb hb=>(by cases hb),λi b hb=>h.rt i b (List.mem_of_mem_drop hb),λi=>(h.rf i).drop _,λe=>by omega⟩
 ·exact⟨λb hb=>(by cases hb),λi b hb=>(by cases hb),λi=>List.Pairwise.nil,λe=>by omega⟩
 ·exact⟨λb hb=>(by cases hb),λi b hb=>(by cases hb),λi=>List.Pairwise.nil,λe=>by omega⟩
 ·exact⟨λb hb=>(by cases hb),λi b hb=>(by cases hb),λi=>List.Pairwise.nil,λ_ z hzm=>h.tt rfl z ((qVb hz).2.subset hzm)⟩
theorem qWt{l:List Int}(hl:l.length=12)(h:∀j,j<5->qAs l j=0): qDo l 7=l:=by
 match l,hl with
 | [a0,a1,a2,a3,a4,a5,a6,a7,a8,a9,a10,a11],_ =>
  have e0:a0=0:=h 0 (by omega)
  have e1:a1=0:=h 1 (by omega)
  have e2:a2=0:=h 2 (by omega)
  have e3:a3=0:=h 3 (by omega)
  have e4:a4=0:=h 4 (by omega)
  subst e0;subst e1;subst e2;subst e3;subst e4
  rfl
theorem zEf{x:Ser}(hh:HeapL x.l): (qKt x.k (Qi.allL (x.l.length+1) x.l)).Perm (x.l.map (itK x.k)):=(qMd x.k _).2.trans ((qF7 _ x.l (by omega) hh).map _)
theorem qYo{k:Nat}{c:Cfg}{m:Int}{nt:Note}(k1:1<=k)(k5:k<=5)(h5:k≠5): (zC9 k c m nt).tk=[]:=by
 rcases five k1 k5 with e | e | e | e | e <;> subst e
 ·rfl
 ·rfl
 ·rfl
 ·rfl
 ·exact absurd rfl h5
theorem qLg{n clock:Int}{x:Ser}(hi:SInv n x)(hx:SX x)(hz:SZ clock x): SInv n (qN0 clock x)/\SX (qN0 clock x)/\SZ clock (qN0 clock x)/\Sim clock x (qN0 clock x):=by
 have hb:=zEf hi.heap
 have hh:=qIb x.k x.c hi.k1 hi.k5
 have hv:=qPk x.k x.c hi.k1 hi.k5 hi.valid hi.kind
 have hkk:(qCd x.k x.c).kind=x.k:=by rw[hh.1];exact hi.kind
 obtain⟨c1,c2,c3⟩:=zE0 (clock-x.c.lag) hi.note.K hz.note.K hi.k1 hi.k5 hv hkk hi.last0
 have hnx:=zGw (c:=qCd x.k x.c) (clock-x.c.lag) hx.note hz.note.K hi.k1 hi.k5
 have href:qDo x.ref 7=x.ref:=qWt hi.reflen hz.ref5
 have hlen:(qKt x.k (Qi.allL (x.l.length+1) x.l)).length=x.l.length:=by rw[hb.length_eq,List.length_map]
 have hacc:x.rel+(x.l.length:Int)=x.acc:=hi.rela
 have hmem:∀y,y∈(qN0 clock x).l->∃z,z∈x.l/\itK x.k z=y:=λy hy=>List.mem_map.1 (hb.subset hy)
 have hnum:((qN0 clock x).l.map (·.n)).Perm (x.l.map (·.n)):=by
  have:=hb.map (·.n)
  rw[List.map_map]at this
  have e:x.l.map ((·.n) ∘ itK x.k)=x.l.map (·.n):=List.map_congr_left (λy _=>qHs x.k y)
  rw[e]at this
  exact this
 have htk:(x.nt.tk.map (·.n)).Perm ((qN0 clock x).nt.tk.map (·.n))\/(qN0 clock x).nt.tk=[]:=by
  by_cases e:x.k=5
  ·exact .inl ((c3.drw e).map _)
  ·exact .inr (qYo hi.k1 hi.k5 e)
 refine⟨⟨hv,hkk,hi.k1,hi.k5,?_,?_,hi.rel0,?_,qHk _ _,?_,?_,?_,c1,(qMd x.k _).1,hi.last0,hi.lastn,?_,?_⟩,⟨hx.id0,?_,?_,?_,hnx⟩,⟨?_,?_,?_,?_,?_,?_,?_,c2⟩,⟨rfl,rfl,zF3 x.k x.c hi.k1 hi.k5,hacc,rfl,href,rfl,?_,c3⟩⟩
 ·show 0<=x.rel+_;rw[hacc];exact hi.acc0
 ·show x.rel+_<=n;rw[hacc];exact hi.accn
 ·show x.rel+((qKt x.k (Qi.allL (x.l.length+1) x.l)).length:Int)=x.rel+_;rw[hlen]
 ·show ∀v,v∈qDo x.ref 7->_;rw[href];exact hi.refn
 ·show((qKt x.k (Qi.allL (x.l.length+1) x.l)).length:Int)<=(qCd x.k x.c).cap;rw[hlen,hh.2.2.2];exact hi.cap
 ·intro y hy;obtain⟨z,h1,h2⟩:=hmem y hy;rw[<-h2,qMg];exact hi.times z h1
 ·intro y hy;obtain⟨z,h1,h2⟩:=hmem y hy;rw[<-h2,qMg];exact hi.lastl z h1
 ·intro y hy;obtain⟨z,h1,h2⟩:=hmem y hy;rw[<-h2];show qDb (qCd x.k x.c) x.k (itK x.k z)=0;rw[qTt x.k x.c z hi.k1 hi.k5];exact hi.fits z h1
 ·show x.rel+_<=_;rw[hacc];exact hx.accm
 ·intro y hy;obtain⟨z,h1,h2⟩:=hmem y hy;rw[<-h2,qHs];exact hx.nums z h1
 ·show ∀v,v∈qDo x.ref 7->_;rw[href];exact hx.refm
 ·show ∀j,j<5->qAs (qDo x.ref 7) j=0;rw[href];exact hz.ref5
 ·intro y hy;obtain⟨z,h1,h2⟩:=hmem y hy;rw[<-h2,qMg];show clock-(qCd x.k x.c).lag<z.t/\z.t<=clock+(qCd x.k x.c).skew;rw[hh.2.1,hh.2.2.1];exact hz.due z h1
 ·intro y hy;obtain⟨z,h1,h2⟩:=hmem y hy;rw[<-h2,qHs];show 1<=z.n/\z.n<=x.rel+_;rw[hacc];exact hz.num z h1
 ·intro z hzm
  show 1<=z.n/\z.n<=x.rel+_
  rw[hacc]
  by_cases e:x.k=5
  ·exact hz.tkn z ((c3.drw e).symm.subset hzm)
  ·have e2:(qN0 clock x).nt.tk=[]:=qYo hi.k1 hi.k5 e
   rw[e2]at hzm;cases hzm
 ·rcases htk with h | h
  ·exact(hnum.append h.symm).nodup_iff.2 hz.nod
  ·rw[h,List.map_nil,List.append_nil]
   exact hnum.nodup_iff.2 (List.nodup_append.1 hz.nod).1
 ·show x.rel<=qGg (qCd x.k x.c) clock
  have:qGg (qCd x.k x.c) clock=qGg x.c clock:=by unfold qGg;rw[hh.2.1,hh.2.2.2]
  rw[this];exact hz.most
 ·intro h;show x.last<=clock-(qCd x.k x.c).lag;rw[hh.2.1];exact hz.mark h
 ·exact((qMd x.k _).2.trans (by
       refine List.Perm.trans ?_ ((qF7 (x.l.length+1) x.l (by omega) hi.heap).map _)
       exact List.Perm.refl _)).symm.trans (by
     have e:(qKt x.k (Qi.allL (x.l.length+1) x.l)).map (itK x.k)=qKt x.k (Qi.allL (x.l.length+1) x.l):=by
      conv=>rhs;rw[<-List.map_id (qKt x.k (Qi.allL (x.l.length+1) x.l))]
      refine List.map_congr_left (λy hy=>?_)
      obtain⟨z,_,h2⟩:=hmem y hy
      rw[<-h2,zA1];rfl
     show(qKt x.k _).Perm ((qKt x.k _).map (itK x.k))
     rw[e])
end
end Go.Proofs.YtahnliehdjncdabGreatDoor
