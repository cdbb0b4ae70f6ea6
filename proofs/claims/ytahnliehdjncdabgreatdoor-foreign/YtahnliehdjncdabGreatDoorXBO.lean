import Derived.Test.YtahnliehdjncdabGreatDoorXBN
import Derived.Test.YtahnliehdjncdabGreatDoorXAW
import Derived.Test.YtahnliehdjncdabGreatDoorXAT
import Derived.Test.YtahnliehdjncdabGreatDoorXBB
import Derived.Test.YtahnliehdjncdabGreatDoorXBD
import Derived.Test.YtahnliehdjncdabGreatDoorXBE
import Derived.Test.YtahnliehdjncdabGreatDoorXBL
import Derived.Test.YtahnliehdjncdabGreatDoorXAJ
import Derived.Test.YtahnliehdjncdabGreatDoorXBG
import Derived.Test.YtahnliehdjncdabGreatDoorXAZ
import Derived.Test.YtahnliehdjncdabGreatDoorXAL
import Derived.Test.YtahnliehdjncdabGreatDoorXAN
import Derived.Test.YtahnliehdjncdabGreatDoorXAY
set_option maxRecDepth 100000
set_option maxHeartbeats 16000000
namespace Go.Proofs.YtahnliehdjncdabGreatDoor
section
theorem qYq(c:Int)(xs:List Ser): ∀b,(qC8 c b xs).1.map (·.id)=xs.map (·.id):=by
 induction xs with
 | nil=>intro b;rfl
 | cons x xs ih=>intro b;simp only[qC8,List.map_cons,ih];rfl
theorem qX3{xs:List Ser}{id:Int}{x:Ser}(h:qPr xs id=some x): ∃l1 l2,xs=l1++x::l2/\x.id=id/\∀y:Ser,qNf xs id y=l1++y::l2:=by
 obtain⟨hp,l1,l2,he,hn⟩:=List.find?_eq_some_iff_append.1 h;refine⟨l1,l2,he,by simpa using hp,λy=>?_⟩;subst he;clear h
 induction l1 with
 | nil=>simp[qNf];intro h0;exact absurd (by simpa using hp) h0
 | cons a l1 ih =>
  have ha:=hn a (by simp);simp only[List.cons_append,qNf];rw[if_neg (by simpa using ha),ih (λz hz=>hn z (by simp[hz]))]
def zJ4(cs:List Int)(j pl:Nat): Int:=cs.getD (j*16+pl) 0
theorem zHs(cs:List Int)(hl:cs.length=48)(j pl a b:Nat)(hpl:pl<16)(ha:a<3)(hb:b<16): zJ4 (zCp cs (a*16+b)) j pl=zJ4 cs j pl+if j=a/\pl=b then 1 else 0:=by
 unfold zJ4 zCp;rw[List.getD_eq_getElem?_getD,List.getElem?_set]
 by_cases h:j=a/\pl=b
 ·rw[if_pos h,h.1,h.2,if_pos rfl,if_pos (by omega)];rfl
 ·rw[if_neg h,if_neg (by omega),Int.add_zero,List.getD_eq_getElem?_getD]
theorem zBo(c:Cfg)(hc:c.rowed)(key:Int)(cs:List Int)(hl:cs.length=48)(j pl:Nat)(hpl:pl<16): ∀n:Nat,n<=3->zJ4 (qEy c key n cs) j pl=zJ4 cs j pl+if j<n/\qB3 c key j=(pl:Int) then 1 else 0:=by
 intro n
 induction n with
 | zero=>intro _;simp[qEy]
 | succ n ih =>
  intro hn;have hb:=qJu c hc key n;rw[show qEy c key (n+1) cs=zCp (qEy c key n cs) (n*16+(qB3 c key n).toNat) from rfl,zHs _ (by rw[qEx,hl]) j pl n _ hpl (by omega) (by omega),ih (by omega)]
  by_cases h1:j=n
  ·subst h1
   rw[if_neg (by omega)]
   by_cases h2:qB3 c key j=(pl:Int)
   ·rw[if_pos ⟨rfl,by omega⟩,if_pos ⟨by omega,h2⟩];omega
   ·rw[if_neg (λh=>h2 (by omega)),if_neg (λh=>h2 h.2)];omega
  ·have e1:(if j=n/\pl=(qB3 c key n).toNat then(1:Int) else 0)=0:=if_neg (λh=>h1 h.1)
   rw[e1]
   by_cases h2:j<n/\qB3 c key j=(pl:Int)
   ·rw[if_pos h2,if_pos ⟨by omega,h2.2⟩];omega
   ·rw[if_neg h2,if_neg (λh=>h2 ⟨by omega,h.2⟩)];omega
end
section
open Go.RowKit
theorem qHy{c:Cfg}{k:Nat}(h:qA5 c=true)(hk:c.kind=k)(h3:k=3): (c.rows=1\/c.rows=2\/c.rows=3)/\1<=c.width/\c.width<=16/\1<=c.panes/\c.panes<=8/\1<=c.window/\c.window<=1000/\c.window%c.panes=0:=by
 subst h3;simp only[qA5,hk,Bool.and_eq_true]at h;have h2:qIo c=true:=h.2.2;simp only[qIo,qD4,inB,Bool.and_eq_true,decide_eq_true_eq,beq_iff_eq]at h2;omega
theorem qJl(k:Nat)(c:Cfg)(h1:1<=k)(h5:k<=5): (qDd k c).kind=c.kind/\(qDd k c).lag=c.lag/\(qDd k c).skew=c.skew/\(qDd k c).cap=c.cap:=by
 rcases five h1 h5 with e | e | e | e | e <;> subst e <;> exact⟨rfl,rfl,rfl,rfl⟩
theorem zBd(k:Nat)(c:Cfg)(y:It)(h1:1<=k)(h5:k<=5): qCy (qDd k c) k (itK k y)=qCy c k y:=by
 rcases five h1 h5 with e | e | e | e | e <;> subst e <;> rfl
theorem zDr(k:Nat)(c:Cfg)(y:It)(h1:1<=k)(h5:k<=5): qCy (qDd k c) k y=qCy c k y:=by
 rcases five h1 h5 with e | e | e | e | e <;> subst e <;> rfl
theorem zIw(k:Nat)(c:Cfg)(nt:Note)(m:Int)(h1:1<=k)(h5:k<=5): qG4 k (qDd k c) nt m=qG4 k c nt m:=by
 rcases five h1 h5 with e | e | e | e | e <;> subst e <;> rfl
theorem zFn(k:Nat)(c:Cfg)(h1:1<=k)(h5:k<=5)(hv:qA5 c=true)(hk:c.kind=k): qBt k (qDd k c)=qBt k c:=by
 rcases five h1 h5 with e | e | e | e | e <;> subst e
 ·rfl
 ·rfl
 ·have h:=qHy hv hk rfl
  have hp:∀p:Nat,p<=3->(qBq p).map (qVj p (qL1 3 c) c).num=(qBq p).map c.num:=λp hp=>by
   have:p=0\/p=1\/p=2\/p=3:=by omega
   rcases this with e | e | e | e <;> subst e <;> rfl
  have h2:=hp c.rows.toNat (by omega);show c.kind::([1,2,3].map c.num++([7,8,9,5].map c.num++(qBq c.rows.toNat).map (qVj c.rows.toNat (qL1 3 c) c).num))=_;rw[h2];rfl
 ·rfl
 ·rfl
theorem zI9(k:Nat)(c:Cfg)(h1:1<=k)(h5:k<=5): qDd k (qDd k c)=qDd k c:=by
 rcases five h1 h5 with e | e | e | e | e <;> subst e
 ·rfl
 ·rfl
 ·have h:∀p:Nat,qVj p (qL1 3 (qVj p (qL1 3 c) c)) (qVj p (qL1 3 c) c)=qVj p (qL1 3 c) c:=λp=>by
   unfold qVj;simp only[Cfg.mk.injEq,qL1,zCb];refine⟨trivial,trivial,trivial,trivial,trivial,trivial,trivial,trivial,trivial,trivial,trivial,trivial,trivial,trivial,?_,?_,?_,?_,?_,?_⟩ <;> split <;> rfl
  exact h c.rows.toNat
 ·rfl
 ·rfl
theorem qUf(k:Nat)(c:Cfg)(h1:1<=k)(h5:k<=5)(hv:qA5 c=true)(hk:c.kind=k): qA5 (qDd k c)=true:=by
 have hh:=qJl k c h1 h5;unfold qA5 at hv ⊢;rw[hh.1];rw[hk]at hv ⊢;have hc:qDm (qDd k c)=qDm c:=by unfold qDm;rw[hh.2.1,hh.2.2.1,hh.2.2.2]
 rw[hc];simp only[Bool.and_eq_true]at hv ⊢;refine⟨hv.1,hv.2.1,?_⟩;have h2:=hv.2.2;rw[Int.toNat_natCast]at h2 ⊢;rcases five h1 h5 with e | e | e | e | e <;> subst e
 ·exact h2
 ·exact h2
 ·have hv':qA5 c=true:=by unfold qA5;simp only[Bool.and_eq_true];rw[hk];exact⟨hv.1,hv.2.1,h2⟩
  have h:=qHy hv' hk rfl;have h3:∀p:Nat,p=1\/p=2\/p=3->qIi (qVj p (qL1 3 c) c) p=qIi c p:=λp hp=>by
   rcases hp with e | e | e <;> subst e <;> rfl
  have h4:qIo (qDd 3 c)=qIo c:=by
   show(inB c.rows 1 3&&(inB c.width 1 16&&(inB c.panes 1 8&&(qD4 c&&((c.window%c.panes==0)&&qIi (qVj c.rows.toNat (qL1 3 c) c) c.rows.toNat)))))=_;rw[h3 c.rows.toNat (by omega)];rfl
  show qIo (qDd 3 c)=true;rw[h4];exact h2
 ·exact h2
 ·exact h2
end
end Go.Proofs.YtahnliehdjncdabGreatDoor
namespace Go.Proofs.YtahnliehdjncdabGreatDoor.Dr
open Go.Proofs.YtahnliehdjncdabGreatDoor
def dv(a:It): Int:=a.v%18446744073709551616
def dd(a:It): Int:=a.d%18446744073709551616
def dpos(a:It): Prop:=0<dd a
def leT(a b:It): Prop:=dv a*dd b<dv b*dd a\/(dv a*dd b=dv b*dd a/\b.n<=a.n)
theorem leT.refl(a:It): leT a a:=.inr ⟨rfl,Int.le_refl _⟩
theorem dd0(a:It): 0<=dd a:=by unfold dd;omega
theorem zC0{a b c d e f:Int}(hd:0<d)(hb:0<=b)(hf:0<=f)(h1:a*d<=c*b)(h2:c*f<=e*d): a*f<=e*b/\((a*d<c*b/\0<f)\/(c*f<e*d/\0<b)->a*f<e*b):=by
 have k1:a*d*f<=c*b*f:=Int.mul_le_mul_of_nonneg_right h1 hf;have k2:c*f*b<=e*d*b:=Int.mul_le_mul_of_nonneg_right h2 hb;have e1:a*d*f=a*f*d:=by rw[Int.mul_right_comm]
 have e2:c*b*f=c*f*b:=by rw[Int.mul_right_comm]
 have e3:e*d*b=e*b*d:=by rw[Int.mul_right_comm]
 refine⟨Int.le_of_mul_le_mul_right (by omega:a*f*d<=e*b*d) hd,λh=>?_⟩;refine Int.lt_of_mul_lt_mul_right (a:=d) ?_ (by omega);rcases h with ⟨h,hp⟩ | ⟨h,hp⟩
 ·have:a*d*f<c*b*f:=Int.mul_lt_mul_of_pos_right h hp
  omega
 ·have:c*f*b<e*d*b:=Int.mul_lt_mul_of_pos_right h hp
  omega
theorem leT.trans{a b c:It}(hb:dpos b)(ha:dpos a)(hc:dpos c)(h:leT a b)(k:leT b c): leT a c:=by
 unfold leT dpos at *;have ha0:=dd0 a;have hc0:=dd0 c;have h1:dv a*dd b<=dv b*dd a:=by omega
 have h2:dv b*dd c<=dv c*dd b:=by omega
 obtain⟨k1,k2⟩:=zC0 hb ha0 hc0 h1 h2;rcases h with h | ⟨h,hn⟩
 ·left;exact k2 (.inl ⟨h,hc⟩)
 ·rcases k with k | ⟨k,kn⟩
  ·left;exact k2 (.inr ⟨k,ha⟩)
  ·by_cases he:dv a*dd c=dv c*dd a
   ·right;exact⟨he,by omega⟩
   ·left;omega
theorem qMu{a b:It}(h:qCj a b=true): leT a b:=by
 unfold qCj qK2 at h;unfold leT dv dd
 split at h
 ·rename_i he;simp at h;right;exact⟨he.symm,by omega⟩
 ·simp at h;left;exact h
theorem qGm{a b:It}(h:qCj a b=false): leT b a:=by
 unfold qCj qK2 at h;unfold leT dv dd
 split at h
 ·rename_i he;simp at h;right;exact⟨he,by omega⟩
 ·rename_i he;simp at h;left;omega
structure HeapT (l:List It):Prop where
 ok:∀j,j<l.length->dpos (itAt l j)
 up:∀i,0<i->i<l.length->leT (itAt l ((i-1)/2)) (itAt l i)
theorem zCm{l:List It}{i j:Nat}(h:∀t,t<l.length->dpos (itAt l t))(hi:i<l.length)(hj:j<l.length): ∀t,t<(swapL l i j).length->dpos (itAt (swapL l i j) t):=by
 intro t ht;rw[qAp]at ht;rw[qBx l i j t hi hj]
 split
 ·exact h i hi
 ·split
  ·exact h j hj
  ·exact h t ht
structure RiseAt (l:List It) (i:Nat):Prop where
 ok:∀j,j<l.length->dpos (itAt l j)
 up:∀j,0<j->j<l.length->j≠i->leT (itAt l ((j-1)/2)) (itAt l j)
 over:∀c,0<i->c<l.length->0<c->(c-1)/2=i->leT (itAt l ((i-1)/2)) (itAt l c)
theorem qJ9(f:Nat): ∀(l:List It) (i:Nat),i<l.length->i<f->RiseAt l i->HeapT (riseL f l i):=by
 induction f with
 | zero=>intro l i _ h;omega
 | succ f ih =>
  intro l i hl hf h;unfold riseL
  split
  ·rename_i h0
   refine⟨h.ok,λj hj hjl=>?_⟩;exact h.up j hj hjl (by omega)
  ·rename_i h0
   split
   ·rename_i ha
    have hle:=qMu ha;have hp:(i-1)/2<i:=by omega
    generalize hpp:(i-1)/2=p at *;refine ih _ p (by rw[qAp];omega) (by omega) ⟨zCm h.ok hl (by omega),?_,?_⟩
    ·intro j hj hjl hjp
     rw[qAp]at hjl;rw[qBx l i p _ hl (by omega),qBx l i p j hl (by omega)];rw[if_neg hjp]
     by_cases hji:j=i
     ·subst hji
      rw[if_pos hpp,if_pos rfl];exact hle
     ·rw[if_neg hji]
      by_cases h1:(j-1)/2=p
      ·rw[if_pos h1]
       have:=h.up j hj hjl hji;rw[h1]at this;exact leT.trans (h.ok p (by omega)) (h.ok i hl) (h.ok j hjl) hle this
      ·rw[if_neg h1]
       by_cases h2:(j-1)/2=i
       ·rw[if_pos h2]
        have:=h.over j (by omega) hjl hj h2;rw[hpp]at this;exact this
       ·rw[if_neg h2]
        exact h.up j hj hjl hji
    ·intro c hp0 hcl hc0 hcp
     rw[qAp]at hcl;rw[qBx l i p _ hl (by omega),qBx l i p c hl (by omega)];rw[if_neg (show(p-1)/2≠p by omega),if_neg (show(p-1)/2≠i by omega),if_neg (show c≠p by omega)];have hpp':=h.up p hp0 (by omega) (by omega)
     by_cases hci:c=i
     ·rw[if_pos hci];exact hpp'
     ·rw[if_neg hci]
      have:=h.up c hc0 hcl hci;rw[hcp]at this;exact leT.trans (h.ok p (by omega)) (h.ok _ (by omega)) (h.ok c hcl) hpp' this
   ·rename_i ha
    have hle:=qGm (by simpa using ha);refine⟨h.ok,λj hj hjl=>?_⟩
    by_cases hji:j=i
    ·subst hji;exact hle
    ·exact h.up j hj hjl hji
structure SinkAt (l:List It) (i:Nat):Prop where
 ok:∀j,j<l.length->dpos (itAt l j)
 up:∀j,0<j->j<l.length->(j-1)/2≠i->leT (itAt l ((j-1)/2)) (itAt l j)
 over:∀c,0<i->c<l.length->0<c->(c-1)/2=i->leT (itAt l ((i-1)/2)) (itAt l c)
theorem qHo(l:List It)(i c:Nat)(h:qB1 l i=c): 0<c/\(c-1)/2=i/\∀d,d<l.length->0<d->(d-1)/2=i->leT (itAt l c) (itAt l d):=by
 unfold qB1 at h
 split at h
 ·split at h
  ·split at h
   ·rename_i h1 h2 h3
    have hc:c=2*i+2:=by omega
    subst hc;refine⟨by omega,by omega,λd hd h0 hp=>?_⟩;have:d=2*i+1\/d=2*i+2:=by omega
    rcases this with rfl | rfl
    ·exact qMu h3
    ·exact leT.refl _
   ·rename_i h1 h2 h3
    have hc:c=2*i+1:=by omega
    subst hc;refine⟨by omega,by omega,λd hd h0 hp=>?_⟩;have:d=2*i+1\/d=2*i+2:=by omega
    rcases this with rfl | rfl
    ·exact leT.refl _
    ·exact qGm (by simpa using h3)
  ·rename_i h1 h2
   have hc:c=2*i+1:=by omega
   subst hc;refine⟨by omega,by omega,λd hd h0 hp=>?_⟩;have:d=2*i+1:=by omega
   subst this;exact leT.refl _
 ·omega
theorem qIz(l:List It)(i:Nat)(h:qB1 l i<0): ∀d,d<l.length->0<d->(d-1)/2≠i:=by
 intro d hd h0 hp;unfold qB1 at h
 split at h
 ·split at h
  ·split at h <;> omega
  ·omega
 ·omega
theorem qKa(f:Nat): ∀(l:List It) (i:Nat),i<l.length->l.length<=f+i->SinkAt l i->HeapT (sinkL f l i):=by
 induction f with
 | zero=>intro l i _ h;omega
 | succ f ih =>
  intro l i hl hf h;unfold sinkL
  split
  ·rename_i h0
   refine⟨h.ok,λj hj hjl=>?_⟩;exact h.up j hj hjl (qIz l i h0 j hjl hj)
  ·rename_i h0
   rcases qDf l i with hc | ⟨c,hc,hic,hcl⟩
   ·omega
   ·rw[hc,Int.toNat_natCast]
    obtain⟨hc0,hcp,hcm⟩:=qHo l i c hc
    split
    ·rename_i ha
     have hle:=qMu ha;refine ih _ c (by rw[qAp];omega) (by rw[qAp];omega) ⟨zCm h.ok hl hcl,?_,?_⟩
     ·intro j hj hjl hjp
      rw[qAp]at hjl;rw[qBx l i c _ hl hcl,qBx l i c j hl hcl,if_neg hjp]
      by_cases hjc:j=c
      ·subst hjc
       rw[if_pos hcp,if_pos rfl];exact hle
      ·rw[if_neg hjc]
       by_cases hji:j=i
       ·subst hji
        rw[if_neg (show(j-1)/2≠j by omega),if_pos rfl];exact h.over c hj hcl hc0 hcp
       ·rw[if_neg hji]
        by_cases h2:(j-1)/2=i
        ·rw[if_pos h2];exact hcm j hjl hj h2
        ·rw[if_neg h2];exact h.up j hj hjl h2
     ·intro d hc' hdl hd0 hdp
      rw[qAp]at hdl;rw[qBx l i c _ hl hcl,qBx l i c d hl hcl];rw[if_neg (show(c-1)/2≠c by omega),if_pos hcp,if_neg (show d≠c by omega),if_neg (show d≠i by omega)];have:=h.up d hd0 hdl (by omega);rw[hdp]at this;exact this
    ·rename_i ha
     have hle:=qGm (by simpa using ha);refine⟨h.ok,λj hj hjl=>?_⟩
     by_cases h2:(j-1)/2=i
     ·rw[h2];exact leT.trans (h.ok c hcl) (h.ok i hl) (h.ok j hjl) hle (hcm j hjl hj h2)
     ·exact h.up j hj hjl h2
theorem HeapT.first{l:List It}(h:HeapT l)(j:Nat)(hj:j<l.length): leT (itAt l 0) (itAt l j):=by
 induction j using Nat.strongRecOn with
 | _ j ih =>
  by_cases h0:j=0
  ·subst h0;exact leT.refl _
  ·exact leT.trans (h.ok ((j-1)/2) (by omega)) (h.ok 0 (by omega)) (h.ok j hj) (ih ((j-1)/2) (by omega) (by omega)) (h.up j (by omega) hj)
theorem itAt_get(l:List It)(j:Nat)(hj:j<l.length): itAt l j=l[j]:=by
 unfold itAt;rw[List.getD_eq_getElem?_getD,List.getElem?_eq_getElem hj];rfl
theorem qF9(l:List It)(i j:Nat)(hi:i<l.length)(hj:j<l.length): (swapL l i j).Perm l:=by
 unfold swapL;rw[itAt_get l i hi,itAt_get l j hj];exact List.set_set_perm hi hj
theorem qKq(f:Nat): ∀(l:List It) (i:Nat),i<l.length->(riseL f l i).Perm l:=by
 induction f with
 | zero=>intro l i _;exact List.Perm.refl _
 | succ f ih =>
  intro l i hl;unfold riseL
  split
  ·exact List.Perm.refl _
  ·split
   ·exact(ih _ _ (by rw[qAp];omega)).trans (qF9 l _ _ hl (by omega))
   ·exact List.Perm.refl _
theorem qKs(f:Nat): ∀(l:List It) (i:Nat),i<l.length->(sinkL f l i).Perm l:=by
 induction f with
 | zero=>intro l i _;exact List.Perm.refl _
 | succ f ih =>
  intro l i hl;unfold sinkL
  split
  ·exact List.Perm.refl _
  ·rename_i h0
   rcases qDf l i with hc | ⟨c,hc,hic,hcl⟩
   ·omega
   ·rw[hc,Int.toNat_natCast]
    split
    ·exact(ih _ _ (by rw[qAp];omega)).trans (qF9 l _ _ hl hcl)
    ·exact List.Perm.refl _
theorem put_heap(l:List It)(x:It)(h:HeapT l)(hx:dpos x): HeapT (riseL (l.length+1) (l++[x]) l.length)/\(riseL (l.length+1) (l++[x]) l.length).Perm (x::l):=by
 have hat:∀j,j<l.length->itAt (l++[x]) j=itAt l j:=by
  intro j hj;unfold itAt;rw[List.getD_eq_getElem?_getD,List.getD_eq_getElem?_getD,List.getElem?_append_left hj]
 refine⟨qJ9 _ _ _ (by simp) (by omega) ⟨?_,?_,?_⟩,(qKq _ _ _ (by simp)).trans (List.perm_append_singleton x l)⟩
 ·intro j hj
  rw[List.length_append,List.length_singleton]at hj
  by_cases hjl:j<l.length
  ·rw[hat j hjl];exact h.ok j hjl
  ·have:j=l.length:=by omega
   subst this;rw[itAt_get _ _ (by simp)];simpa using hx
 ·intro j hj hjl hne
  rw[List.length_append,List.length_singleton]at hjl;rw[hat _ (by omega),hat j (by omega)];exact h.up j hj (by omega)
 ·intro c h0 hcl hc0 hcp
  rw[List.length_append,List.length_singleton]at hcl;omega
theorem take_heap(l:List It)(h:HeapT l)(hl:l≠[]): HeapT (takeL l)/\(itAt l 0::takeL l).Perm l:=by
 have hpos:0<l.length:=List.length_pos_iff.2 hl;unfold takeL
 by_cases h1:l.length=1
 ·obtain⟨a,rfl⟩:=List.length_eq_one_iff.1 h1
  refine⟨?_,?_⟩
  ·have hn:(sinkL [a].length (([a].set 0 (itAt [a] ([a].length-1))).take ([a].length-1)) 0).length=0:=rfl
   exact⟨λi hi=>by omega,λi _ hi=>by omega⟩
  ·exact List.Perm.refl _
 ·obtain⟨a,m,rfl⟩:∃a m,l=a::m:=by cases l with | nil=>exact absurd rfl hl | cons a m=>exact⟨a,m,rfl⟩
  obtain⟨m',z,rfl⟩:∃m' z,m=m'++[z]:=by
   refine⟨m.dropLast,m.getLast (by intro e;subst e;simp at h1),?_⟩;rw[List.dropLast_concat_getLast]
  have hz:itAt (a::(m'++[z])) ((a::(m'++[z])).length-1)=z:=by
   rw[itAt_get _ _ (by simp)];simp
  have he:((a::(m'++[z])).set 0 (itAt (a::(m'++[z])) ((a::(m'++[z])).length-1))).take ((a::(m'++[z])).length-1)=z::m':=by
   rw[hz];simp
  rw[he];have hat:∀j,0<j->j<(z::m').length->itAt (z::m') j=itAt (a::(m'++[z])) j:=by
   intro j h0 hj;simp only[List.length_cons]at hj;rw[itAt_get _ _ (by simpa using hj),itAt_get _ _ (by simp;omega)];obtain⟨j,rfl⟩:∃k,j=k+1:=⟨j-1,by omega⟩;simp only[List.getElem_cons_succ];rw[List.getElem_append_left (by omega)]
  refine⟨qKa _ _ 0 (by simp) (by simp) ⟨?_,?_,?_⟩,?_⟩
  ·intro j hj
   by_cases h0:j=0
   ·subst h0
    have:=h.ok ((a::(m'++[z])).length-1) (by simp);rw[hz]at this;exact this
   ·rw[hat j (by omega) hj];exact h.ok j (by simp at hj ⊢;omega)
  ·intro j hj hjl hne
   rw[hat _ (by omega) (by omega),hat j hj hjl];exact h.up j hj (by simp at hjl ⊢;omega)
  ·intro c h0;omega
  ·refine(List.Perm.cons _ (qKs _ _ 0 (by simp))).trans ?_
   show(a::z::m').Perm (a::(m'++[z]));exact List.Perm.cons a (List.perm_append_singleton z m').symm
end Go.Proofs.YtahnliehdjncdabGreatDoor.Dr
namespace Go.Proofs.YtahnliehdjncdabGreatDoor
section
theorem Dr.HeapT.firstm{l:List Dr.It}(h:Dr.HeapT l){y:Dr.It}(hy:y∈l): Dr.leT (Dr.itAt l 0) y:=by
 obtain⟨j,hj,rfl⟩:=List.mem_iff_getElem.1 hy;have:=h.first j hj
 rw[Dr.itAt_get l j hj]at this;exact this
theorem Dr.allL_spec(f:Nat): ∀l:List Dr.It,l.length<f->Dr.HeapT l->(Dr.allL f l).Perm l/\(Dr.allL f l).Pairwise Dr.leT:=by
 induction f with
 | zero=>intro l h;omega
 | succ f ih =>
  intro l hl hh;unfold Dr.allL
  by_cases h0:l.length=0
  ·rw[if_pos h0,List.eq_nil_of_length_eq_zero h0]
   exact⟨List.Perm.refl _,List.Pairwise.nil⟩
  ·rw[if_neg h0]
   have hne:l≠[]:=λe=>h0 (by rw[e];rfl)
   obtain⟨h1,h2⟩:=Dr.take_heap l hh hne;have h3:=Dr.takeL_length l;obtain⟨p,q⟩:=ih (Dr.takeL l) (by omega) h1;refine⟨(List.Perm.cons _ p).trans h2,List.pairwise_cons.2 ⟨λy hy=>?_,q⟩⟩;exact hh.firstm (h2.mem_iff.1 (by simp[p.mem_iff.1 hy]))
end
section
open Go.RowKit
theorem qTa(k:Nat)(y:It): (itK k y).t=y.t:=by unfold itK;split <;> rfl
theorem qIr(k:Nat)(y:It): (itK k y).n=y.n:=by unfold itK;split <;> rfl
theorem zDv(k:Nat)(y:It): itK k (itK k y)=itK k y:=by unfold itK;split <;> simp_all
theorem zF7(k:Nat)(y:It)(h1:1<=k)(h5:k<=5): qKe k (itK k y)=qKe k y:=by
 rcases five h1 h5 with e | e | e | e | e <;> subst e <;> rfl
theorem zFj(k:Nat)(l:List It)(h1:1<=k)(h5:k<=5): qG2 k (l.map (itK k))=qG2 k l:=by
 unfold qG2;rw[List.flatMap_map]
 congr 1
 funext y
 exact zF7 k y h1 h5
theorem zAy{α:Type}(f:α->Int){l:List α}(h:(l.map f).Nodup){a b:α}(ha:a∈l)(hb:b∈l)(e:f a=f b): a=b:=by
 induction l with
 | nil=>cases ha
 | cons x l ih =>
  rw[List.map_cons,List.nodup_cons]at h;rcases List.mem_cons.1 ha with ha | ha
  ·rcases List.mem_cons.1 hb with hb | hb
   ·rw[ha,hb]
   ·exact absurd (List.mem_map_of_mem (f:=f) hb) (by rw[<-e,ha];exact h.1)
  ·rcases List.mem_cons.1 hb with hb | hb
   ·exact absurd (List.mem_map_of_mem (f:=f) ha) (by rw[e,hb];exact h.1)
   ·exact ih h.2 ha hb
theorem qHl{α β:Type}{f:α->β}{l l':List α}(h:(l.map f).Perm (l'.map f)): l=[]↔l'=[]:=by
 have:=h.length_eq;rw[List.length_map,List.length_map]at this
 constructor <;> intro e
 ·subst e;exact List.length_eq_zero_iff.1 this.symm
 ·subst e;exact List.length_eq_zero_iff.1 this
theorem qW5{l:List It}(h:HeapL l){y:It}(hy:y∈l): leP (itAt l 0) y:=by
 obtain⟨j,hj,rfl⟩:=List.mem_iff_getElem.1 hy;rw[<-itAt_get l j hj];exact h.first j hj
theorem zAb{k:Nat}{l l':List It}(h:HeapL l)(h':HeapL l')(hn:(l.map (·.n)).Nodup)(hl:l≠[])(hp:(l.map (itK k)).Perm (l'.map (itK k))):
  itK k (itAt l 0)=itK k (itAt l' 0)/\((takeL l).map (itK k)).Perm ((takeL l').map (itK k)):=by
 have hl':l'≠[]:=λe=>hl ((qHl hp).2 e)
 have h0:=qGl hl;have h0':=qGl hl';obtain⟨z,hz,ez⟩:=List.mem_map.1 (hp.subset (List.mem_map_of_mem h0));obtain⟨u,hu,eu⟩:=List.mem_map.1 (hp.symm.subset (List.mem_map_of_mem h0'));have e:itK k (itAt l 0)=itK k (itAt l' 0):=by
  have a:=qW5 h hu;have b:=qW5 h' hz;have t1:u.t=(itAt l' 0).t:=by rw[<-qTa k u,eu,qTa]
  have n1:u.n=(itAt l' 0).n:=by rw[<-qIr k u,eu,qIr]
  have t2:z.t=(itAt l 0).t:=by rw[<-qTa k z,ez,qTa]
  have n2:z.n=(itAt l 0).n:=by rw[<-qIr k z,ez,qIr]
  have hn2:(itAt l 0).n=u.n:=by
   rcases a with a | a <;> rcases b with b | b <;> omega
  rw[zAy (·.n) hn h0 hu hn2,eu]
 refine⟨e,?_⟩;have p1:=((take_heap l h hl).2.map (itK k)).trans (hp.trans ((take_heap l' h' hl').2.map (itK k)).symm);rw[List.map_cons,List.map_cons,e]at p1;exact p1.cons_inv
theorem zEy{k:Nat}(f:Nat): ∀ {l l':List It},HeapL l->HeapL l'->(l.map (·.n)).Nodup->(l.map (itK k)).Perm (l'.map (itK k))->(Qi.allL f l).map (itK k)=(Qi.allL f l').map (itK k):=by
 induction f with
 | zero=>intros;rfl
 | succ f ih =>
  intro l l' h h' hn hp
  by_cases hl:l=[]
  ·have hl':=(qHl hp).1 hl
   rw[hl,hl']
  ·have hl':l'≠[]:=λe=>hl ((qHl hp).2 e)
   obtain⟨e,p⟩:=zAb h h' hn hl hp;have a:l.length≠0:=λe=>hl (List.length_eq_zero_iff.1 e)
   have a':l'.length≠0:=λe=>hl' (List.length_eq_zero_iff.1 e)
   unfold Qi.allL;rw[if_neg a,if_neg a',List.map_cons,List.map_cons,e]
   congr 1
   refine ih (take_heap l h hl).1 (take_heap l' h' hl').1 ?_ p;have:=((take_heap l h hl).2.map (·.n)).nodup_iff.2 hn;rw[List.map_cons,List.nodup_cons]at this;exact this.2
theorem qG6(f:Nat): ∀l:List It,l.length<f->HeapL l->(Qi.allL f l).Perm l:=by
 induction f with
 | zero=>intro l h;omega
 | succ f ih =>
  intro l hf h;unfold Qi.allL
  split
  ·rename_i e;rw[List.length_eq_zero_iff.1 e]
  ·rename_i e
   have hl:l≠[]:=λe'=>e (by rw[e'];rfl)
   exact(List.Perm.cons _ (ih (takeL l) (by rw[takeL_length];omega) (take_heap l h hl).1)).trans (take_heap l h hl).2
theorem qMs(k:Nat)(its:List It): HeapL (qI5 k its)/\(qI5 k its).Perm (its.map (itK k)):=by
 have:∀(a:List It) (l:List It),HeapL l->HeapL (a.foldl (λl y=>qQ5 l (itK k y)) l)/\(a.foldl (λl y=>qQ5 l (itK k y)) l).Perm (a.map (itK k)++l):=by
  intro a
  induction a with
  | nil=>intro l h;exact⟨h,List.Perm.refl _⟩
  | cons y a ih =>
   intro l h;have hp:=put_heap l (itK k y) h;obtain⟨i1,i2⟩:=ih (qQ5 l (itK k y)) hp.1;refine⟨i1,i2.trans ?_⟩;refine(List.Perm.append_left _ hp.2).trans ?_;rw[List.map_cons,List.cons_append];exact List.perm_middle
 have h:=this its [] (λi _ h=>by simp at h);rw[List.append_nil]at h;exact h
theorem zB2{l l':List Dr.It}(h:Dr.HeapT l)(h':Dr.HeapT l')(hn:(l.map (·.n)).Nodup)(hl:l≠[])(hp:l.Perm l'):
  Dr.itAt l 0=Dr.itAt l' 0/\(Dr.takeL l).Perm (Dr.takeL l'):=by
 have hl':l'≠[]:=λe=>hl (by rw[e]at hp;exact hp.eq_nil)
 have m0:∀ {a:List Dr.It},a≠[]->Dr.itAt a 0∈a:=fun {a} ha=>by
  have h1:0<a.length:=by cases a with | nil=>exact absurd rfl ha | cons _ _=>simp
  rw[Dr.itAt_get a 0 h1];exact List.getElem_mem _
 have h0:=m0 hl;have h0':=hp.symm.subset (m0 hl');have e:Dr.itAt l 0=Dr.itAt l' 0:=by
  have a:=h.firstm h0';have b:=h'.firstm (hp.subset h0);refine zAy (·.n) hn h0 h0' ?_;unfold Dr.leT at a b;rcases a with a | a <;> rcases b with b | b <;> omega
 refine⟨e,?_⟩;have p1:=(Dr.take_heap l h hl).2.trans (hp.trans (Dr.take_heap l' h' hl').2.symm);rw[e]at p1;exact p1.cons_inv
theorem zA3(f:Nat): ∀ {l l':List Dr.It},Dr.HeapT l->Dr.HeapT l'->(l.map (·.n)).Nodup->l.Perm l'->Dr.allL f l=Dr.allL f l':=by
 induction f with
 | zero=>intros;rfl
 | succ f ih =>
  intro l l' h h' hn hp
  by_cases hl:l=[]
  ·subst hl;rw[hp.nil_eq]
  ·have hl':l'≠[]:=λe=>hl (by rw[e]at hp;exact hp.eq_nil)
   obtain⟨e,p⟩:=zB2 h h' hn hl hp;have a:l.length≠0:=λe=>hl (List.length_eq_zero_iff.1 e)
   have a':l'.length≠0:=λe=>hl' (List.length_eq_zero_iff.1 e)
   unfold Dr.allL;rw[if_neg a,if_neg a',e]
   congr 1
   refine ih (Dr.take_heap l h hl).1 (Dr.take_heap l' h' hl').1 ?_ p;have:=((Dr.take_heap l h hl).2.map (·.n)).nodup_iff.2 hn;rw[List.map_cons,List.nodup_cons]at this;exact this.2
theorem qJi(c:Cfg){l:List Dr.It}(y:It)(h:Dr.HeapT l)(hy:Dr.dpos (tick c y)): Dr.HeapT (qG1 c l y)/\∃D,(D++qG1 c l y).Perm (tick c y::l)/\(D.length:Int)=if c.size+1<((l.length+1:Nat):Int) then 1 else 0:=by
 have hp:=Dr.put_heap l (tick c y) h hy;unfold qG1
 split
 ·have hne:Dr.riseL (l.length+1) (l++[tick c y]) l.length≠[]:=λe=>by
   have:=hp.2.length_eq;rw[e]at this;simp at this
  have ht:=Dr.take_heap _ hp.1 hne;exact⟨ht.1,[_],ht.2.trans hp.2,rfl⟩
 ·exact⟨hp.1,[],hp.2,rfl⟩
end
section
def SortB(l:List Bk): Prop:=l.Pairwise (λa b=>a.sz<b.sz/\b.t<a.t)
theorem qOv(r:Int)(l:List Bk)(h:0<(qCx r l).length): r<(qCf (qCx r l) ((qCx r l).length-1)).t:=by
 by_cases hl:0<l.length
 ·by_cases hb:(qCf l (l.length-1)).t<=r
  ·have e:=qKf hl hb
   rw[e]at h ⊢;have:(l.take (l.length-1)).length<l.length:=by rw[List.length_take];omega
   exact qOv r (l.take (l.length-1)) h
  ·rw[qKd hl hb];omega
 ·have:l=[]:=List.eq_nil_of_length_eq_zero (by omega)
  rw[this]at h;simp[qSo]at h
 termination_by l.length
theorem zAr{l:List Bk}{x:Bk}(hs:SortB l)(hle:∀b∈l,b.sz<=x.sz): SortB (qG3 l x):=by
 obtain⟨k,hk,_⟩:=qJ1 x.t l;have hs2:SortB (qCx x.t l):=by rw[hk];exact List.Pairwise.sublist (List.take_sublist _ _) hs
 have hsub:∀b∈qCx x.t l,b∈l:=λb hb=>by rw[hk]at hb;exact List.mem_of_mem_take hb
 unfold qG3
 by_cases h:0<(qCx x.t l).length/\(qCf (qCx x.t l) ((qCx x.t l).length-1)).sz=x.sz
 ·rw[if_pos h];exact hs2
 ·rw[if_neg h]
  refine List.pairwise_append.2 ⟨hs2,by simp,λa ha b hb=>?_⟩;rw[List.mem_singleton]at hb;subst hb;have hpos:0<(qCx b.t l).length:=List.length_pos_of_mem ha;have hlast:=qOv b.t l hpos;have hne:(qCf (qCx b.t l) ((qCx b.t l).length-1)).sz≠b.sz:=λe=>h ⟨hpos,e⟩
  have hm:qCf (qCx b.t l) ((qCx b.t l).length-1)∈qCx b.t l:=by
   have h1:(qCx b.t l).length-1<(qCx b.t l).length:=by omega
   simp[qCf,List.getD_eq_getElem?_getD,List.getElem?_eq_getElem h1]
  have hlz:=hle _ (hsub _ hm);have hsp:=qGf (qCx b.t l) hpos;generalize qCf (qCx b.t l) ((qCx b.t l).length-1)=z at *;generalize(qCx b.t l).take ((qCx b.t l).length-1)=fr at *;rw[hsp]at ha hs2;rcases List.mem_append.1 ha with e | e
  ·have:=(List.pairwise_append.1 hs2).2.2 a e z (by simp);omega
  ·rw[List.mem_singleton]at e;rw[e];omega
end
section
open Go.RowKit
theorem qKu{α:Type}(p:α->Bool): ∀l:List α,l.drop (l.takeWhile p).length=l.dropWhile p
 | []=>rfl
 | x::l=>by
  unfold List.takeWhile List.dropWhile;cases h:p x with
  | true=>exact qKu p l
  | false=>rfl
theorem zIq{α:Type}{p q:α->Bool}(h:∀x,q x=true->p x=true): ∀l:List α,(l.dropWhile q).dropWhile p=l.dropWhile p
 | []=>rfl
 | x::l=>by
  by_cases hq:q x=true
  ·rw[List.dropWhile_cons_of_pos hq,List.dropWhile_cons_of_pos (h x hq)]
   exact zIq h l
  ·rw[List.dropWhile_cons_of_neg hq]
def deadP(t:Int)(b:Bk): Bool:=decide (b.sz<=t)
def qD3(c:Cfg)(m:Int)(l:List Bk): List Bk:=l.drop (Mk.pastN l (m-c.window))
theorem qW1(c:Cfg)(m:Int)(l:List Bk): qD3 c m l=l.dropWhile (deadP (m-c.window)):=qKu _ l
theorem qZb{c:Cfg}{m:Int}{ls ls':Nat->List Bk}(n:Nat)(e:∀j,j<n->qD3 c m (ls j)=qD3 c m (ls' j)): qOr ls n (m-c.window)=qOr ls' n (m-c.window):=by
 have h:∀l:List Bk,qXj l (m-c.window)=((qD3 c m l).length:Int)::qDe (qD3 c m l):=λl=>by
  unfold qXj qD3;rw[List.length_drop]
 unfold qOr;have:∀a:List Nat,(∀j∈a,j<n)->a.flatMap (λi=>qXj (ls i) (m-c.window))=a.flatMap (λi=>qXj (ls' i) (m-c.window)):=by
  intro a
  induction a with
  | nil=>intro _;rfl
  | cons x a ih =>
   intro ha;rw[List.flatMap_cons,List.flatMap_cons,ih (λj hj=>ha j (by simp[hj])),h,h,e x (ha x (by simp))]
 exact this _ (λj hj=>List.mem_range.1 hj)
def zD2(c:Cfg)(t:Int)(p:Pa.Pn): Bool:=decide (qF6 c p<=t)
theorem qWg(c:Cfg)(o:Pa.Pn)(cl:List Pa.Pn)(t:Int): qBb c o cl t=cl.dropWhile (zD2 c t)++(if t<qF6 c o/\o.cs≠qAw then[o] else[]):=by
 unfold qBb qEh;rw[qKu];rfl
theorem zFr{a b:Pa.Pn}(h1:a.no=b.no)(h2:a.cs=b.cs): a=b:=by
 cases a;cases b;simp at h1 h2;subst h1;subst h2;rfl
structure PnF (R W:Nat) (s:Int) (cs:List Int):Prop where
 nn:∀i,0<=cs.getD i 0
 ze:∀i,(R<=i/16\/W<=i%16)->cs.getD i 0=0
 row:∀j,j<R->qHx (qJ4 W cs j)=s
theorem PnF.f{R W:Nat}{s:Int}{cs:List Int}(h:PnF R W s cs)(h0:0<s): LdF R W s s cs:=⟨h.nn,h.ze,h.row,h0,Int.le_refl _⟩
theorem LdF.p{R W:Nat}{a s:Int}{cs:List Int}(h:LdF R W a s cs): PnF R W s cs:=⟨h.nn,h.ze,h.row⟩
theorem qFq(a b:List Int): qHx (a++b)=qHx a+qHx b:=by
 induction a with
 | nil=>simp[qHx]
 | cons x a ih=>rw[List.cons_append,qDz,qDz,ih];omega
theorem qI6(a:Int): qHx [a]=a:=by rw[qDz];exact Int.add_zero a
theorem qH3(i:Nat): qAw.getD i 0=0:=by
 unfold qAw;rw[List.getD_eq_getElem?_getD,List.getElem?_replicate]
 split <;> rfl
theorem qOj(W j:Nat): qHx (qJ4 W qAw j)=0:=by
 induction W with
 | zero=>rfl
 | succ W ih=>rw[qJe,qFq,ih,qDz,qH3];rfl
theorem PnF.zero(R W:Nat): PnF R W 0 qAw:=⟨λi=>by rw[qH3];omega,λi _=>qH3 i,λj _=>qOj W j⟩
theorem zAw(cs cs':List Int)(j W:Nat)(p:Int)(p0:0<=p)(h:∀i,i<W->cs'.getD (j*16+i) 0=cs.getD (j*16+i) 0+if p=(i:Int) then 1 else 0): qHx (qJ4 W cs' j)=qHx (qJ4 W cs j)+if p<(W:Int) then 1 else 0:=by
 induction W with
 | zero=>rw[if_neg (by omega)];rfl
 | succ W ih =>
  rw[qJe,qJe,qFq,qFq,ih (λi hi=>h i (by omega)),h W (by omega)];rw[qI6,qI6]
  split <;> split <;> split <;> omega
theorem PnF.bump{c:Cfg}(hc:c.rowed){R W:Nat}(hR:c.rows=(R:Int))(hW:c.width=(W:Int)){s:Int}{cs:List Int}(hl:cs.length=48)(h:PnF R W s cs)(key:Int): PnF R W (s+1) (qEy c key R cs):=by
 have hr:=hc.r1;have hw:=hc.w1;have hw0:=hc.w0;have hpl:∀j,0<=qB3 c key j/\qB3 c key j<(W:Int):=λj=>by
  unfold qB3;rw[hW];exact⟨Int.emod_nonneg _ (by omega),Int.emod_lt_of_pos _ (by omega)⟩
 have key2:∀j pl:Nat,pl<16->(qEy c key R cs).getD (j*16+pl) 0=cs.getD (j*16+pl) 0+if j<R/\qB3 c key j=(pl:Int) then 1 else 0:=λj pl h16=>zBo c hc key cs hl j pl h16 R (by omega)
 have key3:∀i,(qEy c key R cs).getD i 0=cs.getD i 0+if i/16<R/\qB3 c key (i/16)=((i%16:Nat):Int) then 1 else 0:=λi=>by
  have:=key2 (i/16) (i%16) (by omega);rw[show i/16*16+i%16=i by omega]at this;exact this
 refine⟨λi=>?_,λi hi=>?_,λj hj=>?_⟩
 ·rw[key3];have:=h.nn i;split <;> omega
 ·rw[key3,h.ze i hi,if_neg (λhh=>?_)]
  ·rfl
  ·have:=hpl (i/16)
   rcases hi with hi | hi <;> omega
 ·rw[zAw cs _ j W (qB3 c key j) (hpl j).1 (λi hi=>by
       rw[key2 j i (by omega)]
       congr 1
       by_cases e:qB3 c key j=(i:Int)
       ·rw[if_pos ⟨hj,e⟩,if_pos e]
       ·rw[if_neg (λh=>e h.2),if_neg e]),if_pos (hpl j).2,h.row j hj]
structure OZ (c:Cfg) (R W:Nat) (rel:Int) (o:Pa.Pn) (cl:List Pa.Pn):Prop where
 cls:∀p∈cl,LdF R W (sP W p) (sP W p) p.cs
 opn:PnF R W (sP W o) o.cs
 pos:o.cs=qAw\/0<sP W o
 sum:qHx (cl.map (sP W))+sP W o<=rel
theorem qIt(l:List Int)(h:∀x∈l,0<=x): 0<=qHx l:=by
 induction l with
 | nil=>exact Int.le_refl _
 | cons x l ih=>rw[qDz];have:=h x (by simp);have:=ih (λy hy=>h y (by simp[hy]));omega
theorem qV0(l:List Int)(n:Nat)(h:∀x∈l,0<=x): qHx (l.drop n)<=qHx l:=by
 have h1:=qFq (l.take n) (l.drop n);rw[List.take_append_drop]at h1;have:=qIt (l.take n) (λx hx=>h x (List.mem_of_mem_take hx));omega
theorem qIy{W:Nat}{p:Pa.Pn}(h:p.cs=qAw): sP W p=0:=by unfold sP;rw[h];exact qOj W 0
theorem OZ.zero(c:Cfg)(R W:Nat): OZ c R W 0 Pa.pn0 []:=by
 have h:sP W Pa.pn0=0:=qIy rfl;refine⟨λp hp=>by simp at hp,?_,.inl rfl,?_⟩
 ·rw[h];exact PnF.zero R W
 ·rw[h];exact Int.le_refl _
theorem OZ.turn{c:Cfg}{R W:Nat}{rel:Int}{o:Pa.Pn}{cl:List Pa.Pn}(h:OZ c R W rel o cl)(n:Int): OZ c R W rel (qBp o cl n).1 (qBp o cl n).2:=by
 unfold qBp
 split
 ·exact h
 ·have h0:sP W (qNg n)=0:=qIy rfl
  have hs:=h.sum
  by_cases hz:o.cs=qAw
  ·refine⟨?_,?_,.inl rfl,?_⟩
   ·show ∀p∈(if o.cs=qAw then cl else cl++[o]),_
    rw[if_pos hz];exact h.cls
   ·show PnF R W (sP W (qNg n)) qAw
    rw[h0];exact PnF.zero R W
   ·show qHx ((if o.cs=qAw then cl else cl++[o]).map (sP W))+sP W (qNg n)<=rel
    rw[if_pos hz,h0];rw[qIy hz]at hs;exact hs
  ·have hp:=h.pos.resolve_left hz
   refine⟨?_,?_,.inl rfl,?_⟩
   ·show ∀p∈(if o.cs=qAw then cl else cl++[o]),_
    rw[if_neg hz];intro p hp2;rcases List.mem_append.1 hp2 with e | e
    ·exact h.cls p e
    ·rw[List.mem_singleton]at e;subst e;exact h.opn.f hp
   ·show PnF R W (sP W (qNg n)) qAw
    rw[h0];exact PnF.zero R W
   ·show qHx ((if o.cs=qAw then cl else cl++[o]).map (sP W))+sP W (qNg n)<=rel
    rw[if_neg hz,h0,List.map_append,qFq];rw[List.map_cons,List.map_nil,qI6];omega
theorem OZ.rel{c:Cfg}(hc:c.rowed){R W:Nat}(hR:c.rows=(R:Int))(hW:c.width=(W:Int)){rel:Int}{o:Pa.Pn}{cl:List Pa.Pn}(h:OZ c R W rel o cl)(y:It)(m:Int): OZ c R W (rel+1) (qYa c o cl y m).1 (qYa c o cl y m).2:=by
 have ht:=h.turn (y.t/qBd c);have hr0:=hc.r0;have hRt:c.rows.toNat=R:=by omega
 have hb:=ht.opn.bump hc hR hW (qBp o cl (y.t/qBd c)).1.len y.k;have hs:sP W (qYa c o cl y m).1=sP W (qBp o cl (y.t/qBd c)).1+1:=by
  have:=hb.row 0 (by omega);show qHx (qJ4 W (qEy c y.k c.rows.toNat _) 0)=_;rw[hRt];exact this
 have hnn:0<=sP W (qBp o cl (y.t/qBd c)).1:=by
  rcases ht.pos with e | e
  ·rw[qIy e];exact Int.le_refl _
  ·omega
 refine⟨λp hp=>ht.cls p (List.mem_of_mem_drop hp),?_,.inr (by rw[hs];omega),?_⟩
 ·rw[hs]
  show PnF R W _ (qEy c y.k c.rows.toNat _);rw[hRt];exact hb
 ·rw[hs]
  have h1:=ht.sum;have h2:qHx (((qBp o cl (y.t/qBd c)).2.drop (qEh c (qBp o cl (y.t/qBd c)).2 (m-c.window))).map (sP W))<=qHx ((qBp o cl (y.t/qBd c)).2.map (sP W)):=by
   rw[List.map_drop];refine qV0 _ _ (λx hx=>?_);obtain⟨p,hp,rfl⟩:=List.mem_map.1 hx;have:=(ht.cls p hp).s0;omega
  have h3:(qYa c o cl y m).2=(qBp o cl (y.t/qBd c)).2.drop (qEh c (qBp o cl (y.t/qBd c)).2 (m-c.window)):=rfl;rw[h3];omega
theorem qS2(ps:List Pa.Pn)(p:Pa.Pn)(ha:(ps++[p]).Pairwise (λa b=>a.no<b.no))(hz:∀q∈ps,q.cs≠qAw): qUd (ps++[p])=(p,ps):=by
 have h:∀n:Nat,∀(ps:List Pa.Pn) (p:Pa.Pn),ps.length=n->(ps++[p]).Pairwise (λa b=>a.no<b.no)->(∀q∈ps,q.cs≠qAw)->qUd (ps++[p])=(p,ps):=by
  intro n
  induction n with
  | zero =>
   intro ps p hn _ _;rw[List.length_eq_zero_iff.1 hn];show(p,(qBp Pa.pn0 [] p.no).2)=(p,[])
   congr 1
   unfold qBp
   split
   ·rfl
   ·show(if Pa.pn0.cs=qAw then[] else[]++[Pa.pn0])=[]
    rw[if_pos (show Pa.pn0.cs=qAw from rfl)]
  | succ n ih =>
   intro ps p hn ha hz;rcases List.eq_nil_or_concat ps with e | ⟨qs,q,e⟩
   ·rw[e]at hn;simp at hn
   ·rw[List.concat_eq_append]at e
    subst e;have h1:=ih qs q (by simpa using hn) (ha.sublist (List.sublist_append_left _ _)) (λx hx=>hz x (by simp[hx]));unfold qUd at h1 ⊢;rw[List.foldl_append,h1];show(p,(qBp q qs p.no).2)=(p,qs++[q]);have hlt:q.no<p.no:=(List.pairwise_append.1 ha).2.2 q (by simp) p (by simp)
    congr 1
    unfold qBp;rw[if_neg (by omega)];show(if q.cs=qAw then qs else qs++[q])=_;rw[if_neg (hz q (by simp))]
 exact h _ ps p rfl ha hz
theorem qW8{c:Cfg}{t:Int}(ps:List Pa.Pn)(ha:ps.Pairwise (λa b=>a.no<b.no))(hz:∀q∈ps,q.cs≠qAw)(hl:∀q∈ps,t<qF6 c q): qBb c (qUd ps).1 (qUd ps).2 t=ps:=by
 rcases List.eq_nil_or_concat ps with e | ⟨qs,q,e⟩
 ·rw[e,qWg]
  show[].dropWhile (zD2 c t)++(if t<qF6 c Pa.pn0/\Pa.pn0.cs≠qAw then[Pa.pn0] else[])=[];rw[if_neg (λh=>h.2 rfl)];rfl
 ·rw[List.concat_eq_append]at e
  subst e;rw[qS2 qs q ha (λx hx=>hz x (by simp[hx])),qWg];show qs.dropWhile (zD2 c t)++(if t<qF6 c q/\q.cs≠qAw then[q] else[])=qs++[q];rw[if_pos ⟨hl q (by simp),hz q (by simp)⟩]
  congr 1
  cases qs with
  | nil=>rfl
  | cons x xs=>rw[List.dropWhile_cons_of_neg (by have:=hl x (by simp);simp only[zD2,decide_eq_true_eq];omega)]
theorem qI2{c:Cfg}{R W:Nat}{rel last t:Int}{o:Pa.Pn}{cl:List Pa.Pn}(h:OZ c R W rel o cl)(hi:OInv c rel last o cl)(hL:0<=qBd c):
  (qBb c o cl t).Pairwise (λa b=>a.no<b.no)/\(∀q∈qBb c o cl t,q.cs≠qAw/\t<qF6 c q/\LdF R W (sP W q) (sP W q) q.cs/\(q∈cl\/q=o))/\qHx ((qBb c o cl t).map (sP W))<=rel:=by
 have hz:∀q∈cl,q.cs≠qAw:=λq hq e=>by
  have:=(h.cls q hq).s0;rw[qIy e]at this;omega
 have hsum:=h.sum;have hd:qHx ((cl.drop (qEh c cl t)).map (sP W))<=qHx (cl.map (sP W)):=by
  rw[List.map_drop];refine qV0 _ _ (λx hx=>?_);obtain⟨p,hp,rfl⟩:=List.mem_map.1 hx;have:=(h.cls p hp).s0;omega
 have hp0:0<=sP W o:=by
  rcases h.pos with e | e
  ·rw[qIy e];exact Int.le_refl _
  ·omega
 have hcl:∀q∈cl.drop (qEh c cl t),q.cs≠qAw/\t<qF6 c q/\LdF R W (sP W q) (sP W q) q.cs/\(q∈cl\/q=o):=λq hq =>
  ⟨hz q (List.mem_of_mem_drop hq),qKb c hL t cl hi.asc q hq,h.cls q (List.mem_of_mem_drop hq),.inl (List.mem_of_mem_drop hq)⟩
 unfold qBb
 split
 ·rename_i ho
  refine⟨?_,λq hq=>?_,?_⟩
  ·refine List.pairwise_append.2 ⟨hi.asc.sublist (List.drop_sublist _ _),List.pairwise_singleton _ _,λa ha b hb=>?_⟩
   rw[List.mem_singleton]at hb;subst hb;exact(hi.lt a (List.mem_of_mem_drop ha)).2
  ·rcases List.mem_append.1 hq with e | e
   ·exact hcl q e
   ·rw[List.mem_singleton]at e;subst e
    exact⟨ho.2,ho.1,h.opn.f (h.pos.resolve_left ho.2),.inr rfl⟩
  ·rw[List.map_append,qFq]
   rw[List.map_cons,List.map_nil,qI6];omega
 ·rw[List.append_nil]
  exact⟨hi.asc.sublist (List.drop_sublist _ _),hcl,by omega⟩
theorem zCz{c:Cfg}{R W:Nat}{rel last t:Int}{o:Pa.Pn}{cl:List Pa.Pn}(h:OZ c R W rel o cl)(hi:OInv c rel last o cl)(hL:0<=qBd c)(hl0:0<=last)(hp1:1<=c.panes):
  OInv c rel last (qUd (qBb c o cl t)).1 (qUd (qBb c o cl t)).2/\OZ c R W rel (qUd (qBb c o cl t)).1 (qUd (qBb c o cl t)).2:=by
 obtain⟨f1,f2,f3⟩:=qI2 (t:=t) h hi hL;have hlen:((qBb c o cl t).length:Int)<=c.panes+1:=by
  have:=hi.len;unfold qBb;rw[List.length_append,List.length_drop]
  split
  ·simp;omega
  ·simp;omega
 have hr0:0<=rel:=by
  have h1:=h.sum;have h2:=qIt (cl.map (sP W)) (λx hx=>by obtain⟨p,hp,rfl⟩:=List.mem_map.1 hx;have:=(h.cls p hp).s0;omega);have h3:0<=sP W o:=by
   rcases h.pos with e | e
   ·rw[qIy e];exact Int.le_refl _
   ·omega
  omega
 have ftop:qGh (qBb c o cl t)<=rel:=by
  have h1:=qM5 cl (qEh c cl t);have h2:0<=qI4 o:=qK3 _;have h3:=hi.tops;unfold qBb;rw[qFo]
  split
  ·simp only[qGh];omega
  ·simp only[qGh];omega
 generalize qBb c o cl t=P at *;rcases List.eq_nil_or_concat P with e | ⟨qs,q,e⟩
 ·rw[e]
  have z:=OInv.zero c hp1;refine⟨⟨z.on0,by have:=z.onT;show Pa.pn0.no*qBd c<=last;simp[Pa.pn0];exact hl0,z.asc,z.lt,z.ocs,λp hp=>by simp[qUd]at hp,by have:=z.tops;show qGh []+qI4 Pa.pn0<=rel;omega,z.len⟩,?_⟩
  ·have z2:=OZ.zero c R W
   exact⟨z2.cls,z2.opn,z2.pos,by have:=z2.sum;show qHx ([].map (sP W))+sP W Pa.pn0<=rel;simp only[List.map_nil]at this ⊢;omega⟩
 ·rw[List.concat_eq_append]at e
  subst e;rw[qS2 qs q f1 (λx hx=>(f2 x (by simp[hx])).1)];have hall:∀p∈qs++[q],0<=p.no/\p.no*qBd c<=last/\∀x∈p.cs,0<=x:=λp hp=>by
   rcases(f2 p hp).2.2.2 with e | e
   ·have h1:=hi.lt p e
    refine⟨h1.1,?_,hi.ccs p e⟩;have:=Int.mul_le_mul_of_nonneg_right (show p.no<=o.no by omega) hL;have:=hi.onT;omega
   ·rw[e];exact⟨hi.on0,hi.onT,hi.ocs⟩
  have hq:=hall q (by simp);refine⟨⟨hq.1,hq.2.1,f1.sublist (List.sublist_append_left _ _),λp hp=>⟨(hall p (by simp[hp])).1,(List.pairwise_append.1 f1).2.2 p hp q (by simp)⟩,hq.2.2,λp hp=>(hall p (by simp[hp])).2.2,?_,?_⟩,?_⟩
  ·have h1:=ftop
   rw[qFo]at h1;simp only[qGh]at h1;show qGh qs+qI4 q<=rel;omega
  ·rw[List.length_append,List.length_singleton]at hlen
   show(qs.length:Int)<=c.panes;omega
  ·have hf:=(f2 q (by simp)).2.2.1
   refine⟨λp hp=>(f2 p (by simp[hp])).2.2.1,hf.p,.inr hf.s0,?_⟩;rw[List.map_append,qFq]at f3;rw[List.map_cons,List.map_nil,qI6]at f3;exact f3
def qFm: List (List Int)->List Bk
 | []=>[]
 | g::gs=>g.map (λt=>⟨2 ^ gs.length,t⟩)++qFm gs
def qIp: List (List Int)->List Int
 | []=>[]
 | g::gs=>(g.length:Int)::(g++qIp gs)
structure LdC (K m rel:Int) (gs:List (List Int)):Prop where
 len:gs.length<=62
 cnt:∀g,g∈gs->(g.length:Int)<=K+1
 fst:∀g,gs.head?=some g->1<=g.length
 lst:∀g,g∈gs.tail->K<=(g.length:Int)
 tm:∀b,b∈qFm gs->0<=b.t/\b.t<=m
 srt:(qFm gs).Pairwise (λa b=>a.t<=b.t)
 sum:qDn (qFm gs)<=rel
 lnb:(qFm gs).length<=1000
theorem qS9: ∀gs,qJ5 0 gs=qFm gs
 | []=>rfl
 | x::xs=>by unfold qJ5 qFm;rw[qS9 xs,Nat.zero_add]
theorem zCk{α:Type}{p:α->Bool}(a r:List α)(ha:∀x∈a,p x=true)(hr:∀x,r.head?=some x->p x=false): (a++r).takeWhile p=a:=by
 induction a with
 | nil =>
  cases r with
  | nil=>rfl
  | cons x r=>rw[List.nil_append,List.takeWhile_cons_of_neg (by rw[hr x rfl];simp)]
 | cons x a ih=>rw[List.cons_append,List.takeWhile_cons_of_pos (ha x (by simp)),ih (λy hy=>ha y (by simp[hy]))]
theorem zHw(gs:List (List Int)): ∀(pre:List Bk),qX6 (pre++qFm gs) gs.length pre.length=qIp gs:=by
 induction gs with
 | nil=>intro pre;rfl
 | cons x xs ih =>
  intro pre;have e:(pre++qFm (x::xs)).drop pre.length=qFm (x::xs):=List.drop_left;have e1:qMn (pre++qFm (x::xs)) (2 ^ xs.length) pre.length=pre.length+x.length:=by
   unfold qMn;rw[e];unfold qFm
   rw[zCk _ _ (λb hb=>by obtain⟨t,_,rfl⟩:=List.mem_map.1 hb;simp) (λb hb=>by
        have hm:b∈qFm xs:=List.mem_of_head? hb;have:∃i,i<xs.length/\b.sz=2 ^ i:=by
         clear ih e hb
         induction xs with
         | nil=>cases hm
         | cons z zs ih2 =>
          unfold qFm at hm;rcases List.mem_append.1 hm with hm | hm
          ·obtain⟨t,_,rfl⟩:=List.mem_map.1 hm;exact⟨zs.length,by simp,rfl⟩
          ·obtain⟨i,h1,h2⟩:=ih2 hm;exact⟨i,by simp;omega,h2⟩
        obtain⟨i,hi,hs⟩:=this;simp only[decide_eq_false_iff_not];rw[hs]
        exact λh=>zFc (g:=i) (i:=xs.length) (by omega) h.symm),List.length_map]
  rw[List.length_cons,qMa,e1,show pre.length+x.length-pre.length=x.length by omega,e];have e2:(qFm (x::xs)).take x.length=x.map (λt=>(⟨2 ^ xs.length,t⟩:Bk)):=by
   unfold qFm;rw[List.take_append_of_le_length (by simp),List.take_of_length_le (by simp)]
  have e3:qX6 (pre++qFm (x::xs)) xs.length (pre.length+x.length)=qIp xs:=by
   have:=ih (pre++x.map (λt=>(⟨2 ^ xs.length,t⟩:Bk)));rw[List.append_assoc,List.length_append,List.length_map]at this;exact this
  rw[e2,e3,List.map_map];show(x.length:Int)::(x.map id++qIp xs)=(x.length:Int)::(x++qIp xs);rw[List.map_id]
theorem zIc{K:Nat}{gs:List (List Int)}(h:GsOk K gs): zD0 (qFm gs)=(gs.length:Int)::qIp gs:=by
 have hs:qE1 (qFm gs)=gs.length:=by
  unfold qE1;cases gs with
  | nil=>rfl
  | cons x xs =>
   cases x with
   | nil=>exact absurd h.1 (by simp)
   | cons t x =>
    rw[if_neg (by simp[qFm])];show bitLen ((2:Int) ^ xs.length).toNat=_;have:((2:Int) ^ xs.length).toNat=2 ^ xs.length:=by
     rw[show(2:Int) ^ xs.length=((2 ^ xs.length:Nat):Int) by simp];rfl
    rw[this,qX5];rfl
 unfold zD0;rw[hs]
 congr 1
 exact zHw gs []
theorem zEo{K:Nat}: ∀gs,GsOk K gs->(qFm gs).length<=gs.length*(K+1)
 | [],_=>by simp[qFm]
 | x::xs,h=>by
  have:∀ys:List (List Int),(∀h,h∈ys->h.length<=K+1)->(qFm ys).length<=ys.length*(K+1):=by
   intro ys
   induction ys with
   | nil=>intro _;simp[qFm]
   | cons y ys ih =>
    intro hy;have h1:=ih (λh hh=>hy h (by simp[hh]));have h2:=hy y (by simp);unfold qFm;rw[List.length_append,List.length_map,List.length_cons,Nat.succ_mul];omega
  exact this (x::xs) (λg hg=>by
     rcases List.mem_cons.1 hg with e | e
     ·subst e;exact h.2.1
     ·exact(h.2.2 g e).2)
def qO9(lv:Nat->List Bk): Nat->Nat->List Int
 | 0,_=>[]
 | k+1,s=>((lv s).length:Int)::(qDe (lv s)++qO9 lv k (s+1))
def qQ3(lv:Nat->List Bk): Nat->Nat->Nat
 | 0,_=>0
 | k+1,s=>(lv s).length+qQ3 lv k (s+1)
structure LdD (m rel:Int) (n:Nat) (lv:Nat->List Bk):Prop where
 len:∀i,(lv i).length<=40
 tm:∀i b,b∈lv i->0<=b.sz/\b.sz<=m/\1<=b.t/\b.t<=40
 srt:∀i,(lv i).Pairwise (λa b=>a.sz<b.sz/\b.t<a.t)
 sum:(qQ3 lv n 0:Int)<=rel
def unT(z:Dr.It): It:=⟨z.t,z.k,z.d,z.n⟩
structure NZ (k:Nat) (c:Cfg) (rel last:Int) (nt:Note):Prop where
 dec:k=4->rel<=nt.q*2305843009213693952+nt.r/\nt.q*2305843009213693952+nt.r<=rel*2305843009213693952
 cnt:k=1->Lw c.k.toNat 0 nt.bs/\(nt.bs.map (·.t)).Pairwise (·<=·)/\∀t,t∈nt.bs.map (·.t)->0<=t/\t<=last
 dis:k=2->(∀j,SortB (nt.rg j))/\(∀j b,b∈nt.rg j->0<=b.sz/\b.sz<=last)/\(qQ3 nt.rg (qFx c) 0:Int)<=rel
 oft:k=3->OZ c c.rows.toNat c.width.toNat rel nt.op nt.cl
 drw:k=5->Dr.HeapT nt.tk/\(nt.tk.length:Int)=(if c.size+1<rel then c.size+1 else rel)/\∀z,z∈nt.tk->z=tick c (unT z)/\qCy c 5 (unT z)=0/\0<=z.t/\z.t<=last
theorem NZ.zero(k:Nat)(c:Cfg)(hs:k=5->1<=c.size): NZ k c 0 0 qC9 where
 dec:=λ_=>⟨Int.le_refl _,Int.le_refl _⟩
 cnt:=λ_=>⟨Lw.nil _ _,List.Pairwise.nil,λt ht=>by cases ht⟩
 dis:=λ_=>⟨λ_=>List.Pairwise.nil,λ_ b hb=>(by cases hb),by
    have:∀n s,qQ3 (λ_=>[]) n s=0:=by
     intro n
     induction n with
     | zero=>intro s;rfl
     | succ n ih=>intro s;unfold qQ3;rw[ih];rfl
    show((qQ3 (λ_=>[]) _ 0:Nat):Int)<=0
    rw[this];exact Int.le_refl _⟩
 oft:=λ_=>OZ.zero c _ _
 drw:=λh=>⟨⟨λj hj=>by simp[qC9]at hj,λi _ hi=>by simp[qC9]at hi⟩,by rw[if_neg (by have:=hs h;omega)];rfl,λz hz=>by cases hz⟩
theorem zBb(b:Int)(hb:1<=b)(n:Nat): ∀p,1<=p->(qGy b n p).isSome=true->1<=qCb (qGy b n p):=by
 induction n with
 | zero=>intro p hp _;exact hp
 | succ n ih =>
  intro p hp h;unfold qGy at h ⊢
  split at h
  ·cases h
  ·rename_i h1
   rw[if_neg h1];exact ih _ (qZ5 p b hp hb h1).1 h
theorem qXw{c:Cfg}{t:Int}(h:(qBg c t).isSome=true): 1<=qCb (qBg c t):=by
 unfold qBg at h ⊢
 split at h
 ·cases h
 ·rename_i h1
  rw[if_neg h1]
  split at h
  ·rename_i h2
   rw[if_pos h2];exact zBb _ (by omega) _ 1 (by omega) h
  ·rename_i h2
   rw[if_neg h2]
   split at h
   ·cases h
   ·rename_i h3
    rw[if_neg h3];exact zCx _
theorem qXh{c:Cfg}{y:It}(h:qCy c 4 y=0): (qBg c y.t).isSome=true:=by
 have h1:qFb c y=0:=h;unfold qFb at h1
 split at h1
 ·assumption
 ·omega
theorem qOi{c:Cfg}{y:It}(h:qCy c 5 y=0): (0<=y.k/\y.k<=2147483648)/\1<=y.d/\y.d<=2147483648:=by
 have h1:qJg c y=0:=h;unfold qJg at h1
 split at h1
 ·split at h1
  ·rename_i hk
   split at h1
   ·rename_i hd
    exact⟨by simpa[inB] using hk,by simpa[inB] using hd⟩
   ·omega
  ·omega
 ·omega
theorem qLo{c:Cfg}{y:It}(h:qCy c 5 y=0): Dr.dpos (tick c y):=by
 have:=(qOi h).2;show 0<y.d%18446744073709551616;omega
theorem zF6{a b:Nat->List Bk}(i:Nat)(h:∀j,j≠i->(a j).length=(b j).length)(hi:(a i).length<=(b i).length+1): ∀n s,qQ3 a n s<=qQ3 b n s+(if s<=i/\i<s+n then 1 else 0):=by
 intro n
 induction n with
 | zero=>intro s;simp[qQ3]
 | succ n ih =>
  intro s;unfold qQ3;have h1:=ih (s+1)
  by_cases e:s=i
  ·subst e
   rw[if_neg (by omega)]at h1;rw[if_pos (by omega)];omega
  ·have h2:=h s e
   by_cases e2:s+1<=i/\i<s+1+n
   ·rw[if_pos e2]at h1
    rw[if_pos (by omega)];omega
   ·rw[if_neg e2]at h1;omega
theorem qSl{a b:Nat->List Bk}(h:∀j,(a j).length<=(b j).length): ∀n s,qQ3 a n s<=qQ3 b n s:=by
 intro n
 induction n with
 | zero=>intro s;exact Nat.le_refl _
 | succ n ih=>intro s;have:=ih (s+1);have:=h s;unfold qQ3;omega
theorem SortB.drop{l:List Bk}(h:SortB l)(n:Nat): SortB (l.drop n):=List.Pairwise.sublist (List.drop_sublist _ _) h
theorem NZ.rel{k:Nat}{c:Cfg}{rel last:Int}{nt:Note}(h:NZ k c rel last nt)(hi:NInv k c rel last nt)(hv:qA5 c=true)(hk:c.kind=k)(y:It)(m:Int)(y0:0<=y.t)(hy:last<=y.t)(hE:qCy c k y=0): NZ k c (rel+1) y.t (qWf k c nt y m):=by
 refine⟨λe=>?_,λe=>?_,λe=>?_,λe=>?_,λe=>?_⟩
 ·subst e
  obtain⟨h1,h2⟩:=h.dec rfl;have hw1:=qXw (qXh hE);have hw2:=(qL2 c y.t).2;show rel+1<=(nt.q+(nt.r+qCb (qBg c y.t))/2305843009213693952)*2305843009213693952+(nt.r+qCb (qBg c y.t))%2305843009213693952/\(nt.q+(nt.r+qCb (qBg c y.t))/2305843009213693952)*2305843009213693952+(nt.r+qCb (qBg c y.t))%2305843009213693952<=(rel+1)*2305843009213693952;omega
 ·subst e
  obtain⟨h1,h2,h3⟩:=h.cnt rfl;have hc:=qBy hv hk rfl;have hl:=zB5 (c:=c) (K:=c.k.toNat) (by omega) (by omega) nt.bs y.t m h1
  have hs:(nt.bs.map (·.t)++[y.t]).Pairwise (·<=·):=List.pairwise_append.2 ⟨h2,List.pairwise_singleton _ _,λa ha b hb=>by
     rw[List.mem_singleton]at hb;subst hb;have:=(h3 a ha).2;omega⟩
  refine⟨hl.1,hs.sublist hl.2,λt ht=>?_⟩;rcases List.mem_append.1 (hl.2.subset ht) with e | e
  ·have:=h3 t e;omega
  ·rw[List.mem_singleton]at e;subst e;omega
 ·subst e
  obtain⟨h1,h2,h3⟩:=h.dis rfl;show(∀j,SortB (qNx c (qFx c) nt.rg y m j))/\(∀j b,b∈qNx c (qFx c) nt.rg y m j->0<=b.sz/\b.sz<=y.t)/\(qQ3 (qNx c (qFx c) nt.rg y m) (qFx c) 0:Int)<=rel+1;refine⟨λj=>?_,λj b hb=>?_,?_⟩
  ·unfold qNx
   split
   ·exact zAr ((h1 j).drop _) (λb hb=>by have:=h2 j b (List.mem_of_mem_drop hb);show b.sz<=y.t;omega)
   ·exact h1 j
  ·unfold qNx at hb
   split at hb
   ·rcases qMd hb with e | e
    ·have:=h2 j b (List.mem_of_mem_drop e);omega
    ·subst e;exact⟨y0,Int.le_refl _⟩
   ·have:=h2 j b hb;omega
  ·have:=zF6 (a:=qNx c (qFx c) nt.rg y m) (b:=nt.rg) (regI c (qFx c) y.k) (λj hj=>by unfold qNx;rw[if_neg hj]) (qMy c (qFx c) nt.rg y m _) (qFx c) 0
   split at this <;> omega
 ·subst e
  obtain⟨hp,hr,hL,hL1,hpl⟩:=qBr hv hk rfl;have hr0:=hr.r0;have hw0:=hr.w0;exact(h.oft rfl).rel hr (by omega) (by omega) y m
 ·subst e
  obtain⟨h1,h2,h3⟩:=h.drw rfl;have hs:=qC4 hv hk rfl;obtain⟨g1,D,g2,g3⟩:=qJi c y h1 (qLo hE);refine⟨g1,?_,λz hz=>?_⟩
  ·show((qG1 c nt.tk y).length:Int)=_
   have h4:=g2.length_eq;rw[List.length_append,List.length_cons]at h4;have hr0:=hi.rel0
   split at g3 <;> split at h2 <;> split <;> omega
  ·rcases List.mem_cons.1 (g2.subset (List.mem_append_right _ hz)) with e | e
   ·subst e;exact⟨rfl,hE,y0,Int.le_refl _⟩
   ·have:=h3 z e;exact⟨this.1,this.2.1,this.2.2.1,by have:=this.2.2.2;omega⟩
theorem NZ.swp{k:Nat}{c:Cfg}{rel last:Int}{nt:Note}(h:NZ k c rel last nt)(hv:qA5 c=true)(hk:c.kind=k)(m b:Int): NZ k c rel last (qP8 k c nt m b).1:=by
 unfold qP8
 split
 ·rename_i e
  refine⟨h.dec,λ_=>?_,h.dis,h.oft,h.drw⟩;obtain⟨h1,h2,h3⟩:=h.cnt e;have hc:=qBy hv hk e;have hsub:((nt.bs.drop (qD7 c nt.bs m b).toNat).map (·.t)).Sublist (nt.bs.map (·.t)):=(List.drop_sublist _ _).map _;exact⟨h1.drop (by omega) _,h2.sublist hsub,λt ht=>h3 t (hsub.subset ht)⟩
 ·exact h
structure NSim (k:Nat) (c:Cfg) (m:Int) (a b:Note):Prop where
 dec:k=4->a.q=b.q/\a.r=b.r
 cnt:k=1->a.bs=b.bs
 dis:k=2->∀j,j<qFx c->qD3 c m (a.rg j)=qD3 c m (b.rg j)
 oft:k=3->qBb c a.op a.cl (m-c.window)=qBb c b.op b.cl (m-c.window)
 drw:k=5->a.tk.Perm b.tk
theorem NInv.K{k:Nat}{c:Cfg}{rel last:Int}{nt:Note}(h:NInv k c rel last nt): NInv k (qDd k c) rel last nt:=by
 refine⟨h.q0,h.qn,h.r0,h.r1,h.one,h.sum,h.rk,h.rl,λe=>?_,λe=>?_,λe=>?_,h.nb,h.rf⟩
 ·subst e
  have:=h.oi rfl;exact⟨this.on0,this.onT,this.asc,this.lt,this.ocs,this.ccs,this.tops,this.len⟩
 ·subst e;exact h.tl rfl
 ·subst e;exact h.lw rfl
theorem NZ.K{k:Nat}{c:Cfg}{rel last:Int}{nt:Note}(h:NZ k c rel last nt): NZ k (qDd k c) rel last nt:=by
 refine⟨h.dec,λe=>?_,λe=>?_,λe=>?_,λe=>?_⟩
 ·subst e;exact h.cnt rfl
 ·subst e;exact h.dis rfl
 ·subst e
  have:=h.oft rfl;exact⟨this.cls,this.opn,this.pos,this.sum⟩
 ·subst e;exact h.drw rfl
theorem NSim.sav{k:Nat}{c:Cfg}{m:Int}{a b:Note}(h:NSim k c m a b)(k1:1<=k)(k5:k<=5){rel last:Int}(za:NZ k c rel last a)(zb:NZ k c rel last b)(hn:(a.tk.map (·.n)).Nodup): qG4 k c a m=qG4 k c b m:=by
 rcases five k1 k5 with e | e | e | e | e <;> subst e
 ·show zD0 a.bs=zD0 b.bs
  rw[h.cnt rfl]
 ·exact qZb (qFx c) (h.dis rfl)
 ·show zFu c a.op a.cl (m-c.window)=zFu c b.op b.cl (m-c.window)
  unfold zFu;rw[h.oft rfl]
 ·obtain⟨h1,h2⟩:=h.dec rfl
  show[a.q,a.r]=[b.q,b.r];rw[h1,h2]
 ·have hp:=h.drw rfl
  show qLg (Dr.allL (a.tk.length+1) a.tk)=qLg (Dr.allL (b.tk.length+1) b.tk);rw[hp.length_eq,zA3 _ (za.drw rfl).1 (zb.drw rfl).1 hn hp]
end
end Go.Proofs.YtahnliehdjncdabGreatDoor
