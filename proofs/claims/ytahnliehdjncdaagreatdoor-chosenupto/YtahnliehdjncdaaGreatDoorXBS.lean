import Derived.Test.YtahnliehdjncdaaGreatDoorXBQ
import Derived.Test.YtahnliehdjncdaaGreatDoorXBR
set_option maxRecDepth 100000
set_option maxHeartbeats 16000000
namespace Go.Proofs.YtahnliehdjncdaaGreatDoor.Dr
open Go.Proofs.YtahnliehdjncdaaGreatDoor
def dv(a:It): Int:=a.v%18446744073709551616
def dd(a:It): Int:=a.d%18446744073709551616
def dpos(a:It): Prop:=0<dd a
def leT(a b:It): Prop:=dv a*dd b<dv b*dd a\/(dv a*dd b=dv b*dd a/\b.n<=a.n)
theorem leT.refl(a:It): leT a a:=.inr ⟨rfl,Int.le_refl _⟩
theorem dd0(a:It): 0<=dd a:=by unfold dd;omega
theorem qW2{a b c d e f:Int}(hd:0<d)(hb:0<=b)(hf:0<=f)(h1:a*d<=c*b)(h2:c*f<=e*d): a*f<=e*b/\((a*d<c*b/\0<f)\/(c*f<e*d/\0<b)->a*f<e*b):=by
 have k1:a*d*f<=c*b*f:=Int.mul_le_mul_of_nonneg_right h1 hf
 have k2:c*f*b<=e*d*b:=Int.mul_le_mul_of_nonneg_right h2 hb
 have e1:a*d*f=a*f*d:=by rw[Int.mul_right_comm]
 have e2:c*b*f=c*f*b:=by rw[Int.mul_right_comm]
 have e3:e*d*b=e*b*d:=by rw[Int.mul_right_comm]
 refine⟨Int.le_of_mul_le_mul_right (by omega:a*f*d<=e*b*d) hd,λh=>?_⟩
 refine Int.lt_of_mul_lt_mul_right (a:=d) ?_ (by omega)
 rcases h with ⟨h,hp⟩ | ⟨h,hp⟩
 ·have:a*d*f<c*b*f:=Int.mul_lt_mul_of_pos_right h hp
  omega
 ·have:c*f*b<e*d*b:=Int.mul_lt_mul_of_pos_right h hp
  omega
theorem leT.trans{a b c:It}(hb:dpos b)(ha:dpos a)(hc:dpos c)(h:leT a b)(k:leT b c): leT a c:=by
 unfold leT dpos at *
 have ha0:=dd0 a
 have hc0:=dd0 c
 have h1:dv a*dd b<=dv b*dd a:=by omega
 have h2:dv b*dd c<=dv c*dd b:=by omega
 obtain⟨k1,k2⟩:=qW2 hb ha0 hc0 h1 h2
 rcases h with h | ⟨h,hn⟩
 ·left;exact k2 (.inl ⟨h,hc⟩)
 ·rcases k with k | ⟨k,kn⟩
  ·left;exact k2 (.inr ⟨k,ha⟩)
  ·by_cases he:dv a*dd c=dv c*dd a
   ·right;exact⟨he,by omega⟩
   ·left;omega
theorem qJz{a b:It}(h:qB0 a b=true): leT a b:=by
 unfold qB0 qIz at h;unfold leT dv dd
 split at h
 ·rename_i he;simp at h;right;exact⟨he.symm,by omega⟩
 ·simp at h;left;exact h
theorem qFw{a b:It}(h:qB0 a b=false): leT b a:=by
 unfold qB0 qIz at h;unfold leT dv dd
 split at h
 ·rename_i he;simp at h;right;exact⟨he,by omega⟩
 ·rename_i he;simp at h;left;omega
structure HeapT (l:List It):Prop where
 ok:∀j,j<l.length->dpos (itAt l j)
 up:∀i,0<i->i<l.length->leT (itAt l ((i-1)/2)) (itAt l i)
theorem qUw{l:List It}{i j:Nat}(h:∀t,t<l.length->dpos (itAt l t))(hi:i<l.length)(hj:j<l.length): ∀t,t<(swapL l i j).length->dpos (itAt (swapL l i j) t):=by
 intro t ht
 rw[qAq]at ht
 rw[qBn l i j t hi hj]
 split
 ·exact h i hi
 ·split
  ·exact h j hj
  ·exact h t ht
structure RiseAt (l:List It) (i:Nat):Prop where
 ok:∀j,j<l.length->dpos (itAt l j)
 up:∀j,0<j->j<l.length->j≠i->leT (itAt l ((j-1)/2)) (itAt l j)
 over:∀c,0<i->c<l.length->0<c->(c-1)/2=i->leT (itAt l ((i-1)/2)) (itAt l c)
theorem qIb(f:Nat): ∀(l:List It) (i:Nat),i<l.length->i<f->RiseAt l i->HeapT (riseL f l i):=by
 induction f with
 | zero=>intro l i _ h;omega
 | succ f ih =>
  intro l i hl hf h
  unfold riseL
  split
  ·rename_i h0
   refine⟨h.ok,λj hj hjl=>?_⟩
   exact h.up j hj hjl (by omega)
  ·rename_i h0
   split
   ·rename_i ha
    have hle:=qJz ha
    have hp:(i-1)/2<i:=by omega
    generalize hpp:(i-1)/2=p at *
    refine ih _ p (by rw[qAq];omega) (by omega) ⟨qUw h.ok hl (by omega),?_,?_⟩
    ·intro j hj hjl hjp
     rw[qAq]at hjl
     rw[qBn l i p _ hl (by omega),qBn l i p j hl (by omega)]
     rw[if_neg hjp]
     by_cases hji:j=i
     ·subst hji
      rw[if_pos hpp,if_pos rfl];exact hle
     ·rw[if_neg hji]
      by_cases h1:(j-1)/2=p
      ·rw[if_pos h1]
       have:=h.up j hj hjl hji
       rw[h1]at this
       exact leT.trans (h.ok p (by omega)) (h.ok i hl) (h.ok j hjl) hle this
      ·rw[if_neg h1]
       by_cases h2:(j-1)/2=i
       ·rw[if_pos h2]
        have:=h.over j (by omega) hjl hj h2
        rw[hpp]at this
        exact this
       ·rw[if_neg h2]
        exact h.up j hj hjl hji
    ·intro c hp0 hcl hc0 hcp
     rw[qAq]at hcl
     rw[qBn l i p _ hl (by omega),qBn l i p c hl (by omega)]
     rw[if_neg (show(p-1)/2≠p by omega),if_neg (show(p-1)/2≠i by omega),if_neg (show c≠p by omega)]
     have hpp':=h.up p hp0 (by omega) (by omega)
     by_cases hci:c=i
     ·rw[if_pos hci];exact hpp'
     ·rw[if_neg hci]
      have:=h.up c hc0 hcl hci
      rw[hcp]at this
      exact leT.trans (h.ok p (by omega)) (h.ok _ (by omega)) (h.ok c hcl) hpp' this
   ·rename_i ha
    have hle:=qFw (by simpa using ha)
    refine⟨h.ok,λj hj hjl=>?_⟩
    by_cases hji:j=i
    ·subst hji;exact hle
    ·exact h.up j hj hjl hji
structure SinkAt (l:List It) (i:Nat):Prop where
 ok:∀j,j<l.length->dpos (itAt l j)
 up:∀j,0<j->j<l.length->(j-1)/2≠i->leT (itAt l ((j-1)/2)) (itAt l j)
 over:∀c,0<i->c<l.length->0<c->(c-1)/2=i->leT (itAt l ((i-1)/2)) (itAt l c)
theorem qF4(l:List It)(i c:Nat)(h:qBm l i=c): 0<c/\(c-1)/2=i/\∀d,d<l.length->0<d->(d-1)/2=i->leT (itAt l c) (itAt l d):=by
 unfold qBm at h
 split at h
 ·split at h
  ·split at h
   ·rename_i h1 h2 h3
    have hc:c=2*i+2:=by omega
    subst hc
    refine⟨by omega,by omega,λd hd h0 hp=>?_⟩
    have:d=2*i+1\/d=2*i+2:=by omega
    rcases this with rfl | rfl
    ·exact qJz h3
    ·exact leT.refl _
   ·rename_i h1 h2 h3
    have hc:c=2*i+1:=by omega
    subst hc
    refine⟨by omega,by omega,λd hd h0 hp=>?_⟩
    have:d=2*i+1\/d=2*i+2:=by omega
    rcases this with rfl | rfl
    ·exact leT.refl _
    ·exact qFw (by simpa using h3)
  ·rename_i h1 h2
   have hc:c=2*i+1:=by omega
   subst hc
   refine⟨by omega,by omega,λd hd h0 hp=>?_⟩
   have:d=2*i+1:=by omega
   subst this
   exact leT.refl _
 ·omega
theorem qHh(l:List It)(i:Nat)(h:qBm l i<0): ∀d,d<l.length->0<d->(d-1)/2≠i:=by
 intro d hd h0 hp
 unfold qBm at h
 split at h
 ·split at h
  ·split at h <;> omega
  ·omega
 ·omega
theorem qIi(f:Nat): ∀(l:List It) (i:Nat),i<l.length->l.length<=f+i->SinkAt l i->HeapT (sinkL f l i):=by
 induction f with
 | zero=>intro l i _ h;omega
 | succ f ih =>
  intro l i hl hf h
  unfold sinkL
  split
  ·rename_i h0
   refine⟨h.ok,λj hj hjl=>?_⟩
   exact h.up j hj hjl (qHh l i h0 j hjl hj)
  ·rename_i h0
   rcases qCt l i with hc | ⟨c,hc,hic,hcl⟩
   ·omega
   ·rw[hc,Int.toNat_natCast]
    obtain⟨hc0,hcp,hcm⟩:=qF4 l i c hc
    split
    ·rename_i ha
     have hle:=qJz ha
     refine ih _ c (by rw[qAq];omega) (by rw[qAq];omega) ⟨qUw h.ok hl hcl,?_,?_⟩
     ·intro j hj hjl hjp
      rw[qAq]at hjl
      rw[qBn l i c _ hl hcl,qBn l i c j hl hcl,if_neg hjp]
      by_cases hjc:j=c
      ·subst hjc
       rw[if_pos hcp,if_pos rfl];exact hle
      ·rw[if_neg hjc]
       by_cases hji:j=i
       ·subst hji
        rw[if_neg (show(j-1)/2≠j by omega),if_pos rfl]
        exact h.over c hj hcl hc0 hcp
       ·rw[if_neg hji]
        by_cases h2:(j-1)/2=i
        ·rw[if_pos h2];exact hcm j hjl hj h2
        ·rw[if_neg h2];exact h.up j hj hjl h2
     ·intro d hc' hdl hd0 hdp
      rw[qAq]at hdl
      rw[qBn l i c _ hl hcl,qBn l i c d hl hcl]
      rw[if_neg (show(c-1)/2≠c by omega),if_pos hcp,if_neg (show d≠c by omega),if_neg (show d≠i by omega)]
      have:=h.up d hd0 hdl (by omega)
      rw[hdp]at this
      exact this
    ·rename_i ha
     have hle:=qFw (by simpa using ha)
     refine⟨h.ok,λj hj hjl=>?_⟩
     by_cases h2:(j-1)/2=i
     ·rw[h2];exact leT.trans (h.ok c hcl) (h.ok i hl) (h.ok j hjl) hle (hcm j hjl hj h2)
     ·exact h.up j hj hjl h2
theorem HeapT.first{l:List It}(h:HeapT l)(j:Nat)(hj:j<l.length): leT (itAt l 0) (itAt l j):=by
 induction j using Nat.strongRecOn with
 | _ j ih =>
  by_cases h0:j=0
  ·subst h0;exact leT.refl _
  ·exact leT.trans (h.ok ((j-1)/2) (by omega)) (h.ok 0 (by omega)) (h.ok j hj) (ih ((j-1)/2) (by omega) (by omega)) (h.up j (by omega) hj)
theorem itAt_get(l:List It)(j:Nat)(hj:j<l.length): itAt l j=l[j]:=by
 unfold itAt;rw[List.getD_eq_getElem?_getD,List.getElem?_eq_getElem hj];rfl
theorem qE7(l:List It)(i j:Nat)(hi:i<l.length)(hj:j<l.length): (swapL l i j).Perm l:=by
 unfold swapL
 rw[itAt_get l i hi,itAt_get l j hj]
 exact List.set_set_perm hi hj
theorem qIl(f:Nat): ∀(l:List It) (i:Nat),i<l.length->(riseL f l i).Perm l:=by
 induction f with
 | zero=>intro l i _;exact List.Perm.refl _
 | succ f ih =>
  intro l i hl
  unfold riseL
  split
  ·exact List.Perm.refl _
  ·split
   ·exact(ih _ _ (by rw[qAq];omega)).trans (qE7 l _ _ hl (by omega))
   ·exact List.Perm.refl _
theorem qIc(f:Nat): ∀(l:List It) (i:Nat),i<l.length->(sinkL f l i).Perm l:=by
 induction f with
 | zero=>intro l i _;exact List.Perm.refl _
 | succ f ih =>
  intro l i hl
  unfold sinkL
  split
  ·exact List.Perm.refl _
  ·rename_i h0
   rcases qCt l i with hc | ⟨c,hc,hic,hcl⟩
   ·omega
   ·rw[hc,Int.toNat_natCast]
    split
    ·exact(ih _ _ (by rw[qAq];omega)).trans (qE7 l _ _ hl hcl)
    ·exact List.Perm.refl _
theorem put_heap(l:List It)(x:It)(h:HeapT l)(hx:dpos x): HeapT (riseL (l.length+1) (l++[x]) l.length)/\(riseL (l.length+1) (l++[x]) l.length).Perm (x::l):=by
 have hat:∀j,j<l.length->itAt (l++[x]) j=itAt l j:=by
  intro j hj
  unfold itAt
  rw[List.getD_eq_getElem?_getD,List.getD_eq_getElem?_getD,List.getElem?_append_left hj]
 refine⟨qIb _ _ _ (by simp) (by omega) ⟨?_,?_,?_⟩,(qIl _ _ _ (by simp)).trans (List.perm_append_singleton x l)⟩
 ·intro j hj
  rw[List.length_append,List.length_singleton]at hj
  by_cases hjl:j<l.length
  ·rw[hat j hjl];exact h.ok j hjl
  ·have:j=l.length:=by omega
   subst this
   rw[itAt_get _ _ (by simp)]
   simpa using hx
 ·intro j hj hjl hne
  rw[List.length_append,List.length_singleton]at hjl
  rw[hat _ (by omega),hat j (by omega)]
  exact h.up j hj (by omega)
 ·intro c h0 hcl hc0 hcp
  rw[List.length_append,List.length_singleton]at hcl
  omega
theorem take_heap(l:List It)(h:HeapT l)(hl:l≠[]): HeapT (takeL l)/\(itAt l 0::takeL l).Perm l:=by
 have hpos:0<l.length:=List.length_pos_iff.2 hl
 unfold takeL
 by_cases h1:l.length=1
 ·obtain⟨a,rfl⟩:=List.length_eq_one_iff.1 h1
  refine⟨?_,?_⟩
  ·have hn:(sinkL [a].length (([a].set 0 (itAt [a] ([a].length-1))).take ([a].length-1)) 0).length=0:=rfl
   exact⟨λi hi=>by omega,λi _ hi=>by omega⟩
  ·exact List.Perm.refl _
 ·obtain⟨a,m,rfl⟩:∃a m,l=a::m:=by cases l with | nil=>exact absurd rfl hl | cons a m=>exact⟨a,m,rfl⟩
  obtain⟨m',z,rfl⟩:∃m' z,m=m'++[z]:=by
   refine⟨m.dropLast,m.getLast (by intro e;subst e;simp at h1),?_⟩
   rw[List.dropLast_concat_getLast]
  have hz:itAt (a::(m'++[z])) ((a::(m'++[z])).length-1)=z:=by
   rw[itAt_get _ _ (by simp)]
   simp
  have he:((a::(m'++[z])).set 0 (itAt (a::(m'++[z])) ((a::(m'++[z])).length-1))).take ((a::(m'++[z])).length-1)=z::m':=by
   rw[hz];simp
  rw[he]
  have hat:∀j,0<j->j<(z::m').length->itAt (z::m') j=itAt (a::(m'++[z])) j:=by
   intro j h0 hj
   simp only[List.length_cons]at hj
   rw[itAt_get _ _ (by simpa using hj),itAt_get _ _ (by simp;omega)]
   obtain⟨j,rfl⟩:∃k,j=k+1:=⟨j-1,by omega⟩
   simp only[List.getElem_cons_succ]
   rw[List.getElem_append_left (by omega)]
  refine⟨qIi _ _ 0 (by simp) (by simp) ⟨?_,?_,?_⟩,?_⟩
  ·intro j hj
   by_cases h0:j=0
   ·subst h0
    have:=h.ok ((a::(m'++[z])).length-1) (by simp)
    rw[hz]at this
    exact this
   ·rw[hat j (by omega) hj];exact h.ok j (by simp at hj ⊢;omega)
  ·intro j hj hjl hne
   rw[hat _ (by omega) (by omega),hat j hj hjl]
   exact h.up j hj (by simp at hjl ⊢;omega)
  ·intro c h0;omega
  ·refine(List.Perm.cons _ (qIc _ _ 0 (by simp))).trans ?_
   show(a::z::m').Perm (a::(m'++[z]))
   exact List.Perm.cons a (List.perm_append_singleton z m').symm
end Go.Proofs.YtahnliehdjncdaaGreatDoor.Dr
namespace Go.Proofs.YtahnliehdjncdaaGreatDoor
section
theorem Dr.HeapT.okm{l:List Dr.It}(h:Dr.HeapT l){y:Dr.It}(hy:y∈l): Dr.dpos y:=by
 obtain⟨j,hj,rfl⟩:=List.mem_iff_getElem.1 hy
 have:=h.ok j hj
 rw[Dr.itAt_get l j hj]at this
 exact this
theorem Dr.HeapT.firstm{l:List Dr.It}(h:Dr.HeapT l){y:Dr.It}(hy:y∈l): Dr.leT (Dr.itAt l 0) y:=by
 obtain⟨j,hj,rfl⟩:=List.mem_iff_getElem.1 hy
 have:=h.first j hj
 rw[Dr.itAt_get l j hj]at this
 exact this
theorem Dr.allL_spec(f:Nat): ∀l:List Dr.It,l.length<f->Dr.HeapT l->(Dr.allL f l).Perm l/\(Dr.allL f l).Pairwise Dr.leT:=by
 induction f with
 | zero=>intro l h;omega
 | succ f ih =>
  intro l hl hh
  unfold Dr.allL
  by_cases h0:l.length=0
  ·rw[if_pos h0,List.eq_nil_of_length_eq_zero h0]
   exact⟨List.Perm.refl _,List.Pairwise.nil⟩
  ·rw[if_neg h0]
   have hne:l≠[]:=λe=>h0 (by rw[e];rfl)
   obtain⟨h1,h2⟩:=Dr.take_heap l hh hne
   have h3:=Dr.takeL_length l
   obtain⟨p,q⟩:=ih (Dr.takeL l) (by omega) h1
   refine⟨(List.Perm.cons _ p).trans h2,List.pairwise_cons.2 ⟨λy hy=>?_,q⟩⟩
   exact hh.firstm (h2.mem_iff.1 (by simp[p.mem_iff.1 hy]))
structure TG (c:Cfg) (tk:List Dr.It) (R:List It):Prop where
 heap:Dr.HeapT tk
 len:(tk.length:Int)<=c.size+1
 ex:∃D:List Dr.It,(tk++D).Perm (R.map (tick c))/\(∀d∈D,Dr.dpos d/\∀y∈tk,Dr.leT d y)/\(D≠[]->(tk.length:Int)=c.size+1)
theorem TG.rel{c:Cfg}{tk:List Dr.It}{R:List It}(h:TG c tk R)(hs:1<=c.size)(y:It)(hy:Dr.dpos (tick c y)): TG c (qWu c tk y) (R++[y]):=by
 obtain⟨D,hp,hD,hDl⟩:=h.ex
 obtain⟨hh,hpm⟩:=Dr.put_heap tk (tick c y) h.heap hy
 have hlen:(Dr.riseL (tk.length+1) (tk++[tick c y]) tk.length).length=tk.length+1:=by rw[hpm.length_eq];rfl
 unfold qWu
 generalize Dr.riseL (tk.length+1) (tk++[tick c y]) tk.length=l1 at *
 have hl0:=h.len
 have hR:(R++[y]).map (tick c)=R.map (tick c)++[tick c y]:=by simp
 have hall:(tick c y::(tk++D)).Perm ((R++[y]).map (tick c)):=by
  rw[hR];exact(List.Perm.cons _ hp).trans (List.perm_append_singleton _ _).symm
 by_cases hgt:c.size+1<((tk.length+1:Nat):Int)
 ·rw[if_pos hgt]
  have hne:l1≠[]:=λe=>by rw[e]at hlen;simp at hlen
  obtain⟨t1,t2⟩:=Dr.take_heap l1 hh hne
  have t3:=Dr.takeL_length l1
  have hz:=fun {x:Dr.It} (hx:x∈l1)=>hh.firstm hx
  have hzm:Dr.itAt l1 0∈l1:=t2.mem_iff.1 (by simp)
  have hzp:=hh.okm hzm
  refine⟨t1,by omega,Dr.itAt l1 0::D,?_,λd hd=>?_,λ_=>by omega⟩
  ·refine List.Perm.trans ?_ hall
   refine List.perm_middle.trans ?_
   rw[<-List.cons_append]
   exact(t2.trans hpm).append_right D
  ·rcases List.mem_cons.1 hd with e | e
   ·rw[e];exact⟨hzp,λx hx=>hz (t2.mem_iff.1 (by simp[hx]))⟩
   ·refine⟨(hD d e).1,λx hx=>?_⟩
    rcases List.mem_cons.1 (hpm.mem_iff.1 hzm) with ez | ez
    ·
     have:(Dr.takeL l1).Perm tk:=by
      have h1:=t2.trans hpm
      rw[ez]at h1
      exact(List.perm_cons _).1 h1
     exact(hD d e).2 x (this.mem_iff.1 hx)
    ·have hxl:x∈l1:=t2.mem_iff.1 (by simp[hx])
     exact Dr.leT.trans hzp (hD d e).1 (hh.okm hxl) ((hD d e).2 _ ez) (hz hxl)
 ·rw[if_neg hgt]
  refine⟨hh,by omega,D,?_,λd hd=>?_,λhne=>?_⟩
  ·refine List.Perm.trans ?_ hall
   rw[<-List.cons_append]
   exact hpm.append_right D
  ·have:=hDl (List.ne_nil_of_mem hd)
   omega
  ·have:=hDl hne
   omega
theorem qMj{c:Cfg}{y:It}(h:OkI c 5 y): 1<=y.d/\y.d<=2147483648:=by
 have:=h.fit
 unfold qFn qJ7 at this
 simp only at this
 revert this
 repeat' split
 all_goals intro this
 all_goals first | omega | (simp_all [inB];done) | (simp_all [inB];omega)
theorem qWw{c:Cfg}{y:It}(h:OkI c 5 y): Dr.dpos (tick c y):=by
 have:=qMj h
 unfold Dr.dpos Dr.dd tick
 show 0<y.d%18446744073709551616
 omega
def PT(c:Cfg)(_:Int)(nt:Note)(R:List It): Prop:=TG c nt.tk R
theorem zBy: NLaw 5 PT where
 zero:=λc m hv hk=>⟨⟨λj hj=>by simp[qTo]at hj,λi _ hi=>by simp[qTo]at hi⟩,by have:=qDd (k:=5) hv hk rfl;show((0:Nat):Int)<=_;omega,[],List.Perm.refl _,λd hd=>by simp at hd,λh=>absurd rfl h⟩
 later:=λc m m' nt R _ _ hm h=>h
 rel:=λc m nt R y hv hk h hr hy _=>TG.rel h (qDd (k:=5) hv hk rfl).1 y (qWw hy)
 swp:=λc m nt R b _ _ h=>h
def qDw(l:List Tri): List Int:=l.flatMap λx=>[x.1,x.2.1,x.2.2]
theorem qC3(l:List Tri): (qDw l).length=3*l.length:=by
 induction l with
 | nil=>rfl
 | cons x l ih=>simp[qDw]at ih ⊢;omega
theorem qSo(l:List Tri)(s:List Int): ∀i,i<l.length->(qDw l++s).getD (3*i) 0=(tAt l i).1/\(qDw l++s).getD (3*i+1) 0=(tAt l i).2.1/\(qDw l++s).getD (3*i+2) 0=(tAt l i).2.2:=by
 induction l with
 | nil=>intro i h;simp at h
 | cons x l ih =>
  intro i h
  have e:qDw (x::l)++s=x.1::x.2.1::x.2.2::(qDw l++s):=by simp[qDw]
  cases i with
  | zero=>rw[e];exact⟨rfl,rfl,rfl⟩
  | succ i =>
   obtain⟨h1,h2,h3⟩:=ih i (by simpa using h)
   have et:tAt (x::l) (i+1)=tAt l i:=by simp[tAt]
   rw[e,et,show 3*(i+1)=3*i+1+1+1 by omega]
   exact⟨h1,h2,h3⟩
def drT(z:Dr.It): Tri:=(z.t,z.k,z.d)
theorem qVz(l:List Dr.It): three l=qDw (l.map drT):=by
 unfold three qDw
 rw[List.flatMap_map]
 rfl
theorem zAf(r:List Dr.It)(i:Nat)(h:i<r.length): tAt (r.map drT) i=drT (Dr.itAt r i):=by
 unfold tAt
 rw[List.getD_eq_getElem?_getD,List.getElem?_map,List.getElem?_eq_getElem h,Dr.itAt_get r i h];rfl
structure TkI (c:Cfg) (z:Dr.It):Prop where
 v:z.v=wtK c z.t
 t0:0<=z.t
 t1:z.t<=4611686018427387904
 d0:1<=z.d
 d1:z.d<=2147483648
theorem TkI.le{c:Cfg}{a b:Dr.It}(ha:TkI c a)(hb:TkI c b)(h:Dr.leT a b): wtK c a.t*b.d<=wtK c b.t*a.d:=by
 have h1:=qFf c a.t
 have h2:=qFf c b.t
 have a1:=ha.d0
 have a2:=ha.d1
 have b1:=hb.d0
 have b2:=hb.d1
 unfold Dr.leT Dr.dv Dr.dd at h
 rw[ha.v,hb.v,Int.emod_eq_of_lt (by omega) (by omega),Int.emod_eq_of_lt (by omega) (by omega),Int.emod_eq_of_lt (by omega) (by omega),Int.emod_eq_of_lt (by omega) (by omega)]at h
 omega
theorem qSx{c:Cfg}(h:qA4 c=true)(hk:c.kind=5): 0<=c.mark/\c.mark<=4611686018427387904:=by
 simp only[qA4,hk,Bool.and_eq_true]at h
 have h2:qG9 c=true:=h.2.2
 simp only[qG9,qGo,inB,Bool.and_eq_true,decide_eq_true_eq]at h2
 omega
theorem qFq{r:List Dr.It}{Q:Dr.It->Dr.It->Prop}(h:r.Pairwise Q){i j:Nat}(hij:i<j)(hj:j<r.length): Q (Dr.itAt r i) (Dr.itAt r j):=by
 rw[Dr.itAt_get r i (by omega),Dr.itAt_get r j hj]
 exact List.pairwise_iff_getElem.1 h i j (by omega) hj hij
theorem qQo(t:List OpM)(hok:qJa t)(j:Nat)(hj:j<t.length)(h4:(opAt t j).kind=4)(c:Cfg)(hc:qCn t (qBo t) (opAt t j).id j=some c)(hk:c.kind=5)(hdg:c.degree=1)(hhf:c.half=0):
  (0<=qCg t (qBo t) j/\qCg t (qBo t) j<=4611686018427387904)/\(0<=c.lag/\c.lag<=100) /\
  ∃(kk:Nat) (told rest:List Tri) (tv td:Int),(qJb ws0 t)[j]?=some (0,qDw told++[tv,td]) /\
   ChD c (qB7 t (qBo t) (opAt t j).id (-1) (qCg t (qBo t) j-c.lag) j) kk told rest tv td:=by
 obtain⟨b1,b2,hv,x,R,L,A,_,_,_,hans,hP,hs,hR,hL,hperm,hAl,_,hA⟩:=qYb zBy t hok j hj h4 c hc hk
 obtain⟨s0,s1⟩:=qDd (k:=5) hv hk rfl
 obtain⟨m0,m1⟩:=qSx hv hk
 obtain⟨hheap,htl,D,hp,hD,hDl⟩:=hP
 have hqry:(qJb ws0 t)[j]?=some (0,qQt c x.nt.tk):=by
  rw[hans];unfold qH9;rw[if_neg (by omega),if_neg (by omega),if_neg (by omega),if_neg (by omega),if_pos rfl]
 have hit:((qB7 t (qBo t) (opAt t j).id (-1) (qCg t (qBo t) j-c.lag) j).map qM9).Perm (R.map tri):=by
  have h1:=qVv t (opAt t j).id (-1) (qCg t (qBo t) j-c.lag) j (by omega)
  rw[<-hA]at h1
  rw[h1]
  have h2:=qT5 (fr:=-1) hperm (λr hr=>(hR r hr).1) hL
  have hself:R.filter (λy=>decide (-1<y.t))=R:=List.filter_eq_self.2 (λr hr=>by have:=(hR r hr).2.t0;simp;omega)
  rw[hself]at h2
  exact h2.map tri
 generalize qB7 t (qBo t) (opAt t j).id (-1) (qCg t (qBo t) j-c.lag) j=l at *
 have hTk:∀z∈x.nt.tk++D,TkI c z:=λz hz=>by
  obtain⟨y,hy,rfl⟩:=List.mem_map.1 (hp.mem_iff.1 hz)
  have ho:=(hR y hy).2
  have hd:=qMj ho
  exact⟨zBu c y.t hdg hhf,ho.t0,ho.t1,hd.1,hd.2⟩
 generalize x.nt.tk=tk at *
 obtain⟨ap,aps⟩:=Dr.allL_spec (tk.length+1) tk (by omega) hheap
 have hq:qQt c tk=three ((Dr.allL (tk.length+1) tk).reverse.take (min c.size.toNat (Dr.allL (tk.length+1) tk).reverse.length))++[(qHn c.size.toNat (Dr.allL (tk.length+1) tk).reverse).v,(qHn c.size.toNat (Dr.allL (tk.length+1) tk).reverse).d]:=rfl
 have rp:(Dr.allL (tk.length+1) tk).reverse.Perm tk:=(List.reverse_perm _).trans ap
 have rs:(Dr.allL (tk.length+1) tk).reverse.Pairwise (λa b=>Dr.leT b a):=List.pairwise_reverse.2 aps
 generalize(Dr.allL (tk.length+1) tk).reverse=r at *
 obtain⟨S,hS⟩:∃S,c.size.toNat=S:=⟨_,rfl⟩
 rw[hS]at hq
 have hrl:r.length=tk.length:=rp.length_eq
 have hTr:∀z∈r,TkI c z:=λz hz=>hTk z (by simp[rp.mem_iff.1 hz])
 have hTa:∀i,i<r.length->TkI c (Dr.itAt r i):=λi hi=>hTr _ (by rw[Dr.itAt_get r i hi];exact List.getElem_mem hi)
 have htake:r.take (min S r.length)=r.take S:=by
  by_cases h:S<=r.length
  ·rw[Nat.min_eq_left h]
  ·rw[Nat.min_eq_right (by omega),List.take_of_length_le (Nat.le_refl _),List.take_of_length_le (by omega)]
 have hlR:l.length=R.length:=by have:=hit.length_eq;rwa [List.length_map,List.length_map]at this
 have hRl:R.length=tk.length+D.length:=by have:=hp.length_eq;rw[List.length_map,List.length_append]at this;exact this.symm
 have htAt:∀i,i<S->i<r.length->tAt ((r.take S).map drT) i=drT (Dr.itAt r i):=λi h1 h2=>by
  rw[zAf _ _ (by rw[List.length_take];omega),Dr.itAt_get _ _ (by rw[List.length_take];omega),Dr.itAt_get r i h2,List.getElem_take]
 refine⟨b1,b2,min S r.length,(r.take S).map drT,(r.drop S++D).map drT,(qHn S r).v,(qHn S r).d,?_,?_⟩
 ·rw[hqry,hq,htake,qVz]
 ·refine⟨by rw[List.length_map,List.length_take],s0,s1,m0,m1,?_,λy hy=>?_,?_,λi hi=>?_,λhn=>?_,λhne=>?_⟩
  ·by_cases hDn:D=[]
   ·rw[hDn]at hRl
    rw[List.length_nil]at hRl
    by_cases h:c.size<(l.length:Int)
    ·rw[if_pos (by simpa using h)];omega
    ·rw[if_neg (by simpa using h)];omega
   ·have:=hDl hDn
    have hpos:0<D.length:=List.length_pos_iff.2 hDn
    rw[if_pos (by simp;omega)];omega
  ·obtain⟨y0,hy0,rfl⟩:=List.mem_map.1 (hit.mem_iff.1 hy)
   have ho:=(hR y0 hy0).2
   have hd:=qMj ho
   exact⟨⟨ho.t0,ho.t1⟩,by show 0<=y0.d;omega,hd.2⟩
  ·rw[<-List.map_append,<-List.append_assoc,List.take_append_drop]
   refine List.Perm.trans ?_ hit.symm
   have h1:=((rp.append_right D).trans hp).map drT
   rw[List.map_map]at h1
   exact h1
  ·rw[htAt _ (by omega) (by omega),htAt _ (by omega) (by omega)]
   exact(hTa (i+1) (by omega)).le (hTa i (by omega)) (qFq rs (by omega) (by omega))
  ·have h1:r.drop S=[]:=by
    have:=List.map_eq_nil_iff.1 hn
    exact(List.append_eq_nil_iff.1 this).1
   have h2:r.length<=S:=List.drop_eq_nil_iff.1 h1
   unfold qHn
   rw[if_neg (by omega)]
   exact⟨rfl,rfl⟩
  ·have hlt:S<r.length:=by
    by_cases hDn:D=[]
    ·apply Nat.lt_of_not_le
     intro h
     exact hne (by rw[hDn,List.append_nil,List.drop_eq_nil_iff.2 h];rfl)
    ·have:=hDl hDn;omega
   have hnx:qHn S r=Dr.itAt r S:=by unfold qHn;rw[if_pos hlt]
   rw[hnx]
   have hTS:=hTa S hlt
   have hS1:1<=S:=by omega
   have hT1:=hTa (S-1) (by omega)
   have hw:=qFf c (Dr.itAt r S).t
   have hrS:Dr.itAt r S∈r.drop S:=by rw[Dr.itAt_get r S hlt,List.drop_eq_getElem_cons hlt];exact List.mem_cons_self
   have hmin:min S r.length-1=S-1:=by omega
   have hall:∀z∈r.drop S++D,TkI c z/\Dr.leT z (Dr.itAt r S)/\Dr.leT z (Dr.itAt r (S-1)):=λz hz=>by
    rcases List.mem_append.1 hz with h | h
    ·obtain⟨i,hi,rfl⟩:=List.mem_iff_getElem.1 h
     rw[List.getElem_drop]
     rw[List.length_drop]at hi
     have e:r[S+i]'(by omega)=Dr.itAt r (S+i):=(Dr.itAt_get r _ (by omega)).symm
     rw[e]
     refine⟨hTa _ (by omega),?_,qFq rs (by omega) (by omega)⟩
     by_cases hi0:i=0
     ·subst hi0;exact Dr.leT.refl _
     ·exact qFq rs (by omega) (by omega)
    ·have hm:∀i,i<r.length->Dr.itAt r i∈tk:=λi hi=>rp.mem_iff.1 (by rw[Dr.itAt_get r i hi];exact List.getElem_mem hi)
     exact⟨hTk z (by simp[h]),(hD z h).2 _ (hm _ hlt),(hD z h).2 _ (hm _ (by omega))⟩
   refine⟨⟨by rw[hTS.v];omega,by rw[hTS.v];omega,hTS.d0,hTS.d1⟩,λy hy=>?_,drT (Dr.itAt r S),List.mem_map_of_mem (by simp[hrS]),hTS.v,rfl⟩
   obtain⟨z,hz,rfl⟩:=List.mem_map.1 hy
   obtain⟨z1,z2,z3⟩:=hall z hz
   rw[hmin,htAt _ (by omega) (by omega),hTS.v]
   exact⟨z1.le hTS z2,z1.le hT1 z3⟩
end
section
open Go.RowKit
attribute [local go_sem ↓] qAd qAe qB6 qD1 qD3 qC7
attribute [local go_sem] qAh qAi qAb qAc qAp qAo qAk qAj qKk
attribute [local go_sem ↓] Go.wp_at_zero Go.wp_at_succ
theorem qY5{w:World}{gn:Nat}{told:List Tri}{tv td:Int}(h:∀i,i<(qDw told++[tv,td]).length->w.cell? ⟨gn,i,none⟩=some (.int .i64 ((qDw told++[tv,td]).getD i 0))): NumC w gn told.length told tv td:=by
 have hl:(qDw told++[tv,td]).length=3*told.length+2:=by rw[List.length_append,qC3];rfl
 refine⟨λi hi=>?_,?_,?_⟩
 ·obtain⟨h1,h2,h3⟩:=qSo told [tv,td] i hi
  exact⟨by rw[<-h1];exact h _ (by omega),by rw[<-h2];exact h _ (by omega),by rw[<-h3];exact h _ (by omega)⟩
 ·have e:(qDw told++[tv,td]).getD (3*told.length) 0=tv:=by
   rw[List.getD_eq_getElem?_getD,List.getElem?_append_right (by rw[qC3];omega),qC3];simp
  have:=h (3*told.length) (by omega)
  rw[e]at this;exact this
 ·have e:(qDw told++[tv,td]).getD (3*told.length+1) 0=td:=by
   rw[List.getD_eq_getElem?_getD,List.getElem?_append_right (by rw[qC3];omega),qC3]
   rw[show 3*told.length+1-3*told.length=1 by omega];rfl
  have:=h (3*told.length+1) (by omega)
  rw[e]at this;exact this
theorem qTu(v:Value)(key:Int)(ops:List OpM)(w:World)(hv:ScriptW w v ops)(hlen:ops.length<=325781223000)(hT:Tab w):
  Calls Tryz.prog 12 #[v,.int .i64 key] w λr w'=>r=.returned (.bool true)/\Keeps (λ_=>False) w w':=by
 have HV:=hide hv
 have HTT:=hide hT
 clear hv hT
 go_enter Tryz.func12,Tryz.ntmps12
 go_wp2_with fail
 refine(qUv _ (uh HTT)).mono ?_
 rintro r w1 ⟨rfl,hk1⟩
 have HK1:=hide hk1
 clear hk1
 go_wp2_with fail
 refine(qTj _ ((uh HTT).keeps (uh HK1) (λh=>h))).mono ?_
 rintro r w2 ⟨rfl,hk2⟩
 have HK2:=hide ((uh HK1).then hk2)
 clear hk2 HK1
 go_wp2_with fail
 refine(qTn v ops key w2 ((uh HV).keeps (uh HK2)) hlen).mono ?_
 rintro r w4 ⟨tv,bs,rfl,hT4,hb4,hk4⟩
 have htl:(qKq ops key).length<=651562446000:=by have:=qMb ops key;omega
 have HOKT:=hide (qU5 ops key)
 have HT4:=hide hT4
 have HK4:=hide ((uh HK2).then hk4)
 clear hT4 hk4 hb4
 generalize hst:qKq ops key=t at *
 clear hst
 obtain⟨ta,tc,et⟩:=qC9 (uh HT4)
 generalize hm2:t.length=nn at *
 have HNN:=hide hm2
 clear hm2
 subst et
 go_wp2_with fail
 refine(qKj _ t w4 (by have h:=qFr (uh HT4);exact h) (by rw[uh HNN];omega) ((uh HTT).keeps (uh HK4) (λh=>h)) (uh HOKT)).mono ?_
 rintro r w5 ⟨va,la,rfl,hA,hMA,hBA,hk5⟩
 have HLA:=hide (show la.length=nn by
    have:=congrArg List.length hMA
    rwa [List.length_map,qFt,uh HNN]at this)
 have HA5:=hide hA
 have HMA:=hide hMA
 have HK5:=hide ((uh HK4).then hk5)
 have HT5:=hide (qAu (uh HT4) hk5 (λ_ _ h=>h))
 obtain⟨aa,ca,ea⟩:=qC9 hA.row
 rw[uh HLA]at ea
 subst ea
 clear hA hMA hBA hk5 HT4 HK4
 go_wp2_with fail
 go_loopw [9] (λi wr=>∃j:Nat,j<=nn/\i=.int .i64 j/\Hid (Keeps (λ_=>False) w5 wr)) (λi _=>nn-(intOf i).toNat)
 case atStart=>exact⟨0,by omega,rfl,Keeps.refl _ _⟩
 case round =>
  obtain⟨j,hj,rfl,HK⟩:=hrel
  by_cases hjn:j<nn
  ·obtain⟨base,hTr⟩:∃base,qIt wr base (.slice ta t.length tc) t:=⟨_,by rw[uh HNN];exact qAu (uh HT5) (uh HK) (λ_ _ h=>h)⟩
   have hjt:j<t.length:=by rw[uh HNN];exact hjn
   rcases qG0 hTr with ⟨_,h2⟩ | ⟨g,cap,e1,hcap,hsc,hltg,hbg,hmax⟩
   ·rw[h2]at hjt;simp at hjt
   injection e1 with e2 _ e3
   subst e2 e3
   obtain⟨xa,hxa⟩:∃xa,la[j]?=some xa:=⟨la[j]'(by rw[uh HLA];omega),List.getElem?_eq_getElem _⟩
   have hAr:=(uh HA5).keeps (uh HK) (λ_ _ h=>h)
   obtain⟨ga,hga,d0,d1,d2⟩:=qOt hAr j xa hxa
   subst hga
   have HCD:=hide (qW0 hAr (uh HMA))
   have HNA:=hide (hAr.nums xa (List.mem_of_getElem? hxa))
   have HXA:=hide (show(qJb ws0 t)[j]?=some (xa.code,xa.nums) by rw[<-uh HMA,List.getElem?_map,hxa];rfl)
   obtain⟨c0,c1,c2⟩:=qEe hsc hjt
   rw[Nat.zero_add]at c0 c1 c2
   have hgal:ga<wr.heap.size:=World.block_lt_of_cell? wr _ d0
   have HBD:=hide (qQo t (uh HOKT) j hjt)
   obtain⟨cs,hcs⟩:∃cs,qBo t=cs:=⟨_,rfl⟩
   have hcl:cs.length=t.length:=by rw[<-hcs,qG5]
   rw[hcs]at HCD HBD
   have HITM:=hide (show ∀(w':World) (fr tt:Int),Keeps (λ_=>False) wr w'->Calls Tryz.prog 27 #[.slice (some ⟨g,0,none⟩) nn tc,.slice (some ⟨ga,0,none⟩) nn ca,.int .i64 j,.int .i64 (opAt t j).id,.int .i64 fr,.int .i64 tt] w' λr w''=>∃v,r=.returned v/\qIt w'' w'.heap.size v (qB7 t cs (opAt t j).id fr tt j)/\Keeps (λ_=>False) w' w'' from λw' fr tt hk'=>by
      have:=qUs g 0 tc ga ca t cs j (opAt t j).id fr tt w' (hsc.keepsM hk' (λh=>h)) (Nat.lt_of_lt_of_le hgal hk'.size) ((uh HCD).keeps hk' (λh=>h)) (by omega) hcl (by rw[uh HNN];omega)
      rw[uh HNN]at this
      exact this)
   have HCLK:=hide (show ∀(w':World),Keeps (λ_=>False) wr w'->Calls Tryz.prog 26 #[.slice (some ⟨g,0,none⟩) nn tc,.slice (some ⟨ga,0,none⟩) nn ca,.int .i64 j] w' λr w''=>r=.returned (.int .i64 (qCg t cs j))/\w''=w' from λw' hk'=>by
      have:=qV1 g 0 tc ga ca t cs j w' (hsc.keepsM hk' (λh=>h)) ((uh HCD).keeps hk' (λh=>h)) (by omega) hcl (by rw[uh HNN];omega)
      rw[uh HNN]at this
      exact this)
   have HCFG:=hide (show Calls Tryz.prog 25 #[.slice (some ⟨g,0,none⟩) nn tc,.slice (some ⟨ga,0,none⟩) nn ca,.int .i64 j,.int .i64 (opAt t j).id] wr λr w'=>r=.returned (.tuple #[.agg ((qCn t cs (opAt t j).id j).getD qR3).cells.toArray,.bool (qCn t cs (opAt t j).id j).isSome])/\Keeps (λ_=>False) wr w' by
      have:=qTm g 0 tc ga ca t cs j (opAt t j).id wr hsc (uh HCD) (by omega) hcl (by rw[uh HNN];omega)
      rw[uh HNN]at this
      exact this)
   have HIL:=hide (show ∀fr tt,(qB7 t cs (opAt t j).id fr tt j).length<=j from λfr tt=>qHz t cs _ fr tt j)
   generalize opAt t j=o at *
   generalize qCn t cs o.id j=C at *
   generalize qCg t cs j=clk at *
   have hj0:(0:Int)<=(j:Int):=by omega
   have hj1:(j:Int)<(nn:Int):=by omega
   clear hsc hcap hbg hmax hTr hjt hAr hxa hcs hcl
   go_wp2_with fail
   refine(uh HCFG).mono ?_
   rintro r w6 ⟨rfl,hk6⟩
   obtain⟨cc,hcc⟩:∃cc,C.getD qR3=cc:=⟨_,rfl⟩
   rw[hcc]
   have HCC:=hide hcc
   clear hcc
   have hst:∀zs:List Value,zs.length=20->(qCq 38 (.pointer (some ⟨w6.heap.size,0,none⟩)) (.agg cc.cells.toArray)).run Tryz.prog (w6.alloc (.cells zs.toArray 38))=.ok .skip (w6.alloc (.cells cc.cells.toArray 38)):=λzs hz=>qD2 w6 zs cc.cells hz rfl (by simp[Cfg.cells,Value.oneCell'])
   have HB7:=hide (Blk.new w6 cc.cells 38)
   have hk7:=hk6.alloc (.cells cc.cells.toArray 38)
   have HK7:=hide hk7
   have b0:(w6.alloc (.cells cc.cells.toArray 38)).cell? ⟨g,j*26,none⟩=some (.int .i64 o.kind):=hk7.cell c0 (λh=>h)
   have b1:(w6.alloc (.cells cc.cells.toArray 38)).cell? ⟨w6.heap.size,0,none⟩=some (.int .i64 cc.kind):=(uh HB7).cell rfl
   have b2:(w6.alloc (.cells cc.cells.toArray 38)).cell? ⟨g,j*26+2,none⟩=some (.int .i64 o.a):=hk7.cell c2 (λh=>h)
   have b3:(w6.alloc (.cells cc.cells.toArray 38)).cell? ⟨w6.heap.size,11,none⟩=some (.int .i64 cc.degree):=(uh HB7).cell rfl
   have b4:(w6.alloc (.cells cc.cells.toArray 38)).cell? ⟨w6.heap.size,12,none⟩=some (.int .i64 cc.half):=(uh HB7).cell rfl
   have HKW:=hide (show ∀w',Keeps (λ_=>False) wr w'->Keeps (λ_=>False) w5 w' from λw' h=>(uh HK).then h)
   clear hk6 hk7
   cases h4:(o.kind !=4)
   ·cases h5:C.isSome
    ·go_wp2
     go_roundw
     case rel=>exact⟨j+1,by omega,by go_num,uh HKW _ (uh HK7)⟩
     case measure=>simp[intOf];omega
    ·cases h6:(cc.kind !=5)
     ·cases h7:(cc.degree !=1)
      ·cases h8:(cc.half !=0)
       ·have h4':o.kind=4:=by simpa using h4
        have h6':cc.kind=5:=by simpa using h6
        have h7':cc.degree=1:=by simpa using h7
        have h8':cc.half=0:=by simpa using h8
        have hC:C=some cc:=by
         have:=uh HCC
         cases C with
         | none=>cases h5
         | some z=>rw[<-this];rfl
        obtain⟨⟨k0,k1⟩,⟨l0,l1⟩,kk,told,rest,wv,wd,hest,hchd⟩:=uh HBD h4' cc hC h6' h7' h8'
        have HEST:=hide hest
        have HCHD:=hide hchd
        clear hest hchd hC h4' h6' h7' h8' HBD
        have b5:(w6.alloc (.cells cc.cells.toArray 38)).cell? ⟨w6.heap.size,1,none⟩=some (.int .i64 cc.lag):=(uh HB7).cell rfl
        have hwl:IntKind.i64.wrap (clk-cc.lag)=clk-cc.lag:=by rw[IntKind.wrap_i64];omega
        have HCLK8:=hide (show ∀n,Calls Tryz.prog 26 #[.slice (some ⟨g,0,none⟩) nn tc,.slice (some ⟨ga,0,none⟩) nn ca,.int .i64 j] ((w6.alloc (.cells cc.cells.toArray 38)).drewN n) λr w''=>r=.returned (.int .i64 clk)/\w''=(w6.alloc (.cells cc.cells.toArray 38)).drewN n from λn=>uh HCLK _ ((uh HK7).then (Keeps.drewN _ _ _)))
        go_wp2_with fail
        go_quiet (first | (go_at_call 26;refine Calls.quiet_of_same (uh HCLK8 _)))
        have HK9:=hide ((uh HK7).then (Keeps.drewN (λ_=>False) (w6.alloc (.cells cc.cells.toArray 38)) nq))
        have HB9:=hide ((uh HB7).keeps (Keeps.drewN (λ_=>False) (w6.alloc (.cells cc.cells.toArray 38)) nq) (λh=>h))
        clear b0 b1 b2 b3 b4 b5 HCLK8
        generalize(w6.alloc (.cells cc.cells.toArray 38)).drewN nq=W9 at *
        obtain⟨mk,hmk⟩:∃mk,clk-cc.lag=mk:=⟨_,rfl⟩
        rw[hmk]at HCHD
        have f1:W9.cell? ⟨g,j*26+1,none⟩=some (.int .i64 o.id):=(uh HK9).cell c1 (λh=>h)
        clear hwl
        go_wp2_with fail
        refine(uh HITM _ (-1) mk (uh HK9)).mono ?_
        rintro r w10 ⟨iv,rfl,hown10,hk10⟩
        have HK10:=hide ((uh HK9).then hk10)
        have HB10:=hide ((uh HB9).keeps hk10 (λh=>h))
        obtain⟨ia,icap,hiv⟩:=qC9 hown10
        have hil:=uh HIL (-1) mk
        have HOW:=hide hown10
        generalize hLL:qB7 t cs o.id (-1) mk j=LL at *
        generalize hln:LL.length=il at *
        have HLN:=hide hln
        subst hiv
        clear hk10 hown10 f1 hln hLL
        have hest:=uh HEST
        rw[uh HXA]at hest
        have hx1:xa.code=0/\xa.nums=qDw told++[wv,wd]:=by simpa using hest
        obtain⟨hxc,hxn⟩:=hx1
        have hnr:=qJs (uh HNA) (uh HK10)
        rw[hxn]at hnr
        have hkk:=(uh HCHD).len
        obtain⟨gn,m,ncp,hnv,hm,hn0⟩:∃gn m ncp,xa.nv=.slice (some ⟨gn,0,none⟩) m ncp/\m=3*kk+2/\NumC w10 gn kk told wv wd:=by
         have hl:(qDw told++[wv,wd]).length=3*told.length+2:=by rw[List.length_append,qC3];rfl
         rcases qFb hnr with ⟨h,_⟩ | ⟨g1,cp1,hv1,hn1⟩
         ·simp at h
         ·exact⟨g1,_,cp1,hv1,by rw[hl,hkk],by have:=qY5 hn1;rw[hkk]at this;exact this⟩
        have i0:w10.cell? ⟨ga,j*3,none⟩=some (.int .i64 0):=by rw[<-hxc];exact(uh HK10).cell d0 (λh=>h)
        have i1:w10.cell? ⟨ga,j*3+1,none⟩=some (.slice (some ⟨gn,0,none⟩) m ncp):=by rw[<-hnv];exact(uh HK10).cell d1 (λh=>h)
        have i2:=(uh HK10).cell d2 (λh=>h)
        obtain⟨bv,hbv⟩:=qA0 (uh HB10) 0 20 cc.cells rfl rfl
        have hbl:=(uh HB10).lt
        obtain⟨gi,hsci,hia⟩:∃gi,ScriptAt w10 gi 0 LL/\(0<il->ia=some ⟨gi,0,none⟩):=by
         rcases qG0 (uh HOW) with ⟨_,h2⟩ | ⟨gi,icp,e1,hic,hsci,_,_,_⟩
         ·refine⟨0,?_,λh=>?_⟩
          ·rw[h2];intro i o ho;simp at ho
          ·have:=uh HLN;rw[h2]at this;simp at this;omega
         ·injection e1 with e2 _ _
          exact⟨gi,hsci,λ_=>e2⟩
        have HH2:=hide (show ∀w',Keeps (λ_=>False) w10 w'->qAn w' w6.heap.size 0 20=.agg cc.cells.toArray/\qAr w' w6.heap.size 0 20=true/\w'.cell? ⟨ga,j*3,none⟩=some (.int .i64 0)/\w'.cell? ⟨ga,j*3+1,none⟩=some (.slice (some ⟨gn,0,none⟩) m ncp)/\w'.cell? ⟨ga,j*3+2,none⟩=some (.string xa.bs) from λw' hk=>⟨(qBi hk (λh=>h) hbl).1.trans bv,(qBi hk (λh=>h) hbl).2.trans hbv,hk.cell i0 (λh=>h),hk.cell i1 (λh=>h),hk.cell i2 (λh=>h)⟩)
        have HCH:=hide (show ∀w0,Keeps (λ_=>False) w10 w0->Calls Tryz.prog 31 #[.agg cc.cells.toArray,.slice ia il icap,.agg #[.int .i64 0,.slice (some ⟨gn,0,none⟩) m ncp,.string xa.bs]] w0 λe w'=>e=.returned (.bool true)/\Keeps (λ_=>False) w0 w' from λw0 hk0 =>
           qSe cc gi il icap gn ncp kk m ia LL told rest wv wd xa.bs w0 hia (hsci.keepsM hk0 (λh=>h)) (uh HLN) (by omega) hm (uh HCHD) (hn0.keeps hk0 (λh=>h)))
        generalize xa.bs=xb at *
        clear hest hxc hxn hnr hnv hm hn0 hsci hia hkk
        go_wp2_with fail
        go_region_held3 (λw'=>qAn w' w6.heap.size 0 20=.agg cc.cells.toArray/\qAr w' w6.heap.size 0 20=true/\w'.cell? ⟨ga,j*3,none⟩=some (.int .i64 0)/\w'.cell? ⟨ga,j*3+1,none⟩=some (.slice (some ⟨gn,0,none⟩) m ncp)/\w'.cell? ⟨ga,j*3+2,none⟩=some (.string xb))
         (first | exact uh HH2 _ (uh HKs) | exact uh HH2 _ ((Keeps.refl (λ_=>False) w10).drew) | exact uh HH2 _ (Keeps.refl (λ_=>False) w10) | (simp[*];done))
         (first | (go_at_call 31;refine(uh HCH _ ((Keeps.refl (λ_=>False) w10).drew)).mono ?_;rintro r ws ⟨rfl,hks⟩;have HKs:=hide (((Keeps.refl (λ_=>False) w10).drew).then hks)))
        go_wp2
        go_roundw
        case rel=>exact⟨j+1,by omega,by go_num,hide (uh HKW _ ((uh HK10).then (uh HKs)))⟩
        case measure=>simp[intOf];omega
       ·go_wp2
        go_roundw
        case rel=>exact⟨j+1,by omega,by go_num,uh HKW _ (uh HK7)⟩
        case measure=>simp[intOf];omega
      ·go_wp2
       go_roundw
       case rel=>exact⟨j+1,by omega,by go_num,uh HKW _ (uh HK7)⟩
       case measure=>simp[intOf];omega
     ·go_wp2
      go_roundw
      case rel=>exact⟨j+1,by omega,by go_num,uh HKW _ (uh HK7)⟩
      case measure=>simp[intOf];omega
   ·go_wp2
    go_roundw
    case rel=>exact⟨j+1,by omega,by go_num,uh HKW _ (uh HK7)⟩
    case measure=>simp[intOf];omega
  ·have hjE:j=nn:=by omega
   subst hjE
   have hf:decide ((j:Int)<(j:Int))=false:=by simp
   go_wp2
   go_ret
   exact⟨rfl,(uh HK5).then (uh HK)⟩
end
end Go.Proofs.YtahnliehdjncdaaGreatDoor
