import Derived.Test.YtahnliehdjncdaaGreatDoorXBV
import Derived.Test.YtahnliehdjncdaaGreatDoorXBE
import Derived.Test.YtahnliehdjncdaaGreatDoorXBU
set_option maxRecDepth 100000
set_option maxHeartbeats 16000000
namespace Go.Proofs.YtahnliehdjncdaaGreatDoor
def itR (z:RIt):It:=⟨z.t,z.k,z.d,z.n⟩
structure YI (clock:Int) (y:RSer) (A:List It):Prop where
 its:y.items.map itR=A
 tk:∀ z,z∈y.items→0≤z.tick∧(0<z.tick↔z.t≤clock-y.c.lag)
theorem qMx {l:List RIt} {i:Nat} {t:Int} {z:RIt} (h:z∈qBx l i t):z∈l∨z={ rAt l i with tick:=t }:=by
 unfold qBx at h
 rcases List.mem_or_eq_of_mem_set h with e | e
 ·exact .inl e
 ·exact .inr e
theorem qUj (l:List RIt) (i:Nat) (t:Int) (hi:i<l.length):(qBx l i t).map itR=l.map itR:=by
 unfold qBx
 rw [List.map_set]
 have:itR { rAt l i with tick:=t }=(l.map itR)[i]'(by rw [List.length_map];exact hi):=by
  rw [List.getElem_map,←qB9 l i hi];rfl
 rw [this,List.set_getElem_self]
theorem qW5 (mark ticks:Int) (ht:0<ticks) (f:Nat):∀ y:RSer,(qA7 y.items).length<f→(∀ z,z∈y.items→0≤z.tick) →
  (qBf f y mark ticks).items.map itR=y.items.map itR∧(∀ z,z∈(qBf f y mark ticks).items→0≤z.tick∧(z.tick=0→mark<z.t)∧(0<z.tick→z.t≤mark∨z∈y.items)):=by
 induction f with
 | zero=>intro y h;omega
 | succ f ih =>
  intro y hf hk
  unfold qBf
  rcases qE9 y.items mark with ⟨h,hb⟩ | ⟨h1,h2,h3,h4⟩
  ·rw [if_pos (by omega)]
   exact ⟨rfl,fun z hz=>⟨hk z hz,hb z hz,fun _=>.inr hz⟩⟩
  ·rw [if_neg (by omega)]
   have hi:(qE5 y.items mark).toNat<y.items.length:=h2
   have hw:=qHq ticks (by omega) y.items (qE5 y.items mark).toNat hi h3
   obtain ⟨i1,i2⟩:=ih { y with items:=qBx y.items (qE5 y.items mark).toNat ticks,events:=y.events++[⟨(rAt y.items (qE5 y.items mark).toNat).t,mark,false,0⟩] } (by show (qA7 (qBx _ _ _)).length<f;omega) (fun z hz=>by
      rcases qMx hz with e | e
      ·exact hk z e
      ·rw [e];show 0≤ticks;omega)
   refine ⟨i1.trans (qUj _ _ _ hi),fun z hz=>?_⟩
   obtain ⟨j1,j2,j3⟩:=i2 z hz
   refine ⟨j1,j2,fun hp=>?_⟩
   rcases j3 hp with e | e
   ·exact .inl e
   ·rcases qMx e with e | e
    ·exact .inr e
    ·left;rw [e];exact h4
theorem tick_YI {clock nc ticks:Int} {y:RSer} {A:List It} (h:YI clock y A) (ht:0<ticks) (hc:clock≤nc):YI nc (qA6 nc ticks y) A:=by
 obtain ⟨h1,h2⟩:=qW5 (nc-y.c.lag) ticks ht (y.items.length+1) y (by have:=qCl y.items;omega) (fun z hz=>(h.tk z hz).1)
 have hcc:(qA6 nc ticks y).c=y.c:=qHs _ _ _ _
 refine ⟨h1.trans h.its,fun z hz=>?_⟩
 obtain ⟨j1,j2,j3⟩:=h2 z hz
 rw [hcc]
 refine ⟨j1,fun hp=>?_,fun hle=>?_⟩
 ·rcases j3 hp with e | e
  ·exact e
  ·have:=(h.tk z e).2.1 hp;omega
 ·rcases Int.lt_or_eq_of_le j1 with e | e
  ·exact e
  ·have:=j2 e.symm;omega
theorem qVh {clock:Int} {y:RSer} {A:List It} (h:YI clock y A) (fr:Int):(qA5 y.items fr (clock-y.c.lag)).map itR=A.filter (fun z=>decide (fr<z.t∧z.t≤clock-y.c.lag)):=by
 rw [←h.its,List.filter_map]
 congr 1
 unfold qA5
 refine List.filter_congr (fun z hz=>?_)
 have h2:=(h.tk z hz).2
 show _=decide (fr<z.t∧z.t≤clock-y.c.lag)
 by_cases h3:z.t≤clock-y.c.lag
 ·have:=h2.2 h3
  simp [h3,this]
 ·simp [h3]
end Go.Proofs.YtahnliehdjncdaaGreatDoor
namespace Go.Proofs.YtahnliehdjncdaaGreatDoor
theorem isM.uniq {v v':Int} {p:Int→Prop} (h:isM v p) (h':isM v' p):v=v':=by
 rcases h with ⟨h1,h2⟩ | ⟨h1,h2⟩
 ·rcases h' with ⟨k1,_⟩ | ⟨k1,_⟩
  ·rw [h1,k1]
  ·exact absurd k1 (h2 v')
 ·rcases h' with ⟨_,k2⟩ | ⟨k1,k2⟩
  ·exact absurd h1 (k2 v)
  ·have a:=h2 v' k1
   have b:=k2 v h1
   omega
theorem isM.congr {v:Int} {p q:Int→Prop} (h:isM v p) (hq:∀ k,p k↔q k):isM v q:=by
 rcases h with ⟨h1,h2⟩ | ⟨h1,h2⟩
 ·exact .inl ⟨h1,fun k hk=>h2 k ((hq k).2 hk)⟩
 ·exact .inr ⟨(hq v).1 h1,fun k hk=>h2 k ((hq k).2 hk)⟩
theorem put_isM {c:Cfg} {n:Nat} {G:List Int} {q:Nat→Int→Prop} (hl:G.length=n) (h:∀ j,j<n→isM (G.getD j 0) (q j)) (key:Int) :
  ∀ j,j<n→isM ((putG c n G key).getD j 0) (fun k=>q j k∨(regI c n key=j∧qEt (qC1 c.s00 c.s01 key/n)=k)):=by
 intro j hj
 have hr:=(qKa (qC1 c.s00 c.s01 key/n)).1
 unfold putG
 generalize qEt (qC1 c.s00 c.s01 key/n)=rk at *
 have hG:=h j hj
 by_cases hjr:regI c n key=j
 ·rw [hjr]
  by_cases hlt:G.getD j 0<rk
  ·rw [if_pos hlt]
   have e:(G.set j rk).getD j 0=rk:=by
    rw [List.getD_eq_getElem?_getD,List.getElem?_set];simp [show j<G.length by omega]
   rw [e]
   refine .inr ⟨.inr ⟨rfl,rfl⟩,fun k hk=>?_⟩
   rcases hk with hk | hk
   ·rcases hG with ⟨_,h2⟩ | ⟨_,h2⟩
    ·exact absurd hk (h2 k)
    ·have:=h2 k hk;omega
   ·omega
  ·rw [if_neg hlt]
   rcases hG with ⟨h1,_⟩ | ⟨h1,h2⟩
   ·omega
   ·refine .inr ⟨.inl h1,fun k hk=>?_⟩
    rcases hk with hk | hk
    ·exact h2 k hk
    ·omega
 ·have e:(if G.getD (regI c n key) 0<rk then G.set (regI c n key) rk else G).getD j 0=G.getD j 0:=by
   split
   ·rw [List.getD_eq_getElem?_getD,List.getElem?_set,if_neg hjr,List.getD_eq_getElem?_getD]
   ·rfl
  rw [e]
  exact hG.congr (fun k=>⟨fun hk=>.inl hk,fun hk=>hk.elim id (fun h=>absurd h.1 hjr)⟩)
theorem qYw (c:Cfg) (n:Nat) (l:List RIt):∀ (G:List Int) (q:Nat→Int→Prop),G.length=n→(∀ j,j<n→isM (G.getD j 0) (q j)) →
  ∀ j,j<n→isM ((l.foldl (fun G z=>putG c n G z.k) G).getD j 0) (fun k=>q j k∨∃ z,z∈l∧regI c n z.k=j∧qEt (qC1 c.s00 c.s01 z.k/n)=k):=by
 induction l with
 | nil=>intro G q _ h j hj;exact (h j hj).congr (fun k=>⟨fun hk=>.inl hk,fun hk=>hk.elim id (fun ⟨z,hz,_⟩=>by simp at hz)⟩)
 | cons z l ih =>
  intro G q hl h j hj
  rw [List.foldl_cons]
  refine (ih (putG c n G z.k) _ (by rw [qKu,hl]) (put_isM hl h z.k) j hj).congr (fun k=>⟨fun hk=>?_,fun hk=>?_⟩)
  ·rcases hk with (hk | hk) | ⟨u,hu,hk⟩
   ·exact .inl hk
   ·exact .inr ⟨z,by simp,hk⟩
   ·exact .inr ⟨u,by simp [hu],hk⟩
  ·rcases hk with hk | ⟨u,hu,hk⟩
   ·exact .inl (.inl hk)
   ·rcases List.mem_cons.1 hu with e | e
    ·rw [e] at hk;exact .inl (.inr hk)
    ·exact .inr ⟨u,e,hk⟩
theorem qZe {c:Cfg} {n:Nat} {m T:Int} {rg:Nat→List Bk} {R:List It} {l:List RIt} (h:DG c n m rg R) (hT:m-c.window≤T) (hp:(l.map itR).Perm (R.filter (fun y=>decide (T<y.t)))):qDr rg n T=qFl c n l:=by
 have hlen:(qDr rg n T).length=(qFl c n l).length:=by rw [qEa,qFt]
 refine List.ext_getElem hlen (fun j h1 h2=>?_)
 have hj:j<n:=by rw [qEa] at h1;exact h1
 have e1:(qDr rg n T)[j]=qFr (rg j) T:=by simp [qDr]
 have e2:(qFl c n l)[j]=(qFl c n l).getD j 0:=by rw [List.getD_eq_getElem?_getD,List.getElem?_eq_getElem h2];rfl
 rw [e1,e2]
 refine (h.ex j T hT).uniq ?_
 have:=qYw c n l (List.replicate n 0) (fun _ _=>False) (by simp) (fun j hj=>.inl ⟨by rw [List.getD_eq_getElem?_getD,List.getElem?_replicate,if_pos hj];rfl,fun k hk=>hk⟩) j hj
 refine this.congr (fun k=>⟨fun hk=>?_,fun hk=>?_⟩)
 ·rcases hk with hk | ⟨z,hz,h3,h4⟩
  ·exact hk.elim
  ·have hm:itR z∈R.filter (fun y=>decide (T<y.t)):=hp.mem_iff.1 (List.mem_map_of_mem hz)
   obtain ⟨m1,m2⟩:=List.mem_filter.1 hm
   exact ⟨itR z,m1,by simpa using m2,h3,h4⟩
 ·obtain ⟨r,hr,hrT,h3,h4⟩:=hk
  have hm:r∈l.map itR:=hp.mem_iff.2 (List.mem_filter.2 ⟨hr,by simpa using hrT⟩)
  obtain ⟨z,hz,hzr⟩:=List.mem_map.1 hm
  exact .inr ⟨z,hz,by rw [←hzr] at h3;exact h3,by rw [←hzr] at h4;exact h4⟩
theorem qW8 (c:Cfg) (m t:Int) (hL:1≤qA8 c):(m-c.window<(t/qA8 c+1)*qA8 c-1)↔(qI5 c m-1<t):=by
 unfold qI5
 have a:=Int.emod_add_mul_ediv t (qA8 c)
 have a1:=Int.emod_nonneg t (show qA8 c≠0 by omega)
 have a2:=Int.emod_lt_of_pos t (show 0<qA8 c by omega)
 have b:=Int.emod_add_mul_ediv (m-c.window+1) (qA8 c)
 have b1:=Int.emod_nonneg (m-c.window+1) (show qA8 c≠0 by omega)
 have b2:=Int.emod_lt_of_pos (m-c.window+1) (show 0<qA8 c by omega)
 generalize t/qA8 c=x at *
 generalize (m-c.window+1)/qA8 c=y at *
 generalize qA8 c=L at *
 rw [Int.mul_comm y L,Int.mul_comm (x+1) L,Int.mul_add,Int.mul_one]
 constructor
 ·intro h
  rcases Int.lt_or_le x y with k | k
  ·have:=Int.mul_le_mul_of_nonneg_left (show x+1≤y by omega) (show 0≤L by omega)
   rw [Int.mul_add,Int.mul_one] at this
   omega
  ·have:=Int.mul_le_mul_of_nonneg_left k (show 0≤L by omega)
   omega
 ·intro h
  rcases Int.lt_or_le x y with k | k
  ·have:=Int.mul_le_mul_of_nonneg_left (show x+1≤y by omega) (show 0≤L by omega)
   rw [Int.mul_add,Int.mul_one] at this
   omega
  ·have:=Int.mul_le_mul_of_nonneg_left k (show 0≤L by omega)
   omega
theorem oft_cnt {c:Cfg} {m key:Int} {o:Pa.Pn} {cl:List Pa.Pn} {R:List It} {l:List RIt} (h:OG c m o cl R) (hL:1≤qA8 c) (hrw:c.rowed) (hp:(l.map itR).Perm (R.filter (fun y=>decide (qI5 c m-1<y.t)))) (j:Nat) (hj:(j:Int)<c.rows) :
  qH4 c (qCu c o cl (m-c.window)) key j=(cntP c l key j:Int):=by
 have hb:=qG2 c hrw key j
 have h1:qH4 c (qCu c o cl (m-c.window)) key j=cntI (fun r=>decide (m-c.window<(pnoO c r+1)*qA8 c-1)&&qPd c j (qBt c key j).toNat r) R:=h.counted hL hrw.r1 _ (Int.le_refl _) j _ hj (by omega)
 rw [h1]
 unfold cntP cntI
 have e1:(l.filter (sameP c key j)).length=((l.map itR).filter (fun r=>qBt c r.k j==qBt c key j)).length:=by
  rw [List.filter_map,List.length_map];rfl
 rw [e1,(hp.filter _).length_eq,List.filter_filter]
 congr 1
 refine congrArg List.length (List.filter_congr (fun r _=>?_))
 have h2:=qW8 c m r.t hL
 unfold pnoO qPd
 rw [Bool.eq_iff_iff]
 simp only [Bool.and_eq_true,decide_eq_true_eq,beq_iff_eq]
 constructor
 ·rintro ⟨k1,k2⟩;exact ⟨by omega,h2.1 k1⟩
 ·rintro ⟨k1,k2⟩;exact ⟨h2.2 k2,by omega⟩
theorem qYm {c:Cfg} {m key:Int} {o:Pa.Pn} {cl:List Pa.Pn} {R:List It} {l:List RIt} (h:OG c m o cl R) (hL:1≤qA8 c) (hrw:c.rowed) (hp:(l.map itR).Perm (R.filter (fun y=>decide (qI5 c m-1<y.t)))) :
  qryO c o cl key m=qD0 c l key c.rows.toNat:=by
 have hc:=fun j hj=>oft_cnt (key:=key) h hL hrw hp j hj
 have key1:∀ k:Nat,((k:Int)+1≤c.rows)→qH0 c (qCu c o cl (m-c.window)) key (k+1)=qD0 c l key (k+1):=by
  intro k
  induction k with
  | zero =>
   intro hk
   have h0:=hc 0 (by omega)
   have h1:=qRw c l key 0
   show min (qH4 c _ key 0) (qH4 c _ key 0)=if (cntP c l key 0:Int)<(l.length:Int) then (cntP c l key 0:Int) else (l.length:Int)
   rw [h0]
   split <;> omega
  | succ k ih =>
   intro hk
   have h0:=hc (k+1) (by omega)
   show min (qH0 c _ key (k+1)) (qH4 c _ key (k+1))=if (cntP c l key (k+1):Int)<qD0 c l key (k+1) then (cntP c l key (k+1):Int) else qD0 c l key (k+1)
   rw [ih (by omega),h0]
   split <;> omega
 unfold qryO
 have hr0:=hrw.r0
 obtain ⟨k,hk⟩:∃ k:Nat,c.rows.toNat=k+1:=⟨c.rows.toNat-1,by omega⟩
 rw [hk]
 exact key1 k (by omega)
end Go.Proofs.YtahnliehdjncdaaGreatDoor
namespace Go.Proofs.YtahnliehdjncdaaGreatDoor
theorem leT_n {u v:Dr.It} (h1:Dr.leT u v) (h2:Dr.leT v u):u.n=v.n:=by
 unfold Dr.leT at h1 h2
 omega
theorem qPv {u v:Dr.It} (h:Dr.leT v u) (hn:u.n≠v.n):Dr.aheadT u v=true:=by
 cases hb:Dr.aheadT u v with
 | true=>rfl
 | false=>exact absurd (leT_n (Dr.not_ahead_leT (a:=v) (b:=u) hb) h) hn
theorem qO9 {u v:Dr.It} (h:Dr.leT u v) (hn:u.n≠v.n):Dr.aheadT u v=false:=by
 cases hb:Dr.aheadT u v with
 | false=>rfl
 | true=>exact absurd (leT_n h (Dr.ahead_leT (a:=v) (b:=u) hb)) hn
theorem qSu (u:Dr.It):Dr.aheadT u u=false:=by
 unfold Dr.aheadT;rw [if_pos rfl];simp
def tkR (c:Cfg) (z:RIt):Dr.It:=tick c (itR z)
theorem qUt (c:Cfg) (x z:RIt) (xd:0≤x.d∧x.d≤2147483648) (zd:0≤z.d∧z.d≤2147483648):qNx c x z=Dr.aheadT (tkR c x) (tkR c z):=by
 have wx:=qFd c x.t
 have wz:=qFd c z.t
 unfold qNx Dr.aheadT tkR tick itR wtR
 simp only
 generalize qA2 (qAr c x.t)=a at *
 generalize qA2 (qAr c z.t)=b at *
 rw [Int.emod_eq_of_lt wx.1 (by omega),Int.emod_eq_of_lt wz.1 (by omega),Int.emod_eq_of_lt xd.1 (by omega),Int.emod_eq_of_lt zd.1 (by omega)]
 generalize a*z.d=p at *
 generalize b*x.d=q at *
 by_cases h:p=q
 ·rw [if_pos h];subst h;simp
 ·rw [if_neg h];simp [h]
theorem qQ3 (r:List Dr.It) (h:r.Pairwise (fun a b=>Dr.aheadT a b=true∧Dr.aheadT b a=false)) (p:Nat) (hp:p<r.length):r.filter (fun u=>Dr.aheadT u r[p])=r.take p:=by
 have e:r=r.take p++r[p]::r.drop (p+1):=by
  rw [List.getElem_cons_drop,List.take_append_drop]
 conv=>lhs;arg 2;rw [e]
 rw [List.filter_append,List.filter_cons]
 have h2:=h
 rw [e] at h2
 have h3:=List.pairwise_append.1 h2
 have a1:(r.take p).filter (fun u=>Dr.aheadT u r[p])=r.take p:=List.filter_eq_self.2 (fun u hu=>(h3.2.2 u hu r[p] List.mem_cons_self).1)
 have a2:(r.drop (p+1)).filter (fun u=>Dr.aheadT u r[p])=[]:=List.filter_eq_nil_iff.2 (fun u hu=>by rw [((List.pairwise_cons.1 h3.2.1).1 u hu).2];simp)
 rw [a1,a2,qSu]
 simp
theorem qJt (c:Cfg) (l l':List RIt) (p:Nat):∀ st,l'.foldl (qFy c l p) st=(l'.filter (fun z=>decide (qCk c l z=p))).foldl (qFy c l p) st:=by
 induction l' with
 | nil=>intro st;rfl
 | cons z l' ih =>
  intro st
  rw [List.foldl_cons,List.filter_cons]
  by_cases h:qCk c l z=p
  ·rw [if_pos (by simpa using h),List.foldl_cons,ih]
  ·rw [if_neg (by simpa using h),ih]
   unfold qFy;rw [if_neg h]
structure Top (c:Cfg) (l:List RIt) (r D:List Dr.It):Prop where
 perm:(r++D).Perm (l.map (tkR c))
 num:((l.map (tkR c)).map (·.n)).Nodup
 fall:r.Pairwise (fun a b=>Dr.aheadT a b=true∧Dr.aheadT b a=false)
 rest:∀ d,d∈D→∀ u,u∈r→Dr.aheadT u d=true∧Dr.aheadT d u=false
 size:D≠[]→(r.length:Int)=c.size+1
 len:(r.length:Int)≤c.size+1
 ds:∀ z,z∈l→0≤z.d∧z.d≤2147483648
theorem Top.place {c:Cfg} {l:List RIt} {r D:List Dr.It} (h:Top c l r D) (z:RIt) (hz:z∈l):qCk c l z=((r++D).filter (fun u=>Dr.aheadT u (tkR c z))).length:=by
 unfold qCk
 rw [(h.perm.filter _).length_eq,List.filter_map,List.length_map]
 refine congrArg List.length (List.filter_congr (fun x hx=>qUt c x z (h.ds x hx) (h.ds z hz)))
theorem Top.at_r {c:Cfg} {l:List RIt} {r D:List Dr.It} (h:Top c l r D) (z:RIt) (hz:z∈l) (p:Nat) (hp:p<r.length) (he:tkR c z=r[p]):qCk c l z=p:=by
 rw [h.place z hz,he,List.filter_append,qQ3 r h.fall p hp]
 have a2:D.filter (fun u=>Dr.aheadT u r[p])=[]:=List.filter_eq_nil_iff.2 (fun u hu=>by rw [(h.rest u hu r[p] (List.getElem_mem hp)).2];simp)
 rw [a2,List.append_nil,List.length_take];omega
theorem Top.at_D {c:Cfg} {l:List RIt} {r D:List Dr.It} (h:Top c l r D) (z:RIt) (hz:z∈l) (he:tkR c z∈D):(c.size+1:Int)≤(qCk c l z:Int):=by
 rw [h.place z hz,List.filter_append,List.length_append]
 have a1:r.filter (fun u=>Dr.aheadT u (tkR c z))=r:=List.filter_eq_self.2 (fun u hu=>(h.rest _ he u hu).1)
 rw [a1]
 have:=h.size (List.ne_nil_of_mem he)
 omega
theorem Top.only {c:Cfg} {l:List RIt} {r D:List Dr.It} (h:Top c l r D) (p:Nat) (hps:(p:Int)≤c.size) :
  (∃ hp:p<r.length,∃ z,l.filter (fun z=>decide (qCk c l z=p))=[z]∧tkR c z=r[p])∨(r.length≤p∧l.filter (fun z=>decide (qCk c l z=p))=[]):=by
 have hmem:∀ z,z∈l→qCk c l z=p→∃ hp:p<r.length,tkR c z=r[p]:=by
  intro z hz hpl
  have hm:tkR c z∈r++D:=h.perm.mem_iff.2 (List.mem_map_of_mem hz)
  rcases List.mem_append.1 hm with e | e
  ·obtain ⟨j,hj,hje⟩:=List.mem_iff_getElem.1 e
   have:=h.at_r z hz j hj hje.symm
   have hjp:j=p:=by omega
   subst hjp
   exact ⟨hj,hje.symm⟩
  ·have:=h.at_D z hz e
   omega
 by_cases hp:p<r.length
 ·left
  refine ⟨hp,?_⟩
  have hm:r[p]∈l.map (tkR c):=h.perm.mem_iff.1 (by simp [List.getElem_mem hp])
  obtain ⟨z,hz,hze⟩:=List.mem_map.1 hm
  have hzp:=h.at_r z hz p hp hze
  have hnd:(l.filter (fun z=>decide (qCk c l z=p))).map (fun z=>(tkR c z).n) |>.Nodup:=by
   have h1:(l.map (fun z=>(tkR c z).n)).Nodup:=by have:=h.num;rw [List.map_map] at this;exact this
   exact List.Nodup.sublist (List.filter_sublist.map _) h1
  have hall:∀ u,u∈l.filter (fun z=>decide (qCk c l z=p))→tkR c u=r[p]:=fun u hu=>by
   obtain ⟨m1,m2⟩:=List.mem_filter.1 hu
   obtain ⟨_,e⟩:=hmem u m1 (by simpa using m2)
   exact e
  have hin:z∈l.filter (fun z=>decide (qCk c l z=p)):=List.mem_filter.2 ⟨hz,by simpa using hzp⟩
  generalize l.filter (fun z=>decide (qCk c l z=p))=fl at *
  cases fl with
  | nil=>simp at hin
  | cons a t =>
   cases t with
   | nil=>exact ⟨a,rfl,hall a (by simp)⟩
   | cons b t =>
    exfalso
    rw [List.map_cons,List.map_cons] at hnd
    have:=(List.nodup_cons.1 hnd).1
    rw [hall a (by simp),hall b (by simp)] at this
    simp at this
 ·right
  refine ⟨by omega,List.filter_eq_nil_iff.2 (fun z hz hd=>?_)⟩
  obtain ⟨hp',_⟩:=hmem z hz (by simpa using hd)
  exact hp hp'
theorem qUf (r:List Dr.It) (p:Nat) (hp:p<r.length):three (r.take (p+1))=three (r.take p)++[r[p].t,r[p].k,r[p].d]:=by
 rw [List.take_succ_eq_append_getElem hp,qFu];rfl
theorem Top.places {c:Cfg} {l:List RIt} {r D:List Dr.It} (h:Top c l r D):∀ p:Nat,(p:Int)≤c.size→qCf c l p=(three (r.take p),0,0):=by
 intro p
 induction p with
 | zero=>intro _;rfl
 | succ p ih =>
  intro hp
  have h1:=ih (by omega)
  show l.foldl (qFy c l p) (qCf c l p)=_
  rw [h1,qJt]
  rcases h.only p (by omega) with ⟨hpr,z,hz,hze⟩ | ⟨hpr,hz⟩
  ·rw [hz]
   have hpl:qCk c l z=p:=by
    have:z∈l.filter (fun z=>decide (qCk c l z=p)):=by rw [hz];simp
    simpa using (List.mem_filter.1 this).2
   rw [qUf r p hpr,←hze]
   show qFy c l p _ z=_
   unfold qFy
   rw [if_pos hpl,if_pos (by omega)]
   rfl
  ·rw [hz,List.take_of_length_le hpr,List.take_of_length_le (by omega)];rfl
theorem Top.drawn {c:Cfg} {l:List RIt} {r D:List Dr.It} (h:Top c l r D) (hs:0≤c.size):qFk c l=three (r.take (min c.size.toNat r.length))++[(qJ2 c.size.toNat r).v,(qJ2 c.size.toNat r).d]:=by
 have hS:(c.size.toNat:Int)=c.size:=by omega
 have hpl:=h.places c.size.toNat (by omega)
 have e:qCf c l (c.size.toNat+1)=(three (r.take c.size.toNat),(qJ2 c.size.toNat r).v,(qJ2 c.size.toNat r).d):=by
  show l.foldl (qFy c l c.size.toNat) (qCf c l c.size.toNat)=_
  rw [hpl,qJt]
  unfold qJ2
  rcases h.only c.size.toNat (by omega) with ⟨hpr,z,hz,hze⟩ | ⟨hpr,hz⟩
  ·rw [hz,if_pos hpr]
   have hpz:qCk c l z=c.size.toNat:=by
    have:z∈l.filter (fun z=>decide (qCk c l z=c.size.toNat)):=by rw [hz];simp
    simpa using (List.mem_filter.1 this).2
   rw [Dr.itAt_get r _ hpr,←hze]
   show qFy c l c.size.toNat _ z=_
   unfold qFy
   rw [if_pos hpz,if_neg (by omega),if_pos hS]
   rfl
  ·rw [hz,if_neg (by omega)];rfl
 unfold qFk
 rw [e]
 simp only
 congr 2
 by_cases hle:c.size.toNat≤r.length
 ·rw [Nat.min_eq_left hle]
 ·rw [Nat.min_eq_right (by omega),List.take_of_length_le (by omega),List.take_of_length_le (Nat.le_refl _)]
end Go.Proofs.YtahnliehdjncdaaGreatDoor
namespace Go.Proofs.YtahnliehdjncdaaGreatDoor
theorem RelL.ids {xs:List Ser} {ys:List RSer} (h:RelL xs ys):xs.map (·.id)=ys.map (·.id):=by
 induction xs generalizing ys with
 | nil=>cases ys with | nil=>rfl | cons y ys=>exact h.elim
 | cons x xs ih=>cases ys with | nil=>exact h.elim | cons y ys=>rw [List.map_cons,List.map_cons,ih h.2,h.1.id]
theorem qP0 {xs:List RSer} {id:Int} {y z:RSer} (hn:(xs.map (·.id)).Nodup) (h:z∈updR xs id y):z=y∨(z∈xs∧z.id≠id):=by
 induction xs with
 | nil=>simp [updR] at h
 | cons a xs ih =>
  rw [List.map_cons] at hn
  have hn2:=List.nodup_cons.1 hn
  unfold updR at h
  by_cases ha:a.id=id
  ·rw [if_pos (by simpa using ha)] at h
   rcases List.mem_cons.1 h with e | e
   ·exact .inl e
   ·refine .inr ⟨by simp [e],fun hz=>hn2.1 ?_⟩
    rw [ha,←hz];exact List.mem_map_of_mem e
  ·rw [if_neg (by simpa using ha)] at h
   rcases List.mem_cons.1 h with e | e
   ·exact .inr ⟨by simp [e],by rw [e];exact ha⟩
   ·rcases ih hn2.2 e with k | ⟨k1,k2⟩
    ·exact .inl k
    ·exact .inr ⟨by simp [k1],k2⟩
theorem qLi (f:Nat):∀ (y:RSer) (mark ticks:Int),(qBf f y mark ticks).id=y.id:=by
 induction f with
 | zero=>intro y mark ticks;rfl
 | succ f ih =>
  intro y mark ticks
  unfold qBf
  split
  ·rfl
  ·exact ih _ _ _
theorem qM4 (nc tk:Int):∀ (ys:List RSer) (b:Int) (y:RSer),y∈(qA9 nc tk b ys).1→∃ y0,y0∈ys∧y.id=y0.id∧y.c=y0.c∧y.items=(qA6 nc tk y0).items:=by
 intro ys
 induction ys with
 | nil=>intro b y hy;simp [qA9] at hy
 | cons a ys ih =>
  intro b y hy
  unfold qA9 at hy
  split at hy
  ·rcases List.mem_cons.1 hy with e | e
   ·exact ⟨a,by simp,by rw [e];exact qLi _ _ _ _,by rw [e];exact qHs _ _ _ _,by rw [e];rfl⟩
   ·obtain ⟨y0,h1,h2⟩:=ih _ y e
    exact ⟨y0,by simp [h1],h2⟩
  ·rcases List.mem_cons.1 hy with e | e
   ·exact ⟨a,by simp,by rw [e];exact qLi _ _ _ _,by rw [e];exact qHs _ _ _ _,by rw [e]⟩
   ·obtain ⟨y0,h1,h2⟩:=ih _ y e
    exact ⟨y0,by simp [h1],h2⟩
structure JW (s:WS) (r:RWS) (A:Int→List It):Prop where
 rel:RelW false s r
 its:∀ y,y∈r.xs→YI r.clock y (A y.id)
theorem step_J {n:Int} {s:WS} {r:RWS} {A:Int→List It} (hi:EInv n s.clock s.xs) (hn:n<4611686018427387904) (hg:GW 2 PD s A) (h:JW s r A) (o:OpM) (ho:okOp false o):JW (qB6 s o).1 (goR r o) (fun id=>A id++acci s o id):=by
 obtain ⟨s1,s2⟩:=qPp false s r o h.rel ho hi hn
 have hids:(r.xs.map (·.id)).Nodup:=by rw [←h.rel.xs.ids];exact hg.ids
 refine ⟨s2,fun y hy=>?_⟩
 by_cases h4:o.kind=4∨o.kind=5
 ·have e:goR r o=r:=by unfold goR;rw [if_pos h4]
  rw [e] at hy ⊢
  rw [qDv (.inl (by omega)),List.append_nil]
  exact h.its y hy
 have e:goR r o=(qEk r o).1:=by unfold goR;rw [if_neg h4]
 have e2:ansR r o=(qEk r o).2:=by unfold ansR;rw [if_neg (by omega),if_neg (by omega)]
 rw [e2] at s1
 rw [e] at hy ⊢
 by_cases h1:o.kind=1
 ·have hs:qEk r o=qC0 r o:=by unfold qEk;rw [if_pos h1]
  rw [hs] at hy ⊢
  show YI _ y (A y.id++acci s o y.id)
  rw [qDv (.inl (by omega)),List.append_nil]
  unfold qC0 at hy ⊢
  by_cases c1:inB o.id 0 99=true∧(qIq r.xs o.id).isNone=true
  ·rw [if_pos c1] at hy ⊢
   by_cases c2:qA0 o.cfg=true
   ·rw [if_pos c2] at hy ⊢
    by_cases c3:r.xs.length=6
    ·rw [if_pos c3] at hy ⊢;exact h.its y hy
    ·rw [if_neg c3] at hy ⊢
     rcases List.mem_append.1 hy with k | k
     ·exact h.its y k
     ·rw [List.mem_singleton] at k
      subst k
      have hA:A o.id=[]:=hg.none o.id (fun hm=>by
         rw [h.rel.xs.ids] at hm
         obtain ⟨u,hu,hui⟩:=List.mem_map.1 hm
         have:=c1.2
         unfold qIq at this
         rw [Option.isNone_iff_eq_none,List.find?_eq_none] at this
         exact this u hu (by simpa using hui))
      exact ⟨by show []=A o.id;rw [hA],fun z hz=>by simp [newR] at hz⟩
   ·rw [if_neg c2] at hy ⊢;exact h.its y hy
  ·rw [if_neg c1] at hy ⊢;exact h.its y hy
 by_cases h2:o.kind=2
 ·have hs:qEk r o=addR r o:=by unfold qEk;rw [if_neg h1,if_pos h2]
  rw [hs] at hy s1 ⊢
  show YI _ y (A y.id++acci s o y.id)
  unfold addR at hy s1 ⊢
  cases hf:qIq r.xs o.id with
  | none =>
   rw [hf] at hy s1
   simp only at hy s1 ⊢
   rw [qDv (.inr (by rw [s1];simp)),List.append_nil]
   exact h.its y hy
  | some x =>
   rw [hf] at hy s1
   simp only at hy s1 ⊢
   have hxm:x∈r.xs:=List.mem_of_find?_eq_some hf
   have hxi:x.id=o.id:=by have:=List.find?_some hf;simpa using this
   by_cases hr:qB3 x r.clock o=0
   ·rw [if_pos hr] at hy s1 ⊢
    rcases qP0 hids hy with k | ⟨k1,k2⟩
    ·subst k
     have hx:=h.its x hxm
     have ha:acci s o (accR x o).id=[⟨o.a,o.b,o.c,(x.items.length:Int)+1⟩]:=by
      unfold acci
      rw [if_pos ⟨h2,hxi.symm,by rw [s1]⟩,s1]
      rfl
     rw [ha]
     have hlate:¬ o.a≤r.clock-x.c.lag:=by
      intro hl
      unfold qB3 at hr
      rw [if_pos hl] at hr
      split at hr <;> omega
     refine ⟨?_,fun z hz=>?_⟩
     ·show (x.items++[_]).map itR=A x.id++_
      rw [List.map_append,hx.its];rfl
     ·rcases List.mem_append.1 hz with e | e
      ·exact hx.tk z e
      ·rw [List.mem_singleton] at e
       subst e
       exact ⟨Int.le_refl _,fun hp=>absurd hp (by show ¬ (0:Int)<0;omega),fun hl=>absurd hl hlate⟩
    ·have ha:acci s o y.id=[]:=by unfold acci;rw [if_neg (fun hh=>k2 hh.2.1.symm)]
     rw [ha,List.append_nil];exact h.its y k1
   ·rw [if_neg hr] at hy s1 ⊢
    rw [qDv (.inr (by rw [s1];exact hr)),List.append_nil]
    rcases qP0 hids hy with k | ⟨k1,_⟩
    ·subst k
     have hx:=h.its x hxm
     exact ⟨hx.its,hx.tk⟩
    ·exact h.its y k1
 rw [qDv (.inl h2),List.append_nil]
 by_cases h3:o.kind=3
 ·have hs:qEk r o=qS2 r o:=by unfold qEk;rw [if_neg h1,if_neg h2,if_pos h3]
  rw [hs] at hy ⊢
  unfold qS2 at hy ⊢
  split at hy
  ·rename_i c1
   rw [if_pos c1]
   split at hy
   ·rename_i c2
    rw [if_pos c2]
    obtain ⟨y0,k1,k2,k3,k4⟩:=qM4 _ _ _ _ _ hy
    have hcn:r.clock≤maxC r.clock o.a:=by unfold maxC;split <;> omega
    have ht:=tick_YI (ticks:=r.ticks+1) (h.its y0 k1) (by have:=h.rel.ticks;omega) hcn
    refine ⟨by rw [k4,k2];exact ht.its,fun z hz=>?_⟩
    rw [k4] at hz
    have:=ht.tk z hz
    rw [show (qA6 (maxC r.clock o.a) (r.ticks+1) y0).c=y0.c from qHs _ _ _ _] at this
    rw [k3];exact this
   ·rename_i c2
    rw [if_neg c2];exact h.its y hy
  ·rename_i c1
   rw [if_neg c1];exact h.its y hy
 ·have hs:qEk r o=(r,1,[]):=by unfold qEk;rw [if_neg h1,if_neg h2,if_neg h3]
  rw [hs] at hy ⊢
  exact h.its y hy
end Go.Proofs.YtahnliehdjncdaaGreatDoor
namespace Go.Proofs.YtahnliehdjncdaaGreatDoor
open Go.RowKit
attribute [local go_sem ↓] qAd qAe qBs qC7
attribute [local go_sem] qAi qAj qAb qAc qAm qAn qAh qAg qIa
theorem qWx (b1 b2:Nat) (v1 v2:Value) (l:List Int) (w:World) (h1:w.ownsRow b1 3 1 v1 l.length (ints l)) (h2:w.ownsRow b2 3 1 v2 l.length (ints l)) (hl:l.length≤1000) :
  Calls Tryz.prog 56 #[v1,v2] w fun e w'=>e=.returned (.bool true)∧Keeps (fun _=>False) w w':=by
 rcases qKk h1 with ⟨rfl,a1,c1,rfl⟩ | ⟨g1,c1,rfl,hc1⟩
 ·rcases qKk h2 with ⟨_,a2,c2,rfl⟩ | ⟨g2,c2,rfl,hc2⟩
  all_goals
   clear h1 h2
   go_enter Tryz.func56,Tryz.ntmps56
   go_wp2
   go_loopw [5] (fun i wr=>i=.int .i64 0∧wr=w) (fun _ _=>0)
   case atStart=>exact ⟨rfl,rfl⟩
   case round =>
    obtain ⟨rfl,rfl⟩:=hrel
    go_wp2
    go_ret
    exact ⟨rfl,Keeps.refl _ _⟩
 ·rcases qKk h2 with ⟨h0,a2,c2,rfl⟩ | ⟨g2,c2,rfl,hc2⟩
  ·subst h0
   clear h1 h2 hc1
   go_enter Tryz.func56,Tryz.ntmps56
   go_wp2
   go_loopw [5] (fun i wr=>i=.int .i64 0∧wr=w) (fun _ _=>0)
   case atStart=>exact ⟨rfl,rfl⟩
   case round =>
    obtain ⟨rfl,rfl⟩:=hrel
    go_wp2
    go_ret
    exact ⟨rfl,Keeps.refl _ _⟩
  ·have HC1:=hide hc1
   have HC2:=hide hc2
   clear h1 h2 hc1 hc2
   generalize hn:l.length=n at *
   clear hn
   go_enter Tryz.func56,Tryz.ntmps56
   go_wp2
   go_loopw [5] (fun i wr=>∃ k:Nat,k≤n∧i=.int .i64 k∧Hid (Keeps (fun _=>False) w wr)) (fun i _=>n-(intOf i).toNat)
   case atStart=>exact ⟨0,by omega,rfl,Keeps.refl _ _⟩
   case round =>
    obtain ⟨k,hk,rfl,HK⟩:=hrel
    by_cases hlt:k<n
    ·have x1:wr.cell? ⟨g1,k,none⟩=some (.int .i64 (l.getD k 0)):=(uh HK).cell (uh HC1 k hlt) (fun h=>h)
     have x2:wr.cell? ⟨g2,k,none⟩=some (.int .i64 (l.getD k 0)):=(uh HK).cell (uh HC2 k hlt) (fun h=>h)
     generalize l.getD k 0=y at *
     have hk0:(0:Int)≤(k:Int):=by omega
     have hkn:(k:Int)<(n:Int):=by omega
     have hne:(y!=y)=false:=by simp
     go_wp2
     go_quiet (fail)
     go_wp2
     go_roundw
     case rel=>exact ⟨k+1,by omega,by go_num,hide ((uh HK).then (Keeps.drewN _ _ _))⟩
     case measure=>simp [intOf];omega
    ·go_wp2
     go_ret
     exact ⟨rfl,uh HK⟩
theorem qWz (b1 b2:Nat) (o:OpM) (code:Int) (v1 v2:Value) (l:List Int) (w:World) (h1:w.ownsRow b1 3 1 v1 l.length (ints l)) (h2:w.ownsRow b2 3 1 v2 l.length (ints l)) (hl:l.length≤1000) (hk:o.kind≠6) :
  Calls Tryz.prog 41 #[o.val,ansV code v1,ansV code v2] w fun e w'=>e=.returned (.bool true)∧Keeps (fun _=>False) w w':=by
 have h0c:o.cells[0]?=some (.int .i64 o.kind):=rfl
 have b6:(o.kind==6)=false:=by simpa using hk
 obtain ⟨a1,c1,rfl⟩:=qFg h1
 obtain ⟨a2,c2,rfl⟩:=qFg h2
 have HK0:=hide ((((Keeps.refl (fun _=>False) w).alloc (.cells o.cells.toArray 40)).alloc (.cells #[.int .i64 code,.slice a1 l.length c1,.string qAa] 33)).alloc (.cells #[.int .i64 code,.slice a2 l.length c2,.string qAa] 33))
 have HO:=hide (show Blk (((w.alloc (.cells o.cells.toArray 40)).alloc (.cells #[.int .i64 code,.slice a1 l.length c1,.string qAa] 33)).alloc (.cells #[.int .i64 code,.slice a2 l.length c2,.string qAa] 33)) w.heap.size o.cells 40 from ((Blk.new w o.cells 40).alloc _).alloc _)
 have HA:=hide (show Blk (((w.alloc (.cells o.cells.toArray 40)).alloc (.cells #[.int .i64 code,.slice a1 l.length c1,.string qAa] 33)).alloc (.cells #[.int .i64 code,.slice a2 l.length c2,.string qAa] 33)) (w.heap.size+1) [.int .i64 code,.slice a1 l.length c1,.string qAa] 33 from (Blk.newAt (by simp) [_,_,_] 33).alloc _)
 have HB:=hide (show Blk (((w.alloc (.cells o.cells.toArray 40)).alloc (.cells #[.int .i64 code,.slice a1 l.length c1,.string qAa] 33)).alloc (.cells #[.int .i64 code,.slice a2 l.length c2,.string qAa] 33)) (w.heap.size+2) [.int .i64 code,.slice a2 l.length c2,.string qAa] 33 from Blk.newAt (by simp) [_,_,_] 33)
 have H1:=hide (qAf h1 (uh HK0) (fun _ _ h=>h))
 have H2:=hide (qAf h2 (uh HK0) (fun _ _ h=>h))
 clear h1 h2
 unfold OpM.val ansV
 go_enter Tryz.func41,Tryz.ntmps41
 go_wp2_with fail
 generalize ((w.alloc (.cells o.cells.toArray 40)).alloc (.cells #[.int .i64 code,.slice a1 l.length c1,.string qAa] 33)).alloc (.cells #[.int .i64 code,.slice a2 l.length c2,.string qAa] 33)=w0 at *
 generalize w.heap.size=ob at *
 refine (qWx b1 b2 _ _ l w0 (uh H1) (uh H2) hl).mono ?_
 rintro r w1 ⟨rfl,hk1⟩
 have HK1:=hide ((uh HK0).then hk1)
 have p0:w1.cell? ⟨ob+1,0,none⟩=some (.int .i64 code):=hk1.cell ((uh HA).cell rfl) (fun h=>h)
 have q0:w1.cell? ⟨ob+2,0,none⟩=some (.int .i64 code):=hk1.cell ((uh HB).cell rfl) (fun h=>h)
 have p2:w1.cell? ⟨ob+1,2,none⟩=some (.string qAa):=hk1.cell ((uh HA).cell rfl) (fun h=>h)
 have o0:w1.cell? ⟨ob,0,none⟩=some (.int .i64 o.kind):=hk1.cell ((uh HO).cell rfl) (fun h=>h)
 have hcc:(code!=code)=false:=by simp
 clear hk1
 go_wp2_with fail
 go_region_held3 (fun w'=>w'.cell? ⟨ob+1,0,none⟩=some (.int .i64 code)∧w'.cell? ⟨ob+2,0,none⟩=some (.int .i64 code)) (go_keep)
  (first | (go_at_call 57;refine (qXz _ _).mono ?_;rintro r w9 ⟨rfl,rfl⟩))
 have hbb:(qAa!=⟨#[]⟩)=false:=by decide
 unfold qAa at p2 hbb
 go_wp2
 go_ret
 exact ⟨rfl,(uh HK1).drew⟩
def qDw (most low high:Int) (o:OpM):Bool:=decide (o.kind=5∨o.kind≤most)&&decide (o.kind≠1∨(low≤o.cfg.kind∧o.cfg.kind≤high)∨o.cfg.kind<1∨5<o.cfg.kind)
theorem qYj (v:Value) (ops:List OpM) (most low high:Int) (w:World) (hs:ScriptW w v ops) (hlen:ops.length≤651562446080) :
  Calls Tryz.prog 16 #[v,.int .i64 most,.int .i64 low,.int .i64 high] w fun r w'=>∃ v',r=.returned v'∧OwnS w' w.heap.size v' (ops.filter (qDw most low high))∧Keeps (fun _=>False) w w':=by
 obtain ⟨a,cap,rfl,hsv⟩:=qFn hs
 have HSV:=hide hsv
 clear hs hsv
 generalize hn:ops.length=n at *
 have HN:=hide hn
 clear hn
 go_enter Tryz.func16,Tryz.ntmps16
 go_wp2_with fail
 go_loopw [9,10] (fun l i wr=>∃ (k m c:Nat) (ad:Option Addr),k≤n∧i=.int .i64 k∧l=.slice ad m c∧Hid (OwnS wr w.heap.size l ((ops.take k).filter (qDw most low high)))∧Hid (Keeps (fun _=>False) w wr)) (fun _ i _=>n-(intOf i).toNat)
 case atStart=>exact ⟨0,0,0,none,by omega,rfl,rfl,World.ownsRow_nil _ _ _ _,Keeps.refl _ _⟩
 case round =>
  obtain ⟨k,m,c,ad,hk,rfl,rfl,HO,HK⟩:=hrel
  by_cases hkn:k<n
  ·obtain ⟨o,ho⟩:∃ o,ops[k]?=some o:=⟨ops[k]'(by rw [uh HN];exact hkn),List.getElem?_eq_getElem _⟩
   obtain ⟨sb,so,ha,hlt,hra⟩:=uh HSV k o ho
   obtain ⟨hv0,hh0⟩:=qG1 hra hlt (uh HK)
   subst ha
   have hst:∀ zs:List Value,zs.length=26→(qD1 40 (.pointer (some ⟨wr.heap.size,0,none⟩)) (.agg o.cells.toArray)).run Tryz.prog (wr.alloc (.cells zs.toArray 40))=.ok .skip (wr.alloc (.cells o.cells.toArray 40)):=fun zs hz=>qFs wr zs o.cells hz rfl (qE8 o)
   have hv1:qAv (wr.alloc (.cells o.cells.toArray 40)) wr.heap.size 0 26=.agg o.cells.toArray:=qAk wr o.cells 40 26 rfl
   have hh1:qA3 (wr.alloc (.cells o.cells.toArray 40)) wr.heap.size 0 26=true:=qD7 wr o.cells 40 26 rfl
   have h0c:o.cells[0]?=some (.int .i64 o.kind):=rfl
   have h5c:o.cells[5]?=some (.int .i64 o.cfg.kind):=rfl
   have htk:ops.take (k+1)=ops.take k++[o]:=by rw [List.take_add_one,ho];rfl
   have hk0:(0:Int)≤(k:Int):=by omega
   have hkn':(k:Int)<(n:Int):=by omega
   have hl0:((ops.take k).filter (qDw most low high)).length≤k:=by
    have h1:=List.length_filter_le (qDw most low high) (ops.take k)
    rw [List.length_take] at h1
    omega
   have HFL:=hide (show (ops.take (k+1)).filter (qDw most low high)=(ops.take k).filter (qDw most low high)++[o].filter (qDw most low high) by rw [htk,List.filter_append])
   have hm:m=((ops.take k).filter (qDw most low high)).length:=by
    obtain ⟨_,_,e⟩:=qC2 (uh HO)
    injection e
   clear hra htk ho
   generalize (ops.take k).filter (qDw most low high)=A at *
   have HKa:=hide ((uh HK).alloc (.cells o.cells.toArray 40))
   by_cases k5:o.kind=5
   ·have kb5:(o.kind==5)=true:=by simpa using k5
    have kb1:(o.kind!=1)=true:=by simp [k5]
    have HF1:=hide (show [o].filter (qDw most low high)=[o] from List.filter_cons_of_pos (by unfold qDw;simp;omega))
    go_wp2_with (at_builtin;refine qBg rfl _ _ rfl w.heap.size (.slice ad m c) A rfl (by exact qAf (uh HO) (((Keeps.refl (fun _=>False) wr).alloc _).alloc _) (fun _ _ h=>h)) _ [o] rfl (by exact qDc (Blk.newAt (w:=wr.alloc (.cells o.cells.toArray 40)) (by simp) o.cells 40)) (by simp;omega) (by have:=(uh HK).size;simp;omega) ?_;intro ad2 c2 w2 hown2 hk2 hat2)
    go_roundw
    case rel =>
     refine ⟨k+1,A.length+1,c2,ad2,by omega,by go_num,rfl,?_,?_⟩
     ·show OwnS _ _ _ _;rw [uh HFL,uh HF1];exact hown2
     ·refine (((uh HKa).alloc _).trans hk2 (fun i hi hlt=>?_))
      have:=((uh HO).lt i hi).1
      omega
    case measure=>simp [intOf];omega
   have kb5:(o.kind==5)=false:=by simpa using k5
   by_cases km:o.kind≤most
   ·by_cases k1:o.kind=1
    ·have kb1:(o.kind!=1)=false:=by simp [k1]
     by_cases cl:low≤o.cfg.kind
     ·by_cases ch:o.cfg.kind≤high
      ·have HF1:=hide (show [o].filter (qDw most low high)=[o] from List.filter_cons_of_pos (by unfold qDw;simp;omega))
       go_wp2_with (at_builtin;refine qBg rfl _ _ rfl w.heap.size (.slice ad m c) A rfl (by exact qAf (uh HO) (((Keeps.refl (fun _=>False) wr).alloc _).alloc _) (fun _ _ h=>h)) _ [o] rfl (by exact qDc (Blk.newAt (w:=wr.alloc (.cells o.cells.toArray 40)) (by simp) o.cells 40)) (by simp;omega) (by have:=(uh HK).size;simp;omega) ?_;intro ad2 c2 w2 hown2 hk2 hat2)
       go_roundw
       case rel =>
        refine ⟨k+1,A.length+1,c2,ad2,by omega,by go_num,rfl,?_,?_⟩
        ·show OwnS _ _ _ _;rw [uh HFL,uh HF1];exact hown2
        ·refine (((uh HKa).alloc _).trans hk2 (fun i hi hlt=>?_))
         have:=((uh HO).lt i hi).1
         omega
       case measure=>simp [intOf];omega
      ·by_cases c1':o.cfg.kind<1
       ·have HF1:=hide (show [o].filter (qDw most low high)=[o] from List.filter_cons_of_pos (by unfold qDw;simp;omega))
        go_wp2_with (at_builtin;refine qBg rfl _ _ rfl w.heap.size (.slice ad m c) A rfl (by exact qAf (uh HO) (((Keeps.refl (fun _=>False) wr).alloc _).alloc _) (fun _ _ h=>h)) _ [o] rfl (by exact qDc (Blk.newAt (w:=wr.alloc (.cells o.cells.toArray 40)) (by simp) o.cells 40)) (by simp;omega) (by have:=(uh HK).size;simp;omega) ?_;intro ad2 c2 w2 hown2 hk2 hat2)
        go_roundw
        case rel =>
         refine ⟨k+1,A.length+1,c2,ad2,by omega,by go_num,rfl,?_,?_⟩
         ·show OwnS _ _ _ _;rw [uh HFL,uh HF1];exact hown2
         ·refine (((uh HKa).alloc _).trans hk2 (fun i hi hlt=>?_))
          have:=((uh HO).lt i hi).1
          omega
        case measure=>simp [intOf];omega
       ·by_cases c5:5<o.cfg.kind
        ·have HF1:=hide (show [o].filter (qDw most low high)=[o] from List.filter_cons_of_pos (by unfold qDw;simp;omega))
         go_wp2_with (at_builtin;refine qBg rfl _ _ rfl w.heap.size (.slice ad m c) A rfl (by exact qAf (uh HO) (((Keeps.refl (fun _=>False) wr).alloc _).alloc _) (fun _ _ h=>h)) _ [o] rfl (by exact qDc (Blk.newAt (w:=wr.alloc (.cells o.cells.toArray 40)) (by simp) o.cells 40)) (by simp;omega) (by have:=(uh HK).size;simp;omega) ?_;intro ad2 c2 w2 hown2 hk2 hat2)
         go_roundw
         case rel =>
          refine ⟨k+1,A.length+1,c2,ad2,by omega,by go_num,rfl,?_,?_⟩
          ·show OwnS _ _ _ _;rw [uh HFL,uh HF1];exact hown2
          ·refine (((uh HKa).alloc _).trans hk2 (fun i hi hlt=>?_))
           have:=((uh HO).lt i hi).1
           omega
         case measure=>simp [intOf];omega
        ·have HF1:=hide (show [o].filter (qDw most low high)=[] from List.filter_cons_of_neg (by unfold qDw;simp;omega))
         go_wp2
         go_roundw
         case rel=>exact ⟨k+1,m,c,ad,by omega,by go_num,rfl,by show OwnS _ _ _ _;rw [uh HFL,uh HF1,List.append_nil];exact qAf (uh HO) ((Keeps.refl (fun _=>False) wr).alloc _) (fun _ _ h=>h),HKa⟩
         case measure=>simp [intOf];omega
     ·by_cases c1':o.cfg.kind<1
      ·have HF1:=hide (show [o].filter (qDw most low high)=[o] from List.filter_cons_of_pos (by unfold qDw;simp;omega))
       go_wp2_with (at_builtin;refine qBg rfl _ _ rfl w.heap.size (.slice ad m c) A rfl (by exact qAf (uh HO) (((Keeps.refl (fun _=>False) wr).alloc _).alloc _) (fun _ _ h=>h)) _ [o] rfl (by exact qDc (Blk.newAt (w:=wr.alloc (.cells o.cells.toArray 40)) (by simp) o.cells 40)) (by simp;omega) (by have:=(uh HK).size;simp;omega) ?_;intro ad2 c2 w2 hown2 hk2 hat2)
       go_roundw
       case rel =>
        refine ⟨k+1,A.length+1,c2,ad2,by omega,by go_num,rfl,?_,?_⟩
        ·show OwnS _ _ _ _;rw [uh HFL,uh HF1];exact hown2
        ·refine (((uh HKa).alloc _).trans hk2 (fun i hi hlt=>?_))
         have:=((uh HO).lt i hi).1
         omega
       case measure=>simp [intOf];omega
      ·by_cases c5:5<o.cfg.kind
       ·have HF1:=hide (show [o].filter (qDw most low high)=[o] from List.filter_cons_of_pos (by unfold qDw;simp;omega))
        go_wp2_with (at_builtin;refine qBg rfl _ _ rfl w.heap.size (.slice ad m c) A rfl (by exact qAf (uh HO) (((Keeps.refl (fun _=>False) wr).alloc _).alloc _) (fun _ _ h=>h)) _ [o] rfl (by exact qDc (Blk.newAt (w:=wr.alloc (.cells o.cells.toArray 40)) (by simp) o.cells 40)) (by simp;omega) (by have:=(uh HK).size;simp;omega) ?_;intro ad2 c2 w2 hown2 hk2 hat2)
        go_roundw
        case rel =>
         refine ⟨k+1,A.length+1,c2,ad2,by omega,by go_num,rfl,?_,?_⟩
         ·show OwnS _ _ _ _;rw [uh HFL,uh HF1];exact hown2
         ·refine (((uh HKa).alloc _).trans hk2 (fun i hi hlt=>?_))
          have:=((uh HO).lt i hi).1
          omega
        case measure=>simp [intOf];omega
       ·have HF1:=hide (show [o].filter (qDw most low high)=[] from List.filter_cons_of_neg (by unfold qDw;simp;omega))
        go_wp2
        go_roundw
        case rel=>exact ⟨k+1,m,c,ad,by omega,by go_num,rfl,by show OwnS _ _ _ _;rw [uh HFL,uh HF1,List.append_nil];exact qAf (uh HO) ((Keeps.refl (fun _=>False) wr).alloc _) (fun _ _ h=>h),HKa⟩
        case measure=>simp [intOf];omega
    ·have kb1:(o.kind!=1)=true:=by simpa using k1
     have HF1:=hide (show [o].filter (qDw most low high)=[o] from List.filter_cons_of_pos (by unfold qDw;simp;omega))
     go_wp2_with (at_builtin;refine qBg rfl _ _ rfl w.heap.size (.slice ad m c) A rfl (by exact qAf (uh HO) (((Keeps.refl (fun _=>False) wr).alloc _).alloc _) (fun _ _ h=>h)) _ [o] rfl (by exact qDc (Blk.newAt (w:=wr.alloc (.cells o.cells.toArray 40)) (by simp) o.cells 40)) (by simp;omega) (by have:=(uh HK).size;simp;omega) ?_;intro ad2 c2 w2 hown2 hk2 hat2)
     go_roundw
     case rel =>
      refine ⟨k+1,A.length+1,c2,ad2,by omega,by go_num,rfl,?_,?_⟩
      ·show OwnS _ _ _ _;rw [uh HFL,uh HF1];exact hown2
      ·refine (((uh HKa).alloc _).trans hk2 (fun i hi hlt=>?_))
       have:=((uh HO).lt i hi).1
       omega
     case measure=>simp [intOf];omega
   ·have HF1:=hide (show [o].filter (qDw most low high)=[] from List.filter_cons_of_neg (by unfold qDw;simp;omega))
    go_wp2
    go_roundw
    case rel=>exact ⟨k+1,m,c,ad,by omega,by go_num,rfl,by show OwnS _ _ _ _;rw [uh HFL,uh HF1,List.append_nil];exact qAf (uh HO) ((Keeps.refl (fun _=>False) wr).alloc _) (fun _ _ h=>h),HKa⟩
    case measure=>simp [intOf];omega
  ·have hkk:k=n:=by omega
   subst hkk
   go_wp2
   go_ret
   have h1:=uh HO
   rw [List.take_of_length_le (by rw [uh HN];omega)] at h1
   exact ⟨_,rfl,h1,uh HK⟩
end Go.Proofs.YtahnliehdjncdaaGreatDoor
namespace Go.Proofs.YtahnliehdjncdaaGreatDoor
open Go.RowKit
attribute [local go_sem ↓] qAd qAe qBs qC7
attribute [local go_sem] qAi qAj qAb qAc qAm qAn qAh qAg qIa
theorem qTm (v:Value) (ops:List OpM) (w:World) (hs:ScriptW w v ops) (hlen:ops.length≤651562446080) (h7:∀ o,o∈ops→o.kind≠7) :
  Calls Tryz.prog 33 #[v] w fun r w'=>∃ v1 v2,r=.returned (.tuple #[v1,v2])∧OwnS w' w.heap.size v1 ops∧OwnS w' w.heap.size v2 ops∧Keeps (fun _=>False) w w':=by
 obtain ⟨a,cap,rfl,hsv⟩:=qFn hs
 have HSV:=hide hsv
 have H7:=hide h7
 clear hs hsv h7
 generalize hn:ops.length=n at *
 have HN:=hide hn
 clear hn
 go_enter Tryz.func33,Tryz.ntmps33
 go_wp2_with fail
 go_loopw [4,5,6] (fun x y i wr=>∃ (k c d:Nat) (ax ay:Option Addr),k≤n∧i=.int .i64 k∧x=.slice ax k c∧y=.slice ay k d∧Hid (OwnS wr w.heap.size x (ops.take k))∧Hid (OwnS wr w.heap.size y (ops.take k))∧Hid (∀ i,x.ownBlock=some i→y.ownBlock≠some i)∧Hid (Keeps (fun _=>False) w wr)) (fun _ _ i _=>n-(intOf i).toNat)
 case atStart=>exact ⟨0,0,0,none,none,by omega,rfl,rfl,rfl,World.ownsRow_nil _ _ _ _,World.ownsRow_nil _ _ _ _,(by intro i hi;cases hi),Keeps.refl _ _⟩
 case round =>
  obtain ⟨k,c,d,ax,ay,hk,rfl,rfl,rfl,HX,HY,HD,HK⟩:=hrel
  by_cases hkn:k<n
  ·obtain ⟨o,ho⟩:∃ o,ops[k]?=some o:=⟨ops[k]'(by rw [uh HN];exact hkn),List.getElem?_eq_getElem _⟩
   have n7:=uh H7 o (List.mem_of_getElem? ho)
   have b7:(o.kind==7)=false:=by simpa using n7
   obtain ⟨sb,so,ha,hlt,hra⟩:=uh HSV k o ho
   obtain ⟨hv0,hh0⟩:=qG1 hra hlt (uh HK)
   subst ha
   have hst:∀ zs:List Value,zs.length=26→(qD1 40 (.pointer (some ⟨wr.heap.size,0,none⟩)) (.agg o.cells.toArray)).run Tryz.prog (wr.alloc (.cells zs.toArray 40))=.ok .skip (wr.alloc (.cells o.cells.toArray 40)):=fun zs hz=>qFs wr zs o.cells hz rfl (qE8 o)
   have hst2:∀ zs:List Value,zs.length=26→(qD1 40 (.pointer (some ⟨wr.heap.size+1,0,none⟩)) (.agg o.cells.toArray)).run Tryz.prog ((wr.alloc (.cells o.cells.toArray 40)).alloc (.cells zs.toArray 40))=.ok .skip ((wr.alloc (.cells o.cells.toArray 40)).alloc (.cells o.cells.toArray 40)):=fun zs hz=>by
    have:=qFs (wr.alloc (.cells o.cells.toArray 40)) zs o.cells hz rfl (qE8 o)
    rw [World.size_alloc] at this
    exact this
   have hv1:qAv (wr.alloc (.cells o.cells.toArray 40)) wr.heap.size 0 26=.agg o.cells.toArray:=qAk wr o.cells 40 26 rfl
   have hh1:qA3 (wr.alloc (.cells o.cells.toArray 40)) wr.heap.size 0 26=true:=qD7 wr o.cells 40 26 rfl
   have h0c:o.cells[0]?=some (.int .i64 o.kind):=rfl
   have htk:ops.take (k+1)=ops.take k++[o]:=by rw [List.take_add_one,ho];rfl
   have HTK:=hide htk
   have hk0:(0:Int)≤(k:Int):=by omega
   have hkn':(k:Int)<(n:Int):=by omega
   have hAl:(ops.take k).length=k:=by rw [List.length_take,uh HN];omega
   have HAL:=hide hAl
   clear hra htk ho hAl n7
   generalize ops.take k=A at *
   go_upto_region 17 with fail
   have hkb:Keeps (fun _=>False) wr ((wr.alloc (.cells o.cells.toArray 40)).alloc (.cells o.cells.toArray 40)):=((Keeps.refl (fun _=>False) wr).alloc _).alloc _
   have HO1:=hide (show Blk ((wr.alloc (.cells o.cells.toArray 40)).alloc (.cells o.cells.toArray 40)) wr.heap.size o.cells 40 from (Blk.new wr o.cells 40).alloc _)
   have HO2:=hide (show Blk ((wr.alloc (.cells o.cells.toArray 40)).alloc (.cells o.cells.toArray 40)) (wr.heap.size+1) o.cells 40 from Blk.newAt (by simp) o.cells 40)
   have HXb:=hide (qAf (uh HX) hkb (fun _ _ h=>h))
   have HYb:=hide (qAf (uh HY) hkb (fun _ _ h=>h))
   have HKb:=hide ((uh HK).then hkb)
   have HXl:=hide (show ∀ i,(Value.slice ax k c).ownBlock=some i→w.heap.size≤i∧i<wr.heap.size from fun i hi=>(uh HX).lt i hi)
   have HYl:=hide (show ∀ i,(Value.slice ay k d).ownBlock=some i→w.heap.size≤i∧i<wr.heap.size from fun i hi=>(uh HY).lt i hi)
   have hws:=(uh HK).size
   clear hkb hst hst2 hv0 hh0 hv1 hh1 h0c
   generalize (wr.alloc (.cells o.cells.toArray 40)).alloc (.cells o.cells.toArray 40)=wb at *
   generalize hob:wr.heap.size=ob at *
   have hobl:ob+1<wb.heap.size:=(uh HO2).lt
   clear hob
   obtain ⟨hv1,hh1⟩:=qA4 (uh HO1) 26 rfl
   have hbb:w.heap.size≤wb.heap.size:=(uh HKb).size
   go_wp2_with (at_builtin;first | (refine qBg rfl _ _ rfl w.heap.size (.slice ax k c) A rfl (by exact qAf (uh HXb) ((Keeps.refl (fun _=>False) wb).alloc _) (fun _ _ h=>h)) _ [o] rfl (by exact qDc (Blk.new wb o.cells 40)) (by have:=uh HAL;simp;omega) (by simp;omega) ?_;intro ad2 c2 w2 hown2 hk2 hat2;have hk2':=((Keeps.refl (fun i=>(Value.slice ax k c).ownBlock=some i) wb).alloc _).then hk2;have HX2:=hide hown2;have HY2:=hide (qAf (uh HYb) hk2' (fun i hi hh=>uh HD i hh hi));have HO2':=hide ((uh HO2).keeps hk2' (fun h=>by have:=uh HXl _ h;omega));have HK2:=hide ((uh HKb).trans hk2' (fun i hi hlt=>by have:=(uh HXl i hi).1;omega));have HAT2:=hide hat2;have hs2:wb.heap.size≤w2.heap.size:=hk2'.size;have hv2:=(qA4 (uh HO2') 26 rfl).1;have hh2:=(qA4 (uh HO2') 26 rfl).2;clear hown2 hk2 hk2' hat2) | (refine qBg rfl _ _ rfl w.heap.size (.slice ay k d) A rfl (by exact qAf (uh HY2) ((Keeps.refl (fun _=>False) w2).alloc _) (fun _ _ h=>h)) _ [o] rfl (by exact qDc (Blk.new w2 o.cells 40)) (by have:=uh HAL;simp;omega) (by simp;omega) ?_;intro ad3 c3 w3 hown3 hk3 hat3))
   go_roundw
   case rel =>
    have hk3':=((Keeps.refl (fun i=>(Value.slice ay k d).ownBlock=some i) w2).alloc (.cells o.cells.toArray 40)).then hk3
    have hal:=uh HAL
    refine ⟨k+1,c2,c3,ad2,ad3,by omega,by go_num,by rw [hal],by rw [hal],?_,?_,?_,?_⟩
    ·show OwnS _ _ _ _
     rw [uh HTK]
     refine qAf (uh HX2) hk3' (fun i hi hh=>?_)
     have h2:=uh HYl i hh
     rcases uh HAT2 i hi with h | h
     ·exact uh HD i h hh
     ·simp at h;omega
    ·show OwnS _ _ _ _
     rw [uh HTK];exact hown3
    ·intro i hi hh
     rcases uh HAT2 i hi with h | h
     ·have h1:=uh HXl i h
      rcases hat3 i hh with h2 | h2
      ·exact uh HD i h h2
      ·simp at h2;omega
     ·simp at h
      rcases hat3 i hh with h2 | h2
      ·have:=uh HYl i h2;omega
      ·have h3:=((uh HX2).lt i hi).2
       simp at h2;omega
    ·exact (uh HK2).trans hk3' (fun i hi hlt=>by have:=(uh HYl i hi).1;omega)
   case measure=>simp [intOf];omega
  ·have hkk:k=n:=by omega
   subst hkk
   go_wp2
   go_ret2
   have h1:=uh HX
   have h2:=uh HY
   rw [List.take_of_length_le (by rw [uh HN];omega)] at h1 h2
   exact ⟨_,_,rfl,h1,h2,uh HK⟩
end Go.Proofs.YtahnliehdjncdaaGreatDoor
namespace Go.Proofs.YtahnliehdjncdaaGreatDoor
open Go.RowKit
attribute [local go_sem ↓] qAd qAe qBs qC7
attribute [local go_sem] qAi qAj qAb qAc qAm qAn qAh qAg qIa
theorem rel0 (D:Bool):RelW D ws0 rs0:=⟨rfl,by simp [rs0],trivial,by simp [ws0],by simp [ws0]⟩
theorem qMi {l:List Ans} {x:List (Int×List Int)} (h:l.map (fun x=>(x.code,x.nums))=x):l.length=x.length:=by rw [←h,List.length_map]
end Go.Proofs.YtahnliehdjncdaaGreatDoor
namespace Go.Proofs.YtahnliehdjncdaaGreatDoor
theorem qXb (c:Cfg) (l l':List RIt) (p:Nat):∀ st,(l'.foldl (qFy c l p) st).1.length≤st.1.length+3*(l'.filter (fun z=>decide (qCk c l z=p))).length:=by
 induction l' with
 | nil=>intro st;exact Nat.le_refl _
 | cons z l' ih =>
  intro st
  rw [List.foldl_cons,List.filter_cons]
  have h:=ih (qFy c l p st z)
  by_cases hp:qCk c l z=p
  ·rw [if_pos (by simpa using hp),List.length_cons]
   have:(qFy c l p st z).1.length≤st.1.length+3:=by
    unfold qFy
    rw [if_pos hp]
    split
    ·simp
    ·split <;> simp
   omega
  ·rw [if_neg (by simpa using hp)]
   have:(qFy c l p st z)=st:=by unfold qFy;rw [if_neg hp]
   rw [this] at h ⊢
   exact h
theorem qMd (c:Cfg) (l l':List RIt) (p:Nat) (hp:c.size≤(p:Int)):∀ st,(l'.foldl (qFy c l p) st).1=st.1:=by
 induction l' with
 | nil=>intro st;rfl
 | cons z l' ih =>
  intro st
  rw [List.foldl_cons,ih]
  unfold qFy
  split
  ·rw [if_neg (by omega)]
   split <;> rfl
  ·rfl
theorem Top.few {c:Cfg} {l:List RIt} {r D:List Dr.It} (h:Top c l r D) (s5:c.size≤5) (q i:Nat):(rowD c l q i).1.length≤100:=by
 have hpl:∀ q,(qCf c l q).1.length≤15:=by
  intro q
  induction q with
  | zero=>show ([]:List Int).length≤15;simp
  | succ q ih =>
   by_cases hq:(q:Int)+1≤c.size
   ·rw [h.places (q+1) (by omega)]
    show (three (r.take (q+1))).length≤15
    rw [qC3,List.length_take];omega
   ·show (l.foldl (qFy c l q) (qCf c l q)).1.length≤15
    rw [qMd c l l q (by omega)];exact ih
 have h1:=hpl q
 unfold rowD
 by_cases hq:(q:Int)<c.size
 ·have h2:=qXb c l (l.take i) q (qCf c l q)
  have h3:((l.take i).filter (fun z=>decide (qCk c l z=q))).length≤(l.filter (fun z=>decide (qCk c l z=q))).length:=((List.take_sublist i l).filter _).length_le
  have h4:(l.filter (fun z=>decide (qCk c l z=q))).length≤1:=by
   rcases h.only q (by omega) with ⟨_,z,hz,_⟩ | ⟨_,hz⟩
   ·rw [hz];simp
   ·rw [hz];simp
  omega
 ·rw [qMd c l _ q (by omega)];omega
theorem top_of {c:Cfg} {tk:List Dr.It} {R:List It} {l:List RIt} (h:TG c tk R) (hp:(l.map itR).Perm R) (hn:(R.map (·.n)).Nodup) (hok:∀ r,r∈R→OkI c 5 r):∃ D,Top c l (Dr.allL (tk.length+1) tk).reverse D:=by
 obtain ⟨D,d1,d2,d3⟩:=h.ex
 obtain ⟨a1,a2⟩:=Dr.allL_spec (tk.length+1) tk (by omega) h.heap
 have hrt:((Dr.allL (tk.length+1) tk).reverse).Perm tk:=(List.reverse_perm _).trans a1
 have hperm:((Dr.allL (tk.length+1) tk).reverse++D).Perm (l.map (tkR c)):=by
  refine (hrt.append_right D).trans (d1.trans ?_)
  have:=(hp.map (tick c)).symm
  rw [List.map_map] at this
  exact this
 have hnum:((l.map (tkR c)).map (·.n)).Nodup:=by
  rw [List.map_map]
  have e:(l.map ((fun x:Dr.It=>x.n) ∘ tkR c))=(l.map itR).map (·.n):=by rw [List.map_map];rfl
  rw [e]
  exact (hp.map (·.n)).nodup_iff.2 hn
 have hnum2:(((Dr.allL (tk.length+1) tk).reverse++D).map (·.n)).Nodup:=(hperm.map (·.n)).nodup_iff.2 hnum
 rw [List.map_append] at hnum2
 obtain ⟨n1,_,n3⟩:=List.nodup_append.1 hnum2
 have hlr:(Dr.allL (tk.length+1) tk).reverse.length=tk.length:=hrt.length_eq
 refine ⟨D,hperm,hnum,?_,fun d hd u hu=>?_,fun hD=>by rw [hlr];exact d3 hD,by rw [hlr];exact h.len,fun z hz=>?_⟩
 ·have p1:(Dr.allL (tk.length+1) tk).reverse.Pairwise (fun a b=>Dr.leT b a):=List.pairwise_reverse.2 a2
  have p2:(Dr.allL (tk.length+1) tk).reverse.Pairwise (fun a b=>a.n≠b.n):=List.pairwise_map.1 n1
  exact (p1.and p2).imp (fun ⟨k1,k2⟩=>⟨qPv k1 k2,qO9 k1 (Ne.symm k2)⟩)
 ·have hut:u∈tk:=hrt.mem_iff.1 hu
  have hle:=(d2 d hd).2 u hut
  have hne:u.n≠d.n:=n3 u.n (List.mem_map_of_mem hu) d.n (List.mem_map_of_mem hd)
  exact ⟨qPv hle hne,qO9 hle (Ne.symm hne)⟩
 ·have hm:itR z∈R:=hp.mem_iff.1 (List.mem_map_of_mem hz)
  have:=qOn (hok _ hm)
  exact ⟨by have:=this.1;show 0≤(itR z).d;omega,this.2⟩
structure KW (n:Int) (s:WS) (r:RWS) (A:Int→List It):Prop where
 inv:EInv n s.clock s.xs
 g2:GW 2 PD s A
 g3:GW 3 PO s A
 g5:GW 5 PT s A
 j:JW s r A
def okA (o:OpM):Prop:=o.kind=5∨o.kind≤4
theorem okA_ok {o:OpM} (h:okA o) (h4:o.kind≠4):okOp false o:=by
 refine ⟨?_,fun _ _ h=>by cases h⟩
 unfold okA at h
 simp only [Bool.false_eq_true,if_false]
 omega
theorem KW.step {n:Int} {s:WS} {r:RWS} {A:Int→List It} (h:KW n s r A) (h0:0≤n) (hn:n<4611686018427387904) (o:OpM) (ho:okA o):KW (n+1) (qB6 s o).1 (goR r o) (fun id=>A id++acci s o id):=by
 have h7:o.kind≠7:=by unfold okA at ho;omega
 refine ⟨qKw o h.inv h0 (qIc h7),qQj PD_law h.inv h.g2 o h7,qQj PO_law h.inv h.g3 o h7,qQj PT_law h.inv h.g5 o h7,?_⟩
 by_cases h4:o.kind=4
 ·have e1:(qB6 s o).1=s:=by
   unfold qB6
   rw [if_neg (by omega),if_neg (by omega),if_neg (by omega),if_pos h4]
   unfold qF9
   split <;> rfl
  have e2:goR r o=r:=by unfold goR;rw [if_pos (.inl h4)]
  rw [e1,e2]
  refine ⟨h.j.rel,fun y hy=>?_⟩
  rw [qDv (.inl (by omega)),List.append_nil]
  exact h.j.its y hy
 ·exact step_J h.inv hn h.g2 h.j o (okA_ok ho h4)
theorem RelL.mem {xs:List Ser} {ys:List RSer} (h:RelL xs ys) {y:RSer} (hy:y∈ys):∃ x,x∈xs∧RelS x y:=by
 induction xs generalizing ys with
 | nil=>cases ys with | nil=>simp at hy | cons a ys=>exact h.elim
 | cons x xs ih =>
  cases ys with
  | nil=>exact h.elim
  | cons a ys =>
   rcases List.mem_cons.1 hy with e | e
   ·exact ⟨x,by simp,by rw [e];exact h.1⟩
   ·obtain ⟨x',h1,h2⟩:=ih h.2 e
    exact ⟨x',by simp [h1],h2⟩
theorem KW.pair {n:Int} {s:WS} {r:RWS} {A:Int→List It} (h:KW n s r A) {x:Ser} {y:RSer} (hx:x∈s.xs) (hy:y∈r.xs) (hr:RelS x y) {k:Nat} {P:Cfg→Int→Note→List It→Prop} (hg:GW k P s A) (hk:x.k=k) :
  ∃ R,P x.c (s.clock-x.c.lag) x.nt R∧(R.map (·.n)).Nodup∧(∀ q,q∈R→OkI x.c k q)∧(∀ fr,((qA5 y.items fr (s.clock-x.c.lag)).map itR).Perm (R.filter (fun z=>decide (fr<z.t))))∧∀ z,z∈y.items→OkI x.c k (itR z):=by
 have hgs:=hg.cnt x hx hk
 obtain ⟨R,r1,_,r3,r4⟩:=hgs.whole
 have hyi:=h.j.its y hy
 rw [←hr.id] at hyi
 have hok:∀ q,q∈A x.id→OkI x.c k q:=fun q hq=>by rw [←hk];exact hgs.okA q hq
 refine ⟨R,r1,?_,fun q hq=>hok q (r4.mem_iff.1 (by simp [hq])),fun fr=>?_,fun z hz=>hok _ (by rw [←hyi.its];exact List.mem_map_of_mem hz)⟩
 ·have:=(r4.map (·.n)).nodup_iff.2 (qM2 hgs.num)
  rw [List.map_append] at this
  exact (List.nodup_append.1 this).1
 ·have e:=qVh hyi fr
  rw [←h.j.rel.clock,←hr.c] at e
  rw [e]
  exact qWi r4 r3 hgs.wait
theorem KW.kinv {n:Int} {s:WS} {r:RWS} {A:Int→List It} (h:KW n s r A) (y:RSer) (hy:y∈r.xs):KInv r.clock y:=by
 obtain ⟨x,hx,hr⟩:=h.j.rel.xs.mem hy
 have hkind:y.c.kind=x.k:=by rw [←hr.c];exact hr.kind
 have hkey:∀ k,x.k=k→(k=2∨k=3)→∀ z,OkI x.c k z→0≤z.k∧z.k≤2147483648:=by
  intro k _ hk z hz
  have:=hz.fit
  rcases hk with e | e <;> subst e
  all_goals
   unfold qFp keyE at this
   simp only at this
   split at this
   ·rename_i hb;exact qBa hb
   ·omega
 refine ⟨fun hk z hz=>?_,fun hk z hz=>?_,fun hk q i=>?_⟩
 ·rcases hk with e | e
  ·obtain ⟨_,_,_,_,_,k5⟩:=h.pair hx hy hr h.g2 (by omega)
   exact hkey 2 (by omega) (.inl rfl) _ (k5 z hz)
  ·obtain ⟨_,_,_,_,_,k5⟩:=h.pair hx hy hr h.g3 (by omega)
   exact hkey 3 (by omega) (.inr rfl) _ (k5 z hz)
 ·obtain ⟨_,_,_,_,_,k5⟩:=h.pair hx hy hr h.g5 (by omega)
  have:=qOn (k5 z hz)
  exact ⟨by have:=this.1;show 0≤(itR z).d;omega,this.2⟩
 ·obtain ⟨R,k1,k2,k3,k4,_⟩:=h.pair hx hy hr h.g5 (by omega)
  have hp:=k4 (-1)
  rw [List.filter_eq_self.2 (fun q hq=>by have:=(k3 q hq).t0;simp;omega)] at hp
  obtain ⟨D,hT⟩:=top_of k1 hp k2 k3
  have hv:=(h.inv.sers x hx)
  have hs:=qC6 (k:=5) hv.valid (by rw [hv.kind];omega) rfl
  rw [←h.j.rel.clock,←hr.c]
  exact hT.few hs.2 q i
theorem KW.query {n:Int} {s:WS} {r:RWS} {A:Int→List It} (h:KW n s r A) (o:OpM) (h4:o.kind=4):(qB6 s o).2=qK7 r o:=by
 have e1:qB6 s o=qF9 s o:=by
  unfold qB6
  rw [if_neg (by omega),if_neg (by omega),if_neg (by omega),if_pos h4]
 rw [e1]
 unfold qF9 qK7
 rcases h.j.rel.xs.find o.id with ⟨a,b⟩ | ⟨x,y,a,b,hr⟩
 ·rw [a,b]
 ·rw [a,b]
  have hx:x∈s.xs:=List.mem_of_find?_eq_some a
  have hy:y∈r.xs:=List.mem_of_find?_eq_some b
  have hv:=h.inv.sers x hx
  have hkind:y.c.kind=x.k:=by rw [←hr.c];exact hr.kind
  simp only
  show qryN x.k x.c x.nt o.a (s.clock-x.c.lag)=_
  rw [←h.j.rel.clock,hkind,←hr.c]
  have k1:=hv.k1
  have k5:=hv.k5
  rcases five k1 k5 with hk | hk | hk | hk | hk
  ·unfold qryN
   rw [if_neg (show ¬ x.k=4 by omega),if_pos hk,if_pos (show (x.k:Int)=1 by omega),hr.bks hk,←hr.c]
  ·obtain ⟨R,q1,_,_,q4,_⟩:=h.pair hx hy hr h.g2 hk
   unfold qryN
   rw [if_neg (show ¬ x.k=4 by omega),if_neg (show ¬ x.k=1 by omega),if_pos hk,if_neg (show ¬ (x.k:Int)=1 by omega),if_pos (show (x.k:Int)=2 by omega)]
   unfold qryD
   by_cases hw:inB o.a 1 x.c.window=true
   ·rw [if_pos hw,if_pos hw]
    have hab:=qBa hw
    have e:=qZe (T:=s.clock-x.c.lag-o.a) q1 (by omega) (q4 (s.clock-x.c.lag-o.a))
    rw [e]
    rfl
   ·rw [if_neg hw,if_neg hw]
  ·obtain ⟨R,q1,_,_,q4,_⟩:=h.pair hx hy hr h.g3 hk
   obtain ⟨_,hrw,hL,_,_⟩:=qD4 (k:=3) hv.valid (by rw [hv.kind];omega) rfl
   unfold qryN
   rw [if_neg (show ¬ x.k=4 by omega),if_neg (show ¬ x.k=1 by omega),if_neg (show ¬ x.k=2 by omega),if_pos hk,if_neg (show ¬ (x.k:Int)=1 by omega),if_neg (show ¬ (x.k:Int)=2 by omega),if_pos (show (x.k:Int)=3 by omega)]
   by_cases hw:inB o.a 0 2147483648=true
   ·rw [if_pos hw,if_pos hw,qYm q1 hL hrw (q4 _)]
   ·rw [if_neg hw,if_neg hw]
  ·unfold qryN
   rw [if_pos hk,if_neg (show ¬ (x.k:Int)=1 by omega),if_neg (show ¬ (x.k:Int)=2 by omega),if_neg (show ¬ (x.k:Int)=3 by omega),if_neg (show ¬ (x.k:Int)=5 by omega)]
   obtain ⟨d1,d2,d3⟩:=qPf y.c y.items 0 0 hr.tick (by omega) (by omega)
   have hs:=hr.sum hk
   have r0:=hr.r0
   have r1:=hr.r1
   rw [←hr.c] at d1 d2 d3
   have e1:x.nt.q=(qEj x.c y.items 0 0).1:=by omega
   have e2:x.nt.r=(qEj x.c y.items 0 0).2:=by omega
   rw [e1,e2]
  ·obtain ⟨R,q1,q2,q3,q4,_⟩:=h.pair hx hy hr h.g5 hk
   have hp:=q4 (-1)
   rw [List.filter_eq_self.2 (fun q hq=>by have:=(q3 q hq).t0;simp;omega)] at hp
   obtain ⟨D,hT⟩:=top_of q1 hp q2 q3
   have hs:=qC6 (k:=5) hv.valid (by rw [hv.kind];omega) rfl
   unfold qryN
   rw [if_neg (show ¬ x.k=4 by omega),if_neg (show ¬ x.k=1 by omega),if_neg (show ¬ x.k=2 by omega),if_neg (show ¬ x.k=3 by omega),if_pos hk,if_neg (show ¬ (x.k:Int)=1 by omega),if_neg (show ¬ (x.k:Int)=2 by omega),if_neg (show ¬ (x.k:Int)=3 by omega),if_pos (show (x.k:Int)=5 by omega),hT.drawn (by omega)]
   rfl
theorem qVo (ops:List OpM):∀ (s:WS) (r:RWS) (n:Int) (A:Int→List It),KW n s r A→(∀ o,o∈ops→okA o)→0≤n→n+ops.length<4611686018427387904→runM s ops=runA r ops:=by
 induction ops with
 | nil=>intro s r n A _ _ _ _;rfl
 | cons o l ih =>
  intro s r n A h ho h0 hn
  rw [List.length_cons] at hn
  have hoo:=ho o (by simp)
  have h2:=h.step h0 (by omega) o hoo
  have h1:(qB6 s o).2=ansA r o:=by
   by_cases h4:o.kind=4
   ·rw [ansA_q r o h4];exact h.query o h4
   ·have e:=(qPp false s r o h.j.rel (okA_ok hoo h4) h.inv (by omega)).1
    rw [e]
    unfold ansR ansA
    rw [if_neg h4,if_neg h4]
  unfold runM runA
  rw [h1,ih _ _ (n+1) _ h2 (fun x hx=>ho x (by simp [hx])) (by omega) (by omega)]
theorem kw0:KW 0 ws0 rs0 (fun _=>[]):=⟨inv0,⟨by simp [ws0],fun _ _=>rfl,fun x hx=>by simp [ws0] at hx⟩,⟨by simp [ws0],fun _ _=>rfl,fun x hx=>by simp [ws0] at hx⟩,⟨by simp [ws0],fun _ _=>rfl,fun x hx=>by simp [ws0] at hx⟩,⟨rel0 false,fun y hy=>by simp [rs0] at hy⟩⟩
theorem end_KW (SS:List OpM):∀ (s:WS) (r:RWS) (n:Int) (A:Int→List It),KW n s r A→(∀ o,o∈SS→okA o∧o.kind≠4∧o.kind≠5)→0≤n→n+SS.length<4611686018427387904→∃ s' n' A',KW n' s' (endR r SS) A':=by
 induction SS with
 | nil=>intro s r n A h _ _ _;exact ⟨s,n,A,h⟩
 | cons o l ih =>
  intro s r n A h ho h0 hn
  rw [List.length_cons] at hn
  have hoo:=ho o (by simp)
  have h2:=h.step h0 (by omega) o hoo.1
  have e:goR r o=(qEk r o).1:=by unfold goR;rw [if_neg (by omega)]
  rw [e] at h2
  exact ih _ _ (n+1) _ h2 (fun x hx=>ho x (by simp [hx])) (by omega) (by omega)
end Go.Proofs.YtahnliehdjncdaaGreatDoor
