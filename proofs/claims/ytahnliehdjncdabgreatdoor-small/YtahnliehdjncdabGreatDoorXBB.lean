import Derived.Test.YtahnliehdjncdabGreatDoorXAK
import Derived.Test.YtahnliehdjncdabGreatDoorXBA
set_option maxRecDepth 100000
set_option maxHeartbeats 16000000
namespace Go.Proofs.YtahnliehdjncdabGreatDoor
section
def leP(a b:It): Prop:=a.t<b.t\/(a.t=b.t/\a.n<=b.n)
theorem leP.refl(a:It): leP a a:=.inr ⟨rfl,Int.le_refl _⟩
theorem leP.trans{a b c:It}(h:leP a b)(k:leP b c): leP a c:=by
 unfold leP at *;omega
theorem qKs{a b:It}(h:qCl a b=true): leP a b:=by
 unfold qCl at h;unfold leP
 split at h
 ·rename_i he;simp at h;omega
 ·simp at h;omega
theorem qF3{a b:It}(h:qCl a b=false): leP b a:=by
 unfold qCl at h;unfold leP
 split at h
 ·rename_i he;simp at h;omega
 ·simp at h;omega
def HeapL(l:List It): Prop:=∀i,0<i->i<l.length->leP (itAt l ((i-1)/2)) (itAt l i)
theorem qDi(l:List It)(i j k:Nat)(hi:i<l.length)(hj:j<l.length)(hk:k<l.length):
  itAt (swapL l i j) k=if k=j then itAt l i else if k=i then itAt l j else itAt l k:=by
 unfold swapL itAt
 rw[List.getD_eq_getElem?_getD,List.getElem?_set]
 by_cases h1:j=k
 ·subst h1;simp[hj]
 ·rw[if_neg h1,if_neg (Ne.symm h1),List.getElem?_set]
  by_cases h2:i=k
  ·subst h2;simp[hi]
  ·rw[if_neg h2,if_neg (Ne.symm h2),List.getD_eq_getElem?_getD]
structure RiseAt (l:List It) (i:Nat):Prop where
 up:∀j,0<j->j<l.length->j≠i->leP (itAt l ((j-1)/2)) (itAt l j)
 over:∀c,0<i->c<l.length->0<c->(c-1)/2=i->leP (itAt l ((i-1)/2)) (itAt l c)
theorem qVj(f:Nat): ∀(l:List It) (i:Nat),i<l.length->i<f->RiseAt l i->HeapL (riseL f l i):=by
 induction f with
 | zero=>intro l i _ h;omega
 | succ f ih =>
  intro l i hl hf h
  unfold riseL
  split
  ·rename_i h0
   intro j hj hjl
   exact h.up j hj hjl (by omega)
  ·rename_i h0
   split
   ·rename_i ha
    have hle:=qKs ha
    have hp:(i-1)/2<i:=by omega
    generalize hpp:(i-1)/2=p at *
    refine ih _ p (by rw[qA3];omega) (by omega) ⟨?_,?_⟩
    ·intro j hj hjl hjp
     rw[qA3]at hjl
     rw[qDi l i p _ hl (by omega) (by omega),qDi l i p j hl (by omega) hjl]
     rw[if_neg hjp]
     by_cases hji:j=i
     ·subst hji
      rw[if_pos hpp,if_pos rfl];exact hle
     ·rw[if_neg hji]
      by_cases h1:(j-1)/2=p
      ·rw[if_pos h1]
       have:=h.up j hj hjl hji
       rw[h1]at this
       exact hle.trans this
      ·rw[if_neg h1]
       by_cases h2:(j-1)/2=i
       ·rw[if_pos h2]
        have:=h.over j (by omega) hjl hj h2
        rw[hpp]at this
        exact this
       ·rw[if_neg h2]
        exact h.up j hj hjl hji
    ·intro c hp0 hcl hc0 hcp
     rw[qA3]at hcl
     rw[qDi l i p _ hl (by omega) (by omega),qDi l i p c hl (by omega) hcl]
     rw[if_neg (show(p-1)/2≠p by omega),if_neg (show(p-1)/2≠i by omega),if_neg (show c≠p by omega)]
     have hpp':=h.up p hp0 (by omega) (by omega)
     by_cases hci:c=i
     ·rw[if_pos hci];exact hpp'
     ·rw[if_neg hci]
      have:=h.up c hc0 hcl hci
      rw[hcp]at this
      exact hpp'.trans this
   ·rename_i ha
    have hle:=qF3 (by simpa using ha)
    intro j hj hjl
    by_cases hji:j=i
    ·subst hji;exact hle
    ·exact h.up j hj hjl hji
structure SinkAt (l:List It) (i:Nat):Prop where
 up:∀j,0<j->j<l.length->(j-1)/2≠i->leP (itAt l ((j-1)/2)) (itAt l j)
 over:∀c,0<i->c<l.length->0<c->(c-1)/2=i->leP (itAt l ((i-1)/2)) (itAt l c)
theorem qQ2(l:List It)(i c:Nat)(h:qBx l i=c): 0<c/\(c-1)/2=i/\∀d,d<l.length->0<d->(d-1)/2=i->leP (itAt l c) (itAt l d):=by
 unfold qBx at h
 split at h
 ·split at h
  ·split at h
   ·rename_i h1 h2 h3
    have hc:c=2*i+2:=by omega
    subst hc
    refine⟨by omega,by omega,λd hd h0 hp=>?_⟩
    have:d=2*i+1\/d=2*i+2:=by omega
    rcases this with rfl | rfl
    ·exact qKs h3
    ·exact leP.refl _
   ·rename_i h1 h2 h3
    have hc:c=2*i+1:=by omega
    subst hc
    refine⟨by omega,by omega,λd hd h0 hp=>?_⟩
    have:d=2*i+1\/d=2*i+2:=by omega
    rcases this with rfl | rfl
    ·exact leP.refl _
    ·exact qF3 (by simpa using h3)
  ·rename_i h1 h2
   have hc:c=2*i+1:=by omega
   subst hc
   refine⟨by omega,by omega,λd hd h0 hp=>?_⟩
   have:d=2*i+1:=by omega
   subst this
   exact leP.refl _
 ·omega
theorem qSe(l:List It)(i:Nat)(h:qBx l i<0): ∀d,d<l.length->0<d->(d-1)/2≠i:=by
 intro d hd h0 hp
 unfold qBx at h
 split at h
 ·split at h
  ·split at h <;> omega
  ·omega
 ·omega
theorem qT5(f:Nat): ∀(l:List It) (i:Nat),i<l.length->l.length<=f+i->SinkAt l i->HeapL (sinkL f l i):=by
 induction f with
 | zero=>intro l i _ h;omega
 | succ f ih =>
  intro l i hl hf h
  unfold sinkL
  split
  ·rename_i h0
   intro j hj hjl
   exact h.up j hj hjl (qSe l i h0 j hjl hj)
  ·rename_i h0
   rcases qEf l i with hc | ⟨c,hc,hic,hcl⟩
   ·omega
   ·rw[hc,Int.toNat_natCast]
    obtain⟨hc0,hcp,hcm⟩:=qQ2 l i c hc
    split
    ·rename_i ha
     have hle:=qKs ha
     refine ih _ c (by rw[qA3];omega) (by rw[qA3];omega) ⟨?_,?_⟩
     ·intro j hj hjl hjp
      rw[qA3]at hjl
      rw[qDi l i c _ hl hcl (by omega),qDi l i c j hl hcl hjl,if_neg hjp]
      by_cases hjc:j=c
      ·subst hjc
       rw[if_pos hcp,if_pos rfl];exact hle
      ·rw[if_neg hjc]
       by_cases hji:j=i
       ·subst hji
        rw[if_neg (show(j-1)/2≠j by omega),if_pos rfl]
        exact h.over c hj hcl hc0 hcp
       ·rw[if_neg hji]
        by_cases h2:(j-1)/2=i
        ·rw[if_pos h2];exact hcm j hjl hj h2
        ·rw[if_neg h2];exact h.up j hj hjl h2
     ·intro d hc' hdl hd0 hdp
      rw[qA3]at hdl
      rw[qDi l i c _ hl hcl (by omega),qDi l i c d hl hcl hdl]
      rw[if_neg (show(c-1)/2≠c by omega),if_pos hcp,if_neg (show d≠c by omega),if_neg (show d≠i by omega)]
      have:=h.up d hd0 hdl (by omega)
      rw[hdp]at this
      exact this
    ·rename_i ha
     have hle:=qF3 (by simpa using ha)
     intro j hj hjl
     by_cases h2:(j-1)/2=i
     ·rw[h2];exact hle.trans (hcm j hjl hj h2)
     ·exact h.up j hj hjl h2
theorem HeapL.first{l:List It}(h:HeapL l)(j:Nat)(hj:j<l.length): leP (itAt l 0) (itAt l j):=by
 induction j using Nat.strongRecOn with
 | _ j ih =>
  by_cases h0:j=0
  ·subst h0;exact leP.refl _
  ·exact(ih ((j-1)/2) (by omega) (by omega)).trans (h j (by omega) hj)
theorem HeapL.first_mem{l:List It}(h:HeapL l){y:It}(hy:y∈l): (itAt l 0).t<=y.t:=by
 obtain⟨j,hj,rfl⟩:=List.mem_iff_getElem.1 hy
 have h1:=h.first j hj
 have h2:itAt l j=l[j]:=by unfold itAt;rw[List.getD_eq_getElem?_getD,List.getElem?_eq_getElem hj];rfl
 rw[h2]at h1
 unfold leP at h1
 omega
theorem qIn(l:List It)(j:Nat)(hj:j<l.length): itAt l j=l[j]:=by
 unfold itAt;rw[List.getD_eq_getElem?_getD,List.getElem?_eq_getElem hj];rfl
theorem qL9(l:List It)(i j:Nat)(hi:i<l.length)(hj:j<l.length): (swapL l i j).Perm l:=by
 unfold swapL
 rw[qIn l i hi,qIn l j hj]
 exact List.set_set_perm hi hj
theorem qVl(f:Nat): ∀(l:List It) (i:Nat),i<l.length->(riseL f l i).Perm l:=by
 induction f with
 | zero=>intro l i _;exact List.Perm.refl _
 | succ f ih =>
  intro l i hl
  unfold riseL
  split
  ·exact List.Perm.refl _
  ·split
   ·exact(ih _ _ (by rw[qA3];omega)).trans (qL9 l _ _ hl (by omega))
   ·exact List.Perm.refl _
theorem qVe(f:Nat): ∀(l:List It) (i:Nat),i<l.length->(sinkL f l i).Perm l:=by
 induction f with
 | zero=>intro l i _;exact List.Perm.refl _
 | succ f ih =>
  intro l i hl
  unfold sinkL
  split
  ·exact List.Perm.refl _
  ·rename_i h0
   rcases qEf l i with hc | ⟨c,hc,hic,hcl⟩
   ·omega
   ·rw[hc,Int.toNat_natCast]
    split
    ·exact(ih _ _ (by rw[qA3];omega)).trans (qL9 l _ _ hl hcl)
    ·exact List.Perm.refl _
theorem qJu(l:List It)(x:It)(h:HeapL l): HeapL (riseL (l.length+1) (l++[x]) l.length)/\(riseL (l.length+1) (l++[x]) l.length).Perm (x::l):=by
 have hat:∀j,j<l.length->itAt (l++[x]) j=itAt l j:=by
  intro j hj
  unfold itAt
  rw[List.getD_eq_getElem?_getD,List.getD_eq_getElem?_getD,List.getElem?_append_left hj]
 refine⟨qVj _ _ _ (by simp) (by omega) ⟨?_,?_⟩,(qVl _ _ _ (by simp)).trans (List.perm_append_singleton x l)⟩
 ·intro j hj hjl hne
  rw[List.length_append,List.length_singleton]at hjl
  rw[hat _ (by omega),hat j (by omega)]
  exact h j hj (by omega)
 ·intro c h0 hcl hc0 hcp
  rw[List.length_append,List.length_singleton]at hcl
  omega
theorem qGg(l:List It)(h:HeapL l)(hl:l≠[]): HeapL (takeL l)/\(itAt l 0::takeL l).Perm l:=by
 have hpos:0<l.length:=List.length_pos_iff.2 hl
 unfold takeL
 by_cases h1:l.length=1
 ·obtain⟨a,rfl⟩:=List.length_eq_one_iff.1 h1
  refine⟨?_,?_⟩
  ·intro i _ hi
   rw[show(([a].set 0 (itAt [a] ([a].length-1))).take ([a].length-1))=[] from rfl]at hi
   have:(sinkL [a].length [] 0).length=0:=rfl
   omega
  ·exact List.Perm.refl _
 ·obtain⟨a,m,rfl⟩:∃a m,l=a::m:=by cases l with | nil=>exact absurd rfl hl | cons a m=>exact⟨a,m,rfl⟩
  obtain⟨m',z,rfl⟩:∃m' z,m=m'++[z]:=by
   refine⟨m.dropLast,m.getLast (by intro e;subst e;simp at h1),?_⟩
   rw[List.dropLast_concat_getLast]
  have hz:itAt (a::(m'++[z])) ((a::(m'++[z])).length-1)=z:=by
   rw[qIn _ _ (by simp)]
   simp
  have he:((a::(m'++[z])).set 0 (itAt (a::(m'++[z])) ((a::(m'++[z])).length-1))).take ((a::(m'++[z])).length-1)=z::m':=by
   rw[hz];simp
  rw[he]
  have hat:∀j,0<j->j<(z::m').length->itAt (z::m') j=itAt (a::(m'++[z])) j:=by
   intro j h0 hj
   simp only[List.length_cons]at hj
   rw[qIn _ _ (by simpa using hj),qIn _ _ (by simp;omega)]
   obtain⟨j,rfl⟩:∃k,j=k+1:=⟨j-1,by omega⟩
   simp only[List.getElem_cons_succ]
   rw[List.getElem_append_left (by omega)]
  refine⟨qT5 _ _ 0 (by simp) (by simp) ⟨?_,?_⟩,?_⟩
  ·intro j hj hjl hne
   rw[hat _ (by omega) (by omega),hat j hj hjl]
   exact h j hj (by simp at hjl ⊢;omega)
  ·intro c h0;omega
  ·refine(List.Perm.cons _ (qVe _ _ 0 (by simp))).trans ?_
   show(a::z::m').Perm (a::(m'++[z]))
   exact List.Perm.cons a (List.perm_append_singleton z m').symm
end
section
open Go.RowKit
attribute [local go_sem ↓] qAb qAe
attribute [local go_sem] qAg qAl qAd qAc qAo qAn qAj qAk qAf qAi
structure Ser where
 id:Int
 c:Cfg
 k:Nat
 acc:Int
 rel:Int
 ref:List Int
 l:List It
 nt:Note
 last:Int
structure SB where
 s:Nat
 q:Nat
 g:Option Nat
 n:NB
def Cfg.vals(c:Cfg)(rest:List Value): List Value:=.int .i64 c.kind::.int .i64 c.lag::.int .i64 c.skew::.int .i64 c.cap::.int .i64 c.k::.int .i64 c.window::.int .i64 c.bits::.int .i64 c.rows::.int .i64 c.width::.int .i64 c.panes::.int .i64 c.size::.int .i64 c.degree::.int .i64 c.half::.int .i64 c.mark::.int .i64 c.s00::.int .i64 c.s01::.int .i64 c.s10::.int .i64 c.s11::.int .i64 c.s20::.int .i64 c.s21::rest
def qB5(b:SB)(x:Ser): List Value :=
 .int .i64 x.id::x.c.vals (fn (qBq x.k)::fn (qA0 x.k)::fn (qA2 x.k)::fn (qAq x.k)::fn (qA1 x.k)::fn (qA4 x.k)::relV x.k b.n.d::qryV x.k b.n.d::swpV x.k b.n.d::savV x.k b.n.d::lodV x.k b.n.d::.pointer (some ⟨b.q,0,none⟩)::.int .i64 x.acc::.int .i64 x.rel::x.ref.map (.int .i64 ·))
structure SRep (w:World) (b:SB) (x:Ser):Prop where
 blk:Blk w b.s (qB5 b x) 105
 que:QRep w b.q b.g x.l
 note:NRep w x.k b.n x.c x.nt
 sq:b.s≠b.q
 sg:∀g,b.g=some g->b.s≠g
 sn:∀i,qEk x.k b.n i->i≠b.s/\i≠b.q/\b.g≠some i
def SB.foot(b:SB)(k:Nat)(i:Nat): Prop:=i=b.s\/i=b.q\/b.g=some i\/qEk k b.n i
theorem SRep.keeps{M:Nat->Prop}{w w':World}{b:SB}{x:Ser}(h:SRep w b x)(hk:Keeps M w w')(hn:∀i,b.foot x.k i->¬M i): SRep w' b x :=
 ⟨h.blk.keeps hk (hn _ (.inl rfl)),h.que.keeps hk (hn _ (.inr (.inl rfl))) (λ_ hg=>hn _ (.inr (.inr (.inl hg)))),
    h.note.keeps hk (λi hi=>hn i (.inr (.inr (.inr hi)))),h.sq,h.sg,h.sn⟩
theorem SRep.still{w w':World}{b:SB}{x:Ser}(h:SRep w b x)(hk:Keeps (λ_=>False) w w'): SRep w' b x:=h.keeps hk (λ_ _ h=>h)
theorem SRep.lt{w:World}{b:SB}{x:Ser}(h:SRep w b x)(i:Nat)(hi:b.foot x.k i): i<w.heap.size:=by
 rcases hi with hi | hi | hi | hi
 ·subst hi;exact h.blk.lt
 ·subst hi;exact h.que.lt.1
 ·exact(h.que.lt.2 i hi).1
 ·exact h.note.lt i hi
structure SInv (n:Int) (x:Ser):Prop where
 valid:qA6 x.c=true
 kind:x.c.kind=x.k
 k1:1<=x.k
 k5:x.k<=5
 acc0:0<=x.acc
 accn:x.acc<=n
 rel0:0<=x.rel
 rela:x.rel+x.l.length=x.acc
 reflen:x.ref.length=12
 refn:∀v,v∈x.ref->0<=v/\v<=n
 cap:(x.l.length:Int)<=x.c.cap
 times:∀y,y∈x.l->0<=y.t/\y.t<=4611686018427387904
 note:NInv x.k x.c x.rel x.last x.nt
 heap:HeapL x.l
 last0:0<=x.last
 lastn:x.last<=4611686018427387904
 lastl:∀y,y∈x.l->x.last<=y.t
 fits:∀y,y∈x.l->qF8 x.c x.k y=0
theorem SInv.common{n:Int}{x:Ser}(h:SInv n x): 0<=x.c.lag/\x.c.lag<=100/\0<=x.c.skew/\x.c.skew<=100/\1<=x.c.cap/\x.c.cap<=8:=by
 have:=h.valid
 simp only[qA6,qEi,inB,Bool.and_eq_true,decide_eq_true_eq]at this
 omega
theorem SInv.weighs{n:Int}{x:Ser}(h:SInv n x)(h4:4<=x.k): x.c.weighs:=qE5 h.valid h.kind h4 h.k5
theorem qKh(s:Nat)(lag clock:Int)(w:World)(h:w.cell? ⟨s,2,none⟩=some (.int .i64 lag))(l0:0<=lag)(l1:lag<=100)(c0:0<=clock)(c1:clock<=4611686018427387904):
  Calls Tryz.prog 54 #[.pointer (some ⟨s,0,none⟩),.int .i64 clock] w λe w'=>e=.returned (.int .i64 (clock-lag))/\w'=w:=by
 go_enter Tryz.func54,Tryz.ntmps54
 go_wp2
 go_ret
 exact⟨rfl,rfl⟩
def qJq(x:Ser)(clock:Int)(y:It): Int :=
 if inB y.t 0 4611686018427387904 then
  if y.t<=clock-x.c.lag then 6
  else if clock+x.c.skew<y.t then 7
  else if qF8 x.c x.k y≠0 then qF8 x.c x.k y
  else if x.c.cap<=x.l.length then 11 else if 4611686018427387904<=x.acc then 11 else 0
 else 5
theorem qCj{M:Nat->Prop}{w w':World}{b o n:Nat}(hk:Keeps M w w')(hn:¬M b)(hlt:b<w.heap.size): qAp w' b o n=qAp w b o n/\qAw w' b o n=qAw w b o n:=by
 have hc:∀j,w'.cell? ⟨b,o+j,none⟩=w.cell? ⟨b,o+j,none⟩:=λj=>World.cell?_of_block (a:=⟨b,o+j,none⟩) (hk.block b hlt hn)
 constructor
 ·unfold qAp qBr;simp only[hc]
 ·unfold qAw;simp only[hc]
theorem qK2(n:Int)(b:SB)(x:Ser)(y:It)(clock:Int)(w:World)(hs:SRep w b x)(hi:SInv n x)(c0:0<=clock)(c1:clock<=4611686018427387904):
  Calls Tryz.prog 49 #[.pointer (some ⟨b.s,0,none⟩),y.val,.int .i64 clock] w λe w'=>e=.returned (.int .i64 (qJq x clock y))/\Keeps (λ_=>False) w w':=by
 obtain⟨l0,l1,s0,s1,p1,p8⟩:=hi.common
 have hlt:=hs.blk.lt
 have HS:=hide hs
 have HI:=hide hi
 have HB:=hide (show Blk (w.alloc (.cells y.cells 88)) w.heap.size [.int .i64 y.t,.int .i64 y.k,.int .i64 y.d,.int .i64 y.n] 88 from Blk.new w [_,_,_,_] 88)
 have HK:=hide ((Keeps.refl (λ_=>False) w).alloc (.cells y.cells 88))
 have HE:=hide (show qJq x clock y=if inB y.t 0 4611686018427387904 then(if y.t<=clock-x.c.lag then 6 else if clock+x.c.skew<y.t then 7 else if qF8 x.c x.k y≠0 then qF8 x.c x.k y else if x.c.cap<=x.l.length then 11 else if 4611686018427387904<=x.acc then 11 else 0) else 5 from rfl)
 clear hs hi
 unfold It.val
 cases h1:inB y.t 0 4611686018427387904
 ·go_enter Tryz.func49,Tryz.ntmps49
  go_wp2_with (go_at_call 52;refine(qG9 _ _).mono ?_;rintro e w' ⟨rfl,rfl⟩)
  go_ret
  exact⟨qBc (by rw[uh HE,h1];rfl),uh HK⟩
 ·obtain⟨t0,t1⟩:=qD0 h1
  rw[h1,if_pos rfl]at HE
  have hc2:w.cell? ⟨b.s,2,none⟩=some (.int .i64 x.c.lag):=(uh HS).blk.cell rfl
  go_enter Tryz.func49,Tryz.ntmps49
  go_wp2_with fail
  refine(qG9 _ _).mono ?_
  rintro e w' ⟨rfl,rfl⟩
  rw[h1]
  go_wp2_with fail
  go_region_held3 (λw'=>w'.cell? ⟨w.heap.size,0,none⟩=some (.int .i64 y.t)/\w'.cell? ⟨b.s,2,none⟩=some (.int .i64 x.c.lag)) (go_keep)
   (first | (go_at_call 54;refine(qKh b.s x.c.lag clock _ (by go_keep) l0 l1 c0 c1).mono ?_;rintro e w' ⟨rfl,rfl⟩))
  have HB1:=hide ((uh HB).drew)
  have HK1:=hide ((uh HK).drew)
  clear HB HK
  have e1:(w.alloc (.cells #[.int .i64 y.t,.int .i64 y.k,.int .i64 y.d,.int .i64 y.n] 88)).drew=(w.alloc (.cells y.cells 88)).drew:=rfl
  rw[e1]
  clear e1
  generalize(w.alloc (.cells y.cells 88)).drew=w1 at *
  generalize hbx:w.heap.size=bx at *
  have HS1:=hide ((uh HS).still (uh HK1))
  clear hc2 hlt hbx
  have hlt:=(uh HS1).blk.lt
  have hltx:=(uh HB1).lt
  have hb0:w1.cell? ⟨bx,0,none⟩=some (.int .i64 y.t):=(uh HB1).cell rfl
  have hb1:w1.cell? ⟨bx,1,none⟩=some (.int .i64 y.k):=(uh HB1).cell rfl
  have hb2:w1.cell? ⟨bx,2,none⟩=some (.int .i64 y.d):=(uh HB1).cell rfl
  have hb3:w1.cell? ⟨bx,3,none⟩=some (.int .i64 y.n):=(uh HB1).cell rfl
  have hc3:w1.cell? ⟨b.s,3,none⟩=some (.int .i64 x.c.skew):=(uh HS1).blk.cell rfl
  by_cases h6:y.t<=clock-x.c.lag
  ·rw[if_pos h6]at HE
   go_wp2
   go_ret
   exact⟨qBc (uh HE).symm,uh HK1⟩
  ·rw[if_neg h6]at HE
   have h6':decide (y.t<=clock-x.c.lag)=false:=by simpa using h6
   go_wp2_with fail
   go_quiet (fail)
   by_cases h7:clock+x.c.skew<y.t
   ·rw[if_pos h7]at HE
    go_wp2
    go_ret
    exact⟨qBc (uh HE).symm,(uh HK1).then (Keeps.drewN _ _ _)⟩
   ·rw[if_neg h7]at HE
    have h7':decide (clock+x.c.skew<y.t)=false:=by simpa using h7
    go_wp2_with fail
    have hkd:Keeps (λ_=>False) w1 (w1.drewN nq):=Keeps.drewN (λ_=>False) w1 nq
    have HS2:=hide ((uh HS1).still hkd)
    have HB2:=hide ((uh HB1).keeps hkd (λh=>h))
    have HK2:=hide ((uh HK1).then hkd)
    clear hkd
    generalize w1.drewN nq=w2 at *
    clear HS1 HB1 HK1 hb0 hb1 hb2 hb3 hc3 hlt hltx h6 h6' h7 h7'
    have hlt:=(uh HS2).blk.lt
    have hltx:=(uh HB2).lt
    have hb0:w2.cell? ⟨bx,0,none⟩=some (.int .i64 y.t):=(uh HB2).cell rfl
    have hb1:w2.cell? ⟨bx,1,none⟩=some (.int .i64 y.k):=(uh HB2).cell rfl
    have hb2:w2.cell? ⟨bx,2,none⟩=some (.int .i64 y.d):=(uh HB2).cell rfl
    have hb3:w2.cell? ⟨bx,3,none⟩=some (.int .i64 y.n):=(uh HB2).cell rfl
    have hc22:w2.cell? ⟨b.s,24,none⟩=some (.func (.func (qAq x.k)) #[] #[]):=(uh HS2).blk.cell rfl
    obtain⟨hv,hh⟩:=qBl (uh HS2).blk 1 20 x.c.cells rfl rfl
    have hown:=qUz x.k (uh HI).k1 (uh HI).k5
    go_region_held3 (λw'=>w'.cell? ⟨b.s,24,none⟩=some (.func (.func (qAq x.k)) #[] #[])/\qAp w' b.s 1 20=.agg x.c.cells.toArray/\qAw w' b.s 1 20=true /\
        w'.cell? ⟨bx,0,none⟩=some (.int .i64 y.t)/\w'.cell? ⟨bx,1,none⟩=some (.int .i64 y.k)/\w'.cell? ⟨bx,2,none⟩=some (.int .i64 y.d)/\w'.cell? ⟨bx,3,none⟩=some (.int .i64 y.n))
     (first | (simp[*,qAd,qAc];done) | (go_split_ands;refine⟨hk.cell (by assumption) (λh=>h),(qCj hk (λh=>h) (by simpa using hlt)).1.trans (by assumption),(qCj hk (λh=>h) (by simpa using hlt)).2.trans (by assumption),hk.cell (by assumption) (λh=>h),hk.cell (by assumption) (λh=>h),hk.cell (by assumption) (λh=>h),hk.cell (by assumption) (λh=>h)⟩))
     (first | (refine(qVs x.c x.k y _ (uh HI).k1 (uh HI).k5 (uh HI).weighs t0 t1).mono ?_;rintro e w' ⟨rfl,hk⟩))
    have hk3:Keeps (λ_=>False) w2 w':=((Keeps.refl (λ_=>False) w2).drew).then hk
    have HS3:=hide ((uh HS2).still hk3)
    have HK3:=hide ((uh HK2).then hk3)
    clear hk hk3 HS2 HB2 HK2 hb0 hb1 hb2 hb3 hc22 hv hh hown hlt hltx
    have hlt:=(uh HS3).blk.lt
    generalize he:qF8 x.c x.k y=e at *
    by_cases h8:e=0
    ·have h8':(e !=0)=false:=by simp[h8]
     rw[if_neg (by simpa using h8)]at HE
     have HN8:=hide h8
     clear h8
     have hc26:w'.cell? ⟨b.s,32,none⟩=some (.pointer (some ⟨b.q,0,none⟩)):=(uh HS3).blk.cell rfl
     have hc4:w'.cell? ⟨b.s,4,none⟩=some (.int .i64 x.c.cap):=(uh HS3).blk.cell rfl
     have hc33:w'.cell? ⟨b.s,33,none⟩=some (.int .i64 x.acc):=(uh HS3).blk.cell rfl
     by_cases h9:x.c.cap<=(x.l.length:Int)
     ·rw[if_pos h9]at HE
      have h9':decide (x.c.cap<=(x.l.length:Int))=true:=by simpa using h9
      go_wp2_with fail
      go_quiet (first | (go_at_call 78;refine Calls.quiet_of_same (len_any b.q b.g x.l _ (by exact(uh HS3).que.keeps (Keeps.drewN (λ_=>False) _ _) (λh=>h) (λ_ _ h=>h)))))
      go_wp2
      go_ret
      exact⟨qBc (uh HE).symm,(uh HK3).then (Keeps.drewN _ _ _)⟩
     ·rw[if_neg h9]at HE
      have h9':decide (x.c.cap<=(x.l.length:Int))=false:=by simpa using h9
      by_cases h10:4611686018427387904<=x.acc
      ·rw[if_pos h10]at HE
       have h10':decide (4611686018427387904<=x.acc)=true:=by simpa using h10
       go_wp2_with fail
       go_quiet (first | (go_at_call 78;refine Calls.quiet_of_same (len_any b.q b.g x.l _ (by exact(uh HS3).que.keeps (Keeps.drewN (λ_=>False) _ _) (λh=>h) (λ_ _ h=>h)))))
       go_wp2
       go_ret
       exact⟨qBc (uh HE).symm,(uh HK3).then (Keeps.drewN _ _ _)⟩
      ·rw[if_neg h10]at HE
       have h10':decide (4611686018427387904<=x.acc)=false:=by simpa using h10
       go_wp2_with fail
       go_quiet (first | (go_at_call 78;refine Calls.quiet_of_same (len_any b.q b.g x.l _ (by exact(uh HS3).que.keeps (Keeps.drewN (λ_=>False) _ _) (λh=>h) (λ_ _ h=>h)))))
       go_wp2
       go_ret
       exact⟨qBc (uh HE).symm,(uh HK3).then (Keeps.drewN _ _ _)⟩
    ·have h8':(e !=0)=true:=by simp[h8]
     rw[if_pos (by simpa using h8)]at HE
     have HN8:=hide h8
     clear h8
     go_wp2
     go_ret
     exact⟨qBc (uh HE).symm,uh HK3⟩
def numbered(y:It)(n:Int): It:=⟨y.t,y.k,y.d,n⟩
def qMw(x:Ser)(y:It): Ser:={ x with acc:=x.acc+1,l:=riseL (x.l.length+1) (x.l++[numbered y (x.acc+1)]) x.l.length }
def SB.next(b b':SB)(k size:Nat): Prop:=b'.s=b.s/\∀i,b'.foot k i->b.foot k i\/size<=i
theorem qUg(n:Int)(b:SB)(x:Ser)(y:It)(w:World)(hs:SRep w b x)(hi:SInv n x)(hn:n<=4611686018427387904):
  Calls Tryz.prog 51 #[.pointer (some ⟨b.s,0,none⟩),y.val] w λe w'=>e=.returned (.int .i64 (x.acc+1))/\∃b',SRep w' b' (qMw x y)/\b.next b' x.k w.heap.size/\Keeps (b.foot x.k) w w':=by
 obtain⟨l0,l1,s0,s1,p1,p8⟩:=hi.common
 have hlt:=hs.blk.lt
 have hcap:=hi.cap
 have ha0:=hi.acc0
 have han:=hi.accn
 have hlq:=hs.que.lt
 have hc27:w.cell? ⟨b.s,33,none⟩=some (.int .i64 x.acc):=hs.blk.cell rfl
 have hf:=hs.blk.frozen
 have HS:=hide hs
 clear hs hi
 have hwr:IntKind.i64.wrap (x.acc+1)=x.acc+1:=qOo (by omega) (by omega)
 unfold It.val
 go_enter Tryz.func51,Tryz.ntmps51
 go_wp2_with fail
 have hk1:Keeps (λi=>i=b.s) w ((w.setCell ⟨b.s,33,none⟩ (.int .i64 (x.acc+1))).alloc (.cells #[.int .i64 y.t,.int .i64 y.k,.int .i64 y.d,.int .i64 (x.acc+1)] 88)) :=
  ((Keeps.refl (λi=>i=b.s) w).setCell (p:=⟨b.s,33,none⟩) (Or.inl rfl) _).alloc _
 have HB1:=hide (show Blk ((w.setCell ⟨b.s,33,none⟩ (.int .i64 (x.acc+1))).alloc (.cells #[.int .i64 y.t,.int .i64 y.k,.int .i64 y.d,.int .i64 (x.acc+1)] 88)) b.s (qB5 b { x with acc:=x.acc+1 }) 105 from((uh HS).blk.setCell 33 (.int .i64 (x.acc+1))).alloc _)
 have HX1:=hide (show Blk ((w.setCell ⟨b.s,33,none⟩ (.int .i64 (x.acc+1))).alloc (.cells #[.int .i64 y.t,.int .i64 y.k,.int .i64 y.d,.int .i64 (x.acc+1)] 88)) w.heap.size [.int .i64 y.t,.int .i64 y.k,.int .i64 y.d,.int .i64 (x.acc+1)] 88 from Blk.newAt (by simp) [_,_,_,_] 88)
 have HQ1:=hide ((uh HS).que.keeps hk1 (λh=>(uh HS).sq h.symm) (λg hg h=>(uh HS).sg g hg h.symm))
 have HD1:=hide (show NRep _ x.k b.n x.c x.nt from(uh HS).note.keeps hk1 (λi hi h=>((uh HS).sn i hi).1 h))
 have HK1:=hide hk1
 clear hk1 hc27 hf
 generalize((w.setCell ⟨b.s,33,none⟩ (.int .i64 (x.acc+1))).alloc (.cells #[.int .i64 y.t,.int .i64 y.k,.int .i64 y.d,.int .i64 (x.acc+1)] 88))=w1 at *
 have hsz:w.heap.size<=w1.heap.size:=(uh HK1).size
 generalize hbx:w.heap.size=bx at *
 have HBX:=hide hbx
 clear hbx
 have hlt1:=(uh HB1).lt
 have hltx:=(uh HX1).lt
 have hc26:w1.cell? ⟨b.s,32,none⟩=some (.pointer (some ⟨b.q,0,none⟩)):=(uh HB1).cell rfl
 have hx0:w1.cell? ⟨bx,0,none⟩=some (.int .i64 y.t):=(uh HX1).cell rfl
 have hx1:w1.cell? ⟨bx,1,none⟩=some (.int .i64 y.k):=(uh HX1).cell rfl
 have hx2:w1.cell? ⟨bx,2,none⟩=some (.int .i64 y.d):=(uh HX1).cell rfl
 have hx3:w1.cell? ⟨bx,3,none⟩=some (.int .i64 (x.acc+1)):=(uh HX1).cell rfl
 have HNS:=hide (show ¬(b.s=b.q\/b.g=some b.s) from λh=>h.elim (uh HS).sq (λh=>(uh HS).sg b.s h rfl))
 have HNX:=hide (show ¬(bx=b.q\/b.g=some bx) from λh=>h.elim (λh=>by omega) (λh=>by have:=(hlq.2 bx h).1;omega))
 have hl9:x.l.length<=900:=by omega
 go_region_held3 (λw'=>w'.cell? ⟨b.s,32,none⟩=some (.pointer (some ⟨b.q,0,none⟩))/\w'.cell? ⟨bx,0,none⟩=some (.int .i64 y.t)/\w'.cell? ⟨bx,1,none⟩=some (.int .i64 y.k)/\w'.cell? ⟨bx,2,none⟩=some (.int .i64 y.d)/\w'.cell? ⟨bx,3,none⟩=some (.int .i64 (x.acc+1)))
  (first | (simp[*];done) | (go_split_ands;exact⟨hk.cell (by assumption) (uh HNS),hk.cell (by assumption) (uh HNX),hk.cell (by assumption) (uh HNX),hk.cell (by assumption) (uh HNX),hk.cell (by assumption) (uh HNX)⟩))
  (first | (go_at_call 79;refine(put_any b.q b.g x.l (numbered y (x.acc+1)) _ (by exact(uh HQ1).keeps ((Keeps.refl (λ_=>False) w1).drew) (λh=>h) (λ_ _ h=>h)) hl9).mono ?_;rintro e w' ⟨rfl,og,hq,hk,hog⟩))
 have HF:=hide (show w'.cell? ⟨bx,3,none⟩=some (.int .i64 (x.acc+1)) from((((uh HX1).drew).keeps hk (uh HNX)).cell rfl))
 have hx3':=uh HF
 have HK:=hide hk
 have HQ:=hide hq
 have HOG:=hide hog
 clear hk hq hog hx0 hx1 hx2 hx3 hc26
 go_wp2
 go_ret
 have hkd:Keeps (λk=>k=b.q\/b.g=some k) w1 w':=((Keeps.refl (λk=>k=b.q\/b.g=some k) w1).drew).then (uh HK)
 refine⟨rfl,⟨b.s,b.q,og,b.n⟩,⟨(uh HB1).keeps hkd (uh HNS),uh HQ,(uh HD1).keeps hkd (λi hi h=>?_),(uh HS).sq,?_,λi hi=>⟨((uh HS).sn i hi).1,((uh HS).sn i hi).2.1,?_⟩⟩,⟨rfl,?_⟩,?_⟩
 ·rcases h with h | h
  ·exact((uh HS).sn i hi).2.1 h
  ·exact((uh HS).sn i hi).2.2 h
 ·intro g hg
  rcases uh HOG with h | ⟨k,h,hz⟩
  ·exact(uh HS).sg g (h.symm.trans hg)
  ·have hgk:g=k:=by have:=h.symm.trans hg;simpa using this.symm
   show b.s≠g
   rw[World.size_drew]at hz
   omega
 ·intro hg
  rcases uh HOG with h | ⟨k,h,hz⟩
  ·exact((uh HS).sn i hi).2.2 (h.symm.trans hg)
  ·have hgk:i=k:=by have:=h.symm.trans hg;simpa using this.symm
   have:=(uh HD1).lt i hi
   rw[World.size_drew]at hz
   omega
 ·intro i hi
  rcases hi with hi | hi | hi | hi
  ·exact .inl (.inl hi)
  ·exact .inl (.inr (.inl hi))
  ·rcases uh HOG with h | ⟨k,h,hz⟩
   ·exact .inl (.inr (.inr (.inl (h.symm.trans hi))))
   ·have hgk:i=k:=by have:=h.symm.trans hi;simpa using this.symm
    rw[World.size_drew]at hz
    exact .inr (by have:=uh HBX;omega)
  ·exact .inl (.inr (.inr (.inr hi)))
 ·refine((uh HK1).mono (M':=b.foot x.k) (λi _ h=>.inl h)).trans hkd (λi hi _=>?_)
  rcases hi with hi | hi
  ·exact .inr (.inl hi)
  ·exact .inr (.inr (.inl hi))
end
section
open Go.RowKit
theorem swapL_all{P:It->Prop}(h0:P ⟨0,0,0,0⟩){l:List It}(h:∀y,y∈l->P y)(i j:Nat): ∀y,y∈swapL l i j->P y:=by
 have hat:∀i,P (itAt l i):=by
  intro i
  unfold itAt
  rw[List.getD_eq_getElem?_getD]
  cases hi:l[i]? with
  | none=>exact h0
  | some v=>exact h v (List.mem_of_getElem? hi)
 intro y hy
 unfold swapL at hy
 rcases List.mem_or_eq_of_mem_set hy with hy | hy
 ·rcases List.mem_or_eq_of_mem_set hy with hy | hy
  ·exact h y hy
  ·subst hy;exact hat j
 ·subst hy;exact hat i
theorem riseL_all{P:It->Prop}(h0:P ⟨0,0,0,0⟩)(f:Nat)(l:List It)(i:Nat)(h:∀y,y∈l->P y): ∀y,y∈riseL f l i->P y:=by
 induction f generalizing l i with
 | zero=>exact h
 | succ f ih =>
  unfold riseL
  split
  ·exact h
  ·split
   ·exact ih _ _ (swapL_all h0 h _ _)
   ·exact h
theorem sinkL_all{P:It->Prop}(h0:P ⟨0,0,0,0⟩)(f:Nat)(l:List It)(i:Nat)(h:∀y,y∈l->P y): ∀y,y∈sinkL f l i->P y:=by
 induction f generalizing l i with
 | zero=>exact h
 | succ f ih =>
  unfold sinkL
  split
  ·exact h
  ·split
   ·exact ih _ _ (swapL_all h0 h _ _)
   ·exact h
theorem itAt_all{P:It->Prop}(h0:P ⟨0,0,0,0⟩){l:List It}(h:∀y,y∈l->P y)(i:Nat): P (itAt l i):=by
 unfold itAt
 rw[List.getD_eq_getElem?_getD]
 cases hi:l[i]? with
 | none=>exact h0
 | some v=>exact h v (List.mem_of_getElem? hi)
theorem takeL_all{P:It->Prop}(h0:P ⟨0,0,0,0⟩)(l:List It)(h:∀y,y∈l->P y): ∀y,y∈takeL l->P y:=by
 unfold takeL
 refine sinkL_all h0 _ _ _ (λy hy=>?_)
 have hy:=List.mem_of_mem_take hy
 rcases List.mem_or_eq_of_mem_set hy with hy | hy
 ·exact h y hy
 ·subst hy;exact itAt_all h0 h _
theorem takeL_length(l:List It): (takeL l).length=l.length-1:=by
 unfold takeL
 rw[qC2];simp
def qDs(x:Ser)(m:Int): Ser:={ x with l:=takeL x.l,rel:=x.rel+1,nt:=qV2 x.k x.c x.nt (itAt x.l 0) m,last:=(itAt x.l 0).t }
def qF7: Nat->Ser->Int->Ser
 | 0,x,_=>x
 | f+1,x,m=>if x.l.isEmpty then x else if m<(itAt x.l 0).t then x else qF7 f (qDs x m) m
theorem qOt{l:List It}(h:l≠[]): itAt l 0∈l:=by
 cases l with
 | nil=>exact absurd rfl h
 | cons a l=>exact List.mem_cons_self ..
theorem qIk{l:List It}(hh:HeapL l)(hl:l≠[]){y:It}(hy:y∈takeL l): y∈l:=(qGg l hh hl).2.subset (List.mem_cons_of_mem _ hy)
theorem qIu{n:Int}{x:Ser}(h:SInv n x)(hl:x.l≠[])(m:Int)(hm:¬m<(itAt x.l 0).t): SInv n (qDs x m):=by
 have hlen:0<x.l.length:=List.length_pos_iff.2 hl
 have hra:=h.rela
 have hcap:=h.cap
 have hrel:=h.rel0
 have ht:(takeL x.l).length=x.l.length-1:=takeL_length _
 have hmem:=qOt hl
 have htm:=h.times _ hmem
 refine⟨h.valid,h.kind,h.k1,h.k5,h.acc0,h.accn,?_,?_,h.reflen,h.refn,?_,λy hy=>h.times y (qIk h.heap hl hy),?_,(qGg _ h.heap hl).1,htm.1,htm.2,λy hy=>h.heap.first_mem (qIk h.heap hl hy),λy hy=>h.fits y (qIk h.heap hl hy)⟩
 ·show 0<=x.rel+1;omega
 ·show x.rel+1+((takeL x.l).length:Int)=x.acc;omega
 ·show((takeL x.l).length:Int)<=x.c.cap;omega
 ·exact qZ5 h.note h.valid h.kind _ _ (h.lastl _ hmem) (by omega)
theorem qKd{c:Cfg}{k:Nat}{y:It}(h:qF8 c k y=0)(hk:k=2\/k=3): 0<=y.k/\y.k<=2147483648:=by
 have h2:qWu y=0:=by
  rcases hk with hk | hk <;> subst hk <;> exact h
 unfold qWu at h2
 split at h2
 ·rename_i h3;exact qD0 h3
 ·omega
theorem qLy(c:Cfg)(k:Nat)(y:It)(n:Int): qF8 c k (numbered y n)=qF8 c k y:=by
 unfold qF8 numbered
 split <;> rfl
theorem qY7{n:Int}{x:Ser}(h:SInv n x)(y:It)(t0:0<=y.t)(t1:y.t<=4611686018427387904)(hc:(x.l.length:Int)<x.c.cap)(ha:x.acc<n)(hlast:x.last<=y.t)(hk:qF8 x.c x.k y=0): SInv n (qMw x y):=by
 have h0:=h.acc0;have hr:=h.rela
 have hlen:(riseL (x.l.length+1) (x.l++[numbered y (x.acc+1)]) x.l.length).length=x.l.length+1:=by rw[riseL_length];simp
 have hp:=qJu x.l (numbered y (x.acc+1)) h.heap
 have hall:∀ {P:It->Prop},(∀z,z∈x.l->P z)->P (numbered y (x.acc+1))->∀z,z∈(qMw x y).l->P z:=λh1 h2 z hz=>by
  rcases List.mem_cons.1 (hp.2.subset hz) with e | e
  ·rw[e];exact h2
  ·exact h1 z e
 refine⟨h.valid,h.kind,h.k1,h.k5,?_,?_,h.rel0,?_,h.reflen,h.refn,?_,hall h.times ⟨t0,t1⟩,h.note,hp.1,h.last0,h.lastn,hall h.lastl hlast,hall h.fits ((qLy _ _ _ _).trans hk)⟩
 ·show 0<=x.acc+1;omega
 ·show x.acc+1<=n;omega
 ·show x.rel+((riseL (x.l.length+1) (x.l++[numbered y (x.acc+1)]) x.l.length).length:Int)=x.acc+1;omega
 ·show((riseL (x.l.length+1) (x.l++[numbered y (x.acc+1)]) x.l.length).length:Int)<=x.c.cap;omega
end
end Go.Proofs.YtahnliehdjncdabGreatDoor
