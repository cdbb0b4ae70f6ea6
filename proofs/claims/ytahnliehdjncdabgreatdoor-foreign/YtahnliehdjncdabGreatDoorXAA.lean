import Derived.Test.YtahnliehdjncdabGreatDoorRows
import Derived.WalkKit
import Derived.WalkLawsBesides
import Derived.WalkSpells
import Derived.BigQuiet
import Derived.Deep.MidRow
import Derived.BigRegion
import Derived.Deep.AppendLies
import Derived.Deep.QuietTactic
import Derived.Deep.RegionHeld3
import Derived.Deep.RegionLaw
import Derived.Laws.EntriesVeiled
set_option maxRecDepth 100000
set_option maxHeartbeats 16000000
namespace Go.Proofs.YtahnliehdjncdabGreatDoor
section
open Go.RowKit
def inB(n lo hi:Int): Bool:=decide (lo<=n)&&decide (n<=hi)
theorem qBe{a b:Bool}(h:a=b): Ending.returned (.bool a)=.returned (.bool b):=by rw[h]
theorem qBa{k:IntKind}{a b:Int}(h:a=b): Ending.returned (.int k a)=.returned (.int k b):=by rw[h]
theorem qAg(n lo hi:Int)(w:World):
  Calls Tryz.prog 45 #[.int .i64 n,.int .i64 lo,.int .i64 hi] w λe w'=>e=.returned (.bool (inB n lo hi))/\w'=w:=by
 by_cases h:lo<=n
 ·go_enter Tryz.func45,Tryz.ntmps45
  go_wp2
  go_ret
  exact⟨by simp[inB,h],rfl⟩
 ·have hd:decide (lo<=n)=false:=by simpa using h
  have HI:Hid (false=inB n lo hi):=by simp[Hid,inB,h]
  go_enter Tryz.func45,Tryz.ntmps45
  go_wp2
  go_ret
  exact⟨qBe HI.out,rfl⟩
theorem qFs(n:Int)(w:World):
  Calls Tryz.prog 52 #[.int .i64 n] w λe w'=>e=.returned (.bool (inB n 0 4611686018427387904))/\w'=w:=by
 go_enter Tryz.func52,Tryz.ntmps52
 go_wp2_with (go_at_call 45;refine(qAg _ _ _ _).mono ?_;rintro e w' ⟨rfl,rfl⟩)
 go_ret
 exact⟨rfl,rfl⟩
structure It where
 t:Int
 k:Int
 d:Int
 n:Int
def It.cells(x:It): Array Value:=#[.int .i64 x.t,.int .i64 x.k,.int .i64 x.d,.int .i64 x.n]
def It.val(x:It): Value:=.agg #[.int .i64 x.t,.int .i64 x.k,.int .i64 x.d,.int .i64 x.n]
def qCj(a b:It): Bool:=if a.t=b.t then decide (a.n<b.n) else decide (a.t<b.t)
theorem qGa(a b:It)(w:World):
  Calls Tryz.prog 77 #[a.val,b.val] w λe w'=>e=.returned (.bool (qCj a b))/\w'=(w.alloc (.cells a.cells 88)).alloc (.cells b.cells 88):=by
 unfold It.val It.cells
 by_cases h:a.t=b.t
 ·have H1:Hid (decide (a.n<b.n)=qCj a b):=by simp[Hid,qCj,h]
  have hb:(a.t !=b.t)=false:=by simp[h]
  clear h;go_enter Tryz.func77,Tryz.ntmps77
  go_wp2
  go_ret
  exact⟨qBe H1.out,rfl⟩
 ·have H1:Hid (decide (a.t<b.t)=qCj a b):=by simp[Hid,qCj,h]
  have hb:(a.t !=b.t)=true:=by simp[h]
  clear h;go_enter Tryz.func77,Tryz.ntmps77
  go_wp2
  go_ret
  exact⟨qBe H1.out,rfl⟩
def qGy(base:Int): Nat->Int->Option Int
 | 0,p=>some p
 | n+1,p=>if 2305843009213693952/base<p then none else qGy base n (p*base)
def qCb: Option Int->Int | some x=>x | none=>0
def qHq(o:Option Int): Value:=.tuple #[.int .i64 (qCb o),.bool o.isSome]
theorem qZ5(p b:Int)(hp:1<=p)(hb:1<=b)(h:¬2305843009213693952/b<p): 1<=p*b/\p*b<=2305843009213693952:=by
 constructor
 ·have:=Int.mul_le_mul hp hb (by omega) (by omega);simpa using this
 ·have h1:p<=2305843009213693952/b:=by omega
  exact(Int.le_ediv_iff_mul_le (by omega)).1 h1
theorem qZ8(b:Int)(n:Nat)(w:World)(hb:1<=b)(hb':b<=4611686018427387905)(hn:n<=3):
  Calls Tryz.prog 211 #[.int .i64 b,.int .i64 n] w λe w'=>e=.returned (qHq (qGy b n 1))/\w'=w:=by
 go_enter Tryz.func211,Tryz.ntmps211
 go_wp2
 go_loop [6,8] (λp i=>∃k:Nat,∃q:Int,k<=n/\i=.int .i64 k/\p=.int .i64 q/\1<=q/\q<=2305843009213693952/\qGy b n 1=qGy b (n-k) q) (λ_ i=>n-(intOf i).toNat)
 case atStart=>exact⟨0,1,Nat.zero_le _,rfl,rfl,by omega,by omega,rfl⟩
 case round =>
  obtain⟨k,q,hk,rfl,rfl,hq1,hq2,he⟩:=hrel;have HE:Hid (qGy b n 1=qGy b (n-k) q):=he;clear he
  by_cases hlt:k<n
  ·obtain⟨m,hm⟩:∃m,n-k=m+1:=⟨n-k-1,by omega⟩
   have HM:Hid (n-k=m+1):=hm;clear hm
   by_cases hc:2305843009213693952/b<q
   ·go_wp2
    go_ret2
    refine⟨?_,rfl⟩;rw[HE.out,HM.out];simp[qGy,hc,qHq,qCb]
   ·have hmo:=qZ5 q b hq1 hb hc
    obtain⟨hm1,hm2⟩:=hmo;go_wp2
    go_round
    case rel=>exact⟨k+1,q*b,by omega,by go_num,by go_num,hm1,hm2,by rw[HE.out,HM.out];rw[show n-(k+1)=m from by have:=HM.out;omega];simp[qGy,hc]⟩
    case measure=>simp[intOf];omega
  ·go_wp2
   go_ret2
   refine⟨?_,rfl⟩;rw[HE.out,show n-k=0 from by omega];simp[qGy,qHq,qCb]
structure Keeps (M:Nat->Prop) (w w':World):Prop where
 os:w'.os=w.os
 tape:w'.tape=w.tape
 output:w'.output=w.output
 size:w.heap.size<=w'.heap.size
 block:∀k,k<w.heap.size->¬M k->w'.heap[k]?=w.heap[k]?
theorem Keeps.refl(M:Nat->Prop)(w:World): Keeps M w w:=⟨rfl,rfl,rfl,Nat.le_refl _,λ_ _ _=>rfl⟩
theorem Keeps.trans{M M':Nat->Prop}{a b c:World}(h:Keeps M a b)(k:Keeps M' b c)(hm:∀i,M' i->i<a.heap.size->M i): Keeps M a c :=
 ⟨k.os.trans h.os,k.tape.trans h.tape,k.output.trans h.output,Nat.le_trans h.size k.size,
    λi hi hn=>(k.block i (Nat.lt_of_lt_of_le hi h.size) (λhM=>hn (hm i hM hi))).trans (h.block i hi hn)⟩
theorem Keeps.then{M:Nat->Prop}{a b c:World}(h:Keeps M a b)(k:Keeps M b c): Keeps M a c:=h.trans k (λ_ hM _=>hM)
theorem Keeps.mono{M M':Nat->Prop}{a b:World}(h:Keeps M a b)(hm:∀i,i<a.heap.size->M i->M' i): Keeps M' a b :=
 ⟨h.os,h.tape,h.output,h.size,λi hi hn=>h.block i hi (λhM=>hn (hm i hi hM))⟩
theorem Keeps.drew{M:Nat->Prop}{a w:World}(h:Keeps M a w): Keeps M a w.drew:=⟨h.os,h.tape,h.output,h.size,h.block⟩
theorem Keeps.drewN(M:Nat->Prop)(w:World)(n:Nat): Keeps M w (w.drewN n):=⟨rfl,rfl,rfl,Nat.le_refl _,λ_ _ _=>rfl⟩
theorem Keeps.alloc{M:Nat->Prop}{a w:World}(h:Keeps M a w)(o:Obj): Keeps M a (w.alloc o) :=
 h.trans (M':=λ_=>False) ⟨rfl,rfl,rfl,by simp,λk hk _=>Below.heap_alloc _ _ _ hk⟩ (λ_ hf _=>hf.elim)
theorem Keeps.setCell{M:Nat->Prop}{a w:World}(h:Keeps M a w){p:Addr}(hp:M p.block\/a.heap.size<=p.block)(v:Value): Keeps M a (w.setCell p v) :=
 h.trans (M':=λk=>k=p.block) ⟨rfl,rfl,rfl,by simp,λk _ hk=>Below.heap_setCell _ _ _ _ hk⟩ (λi hi hlt=>by subst hi;rcases hp with hp | hp;exact hp;omega)
theorem Keeps.grown{M:Nat->Prop}{a w w':World}{row:Option Nat}(h:Keeps M a w)(hg:w.grownBy w' row)(hr:∀k,row=some k->M k\/a.heap.size<=k): Keeps M a w' :=
 h.trans (M':=λk=>row=some k) ⟨hg.os,hg.tape,hg.output,hg.size,λk hk hn=>hg.block k hk (λe=>hn e.symm)⟩
  (λi hi hlt=>by rcases hr i hi with h | h;exact h;omega)
theorem Keeps.cell{M:Nat->Prop}{w w':World}(h:Keeps M w w'){p:Addr}{v:Value}(hc:w.cell? p=some v)(hn:¬M p.block): w'.cell? p=some v :=
 (World.cell?_of_block (h.block p.block (World.block_lt_of_cell? w p hc) hn)).trans hc
theorem Keeps.frozen{M:Nat->Prop}{w w':World}(h:Keeps M w w'){p:Addr}(hlt:p.block<w.heap.size)(hn:¬M p.block): w'.frozen? p=w.frozen? p :=
 World.frozen?_of_block (h.block p.block hlt hn)
def Blk(w:World)(b:Nat)(cs:List Value)(T:TypeId): Prop:=w.heap[b]?=some (.cells cs.toArray T (0,0))
theorem Blk.lt{w:World}{b:Nat}{cs:List Value}{T:TypeId}(h:Blk w b cs T): b<w.heap.size:=(Array.getElem?_eq_some_iff.1 h).1
theorem Blk.cell{w:World}{b:Nat}{cs:List Value}{T:TypeId}(h:Blk w b cs T){i:Nat}{v:Value}(hi:cs[i]?=some v): w.cell? ⟨b,i,none⟩=some v:=by
 unfold Blk at h;simp[World.cell?,h,hi]
theorem Blk.frozen{w:World}{b:Nat}{cs:List Value}{T:TypeId}(h:Blk w b cs T)(i:Nat): w.frozen? ⟨b,i,none⟩=false:=by
 unfold Blk at h;simp[World.frozen?,h]
theorem Blk.keeps{M:Nat->Prop}{w w':World}{b:Nat}{cs:List Value}{T:TypeId}(h:Blk w b cs T)(k:Keeps M w w')(hn:¬M b): Blk w' b cs T:=by
 unfold Blk at h ⊢;rw[k.block b (Blk.lt h) hn];exact h
theorem Blk.setCell{w:World}{b:Nat}{cs:List Value}{T:TypeId}(h:Blk w b cs T)(i:Nat)(v:Value): Blk (w.setCell ⟨b,i,none⟩ v) b (cs.set i v) T:=by
 unfold Blk at h ⊢;simp[World.setCell,Array.getElem?_modify,h]
theorem Blk.setCell_far{w:World}{b:Nat}{cs:List Value}{T:TypeId}(h:Blk w b cs T){p:Addr}(hp:p.block≠b)(v:Value): Blk (w.setCell p v) b cs T:=by
 unfold Blk at h ⊢;rw[Below.heap_setCell _ _ _ _ (Ne.symm hp)];exact h
theorem Blk.drew{w:World}{b:Nat}{cs:List Value}{T:TypeId}(h:Blk w b cs T): Blk w.drew b cs T:=h
theorem Blk.alloc{w:World}{b:Nat}{cs:List Value}{T:TypeId}(h:Blk w b cs T)(o:Obj): Blk (w.alloc o) b cs T:=by
 unfold Blk at h ⊢;rw[Below.heap_alloc _ _ _ (Blk.lt h)];exact h
theorem Blk.new(w:World)(cs:List Value)(T:TypeId): Blk (w.alloc (.cells cs.toArray T)) w.heap.size cs T:=heap_alloc_new w _
def itAt(l:List It)(i:Nat): It:=l.getD i ⟨0,0,0,0⟩
def flat: List It->List Value
 | []=>[]
 | x::l=>.int .i64 x.t::.int .i64 x.k::.int .i64 x.d::.int .i64 x.n::flat l
theorem qD6(l:List It): (flat l).length=l.length*4:=by
 induction l with
 | nil=>rfl
 | cons x l ih=>simp[flat,ih];omega
theorem qFf(a b:List It): flat (a++b)=flat a++flat b:=by
 induction a with
 | nil=>rfl
 | cons x l ih=>simp[flat,ih]
theorem flat_get(l:List It)(i:Nat)(h:i<l.length): (flat l)[i*4]?=some (.int .i64 (itAt l i).t)/\(flat l)[i*4+1]?=some (.int .i64 (itAt l i).k)/\(flat l)[i*4+2]?=some (.int .i64 (itAt l i).d)/\(flat l)[i*4+3]?=some (.int .i64 (itAt l i).n):=by
 induction l generalizing i with
 | nil=>simp at h
 | cons x l ih =>
  cases i with
  | zero=>simp[flat,itAt]
  | succ i =>
   have:=ih i (by simpa using h);rw[show(i+1)*4=i*4+4 by omega];simpa[flat,itAt] using this
theorem qQh(l:List It)(i:Nat)(x:It): flat (l.set i x)=((((flat l).set (i*4) (.int .i64 x.t)).set (i*4+1) (.int .i64 x.k)).set (i*4+2) (.int .i64 x.d)).set (i*4+3) (.int .i64 x.n):=by
 induction l generalizing i with
 | nil=>simp[flat]
 | cons y l ih =>
  cases i with
  | zero=>simp[flat]
  | succ i=>rw[show(i+1)*4=i*4+4 by omega];simp[flat,ih]
structure IRow (w:World) (g cap:Nat) (l:List It):Prop where
 ex:∃cur:List Value,Blk w g cur 88/\cur.length=cap*4/\cur.take (l.length*4)=flat l
 le:l.length<=cap
 max:cap<=maxLen
theorem IRow.lt{w:World}{g cap:Nat}{l:List It}(h:IRow w g cap l): g<w.heap.size:=by obtain⟨cur,hb,_⟩:=h.ex;exact hb.lt
theorem IRow.frozen{w:World}{g cap:Nat}{l:List It}(h:IRow w g cap l)(o:Nat): w.frozen? ⟨g,o,none⟩=false:=by obtain⟨cur,hb,_⟩:=h.ex;exact hb.frozen o
theorem IRow.cells{w:World}{g cap:Nat}{l:List It}(h:IRow w g cap l)(i:Nat)(hi:i<l.length):
  w.cell? ⟨g,i*4,none⟩=some (.int .i64 (itAt l i).t)/\w.cell? ⟨g,i*4+1,none⟩=some (.int .i64 (itAt l i).k)/\w.cell? ⟨g,i*4+2,none⟩=some (.int .i64 (itAt l i).d)/\w.cell? ⟨g,i*4+3,none⟩=some (.int .i64 (itAt l i).n):=by
 obtain⟨cur,hb,hl,ht⟩:=h.ex;have hg:∀k,k<l.length*4->cur[k]?=(flat l)[k]?:=λk hk=>by rw[<-ht,List.getElem?_take,if_pos hk]
 obtain⟨a,b,c,d⟩:=flat_get l i hi;exact⟨hb.cell (by rw[hg _ (by omega)];exact a),hb.cell (by rw[hg _ (by omega)];exact b),hb.cell (by rw[hg _ (by omega)];exact c),hb.cell (by rw[hg _ (by omega)];exact d)⟩
theorem IRow.keeps{M:Nat->Prop}{w w':World}{g cap:Nat}{l:List It}(h:IRow w g cap l)(k:Keeps M w w')(hn:¬M g): IRow w' g cap l:=by
 obtain⟨cur,hb,r⟩:=h.ex;exact⟨⟨cur,hb.keeps k hn,r⟩,h.le,h.max⟩
theorem IRow.drew{w:World}{g cap:Nat}{l:List It}(h:IRow w g cap l): IRow w.drew g cap l:=by
 obtain⟨cur,hb,r⟩:=h.ex;exact⟨⟨cur,hb.drew,r⟩,h.le,h.max⟩
def putIt(w:World)(g i:Nat)(x:It): World :=
 (((w.setCell ⟨g,i*4,none⟩ (.int .i64 x.t)).setCell ⟨g,i*4+1,none⟩ (.int .i64 x.k)).setCell ⟨g,i*4+2,none⟩ (.int .i64 x.d)).setCell ⟨g,i*4+3,none⟩ (.int .i64 x.n)
theorem IRow.put{w:World}{g cap:Nat}{l:List It}(h:IRow w g cap l)(i:Nat)(x:It): IRow (putIt w g i x) g cap (l.set i x):=by
 obtain⟨cur,hb,hl,ht⟩:=h.ex;refine⟨⟨_,(((hb.setCell _ _).setCell _ _).setCell _ _).setCell _ _,by simp[hl],?_⟩,by simpa using h.le,h.max⟩;rw[qQh,<-ht,List.length_set];simp only[List.take_set]
theorem Keeps.putIt{M:Nat->Prop}{a w:World}(h:Keeps M a w){g:Nat}(hp:M g\/a.heap.size<=g)(i:Nat)(x:It): Keeps M a (putIt w g i x) :=
 (((h.setCell hp _).setCell hp _).setCell hp _).setCell hp _
theorem hide{p:Prop}(h:p): Hid p:=h
theorem uh{p:Prop}(h:Hid p): p:=h
structure Cfg where
 kind:Int
 lag:Int
 skew:Int
 cap:Int
 k:Int
 window:Int
 bits:Int
 rows:Int
 width:Int
 panes:Int
 size:Int
 degree:Int
 half:Int
 mark:Int
 s00:Int
 s01:Int
 s10:Int
 s11:Int
 s20:Int
 s21:Int
def Cfg.cells(c:Cfg): List Value:=[.int .i64 c.kind,.int .i64 c.lag,.int .i64 c.skew,.int .i64 c.cap,.int .i64 c.k,.int .i64 c.window,.int .i64 c.bits,.int .i64 c.rows,.int .i64 c.width,.int .i64 c.panes,.int .i64 c.size,.int .i64 c.degree,.int .i64 c.half,.int .i64 c.mark,.int .i64 c.s00,.int .i64 c.s01,.int .i64 c.s10,.int .i64 c.s11,.int .i64 c.s20,.int .i64 c.s21]
def Cfg.val(c:Cfg): Value:=.agg #[.int .i64 c.kind,.int .i64 c.lag,.int .i64 c.skew,.int .i64 c.cap,.int .i64 c.k,.int .i64 c.window,.int .i64 c.bits,.int .i64 c.rows,.int .i64 c.width,.int .i64 c.panes,.int .i64 c.size,.int .i64 c.degree,.int .i64 c.half,.int .i64 c.mark,.int .i64 c.s00,.int .i64 c.s01,.int .i64 c.s10,.int .i64 c.s11,.int .i64 c.s20,.int .i64 c.s21]
theorem qJ6(n:Nat)(h:n<=61): (1:Int)<=2 ^ n/\(2:Int) ^ n<=2305843009213693952:=by
 have e:(2:Int) ^ n=((2 ^ n:Nat):Int):=by simp
 have h1:1<=2 ^ n:=Nat.one_le_two_pow;have h2:2 ^ n<=2 ^ 61:=Nat.pow_le_pow_right (by omega) h;have h3:(2:Nat) ^ 61=2305843009213693952:=by decide
 rw[e];omega
theorem qVw(n:Int)(w:World)(h0:0<=n)(h:n<=4611686018427387904):
  Calls Tryz.prog 212 #[.int .i64 n] w λe w'=>e=.returned (qHq (if 61<n then none else some (2 ^ n.toNat)))/\w'=w:=by
 by_cases hc:61<n
 ·rw[if_pos hc]
  go_enter Tryz.func212,Tryz.ntmps212
  go_wp2
  go_ret2
  exact⟨rfl,rfl⟩
 ·rw[if_neg hc]
  go_enter Tryz.func212,Tryz.ntmps212
  go_wp2
  go_ret2
  refine⟨?_,rfl⟩;have h2:=qJ6 n.toNat (by omega);show Ending.returned (.tuple #[.int .i64 (wrap64 (2 ^ n.toNat)),.bool true])=_;rw[show wrap64 (2 ^ n.toNat)=2 ^ n.toNat by unfold wrap64;omega];rfl
theorem zCg(b d:Int)(w:World)(hb:1<=b)(hb':b<=4611686018427387905)(d0:0<=d)(d3:d<=3):
  Calls Tryz.prog 211 #[.int .i64 b,.int .i64 d] w λe w'=>e=.returned (qHq (qGy b d.toNat 1))/\w'=w:=by
 obtain⟨n,rfl⟩:=Int.eq_ofNat_of_zero_le d0;rw[Int.toNat_natCast];exact qZ8 b n w hb hb' (by omega)
def qBg(c:Cfg)(t:Int): Option Int :=
 if t<c.mark then none
 else if c.half=0 then qGy (t-c.mark+1) c.degree.toNat 1
 else if 61<(t-c.mark)/c.half then none else some (2 ^ ((t-c.mark)/c.half).toNat)
structure Cfg.weighs (c:Cfg):Prop where
 d0:0<=c.degree
 d1:c.degree<=3
 h0:0<=c.half
 h1:c.half<=100
 m0:0<=c.mark
 m1:c.mark<=4611686018427387904
theorem zB7(c:Cfg)(t:Int)(w:World)(hc:c.weighs)(t0:-100<=t)(t1:t<=4611686018427387904):
  Calls Tryz.prog 163 #[c.val,.int .i64 t] w λe w'=>e=.returned (qHq (qBg c t))/\w'=w.alloc (.cells c.cells.toArray 32):=by
 obtain⟨d0,d1,h0,h1,m0,m1⟩:=hc;unfold Cfg.val Cfg.cells
 by_cases hm:t<c.mark
 ·have HW:=hide (show qBg c t=none by unfold qBg;rw[if_pos hm])
  go_enter Tryz.func163,Tryz.ntmps163
  go_wp2
  go_ret2
  exact⟨by rw[uh HW];rfl,rfl⟩
 ·by_cases hh:c.half=0
  ·have HW:=hide (show qBg c t=qGy (t-c.mark+1) c.degree.toNat 1 by unfold qBg;rw[if_neg hm,if_pos hh])
   have hhb:(c.half==0)=true:=by simp[hh]
   clear hh;go_enter Tryz.func163,Tryz.ntmps163
   go_wp2_with fail
   refine(zCg (t-c.mark+1) c.degree _ (by omega) (by omega) d0 d1).mono ?_;rintro e w' ⟨rfl,rfl⟩;unfold qHq;go_wp2
   go_ret2
   exact⟨by rw[uh HW];rfl,rfl⟩
  ·have HW:=hide (show qBg c t=if 61<(t-c.mark)/c.half then none else some (2 ^ ((t-c.mark)/c.half).toNat) by unfold qBg;rw[if_neg hm,if_neg hh])
   have hhb:(c.half==0)=false:=by simp[hh]
   have hh1:1<=c.half:=by omega
   have hq0:0<=(t-c.mark)/c.half:=Int.ediv_nonneg (by omega) (by omega);have hq1:(t-c.mark)/c.half<=4611686018427387904:=by
    have:=Int.ediv_le_self c.half (show 0<=t-c.mark by omega);omega
   clear hh;go_enter Tryz.func163,Tryz.ntmps163
   go_wp2_with fail
   refine(qVw ((t-c.mark)/c.half) _ hq0 hq1).mono ?_;rintro e w' ⟨rfl,rfl⟩;rw[<-uh HW];unfold qHq;go_wp2
   go_ret2
   exact⟨rfl,rfl⟩
theorem Blk.newAt{w:World}{b:Nat}(hs:w.heap.size=b)(cs:List Value)(T:TypeId): Blk (w.alloc (.cells cs.toArray T)) b cs T:=by subst hs;exact Blk.new w cs T
def qE0(ty:TypeId)(v:Value): Sem Next:=do pure (.value (<-Instr.loadAt ty v))
theorem qAd(ρ:Operand->Value)(dst:Option Tmp)(x:Operand)(ty:TypeId)(pos:String)(after:Array Edge)(guard:Option (Nat×Bool)):
  execOp ρ { dst,op:=.load 32 x,type:=ty,pos,after,guard }=qE0 32 (ρ x):=rfl
theorem qAe(ρ:Operand->Value)(dst:Option Tmp)(x:Operand)(ty:TypeId)(pos:String)(after:Array Edge)(guard:Option (Nat×Bool)):
  execOp ρ { dst,op:=.load 34 x,type:=ty,pos,after,guard }=qE0 34 (ρ x):=rfl
def qB0(w:World)(b o n:Nat): List Value:=(List.range n).map λj=>(w.cell? ⟨b,o+j,none⟩).getD undef
def qAu(w:World)(b o n:Nat): Value:=.agg (qB0 w b o n).toArray
def qA2(w:World)(b o n:Nat): Bool:=(List.range n).all λj=>(w.cell? ⟨b,o+j,none⟩).isSome
theorem qFt{w:World}{b o n:Nat}(h:qA2 w b o n=true): w.rangeAt b o (qB0 w b o n):=by
 intro j v hv;have hj:j<n:=by have:=(List.getElem?_eq_some_iff.1 hv).1;simpa[qB0] using this
 have hs:(w.cell? ⟨b,o+j,none⟩).isSome=true:=by simp only[qA2,List.all_eq_true]at h;exact h j (by simpa using hj)
 obtain⟨u,hu⟩:=Option.isSome_iff_exists.1 hs;simp[qB0,hj,hu]at hv;rw[hu,hv]
theorem qOk: (Tryz.prog.info? 32).map (·.size)=some 20:=by kernel_rfl
theorem zFd: (Tryz.prog.info? 34).map (·.size)=some 26:=by kernel_rfl
theorem qAf(w:World)(b o:Nat)(h:qA2 w b o 20=true): (qE0 32 (.pointer (some ⟨b,o,none⟩))).run Tryz.prog w=.ok (.value (qAu w b o 20)) w:=by
 unfold qE0;rw[Sem.run_bind,run_loadAt_mid w b o 32 (qB0 w b o 20) _ (qFt h) Tryz.underlying32 rfl (by rw[qOk];simp[qB0])];rfl
theorem qAl(w:World)(b o:Nat)(h:qA2 w b o 26=true): (qE0 34 (.pointer (some ⟨b,o,none⟩))).run Tryz.prog w=.ok (.value (qAu w b o 26)) w:=by
 unfold qE0;rw[Sem.run_bind,run_loadAt_mid w b o 34 (qB0 w b o 26) _ (qFt h) Tryz.underlying34 rfl (by rw[zFd];simp[qB0])];rfl
theorem qAq{w:World}{b o:Nat}{cs:List Value}(h:w.rangeAt b o cs): qB0 w b o cs.length=cs/\qA2 w b o cs.length=true:=by
 constructor
 ·apply List.ext_getElem?
  intro j
  by_cases hj:j<cs.length
  ·have:=h j cs[j] (List.getElem?_eq_getElem hj)
   simp[qB0,hj,this]
  ·simp[qB0,hj]
 ·simp only[qA2,List.all_eq_true,List.mem_range]
  intro j hj;rw[h j cs[j] (List.getElem?_eq_getElem hj)];rfl
theorem qAc(w:World)(b o n:Nat): qAu w.drew b o n=qAu w b o n:=rfl
theorem qAb(w:World)(b o n:Nat): qA2 w.drew b o n=qA2 w b o n:=rfl
theorem qAj{w:World}{b o n:Nat}(h:qA2 w b o n=true)(O:Obj): qA2 (w.alloc O) b o n=true:=by
 simp only[qA2,List.all_eq_true]at h ⊢;intro j hj;obtain⟨u,hu⟩:=Option.isSome_iff_exists.1 (h j hj);rw[World.cell?_alloc_lt _ _ _ (World.block_lt_of_cell? w _ hu)];exact h j hj
theorem qAi{w:World}{b o n:Nat}(h:qA2 w b o n=true)(O:Obj): qAu (w.alloc O) b o n=qAu w b o n:=by
 have hc:qB0 (w.alloc O) b o n=qB0 w b o n:=by
  unfold qB0;apply List.map_congr_left;intro j hj;simp only[qA2,List.all_eq_true]at h;obtain⟨u,hu⟩:=Option.isSome_iff_exists.1 (h j hj);rw[World.cell?_alloc_lt _ _ _ (World.block_lt_of_cell? w _ hu)]
 unfold qAu;rw[hc]
theorem qRf(w:World)(l:List Value)(T:TypeId): (w.alloc (.cells l.toArray T)).rangeAt w.heap.size 0 l:=by
 intro j v hv;rw[Nat.zero_add,World.cell?_alloc_new];simpa using hv
theorem qDq(w:World)(l:List Value)(T:TypeId)(n:Nat)(h:l.length=n): qA2 (w.alloc (.cells l.toArray T)) w.heap.size 0 n=true:=by
 subst h;exact(qAq (qRf w l T)).2
theorem qAh(w:World)(l:List Value)(T:TypeId)(n:Nat)(h:l.length=n): qAu (w.alloc (.cells l.toArray T)) w.heap.size 0 n=.agg l.toArray:=by
 subst h;unfold qAu;rw[(qAq (qRf w l T)).1]
theorem qAk(w:World)(l:List Value)(T:TypeId)(n:Nat): qA2 (w.alloc (.cells l.toArray T)) w.heap.size 0 n=decide (n<=l.length):=by
 rw[Bool.eq_iff_iff];simp only[qA2,List.all_eq_true,List.mem_range,decide_eq_true_eq,Nat.zero_add,World.cell?_alloc_new]
 constructor
 ·intro h
  rcases Nat.lt_or_ge l.length n with hl | hl
  ·have:=h l.length hl
   simp at this
  ·exact hl
 ·intro h j hj
  have hj':j<l.length:=by omega
  simp[hj']
theorem qAn{w:World}{b o n:Nat}(h:b≠w.heap.size)(O:Obj): qA2 (w.alloc O) b o n=qA2 w b o n:=by
 unfold qA2
 congr 1;funext j
 rw[World.cell?_alloc_old _ _ _ h]
theorem qAm{w:World}{b o n:Nat}(h:b≠w.heap.size)(O:Obj): qAu (w.alloc O) b o n=qAu w b o n:=by
 unfold qAu qB0
 congr 2
 apply List.map_congr_left;intro j _;rw[World.cell?_alloc_old _ _ _ h]
theorem qBl{w:World}{b:Nat}{l:List Value}{T:TypeId}(h:Blk w b l T)(n:Nat)(hn:l.length=n): qAu w b 0 n=.agg l.toArray/\qA2 w b 0 n=true:=by
 have hr:=qAq (w:=w) (b:=b) (o:=0) (cs:=l) (λj v hv=>by rw[Nat.zero_add];exact h.cell hv);subst hn;exact⟨by unfold qAu;rw[hr.1],hr.2⟩
theorem qBh{w:World}{b:Nat}{l:List Value}{T:TypeId}(h:Blk w b l T)(o n:Nat)(cs:List Value)(hcs:(l.drop o).take n=cs)(hn:cs.length=n): qAu w b o n=.agg cs.toArray/\qA2 w b o n=true:=by
 have hr:=qAq (w:=w) (b:=b) (o:=o) (cs:=cs) (λj v hv=>by
    rw[<-hcs,List.getElem?_take]at hv
    split at hv
    ·exact h.cell (by simpa using hv)
    ·cases hv)
 subst hn;exact⟨by unfold qAu;rw[hr.1],hr.2⟩
theorem qOb(w:World)(l:List Value)(T:TypeId)(o n:Nat): (w.alloc (.cells l.toArray T)).rangeAt w.heap.size o ((l.drop o).take n):=by
 intro j v hv;rw[World.cell?_alloc_new];rw[List.getElem?_take]at hv
 split at hv
 ·simpa using hv
 ·cases hv
theorem qT4(w:World)(l:List Value)(T:TypeId)(o n:Nat)(h:o+n<=l.length): qA2 (w.alloc (.cells l.toArray T)) w.heap.size o n=true:=by
 have:=(qAq (qOb w l T o n)).2
 rwa [show((l.drop o).take n).length=n by simp;omega]at this
theorem qUj(w:World)(l:List Value)(T:TypeId)(o n:Nat)(h:o+n<=l.length): qAu (w.alloc (.cells l.toArray T)) w.heap.size o n=.agg ((l.drop o).take n).toArray:=by
 have:=(qAq (qOb w l T o n)).1;rw[show((l.drop o).take n).length=n by simp;omega]at this;unfold qAu;rw[this]
end
section
open Go.RowKit
attribute [local go_sem ↓] qAd qAe
attribute [local go_sem] qAf qAl qAc qAb qAm qAn qAh qAk
def qDm(c:Cfg): Bool:=inB c.lag 0 100&&(inB c.skew 0 100&&inB c.cap 1 8)
def qD4(c:Cfg): Bool:=inB c.window 1 1000
def countB(c:Cfg): Bool:=inB c.k 1 10&&qD4 c
def qT7(a b:Int): Bool:=inB a 1 2305843009213693950&&inB b 0 2305843009213693950
def Cfg.seed(c:Cfg): Nat->Bool
 | 0=>qT7 c.s00 c.s01
 | 1=>qT7 c.s10 c.s11
 | _=>qT7 c.s20 c.s21
def qGd(c:Cfg): Nat->Nat->Bool
 | 0,_=>true
 | f+1,i=>c.seed i&&qGd c f (i+1)
def qIi(c:Cfg)(n:Nat): Bool:=qGd c n 0
def qG7(c:Cfg): Bool:=inB c.bits 1 4&&(qD4 c&&qIi c 1)
def qIo(c:Cfg): Bool:=inB c.rows 1 3&&(inB c.width 1 16&&(inB c.panes 1 8&&(qD4 c&&((c.window%c.panes==0)&&qIi c c.rows.toNat))))
def qIm(c:Cfg): Bool:=inB c.degree 0 3&&(inB c.half 0 100&&inB c.mark 0 4611686018427387904)
def qKy(c:Cfg): Bool:=inB c.size 1 5&&qIm c
theorem qKl(c:Cfg)(w:World): Calls Tryz.prog 75 #[c.val] w λe w'=>e=.returned (.bool (qDm c))/\Keeps (λ_=>False) w w':=by
 have HC:=hide (show qDm c=(inB c.lag 0 100&&(inB c.skew 0 100&&inB c.cap 1 8)) from rfl);unfold Cfg.val;cases h1:inB c.lag 0 100
 ·go_enter Tryz.func75,Tryz.ntmps75
  go_wp2_with (go_at_call 45;refine(qAg _ _ _ _).mono ?_;rintro e w' ⟨rfl,rfl⟩)
  go_ret
  exact⟨qBe (by rw[uh HC,h1];rfl),(Keeps.refl _ _).alloc _⟩
 ·cases h2:inB c.skew 0 100
  ·go_enter Tryz.func75,Tryz.ntmps75
   go_wp2_with (go_at_call 45;refine(qAg _ _ _ _).mono ?_;rintro e w' ⟨rfl,rfl⟩)
   go_ret
   exact⟨qBe (by rw[uh HC,h1,h2];rfl),(Keeps.refl _ _).alloc _⟩
  ·go_enter Tryz.func75,Tryz.ntmps75
   go_wp2_with (go_at_call 45;refine(qAg _ _ _ _).mono ?_;rintro e w' ⟨rfl,rfl⟩)
   go_ret
   exact⟨qBe (by rw[uh HC,h1,h2];rfl),(Keeps.refl _ _).alloc _⟩
theorem qGe(c:Cfg)(w:World): Calls Tryz.prog 143 #[c.val] w λe w'=>e=.returned (.bool (qD4 c))/\Keeps (λ_=>False) w w':=by
 have HC:=hide (show qD4 c=inB c.window 1 1000 from rfl);unfold Cfg.val;go_enter Tryz.func143,Tryz.ntmps143
 go_wp2_with (go_at_call 45;refine(qAg _ _ _ _).mono ?_;rintro e w' ⟨rfl,rfl⟩)
 go_ret
 exact⟨qBe (uh HC).symm,(Keeps.refl _ _).alloc _⟩
theorem qJv(c:Cfg)(w:World): Calls Tryz.prog 118 #[c.val] w λe w'=>e=.returned (.bool (qIm c))/\Keeps (λ_=>False) w w':=by
 have HC:=hide (show qIm c=(inB c.degree 0 3&&(inB c.half 0 100&&inB c.mark 0 4611686018427387904)) from rfl);unfold Cfg.val;cases h1:inB c.degree 0 3
 ·go_enter Tryz.func118,Tryz.ntmps118
  go_wp2_with (go_at_call 45;refine(qAg _ _ _ _).mono ?_;rintro e w' ⟨rfl,rfl⟩)
  go_ret
  exact⟨qBe (by rw[uh HC,h1];rfl),(Keeps.refl _ _).alloc _⟩
 ·cases h2:inB c.half 0 100
  all_goals
   go_enter Tryz.func118,Tryz.ntmps118
   go_wp2_with (first | (go_at_call 45;refine(qAg _ _ _ _).mono ?_;rintro e w' ⟨rfl,rfl⟩) | (go_at_call 52;refine(qFs _ _).mono ?_;rintro e w' ⟨rfl,rfl⟩))
   go_ret
   exact⟨qBe (by rw[uh HC,h1,h2];rfl),(Keeps.refl _ _).alloc _⟩
theorem qQt(c:Cfg)(w:World): Calls Tryz.prog 102 #[c.val] w λe w'=>e=.returned (.bool (countB c))/\Keeps (λ_=>False) w w':=by
 have HC:=hide (show countB c=(inB c.k 1 10&&qD4 c) from rfl);unfold Cfg.val;cases h1:inB c.k 1 10
 ·go_enter Tryz.func102,Tryz.ntmps102
  go_wp2_with (go_at_call 45;refine(qAg _ _ _ _).mono ?_;rintro e w' ⟨rfl,rfl⟩)
  go_ret
  exact⟨qBe (by rw[uh HC,h1];rfl),(Keeps.refl _ _).alloc _⟩
 ·go_enter Tryz.func102,Tryz.ntmps102
  go_wp2_with (first | (go_at_call 45;refine(qAg _ _ _ _).mono ?_;rintro e w' ⟨rfl,rfl⟩) | (go_at_call 143;refine(qGe c _).mono ?_;rintro e w' ⟨rfl,hk⟩))
  go_ret
  exact⟨qBe (by rw[uh HC,h1];rfl),((Keeps.refl _ _).alloc _).then hk⟩
theorem qQb(c:Cfg)(w:World): Calls Tryz.prog 122 #[c.val] w λe w'=>e=.returned (.bool (qKy c))/\Keeps (λ_=>False) w w':=by
 have HC:=hide (show qKy c=(inB c.size 1 5&&qIm c) from rfl);unfold Cfg.val;cases h1:inB c.size 1 5
 ·go_enter Tryz.func122,Tryz.ntmps122
  go_wp2_with (go_at_call 45;refine(qAg _ _ _ _).mono ?_;rintro e w' ⟨rfl,rfl⟩)
  go_ret
  exact⟨qBe (by rw[uh HC,h1];rfl),(Keeps.refl _ _).alloc _⟩
 ·go_enter Tryz.func122,Tryz.ntmps122
  go_wp2_with (first | (go_at_call 45;refine(qAg _ _ _ _).mono ?_;rintro e w' ⟨rfl,rfl⟩) | (go_at_call 118;refine(qJv c _).mono ?_;rintro e w' ⟨rfl,hk⟩))
  go_ret
  exact⟨qBe (by rw[uh HC,h1];rfl),((Keeps.refl _ _).alloc _).then hk⟩
def Cfg.seeds(c:Cfg): Value:=.agg #[.int .i64 c.s00,.int .i64 c.s01,.int .i64 c.s10,.int .i64 c.s11,.int .i64 c.s20,.int .i64 c.s21]
theorem qK6(c:Cfg)(n:Int)(w:World)(h0:0<=n)(h3:n<=3): Calls Tryz.prog 150 #[c.seeds,.int .i64 n] w λe w'=>e=.returned (.bool (qIi c n.toNat))/\Keeps (λ_=>False) w w':=by
 obtain⟨m,rfl⟩:=Int.eq_ofNat_of_zero_le h0;rw[Int.toNat_natCast];have hm3:m<=3:=by omega
 unfold Cfg.seeds;go_enter Tryz.func150,Tryz.ntmps150
 go_wp2
 go_loop [7] (λi=>∃k:Nat,k<=m/\i=.int .i64 k/\Hid (qIi c m=qGd c (m-k) k)) (λi=>m-(intOf i).toNat)
 case atStart=>exact⟨0,Nat.zero_le _,rfl,rfl⟩
 case round =>
  obtain⟨k,hk,rfl,HE⟩:=hrel
  by_cases hlt:k<m
  ·have HE':=hide (show qIi c m=(c.seed k&&qGd c (m-(k+1)) (k+1)) by rw[uh HE,show m-k=(m-(k+1))+1 by omega];rfl)
   clear HE;have hk3:k=0\/k=1\/k=2:=by omega
   have hlt':(k:Int)<(m:Int):=by omega
   rcases hk3 with hk3 | hk3 | hk3
   all_goals
    subst hk3;simp only[Cfg.seed,qT7]at HE'
   ·cases h1:inB c.s00 1 2305843009213693950
    ·go_wp2_with (go_at_call 45;refine(qAg _ _ _ _).mono ?_;rintro e w' ⟨rfl,rfl⟩)
     go_ret
     exact⟨qBe (by rw[uh HE',h1];rfl),(Keeps.refl _ _).alloc _⟩
    ·cases h2:inB c.s01 0 2305843009213693950
     ·go_wp2_with (go_at_call 45;refine(qAg _ _ _ _).mono ?_;rintro e w' ⟨rfl,rfl⟩)
      go_ret
      exact⟨qBe (by rw[uh HE',h1,h2];rfl),(Keeps.refl _ _).alloc _⟩
     ·go_wp2_with (go_at_call 45;refine(qAg _ _ _ _).mono ?_;rintro e w' ⟨rfl,rfl⟩)
      go_round
      case rel=>exact⟨1,by omega,rfl,by rw[h1,h2]at HE';exact HE'⟩
      case measure=>simp[intOf];omega
   ·cases h1:inB c.s10 1 2305843009213693950
    ·go_wp2_with (go_at_call 45;refine(qAg _ _ _ _).mono ?_;rintro e w' ⟨rfl,rfl⟩)
     go_ret
     exact⟨qBe (by rw[uh HE',h1];rfl),(Keeps.refl _ _).alloc _⟩
    ·cases h2:inB c.s11 0 2305843009213693950
     ·go_wp2_with (go_at_call 45;refine(qAg _ _ _ _).mono ?_;rintro e w' ⟨rfl,rfl⟩)
      go_ret
      exact⟨qBe (by rw[uh HE',h1,h2];rfl),(Keeps.refl _ _).alloc _⟩
     ·go_wp2_with (go_at_call 45;refine(qAg _ _ _ _).mono ?_;rintro e w' ⟨rfl,rfl⟩)
      go_round
      case rel=>exact⟨2,by omega,rfl,by rw[h1,h2]at HE';exact HE'⟩
      case measure=>simp[intOf];omega
   ·cases h1:inB c.s20 1 2305843009213693950
    ·go_wp2_with (go_at_call 45;refine(qAg _ _ _ _).mono ?_;rintro e w' ⟨rfl,rfl⟩)
     go_ret
     exact⟨qBe (by rw[uh HE',h1];rfl),(Keeps.refl _ _).alloc _⟩
    ·cases h2:inB c.s21 0 2305843009213693950
     ·go_wp2_with (go_at_call 45;refine(qAg _ _ _ _).mono ?_;rintro e w' ⟨rfl,rfl⟩)
      go_ret
      exact⟨qBe (by rw[uh HE',h1,h2];rfl),(Keeps.refl _ _).alloc _⟩
     ·go_wp2_with (go_at_call 45;refine(qAg _ _ _ _).mono ?_;rintro e w' ⟨rfl,rfl⟩)
      go_round
      case rel=>exact⟨3,by omega,rfl,by rw[h1,h2]at HE';exact HE'⟩
      case measure=>simp[intOf];omega
  ·go_wp2
   go_ret
   exact⟨qBe (by rw[uh HE,show m-k=0 by omega];rfl),(Keeps.refl _ _).alloc _⟩
theorem qCq{n lo hi:Int}(h:inB n lo hi=true): lo<=n/\n<=hi:=by simpa[inB] using h
theorem qLl(c:Cfg)(w:World): Calls Tryz.prog 108 #[c.val] w λe w'=>e=.returned (.bool (qG7 c))/\Keeps (λ_=>False) w w':=by
 have HC:=hide (show qG7 c=(inB c.bits 1 4&&(qD4 c&&qIi c 1)) from rfl);unfold Cfg.val;cases h1:inB c.bits 1 4
 ·go_enter Tryz.func108,Tryz.ntmps108
  go_wp2_with (go_at_call 45;refine(qAg _ _ _ _).mono ?_;rintro e w' ⟨rfl,rfl⟩)
  go_ret
  exact⟨qBe (by rw[uh HC,h1];rfl),(Keeps.refl _ _).alloc _⟩
 ·cases h2:qD4 c
  ·go_enter Tryz.func108,Tryz.ntmps108
   go_wp2_with (first | (go_at_call 45;refine(qAg _ _ _ _).mono ?_;rintro e w' ⟨rfl,rfl⟩) | (go_at_call 143;refine(qGe c _).mono ?_;rintro e w' ⟨rfl,hk⟩))
   go_ret
   exact⟨qBe (by rw[uh HC,h1,h2];rfl),((Keeps.refl _ _).alloc _).then hk⟩
  ·go_enter Tryz.func108,Tryz.ntmps108
   go_wp2_with fail
   refine(qAg _ _ _ _).mono ?_;rintro e w' ⟨rfl,rfl⟩;go_wp2_with fail
   refine(qGe c _).mono ?_;rintro e w1 ⟨rfl,hk⟩;have hB:Blk w1 w.heap.size c.cells 32:=(Blk.new w c.cells 32).keeps hk (λh=>h);have HK:=hide (((Keeps.refl _ _).alloc _).then hk);have c14:w1.cell? ⟨w.heap.size,14,none⟩=some (.int .i64 c.s00):=hB.cell rfl;have c15:w1.cell? ⟨w.heap.size,15,none⟩=some (.int .i64 c.s01):=hB.cell rfl;have c16:w1.cell? ⟨w.heap.size,16,none⟩=some (.int .i64 c.s10):=hB.cell rfl;have c17:w1.cell? ⟨w.heap.size,17,none⟩=some (.int .i64 c.s11):=hB.cell rfl;have c18:w1.cell? ⟨w.heap.size,18,none⟩=some (.int .i64 c.s20):=hB.cell rfl;have c19:w1.cell? ⟨w.heap.size,19,none⟩=some (.int .i64 c.s21):=hB.cell rfl;clear hk hB;go_wp2_with fail
   refine(qK6 c 1 _ (by omega) (by omega)).mono ?_;rintro e w2 ⟨rfl,hk2⟩;go_wp2
   go_ret
   exact⟨qBe (by rw[uh HC,h1,h2];rfl),(uh HK).then hk2⟩
theorem qP0(c:Cfg)(w:World): Calls Tryz.prog 114 #[c.val] w λe w'=>e=.returned (.bool (qIo c))/\Keeps (λ_=>False) w w':=by
 have HC:=hide (show qIo c=(inB c.rows 1 3&&(inB c.width 1 16&&(inB c.panes 1 8&&(qD4 c&&((c.window%c.panes==0)&&qIi c c.rows.toNat))))) from rfl);unfold Cfg.val;cases h1:inB c.rows 1 3
 ·go_enter Tryz.func114,Tryz.ntmps114
  go_wp2_with (go_at_call 45;refine(qAg _ _ _ _).mono ?_;rintro e w' ⟨rfl,rfl⟩)
  go_ret
  exact⟨qBe (by rw[uh HC,h1];rfl),(Keeps.refl _ _).alloc _⟩
 ·cases h2:inB c.width 1 16
  ·go_enter Tryz.func114,Tryz.ntmps114
   go_wp2_with (go_at_call 45;refine(qAg _ _ _ _).mono ?_;rintro e w' ⟨rfl,rfl⟩)
   go_ret
   exact⟨qBe (by rw[uh HC,h1,h2];rfl),(Keeps.refl _ _).alloc _⟩
  ·cases h3:inB c.panes 1 8
   ·go_enter Tryz.func114,Tryz.ntmps114
    go_wp2_with (go_at_call 45;refine(qAg _ _ _ _).mono ?_;rintro e w' ⟨rfl,rfl⟩)
    go_ret
    exact⟨qBe (by rw[uh HC,h1,h2,h3];rfl),(Keeps.refl _ _).alloc _⟩
   ·cases h4:qD4 c
    ·go_enter Tryz.func114,Tryz.ntmps114
     go_wp2_with (first | (go_at_call 45;refine(qAg _ _ _ _).mono ?_;rintro e w' ⟨rfl,rfl⟩) | (go_at_call 143;refine(qGe c _).mono ?_;rintro e w' ⟨rfl,hk⟩))
     go_ret
     exact⟨qBe (by rw[uh HC,h1,h2,h3,h4];rfl),((Keeps.refl _ _).alloc _).then hk⟩
    ·obtain⟨p1,p8⟩:=qCq h3
     obtain⟨q1,q8⟩:=qCq h4;obtain⟨r1,r3⟩:=qCq h1;cases h5:(c.window%c.panes==0)
     all_goals
      go_enter Tryz.func114,Tryz.ntmps114
      go_wp2_with (first | (go_at_call 45;refine(qAg _ _ _ _).mono ?_;rintro e w' ⟨rfl,rfl⟩))
      refine(qGe c _).mono ?_;rintro e w1 ⟨rfl,hk⟩;have hB:Blk w1 w.heap.size c.cells 32:=(Blk.new w c.cells 32).keeps hk (λh=>h);have HK:=hide (((Keeps.refl _ _).alloc _).then hk);have c5:w1.cell? ⟨w.heap.size,5,none⟩=some (.int .i64 c.window):=hB.cell rfl;have c7:w1.cell? ⟨w.heap.size,7,none⟩=some (.int .i64 c.rows):=hB.cell rfl;have c9:w1.cell? ⟨w.heap.size,9,none⟩=some (.int .i64 c.panes):=hB.cell rfl;have c14:w1.cell? ⟨w.heap.size,14,none⟩=some (.int .i64 c.s00):=hB.cell rfl;have c15:w1.cell? ⟨w.heap.size,15,none⟩=some (.int .i64 c.s01):=hB.cell rfl;have c16:w1.cell? ⟨w.heap.size,16,none⟩=some (.int .i64 c.s10):=hB.cell rfl;have c17:w1.cell? ⟨w.heap.size,17,none⟩=some (.int .i64 c.s11):=hB.cell rfl;have c18:w1.cell? ⟨w.heap.size,18,none⟩=some (.int .i64 c.s20):=hB.cell rfl;have c19:w1.cell? ⟨w.heap.size,19,none⟩=some (.int .i64 c.s21):=hB.cell rfl;clear hk hB;go_wp2_with fail
     ·go_ret
      exact⟨qBe (by rw[uh HC,h1,h2,h3,h4,h5];rfl),uh HK⟩
     ·refine(qK6 c c.rows _ (by omega) (by omega)).mono ?_
      rintro e w2 ⟨rfl,hk2⟩;go_wp2
      go_ret
      exact⟨qBe (by rw[uh HC,h1,h2,h3,h4,h5];rfl),(uh HK).then hk2⟩
theorem qVd(n:Int)(w:World):
  Calls Tryz.prog 151 #[.int .i64 n] w λe w'=>e=.returned (.bool (inB n 0 2147483648))/\w'=w:=by
 go_enter Tryz.func151,Tryz.ntmps151
 go_wp2_with (go_at_call 45;refine(qAg _ _ _ _).mono ?_;rintro e w' ⟨rfl,rfl⟩)
 go_ret
 exact⟨rfl,rfl⟩
theorem zD9(n:Int)(w:World):
  Calls Tryz.prog 168 #[.int .i64 n] w λe w'=>e=.returned (.bool (inB n 1 2147483648))/\w'=w:=by
 go_enter Tryz.func168,Tryz.ntmps168
 go_wp2_with (go_at_call 45;refine(qAg _ _ _ _).mono ?_;rintro e w' ⟨rfl,rfl⟩)
 go_ret
 exact⟨rfl,rfl⟩
def qY6(x:It): Int:=if inB x.k 0 2147483648 then 0 else 10
def qFb(c:Cfg)(x:It): Int:=if (qBg c x.t).isSome then 0 else 8
def qJg(c:Cfg)(x:It): Int:=if (qBg c x.t).isSome then(if inB x.k 0 2147483648 then(if inB x.d 1 2147483648 then 0 else 9) else 10) else 8
theorem qKi(c:Cfg)(x:It)(w:World):
  Calls Tryz.prog 105 #[c.val,x.val] w λe w'=>e=.returned (.int .i64 0)/\Keeps (λ_=>False) w w':=by
 unfold Cfg.val It.val;go_enter Tryz.func105,Tryz.ntmps105
 go_wp2
 go_ret
 exact⟨rfl,by repeat (first | exact Keeps.refl _ _ | apply Keeps.alloc)⟩
theorem qGu(c:Cfg)(x:It)(w:World):
  Calls Tryz.prog 111 #[c.val,x.val] w λe w'=>e=.returned (.int .i64 (qY6 x))/\Keeps (λ_=>False) w w':=by
 unfold Cfg.val It.val;have HE:=hide (show qY6 x=if inB x.k 0 2147483648 then 0 else 10 from rfl);cases h:inB x.k 0 2147483648
 all_goals
  go_enter Tryz.func111,Tryz.ntmps111
  go_wp2_with (go_at_call 151;refine(qVd _ _).mono ?_;rintro e w' ⟨rfl,rfl⟩)
  go_ret
  exact⟨qBa (by rw[uh HE,h];rfl),by repeat (first | exact Keeps.refl _ _ | apply Keeps.alloc)⟩
theorem qDw(c:Cfg)(x:It)(w:World)(hc:c.weighs)(t0:0<=x.t)(t1:x.t<=4611686018427387904):
  Calls Tryz.prog 120 #[c.val,x.val] w λe w'=>e=.returned (.int .i64 (qFb c x))/\Keeps (λ_=>False) w w':=by
 unfold Cfg.val It.val;have HE:=hide (show qFb c x=if (qBg c x.t).isSome then 0 else 8 from rfl);have HC:=hide hc;cases h:(qBg c x.t).isSome
 all_goals
  clear hc;go_enter Tryz.func120,Tryz.ntmps120
  go_wp2_with fail
  refine(zB7 c x.t _ (uh HC) (by omega) t1).mono ?_;rintro e w' ⟨rfl,rfl⟩;unfold qHq;rw[h];go_wp2
  go_ret
  exact⟨qBa (by rw[uh HE,h];rfl),by repeat (first | exact Keeps.refl _ _ | apply Keeps.alloc)⟩
theorem qMh(c:Cfg)(x:It)(w:World)(hc:c.weighs)(t0:0<=x.t)(t1:x.t<=4611686018427387904):
  Calls Tryz.prog 124 #[c.val,x.val] w λe w'=>e=.returned (.int .i64 (qJg c x))/\Keeps (λ_=>False) w w':=by
 have HE:=hide (show qJg c x=if (qBg c x.t).isSome then(if inB x.k 0 2147483648 then(if inB x.d 1 2147483648 then 0 else 9) else 10) else 8 from rfl);have HC:=hide hc;have HB:=hide ((Blk.new w c.cells 32).alloc (.cells x.cells 88))
 have HX:=hide (show Blk ((w.alloc (.cells c.cells.toArray 32)).alloc (.cells x.cells 88)) (w.heap.size+1) [.int .i64 x.t,.int .i64 x.k,.int .i64 x.d,.int .i64 x.n] 88 by
    have:=Blk.new (w.alloc (.cells c.cells.toArray 32)) [.int .i64 x.t,.int .i64 x.k,.int .i64 x.d,.int .i64 x.n] 88
    rwa [World.size_alloc]at this)
 have HK:=hide (((Keeps.refl (λ_=>False) w).alloc (.cells c.cells.toArray 32)).alloc (.cells x.cells 88));unfold Cfg.val It.val;cases h:(qBg c x.t).isSome
 ·have hw:qFb c x=8:=by unfold qFb;rw[h];rfl
  clear hc;go_enter Tryz.func124,Tryz.ntmps124
  go_wp2_with fail
  refine(qDw c x _ (uh HC) t0 t1).mono ?_;rintro e w1 ⟨rfl,hk1⟩;rw[hw];go_wp2
  go_ret
  exact⟨qBa (by rw[uh HE,h];rfl),(uh HK).then hk1⟩
 ·have hw:qFb c x=0:=by unfold qFb;rw[h];rfl
  clear hc;go_enter Tryz.func124,Tryz.ntmps124
  go_wp2_with fail
  refine(qDw c x _ (uh HC) t0 t1).mono ?_;rintro e w1 ⟨rfl,hk1⟩;rw[hw];have hb1:=(uh HB).keeps hk1 (λh=>h);have hx1:=(uh HX).keeps hk1 (λh=>h);obtain⟨hv1,hh1⟩:=qBl hb1 20 rfl;have a0:w1.cell? ⟨w.heap.size+1,0,none⟩=some (.int .i64 x.t):=hx1.cell rfl;have a1:w1.cell? ⟨w.heap.size+1,1,none⟩=some (.int .i64 x.k):=hx1.cell rfl;have a2:w1.cell? ⟨w.heap.size+1,2,none⟩=some (.int .i64 x.d):=hx1.cell rfl;have a3:w1.cell? ⟨w.heap.size+1,3,none⟩=some (.int .i64 x.n):=hx1.cell rfl;have HK1:=hide ((uh HK).then hk1);have HX1:=hide hx1;clear hk1 hb1 hx1;go_wp2_with fail
  refine(qGu c x _).mono ?_;rintro e w2 ⟨rfl,hk2⟩;have hx2:=(uh HX1).keeps hk2 (λh=>h);have b2:w2.cell? ⟨w.heap.size+1,2,none⟩=some (.int .i64 x.d):=hx2.cell rfl;have HK2:=hide ((uh HK1).then hk2);clear hk2 hx2;cases h2:inB x.k 0 2147483648
  ·have hw2:qY6 x=10:=by unfold qY6;rw[h2];rfl
   rw[hw2];go_wp2
   go_ret
   exact⟨qBa (by rw[uh HE,h,h2];rfl),uh HK2⟩
  ·have hw2:qY6 x=0:=by unfold qY6;rw[h2];rfl
   rw[hw2];cases h3:inB x.d 1 2147483648
   all_goals
    go_wp2_with (go_at_call 168;refine(zD9 _ _).mono ?_;rintro e w' ⟨rfl,rfl⟩)
    go_ret
    exact⟨qBa (by rw[uh HE,h,h2,h3];rfl),uh HK2⟩
theorem qLz{n:Int}(h0:-9223372036854775808<=n)(h1:n<=9223372036854775807): IntKind.i64.wrap n=n:=by rw[IntKind.wrap_i64];omega
theorem qYc(c:Cfg)(t:Int)(w:World)(hc:c.weighs)(t0:-100<=t)(t1:t<=4611686018427387904):
  Calls Tryz.prog 213 #[c.val,.int .i64 t] w λe w'=>e=.returned (.int .i64 (qCb (qBg c t)))/\w'=(w.alloc (.cells c.cells.toArray 32)).alloc (.cells c.cells.toArray 32):=by
 cases h:qBg c t with
 | none =>
  unfold Cfg.val;go_enter Tryz.func213,Tryz.ntmps213
  go_wp2_with fail
  refine(zB7 c t _ hc t0 t1).mono ?_;rintro e w' ⟨rfl,rfl⟩;rw[h];unfold qHq;go_wp2
  go_ret
  exact⟨rfl,rfl⟩
 | some x =>
  unfold Cfg.val;go_enter Tryz.func213,Tryz.ntmps213
  go_wp2_with fail
  refine(zB7 c t _ hc t0 t1).mono ?_;rintro e w' ⟨rfl,rfl⟩;rw[h];unfold qHq;go_wp2
  go_ret
  exact⟨rfl,rfl⟩
theorem qLi(a b:Int)(w:World):
  Calls Tryz.prog 155 #[.int .i64 a,.int .i64 b] w λe w'=>e=.returned (.tuple #[.int .i64 0,.int .i64 0])/\w'=w:=by
 go_enter Tryz.func155,Tryz.ntmps155
 go_wp2
 go_ret2
 exact⟨rfl,rfl⟩
def qDc(c:Cfg)(q r:Int): List Value:=c.cells++[.int .i64 q,.int .i64 r]
theorem qNr(c:Cfg)(w:World):
  Calls Tryz.prog 121 #[c.val] w λe w'=>∃d,e=.returned (.agg #[.func (.func 164) #[.pointer (some ⟨d,0,none⟩)] #[],.func (.func 165) #[.pointer (some ⟨d,0,none⟩)] #[],.func (.func 155) #[] #[],.func (.func 166) #[.pointer (some ⟨d,0,none⟩)] #[],.func (.func 167) #[.pointer (some ⟨d,0,none⟩)] #[]])/\w.heap.size<=d/\Blk w' d (qDc c 0 0) 201/\Keeps (λ_=>False) w w':=by
 unfold Cfg.val;go_enter Tryz.func121,Tryz.ntmps121
 go_wp2
 refine bodyPost_ret (v:=.agg #[.func (.func 164) #[.pointer (some ⟨w.heap.size+1+1,0,none⟩)] #[],.func (.func 165) #[.pointer (some ⟨w.heap.size+1+1,0,none⟩)] #[],.func (.func 155) #[] #[],.func (.func 166) #[.pointer (some ⟨w.heap.size+1+1,0,none⟩)] #[],.func (.func 167) #[.pointer (some ⟨w.heap.size+1+1,0,none⟩)] #[]]) (by simp[results,Tryz.results121,go_sem]) rfl ⟨w.heap.size+1+1,rfl,by omega,?_,?_⟩
 ·exact Blk.newAt (by simp) (qDc c 0 0) 201
 ·repeat (first | exact Keeps.refl _ _ | apply Keeps.alloc)
theorem qD1{w w':World}{b o n:Nat}(hk:Keeps (λ_=>False) w w')(hlt:b<w.heap.size): qAu w' b o n=qAu w b o n/\qA2 w' b o n=qA2 w b o n:=by
 have hc:∀j,w'.cell? ⟨b,o+j,none⟩=w.cell? ⟨b,o+j,none⟩:=λj=>World.cell?_of_block (a:=⟨b,o+j,none⟩) (hk.block b hlt (λh=>h))
 constructor
 ·unfold qAu qB0;simp only[hc]
 ·unfold qA2;simp only[hc]
theorem qHv(c:Cfg)(t:Int)(w:World)(hc:c.weighs)(t0:-100<=t)(t1:t<=4611686018427387904):
  Calls Tryz.prog 213 #[c.val,.int .i64 t] w λe w'=>e=.returned (.int .i64 (qCb (qBg c t)))/\Keeps (λ_=>False) w w' :=
 (qYc c t w hc t0 t1).mono λ_ _ ⟨he,hw⟩=>⟨he,by rw[hw];exact((Keeps.refl _ _).alloc _).alloc _⟩
theorem qN6(d:Nat)(c:Cfg)(q r:Int)(x:It)(m:Int)(w:World)(hb:Blk w d (qDc c q r) 201)(hc:c.weighs)(t0:0<=x.t)(t1:x.t<=4611686018427387904)(r0:0<=r)(r1:r<2305843009213693952)(q0:0<=q)(q1:q<=4611686018427387904)(hw0:0<=qCb (qBg c x.t))(hw1:qCb (qBg c x.t)<=2305843009213693952):
  Calls Tryz.prog 164 #[.pointer (some ⟨d,0,none⟩),x.val,.int .i64 m] w λe w'=>e=.returned (.tuple #[]) /\
   Blk w' d (qDc c (q+(r+qCb (qBg c x.t))/2305843009213693952) ((r+qCb (qBg c x.t))%2305843009213693952)) 201/\Keeps (λk=>k=d) w w':=by
 obtain⟨W,hW⟩:∃W,W=w.alloc (.cells x.cells 88):=⟨_,rfl⟩;have hbW:Blk W d (qDc c q r) 201:=by rw[hW];exact hb.alloc _
 have hxW:Blk W w.heap.size [.int .i64 x.t,.int .i64 x.k,.int .i64 x.d,.int .i64 x.n] 88:=by rw[hW];exact Blk.new w _ _
 have HKW:=hide (show Keeps (λk=>k=d) w W by rw[hW];exact(Keeps.refl _ _).alloc _);have HW0:=hide hW;clear hW hb;have hd20:W.cell? ⟨d,20,none⟩=some (.int .i64 q):=hbW.cell rfl;have hd21:W.cell? ⟨d,21,none⟩=some (.int .i64 r):=hbW.cell rfl;have hx0:W.cell? ⟨w.heap.size,0,none⟩=some (.int .i64 x.t):=hxW.cell rfl;obtain⟨hv,hh⟩:=qBh hbW 0 20 c.cells rfl rfl;have hlt:=hbW.lt;have HB:=hide hbW;have HC:=hide hc;clear hbW hxW hc;generalize hwt:qCb (qBg c x.t)=wt at *;have HW:=hide hwt;clear hwt;have hs0:0<=r+wt:=by omega
 have hs1:r+wt<4611686018427387904:=by omega
 have hq0:0<=(r+wt)/2305843009213693952:=by omega
 have hq1:(r+wt)/2305843009213693952<=1:=by omega
 have hwr:IntKind.i64.wrap (r+wt)=r+wt:=qLz (by omega) (by omega);unfold It.val;go_enter Tryz.func164,Tryz.ntmps164
 go_wp2_with fail
 rw[show w.alloc (.cells #[.int .i64 x.t,.int .i64 x.k,.int .i64 x.d,.int .i64 x.n] 88)=W from(uh HW0).symm];go_region_held3 (λw'=>w'.cell? ⟨d,20,none⟩=some (.int .i64 q)/\w'.cell? ⟨d,21,none⟩=some (.int .i64 r)/\w'.cell? ⟨w.heap.size,0,none⟩=some (.int .i64 x.t)/\qAu w' d 0 20=.agg c.cells.toArray/\qA2 w' d 0 20=true)
  (first | (go_split_ands;exact⟨by assumption,by assumption,by assumption,by assumption,by assumption⟩) | (go_split_ands;exact⟨hk1.cell (by assumption) (λh=>h),hk1.cell (by assumption) (λh=>h),hk1.cell (by assumption) (λh=>h),(qD1 hk1 (by first | exact hlt | simpa using hlt)).1.trans (by assumption),(qD1 hk1 (by first | exact hlt | simpa using hlt)).2.trans (by assumption)⟩))
  (first | (go_at_call 213;refine(qHv c x.t _ (uh HC) (by omega) t1).mono ?_;rintro e w1 ⟨rfl,hk1⟩;rw[uh HW]))
 have HK1:=hide (((Keeps.refl (λ_=>False) W).drew).then hk1);have hf:=((uh HB).keeps (uh HK1) (λh=>h)).frozen;go_wp2
 go_end0
 exact⟨rfl,(((uh HB).keeps (uh HK1) (λh=>h)).setCell 20 _).setCell 21 _,((((uh HKW).trans (uh HK1) (λ_ h=>h.elim)).setCell (p:=⟨d,20,none⟩) (Or.inl rfl) _).setCell (p:=⟨d,21,none⟩) (Or.inl rfl) _)⟩
theorem qRq(d:Nat)(c:Cfg)(q r a t:Int)(w:World)(hb:Blk w d (qDc c q r) 201)(hc:c.weighs)(t0:-100<=t)(t1:t<=4611686018427387904):
  Calls Tryz.prog 165 #[.pointer (some ⟨d,0,none⟩),.int .i64 a,.int .i64 t] w λe w'=>∃g,e=.returned (.tuple #[.slice (some ⟨g,0,none⟩) 3 3,.int .i64 0]) /\
   w.heap.size<=g/\Blk w' g [.int .i64 q,.int .i64 r,.int .i64 (qCb (qBg c t))] 3/\Keeps (λ_=>False) w w':=by
 have hd20:w.cell? ⟨d,20,none⟩=some (.int .i64 q):=hb.cell rfl;have hd21:w.cell? ⟨d,21,none⟩=some (.int .i64 r):=hb.cell rfl;obtain⟨hv,hh⟩:=qBh hb 0 20 c.cells rfl rfl;have hlt:=hb.lt;have HC:=hide hc;clear hb hc;generalize hwt:qCb (qBg c t)=wt at *;have HW:=hide hwt;clear hwt;go_enter Tryz.func165,Tryz.ntmps165
 go_wp2_with fail
 go_region_held3 (λw'=>w'.cell? ⟨d,20,none⟩=some (.int .i64 q)/\w'.cell? ⟨d,21,none⟩=some (.int .i64 r)/\qAu w' d 0 20=.agg c.cells.toArray/\qA2 w' d 0 20=true)
  (first | (go_split_ands;exact⟨by assumption,by assumption,by assumption,by assumption⟩) | (go_split_ands;exact⟨((Keeps.refl (λ_=>False) _).alloc _).cell (by assumption) (λh=>h),((Keeps.refl (λ_=>False) _).alloc _).cell (by assumption) (λh=>h),(qD1 ((Keeps.refl (λ_=>False) _).alloc _) (by first | exact hlt | (have:=hk1.size;have h2:w.heap.size<=w1.heap.size:=(by simpa using this);omega))).1.trans (by assumption),(qD1 ((Keeps.refl (λ_=>False) _).alloc _) (by first | exact hlt | (have:=hk1.size;have h2:w.heap.size<=w1.heap.size:=(by simpa using this);omega))).2.trans (by assumption)⟩) | (go_split_ands;exact⟨hk1.cell (by assumption) (λh=>h),hk1.cell (by assumption) (λh=>h),(qD1 hk1 (by first | exact hlt | simpa using hlt)).1.trans (by assumption),(qD1 hk1 (by first | exact hlt | simpa using hlt)).2.trans (by assumption)⟩))
  (first | (go_at_call 213;refine(qHv c t _ (uh HC) t0 t1).mono ?_;rintro e w1 ⟨rfl,hk1⟩;rw[uh HW]))
 have HK1:=hide (((Keeps.refl (λ_=>False) w).drew).then hk1);go_wp2
 go_ret2
 exact⟨w1.heap.size,rfl,(uh HK1).size,Blk.new w1 [.int .i64 q,.int .i64 r,.int .i64 wt] 3,(uh HK1).alloc _⟩
end
end Go.Proofs.YtahnliehdjncdabGreatDoor
