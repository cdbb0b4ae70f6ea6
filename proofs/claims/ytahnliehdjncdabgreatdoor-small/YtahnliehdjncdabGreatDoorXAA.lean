import Derived.Test.YtahnliehdjncdabGreatDoorRows
import Derived.WalkKit
import Derived.WalkLawsBesides
import Derived.WalkSpells
import Derived.BigQuiet
import Derived.Laws.BitsAllLaws
import Derived.Laws.Externs
import Derived.Shelf.Bits.Mul64
set_option maxRecDepth 100000
set_option maxHeartbeats 16000000
namespace Go.Proofs.YtahnliehdjncdabGreatDoor
section
open Go.RowKit
def inB(n lo hi:Int): Bool:=decide (lo<=n)&&decide (n<=hi)
theorem qA8{a b:Bool}(h:a=b): Ending.returned (.bool a)=.returned (.bool b):=by rw[h]
theorem qBc{k:IntKind}{a b:Int}(h:a=b): Ending.returned (.int k a)=.returned (.int k b):=by rw[h]
theorem qAh(n lo hi:Int)(w:World):
  Calls Tryz.prog 45 #[.int .i64 n,.int .i64 lo,.int .i64 hi] w λe w'=>e=.returned (.bool (inB n lo hi))/\w'=w:=by
 by_cases h:lo<=n
 ·go_enter Tryz.func45,Tryz.ntmps45
  go_wp2
  go_ret
  exact⟨by simp[inB,h],rfl⟩
 ·have hd:decide (lo<=n)=false:=by simpa using h
  have HI:Hid (false=inB n lo hi):=by simp[Hid,inB,h]
  go_enter Tryz.func45,Tryz.ntmps45
  go_wp2
  go_ret
  exact⟨qA8 HI.out,rfl⟩
theorem qG9(n:Int)(w:World):
  Calls Tryz.prog 52 #[.int .i64 n] w λe w'=>e=.returned (.bool (inB n 0 4611686018427387904))/\w'=w:=by
 go_enter Tryz.func52,Tryz.ntmps52
 go_wp2_with (go_at_call 45;refine(qAh _ _ _ _).mono ?_;rintro e w' ⟨rfl,rfl⟩)
 go_ret
 exact⟨rfl,rfl⟩
structure It where
 t:Int
 k:Int
 d:Int
 n:Int
def It.cells(x:It): Array Value:=#[.int .i64 x.t,.int .i64 x.k,.int .i64 x.d,.int .i64 x.n]
def It.val(x:It): Value:=.agg #[.int .i64 x.t,.int .i64 x.k,.int .i64 x.d,.int .i64 x.n]
def qCl(a b:It): Bool:=if a.t=b.t then decide (a.n<b.n) else decide (a.t<b.t)
theorem qFq(a b:It)(w:World):
  Calls Tryz.prog 77 #[a.val,b.val] w λe w'=>e=.returned (.bool (qCl a b))/\w'=(w.alloc (.cells a.cells 88)).alloc (.cells b.cells 88):=by
 unfold It.val It.cells
 by_cases h:a.t=b.t
 ·have H1:Hid (decide (a.n<b.n)=qCl a b):=by simp[Hid,qCl,h]
  have hb:(a.t !=b.t)=false:=by simp[h]
  clear h
  go_enter Tryz.func77,Tryz.ntmps77
  go_wp2
  go_ret
  exact⟨qA8 H1.out,rfl⟩
 ·have H1:Hid (decide (a.t<b.t)=qCl a b):=by simp[Hid,qCl,h]
  have hb:(a.t !=b.t)=true:=by simp[h]
  clear h
  go_enter Tryz.func77,Tryz.ntmps77
  go_wp2
  go_ret
  exact⟨qA8 H1.out,rfl⟩
def qHc(base:Int): Nat->Int->Option Int
 | 0,p=>some p
 | n+1,p=>if 2305843009213693952/base<p then none else qHc base n (p*base)
def qCn: Option Int->Int | some x=>x | none=>0
def qGy(o:Option Int): Value:=.tuple #[.int .i64 (qCn o),.bool o.isSome]
theorem zA0(p b:Int)(hp:1<=p)(hb:1<=b)(h:¬2305843009213693952/b<p): 1<=p*b/\p*b<=2305843009213693952:=by
 constructor
 ·have:=Int.mul_le_mul hp hb (by omega) (by omega);simpa using this
 ·have h1:p<=2305843009213693952/b:=by omega
  exact(Int.le_ediv_iff_mul_le (by omega)).1 h1
theorem qWj(b:Int)(n:Nat)(w:World)(hb:1<=b)(hb':b<=4611686018427387905)(hn:n<=3):
  Calls Tryz.prog 211 #[.int .i64 b,.int .i64 n] w λe w'=>e=.returned (qGy (qHc b n 1))/\w'=w:=by
 go_enter Tryz.func211,Tryz.ntmps211
 go_wp2
 go_loop [6,8] (λp i=>∃k:Nat,∃q:Int,k<=n/\i=.int .i64 k/\p=.int .i64 q/\1<=q/\q<=2305843009213693952/\qHc b n 1=qHc b (n-k) q) (λ_ i=>n-(intOf i).toNat)
 case atStart=>exact⟨0,1,Nat.zero_le _,rfl,rfl,by omega,by omega,rfl⟩
 case round =>
  obtain⟨k,q,hk,rfl,rfl,hq1,hq2,he⟩:=hrel
  have HE:Hid (qHc b n 1=qHc b (n-k) q):=he
  clear he
  by_cases hlt:k<n
  ·obtain⟨m,hm⟩:∃m,n-k=m+1:=⟨n-k-1,by omega⟩
   have HM:Hid (n-k=m+1):=hm
   clear hm
   by_cases hc:2305843009213693952/b<q
   ·go_wp2
    go_ret2
    refine⟨?_,rfl⟩
    rw[HE.out,HM.out];simp[qHc,hc,qGy,qCn]
   ·have hmo:=zA0 q b hq1 hb hc
    obtain⟨hm1,hm2⟩:=hmo
    go_wp2
    go_round
    case rel=>exact⟨k+1,q*b,by omega,by go_num,by go_num,hm1,hm2,by rw[HE.out,HM.out];rw[show n-(k+1)=m from by have:=HM.out;omega];simp[qHc,hc]⟩
    case measure=>simp[intOf];omega
  ·go_wp2
   go_ret2
   refine⟨?_,rfl⟩
   rw[HE.out,show n-k=0 from by omega];simp[qHc,qGy,qCn]
structure Keeps (M:Nat->Prop) (w w':World):Prop where
 os:w'.os=w.os
 tape:w'.tape=w.tape
 output:w'.output=w.output
 size:w.heap.size<=w'.heap.size
 block:∀k,k<w.heap.size->¬M k->w'.heap[k]?=w.heap[k]?
theorem Keeps.refl(M:Nat->Prop)(w:World): Keeps M w w:=⟨rfl,rfl,rfl,Nat.le_refl _,λ_ _ _=>rfl⟩
theorem Keeps.trans{M M':Nat->Prop}{a b c:World}(h:Keeps M a b)(k:Keeps M' b c)(hm:∀i,M' i->i<a.heap.size->M i): Keeps M a c :=
 ⟨k.os.trans h.os,k.tape.trans h.tape,k.output.trans h.output,Nat.le_trans h.size k.size,
    λi hi hn=>(k.block i (Nat.lt_of_lt_of_le hi h.size) (λhM=>hn (hm i hM hi))).trans (h.block i hi hn)⟩
theorem Keeps.then{M:Nat->Prop}{a b c:World}(h:Keeps M a b)(k:Keeps M b c): Keeps M a c:=h.trans k (λ_ hM _=>hM)
theorem Keeps.mono{M M':Nat->Prop}{a b:World}(h:Keeps M a b)(hm:∀i,i<a.heap.size->M i->M' i): Keeps M' a b :=
 ⟨h.os,h.tape,h.output,h.size,λi hi hn=>h.block i hi (λhM=>hn (hm i hi hM))⟩
theorem Keeps.drew{M:Nat->Prop}{a w:World}(h:Keeps M a w): Keeps M a w.drew:=⟨h.os,h.tape,h.output,h.size,h.block⟩
theorem Keeps.drewN(M:Nat->Prop)(w:World)(n:Nat): Keeps M w (w.drewN n):=⟨rfl,rfl,rfl,Nat.le_refl _,λ_ _ _=>rfl⟩
theorem Keeps.alloc{M:Nat->Prop}{a w:World}(h:Keeps M a w)(o:Obj): Keeps M a (w.alloc o) :=
 h.trans (M':=λ_=>False) ⟨rfl,rfl,rfl,by simp,λk hk _=>Below.heap_alloc _ _ _ hk⟩ (λ_ hf _=>hf.elim)
theorem Keeps.setCell{M:Nat->Prop}{a w:World}(h:Keeps M a w){p:Addr}(hp:M p.block\/a.heap.size<=p.block)(v:Value): Keeps M a (w.setCell p v) :=
 h.trans (M':=λk=>k=p.block) ⟨rfl,rfl,rfl,by simp,λk _ hk=>Below.heap_setCell _ _ _ _ hk⟩ (λi hi hlt=>by subst hi;rcases hp with hp | hp;exact hp;omega)
theorem Keeps.grown{M:Nat->Prop}{a w w':World}{row:Option Nat}(h:Keeps M a w)(hg:w.grownBy w' row)(hr:∀k,row=some k->M k\/a.heap.size<=k): Keeps M a w' :=
 h.trans (M':=λk=>row=some k) ⟨hg.os,hg.tape,hg.output,hg.size,λk hk hn=>hg.block k hk (λe=>hn e.symm)⟩
  (λi hi hlt=>by rcases hr i hi with h | h;exact h;omega)
theorem Keeps.cell{M:Nat->Prop}{w w':World}(h:Keeps M w w'){p:Addr}{v:Value}(hc:w.cell? p=some v)(hn:¬M p.block): w'.cell? p=some v :=
 (World.cell?_of_block (h.block p.block (World.block_lt_of_cell? w p hc) hn)).trans hc
theorem Keeps.frozen{M:Nat->Prop}{w w':World}(h:Keeps M w w'){p:Addr}(hlt:p.block<w.heap.size)(hn:¬M p.block): w'.frozen? p=w.frozen? p :=
 World.frozen?_of_block (h.block p.block hlt hn)
def Blk(w:World)(b:Nat)(cs:List Value)(T:TypeId): Prop:=w.heap[b]?=some (.cells cs.toArray T (0,0))
theorem Blk.lt{w:World}{b:Nat}{cs:List Value}{T:TypeId}(h:Blk w b cs T): b<w.heap.size:=(Array.getElem?_eq_some_iff.1 h).1
theorem Blk.cell{w:World}{b:Nat}{cs:List Value}{T:TypeId}(h:Blk w b cs T){i:Nat}{v:Value}(hi:cs[i]?=some v): w.cell? ⟨b,i,none⟩=some v:=by
 unfold Blk at h;simp[World.cell?,h,hi]
theorem Blk.frozen{w:World}{b:Nat}{cs:List Value}{T:TypeId}(h:Blk w b cs T)(i:Nat): w.frozen? ⟨b,i,none⟩=false:=by
 unfold Blk at h;simp[World.frozen?,h]
theorem Blk.keeps{M:Nat->Prop}{w w':World}{b:Nat}{cs:List Value}{T:TypeId}(h:Blk w b cs T)(k:Keeps M w w')(hn:¬M b): Blk w' b cs T:=by
 unfold Blk at h ⊢;rw[k.block b (Blk.lt h) hn];exact h
theorem Blk.setCell{w:World}{b:Nat}{cs:List Value}{T:TypeId}(h:Blk w b cs T)(i:Nat)(v:Value): Blk (w.setCell ⟨b,i,none⟩ v) b (cs.set i v) T:=by
 unfold Blk at h ⊢;simp[World.setCell,Array.getElem?_modify,h]
theorem Blk.setCell_far{w:World}{b:Nat}{cs:List Value}{T:TypeId}(h:Blk w b cs T){p:Addr}(hp:p.block≠b)(v:Value): Blk (w.setCell p v) b cs T:=by
 unfold Blk at h ⊢;rw[Below.heap_setCell _ _ _ _ (Ne.symm hp)];exact h
theorem Blk.drew{w:World}{b:Nat}{cs:List Value}{T:TypeId}(h:Blk w b cs T): Blk w.drew b cs T:=h
theorem Blk.alloc{w:World}{b:Nat}{cs:List Value}{T:TypeId}(h:Blk w b cs T)(o:Obj): Blk (w.alloc o) b cs T:=by
 unfold Blk at h ⊢;rw[Below.heap_alloc _ _ _ (Blk.lt h)];exact h
theorem Blk.new(w:World)(cs:List Value)(T:TypeId): Blk (w.alloc (.cells cs.toArray T)) w.heap.size cs T:=heap_alloc_new w _
def itAt(l:List It)(i:Nat): It:=l.getD i ⟨0,0,0,0⟩
def flat: List It->List Value
 | []=>[]
 | x::l=>.int .i64 x.t::.int .i64 x.k::.int .i64 x.d::.int .i64 x.n::flat l
theorem qDo(l:List It): (flat l).length=l.length*4:=by
 induction l with
 | nil=>rfl
 | cons x l ih=>simp[flat,ih];omega
theorem qEv(a b:List It): flat (a++b)=flat a++flat b:=by
 induction a with
 | nil=>rfl
 | cons x l ih=>simp[flat,ih]
theorem flat_get(l:List It)(i:Nat)(h:i<l.length): (flat l)[i*4]?=some (.int .i64 (itAt l i).t)/\(flat l)[i*4+1]?=some (.int .i64 (itAt l i).k)/\(flat l)[i*4+2]?=some (.int .i64 (itAt l i).d)/\(flat l)[i*4+3]?=some (.int .i64 (itAt l i).n):=by
 induction l generalizing i with
 | nil=>simp at h
 | cons x l ih =>
  cases i with
  | zero=>simp[flat,itAt]
  | succ i =>
   have:=ih i (by simpa using h)
   rw[show(i+1)*4=i*4+4 by omega]
   simpa[flat,itAt] using this
theorem qOr(l:List It)(i:Nat)(x:It): flat (l.set i x)=((((flat l).set (i*4) (.int .i64 x.t)).set (i*4+1) (.int .i64 x.k)).set (i*4+2) (.int .i64 x.d)).set (i*4+3) (.int .i64 x.n):=by
 induction l generalizing i with
 | nil=>simp[flat]
 | cons y l ih =>
  cases i with
  | zero=>simp[flat]
  | succ i=>rw[show(i+1)*4=i*4+4 by omega];simp[flat,ih]
structure IRow (w:World) (g cap:Nat) (l:List It):Prop where
 ex:∃cur:List Value,Blk w g cur 88/\cur.length=cap*4/\cur.take (l.length*4)=flat l
 le:l.length<=cap
 max:cap<=maxLen
theorem IRow.lt{w:World}{g cap:Nat}{l:List It}(h:IRow w g cap l): g<w.heap.size:=by obtain⟨cur,hb,_⟩:=h.ex;exact hb.lt
theorem IRow.frozen{w:World}{g cap:Nat}{l:List It}(h:IRow w g cap l)(o:Nat): w.frozen? ⟨g,o,none⟩=false:=by obtain⟨cur,hb,_⟩:=h.ex;exact hb.frozen o
theorem IRow.cells{w:World}{g cap:Nat}{l:List It}(h:IRow w g cap l)(i:Nat)(hi:i<l.length):
  w.cell? ⟨g,i*4,none⟩=some (.int .i64 (itAt l i).t)/\w.cell? ⟨g,i*4+1,none⟩=some (.int .i64 (itAt l i).k)/\w.cell? ⟨g,i*4+2,none⟩=some (.int .i64 (itAt l i).d)/\w.cell? ⟨g,i*4+3,none⟩=some (.int .i64 (itAt l i).n):=by
 obtain⟨cur,hb,hl,ht⟩:=h.ex
 have hg:∀k,k<l.length*4->cur[k]?=(flat l)[k]?:=λk hk=>by rw[<-ht,List.getElem?_take,if_pos hk]
 obtain⟨a,b,c,d⟩:=flat_get l i hi
 exact⟨hb.cell (by rw[hg _ (by omega)];exact a),hb.cell (by rw[hg _ (by omega)];exact b),hb.cell (by rw[hg _ (by omega)];exact c),hb.cell (by rw[hg _ (by omega)];exact d)⟩
theorem IRow.keeps{M:Nat->Prop}{w w':World}{g cap:Nat}{l:List It}(h:IRow w g cap l)(k:Keeps M w w')(hn:¬M g): IRow w' g cap l:=by
 obtain⟨cur,hb,r⟩:=h.ex;exact⟨⟨cur,hb.keeps k hn,r⟩,h.le,h.max⟩
theorem IRow.drew{w:World}{g cap:Nat}{l:List It}(h:IRow w g cap l): IRow w.drew g cap l:=by
 obtain⟨cur,hb,r⟩:=h.ex;exact⟨⟨cur,hb.drew,r⟩,h.le,h.max⟩
def putIt(w:World)(g i:Nat)(x:It): World :=
 (((w.setCell ⟨g,i*4,none⟩ (.int .i64 x.t)).setCell ⟨g,i*4+1,none⟩ (.int .i64 x.k)).setCell ⟨g,i*4+2,none⟩ (.int .i64 x.d)).setCell ⟨g,i*4+3,none⟩ (.int .i64 x.n)
theorem IRow.put{w:World}{g cap:Nat}{l:List It}(h:IRow w g cap l)(i:Nat)(x:It): IRow (putIt w g i x) g cap (l.set i x):=by
 obtain⟨cur,hb,hl,ht⟩:=h.ex
 refine⟨⟨_,(((hb.setCell _ _).setCell _ _).setCell _ _).setCell _ _,by simp[hl],?_⟩,by simpa using h.le,h.max⟩
 rw[qOr,<-ht,List.length_set]
 simp only[List.take_set]
theorem Keeps.putIt{M:Nat->Prop}{a w:World}(h:Keeps M a w){g:Nat}(hp:M g\/a.heap.size<=g)(i:Nat)(x:It): Keeps M a (putIt w g i x) :=
 (((h.setCell hp _).setCell hp _).setCell hp _).setCell hp _
theorem hide{p:Prop}(h:p): Hid p:=h
theorem uh{p:Prop}(h:Hid p): p:=h
structure Cfg where
 kind:Int
 lag:Int
 skew:Int
 cap:Int
 k:Int
 window:Int
 bits:Int
 rows:Int
 width:Int
 panes:Int
 size:Int
 degree:Int
 half:Int
 mark:Int
 s00:Int
 s01:Int
 s10:Int
 s11:Int
 s20:Int
 s21:Int
def Cfg.cells(c:Cfg): List Value:=[.int .i64 c.kind,.int .i64 c.lag,.int .i64 c.skew,.int .i64 c.cap,.int .i64 c.k,.int .i64 c.window,.int .i64 c.bits,.int .i64 c.rows,.int .i64 c.width,.int .i64 c.panes,.int .i64 c.size,.int .i64 c.degree,.int .i64 c.half,.int .i64 c.mark,.int .i64 c.s00,.int .i64 c.s01,.int .i64 c.s10,.int .i64 c.s11,.int .i64 c.s20,.int .i64 c.s21]
def Cfg.val(c:Cfg): Value:=.agg #[.int .i64 c.kind,.int .i64 c.lag,.int .i64 c.skew,.int .i64 c.cap,.int .i64 c.k,.int .i64 c.window,.int .i64 c.bits,.int .i64 c.rows,.int .i64 c.width,.int .i64 c.panes,.int .i64 c.size,.int .i64 c.degree,.int .i64 c.half,.int .i64 c.mark,.int .i64 c.s00,.int .i64 c.s01,.int .i64 c.s10,.int .i64 c.s11,.int .i64 c.s20,.int .i64 c.s21]
theorem qOk(n:Nat)(h:n<=61): (1:Int)<=2 ^ n/\(2:Int) ^ n<=2305843009213693952:=by
 have e:(2:Int) ^ n=((2 ^ n:Nat):Int):=by simp
 have h1:1<=2 ^ n:=Nat.one_le_two_pow
 have h2:2 ^ n<=2 ^ 61:=Nat.pow_le_pow_right (by omega) h
 have h3:(2:Nat) ^ 61=2305843009213693952:=by decide
 rw[e]
 omega
theorem qRp(n:Int)(w:World)(h0:0<=n)(h:n<=4611686018427387904):
  Calls Tryz.prog 212 #[.int .i64 n] w λe w'=>e=.returned (qGy (if 61<n then none else some (2 ^ n.toNat)))/\w'=w:=by
 by_cases hc:61<n
 ·rw[if_pos hc]
  go_enter Tryz.func212,Tryz.ntmps212
  go_wp2
  go_ret2
  exact⟨rfl,rfl⟩
 ·rw[if_neg hc]
  go_enter Tryz.func212,Tryz.ntmps212
  go_wp2
  go_ret2
  refine⟨?_,rfl⟩
  have h2:=qOk n.toNat (by omega)
  show Ending.returned (.tuple #[.int .i64 (wrap64 (2 ^ n.toNat)),.bool true])=_
  rw[show wrap64 (2 ^ n.toNat)=2 ^ n.toNat by unfold wrap64;omega]
  rfl
theorem qXl(b d:Int)(w:World)(hb:1<=b)(hb':b<=4611686018427387905)(d0:0<=d)(d3:d<=3):
  Calls Tryz.prog 211 #[.int .i64 b,.int .i64 d] w λe w'=>e=.returned (qGy (qHc b d.toNat 1))/\w'=w:=by
 obtain⟨n,rfl⟩:=Int.eq_ofNat_of_zero_le d0
 rw[Int.toNat_natCast]
 exact qWj b n w hb hb' (by omega)
def qBm(c:Cfg)(t:Int): Option Int :=
 if t<c.mark then none
 else if c.half=0 then qHc (t-c.mark+1) c.degree.toNat 1
 else if 61<(t-c.mark)/c.half then none else some (2 ^ ((t-c.mark)/c.half).toNat)
structure Cfg.weighs (c:Cfg):Prop where
 d0:0<=c.degree
 d1:c.degree<=3
 h0:0<=c.half
 h1:c.half<=100
 m0:0<=c.mark
 m1:c.mark<=4611686018427387904
theorem qX2(c:Cfg)(t:Int)(w:World)(hc:c.weighs)(t0:-100<=t)(t1:t<=4611686018427387904):
  Calls Tryz.prog 163 #[c.val,.int .i64 t] w λe w'=>e=.returned (qGy (qBm c t))/\w'=w.alloc (.cells c.cells.toArray 32):=by
 obtain⟨d0,d1,h0,h1,m0,m1⟩:=hc
 unfold Cfg.val Cfg.cells
 by_cases hm:t<c.mark
 ·have HW:=hide (show qBm c t=none by unfold qBm;rw[if_pos hm])
  go_enter Tryz.func163,Tryz.ntmps163
  go_wp2
  go_ret2
  exact⟨by rw[uh HW];rfl,rfl⟩
 ·by_cases hh:c.half=0
  ·have HW:=hide (show qBm c t=qHc (t-c.mark+1) c.degree.toNat 1 by unfold qBm;rw[if_neg hm,if_pos hh])
   have hhb:(c.half==0)=true:=by simp[hh]
   clear hh
   go_enter Tryz.func163,Tryz.ntmps163
   go_wp2_with fail
   refine(qXl (t-c.mark+1) c.degree _ (by omega) (by omega) d0 d1).mono ?_
   rintro e w' ⟨rfl,rfl⟩
   unfold qGy
   go_wp2
   go_ret2
   exact⟨by rw[uh HW];rfl,rfl⟩
  ·have HW:=hide (show qBm c t=if 61<(t-c.mark)/c.half then none else some (2 ^ ((t-c.mark)/c.half).toNat) by unfold qBm;rw[if_neg hm,if_neg hh])
   have hhb:(c.half==0)=false:=by simp[hh]
   have hh1:1<=c.half:=by omega
   have hq0:0<=(t-c.mark)/c.half:=Int.ediv_nonneg (by omega) (by omega)
   have hq1:(t-c.mark)/c.half<=4611686018427387904:=by
    have:=Int.ediv_le_self c.half (show 0<=t-c.mark by omega)
    omega
   clear hh
   go_enter Tryz.func163,Tryz.ntmps163
   go_wp2_with fail
   refine(qRp ((t-c.mark)/c.half) _ hq0 hq1).mono ?_
   rintro e w' ⟨rfl,rfl⟩
   rw[<-uh HW]
   unfold qGy
   go_wp2
   go_ret2
   exact⟨rfl,rfl⟩
theorem qXe(x y:Nat)(hx:x<18446744073709551616)(hy:y<18446744073709551616)(w:World):
  Calls Tryz.prog 176 #[.int .u64 x,.int .u64 y] w λe w'=>e=.returned (.tuple #[.int .u64 ((x*y/18446744073709551616:Nat):Int),.int .u64 ((x*y%18446744073709551616:Nat):Int)])/\w'=w:=by
 obtain⟨bd,bt,bw,hhi⟩:=Lib.mul64_hi x y hx hy
 have ba:=Lib.half_mul_le (a:=x/4294967296) (b:=y/4294967296) (by omega) (by omega)
 have bb:=Lib.half_mul_le (a:=x/4294967296) (b:=y%4294967296) (by omega) (by omega)
 have bc:=Lib.half_mul_le (a:=x%4294967296) (b:=y/4294967296) (by omega) (by omega)
 have ba':x/4294967296*(y/4294967296)<18446744073709551616:=by omega
 have bb':x/4294967296*(y%4294967296)<18446744073709551616:=by omega
 have bc':x%4294967296*(y/4294967296)<18446744073709551616:=by omega
 have bh1:x/4294967296*(y/4294967296)+(x/4294967296*(y%4294967296)+x%4294967296*(y%4294967296)/4294967296)/4294967296<18446744073709551616:=by omega
 have bh:x/4294967296*(y/4294967296)+(x/4294967296*(y%4294967296)+x%4294967296*(y%4294967296)/4294967296)/4294967296+((x/4294967296*(y%4294967296)+x%4294967296*(y%4294967296)/4294967296)%4294967296+x%4294967296*(y/4294967296))/4294967296<18446744073709551616:=by omega
 go_enter Tryz.func176,Tryz.ntmps176
 go_wp2
 simp only[Mul64.maskN x hx,Mul64.maskN y hy,Mul64.divN,Mul64.mulN,Mul64.addN,Mul64.wrapN _ bd,Mul64.wrapN _ bb',Mul64.wrapN _ bt,Mul64.maskN _ bt,Mul64.wrapN _ bc',Mul64.wrapN _ bw,Mul64.wrapN _ ba',Mul64.wrapN _ bh1,Mul64.wrapN _ bh,Mul64.wrapM (x*y)]
 rw[hhi]
 go_ret2
 exact⟨rfl,rfl⟩
theorem qK1(x y:Int)(x0:0<=x)(x1:x<18446744073709551616)(y0:0<=y)(y1:y<18446744073709551616)(w:World):
  Calls Tryz.prog 176 #[.int .u64 x,.int .u64 y] w λe w'=>e=.returned (.tuple #[.int .u64 (x*y/18446744073709551616),.int .u64 (x*y%18446744073709551616)])/\w'=w:=by
 obtain⟨a,rfl⟩:=Int.eq_ofNat_of_zero_le x0
 obtain⟨b,rfl⟩:=Int.eq_ofNat_of_zero_le y0
 refine(qXe a b (by omega) (by omega) w).mono ?_
 rintro e w' ⟨rfl,rfl⟩
 refine⟨?_,rfl⟩
 simp
theorem qPl(x y:Int)(hx:0<=x)(hy:0<=y)(w:World):
  (callFunc 177 #[.int .u64 x,.int .u64 y,.int .u64 0]).run Tryz.prog w =
   .ok (.value (.tuple #[.int .u64 ((x+y)%18446744073709551616),.int .u64 ((x+y)/18446744073709551616)])) w:=by
 rw[run_callFunc_extern Tryz.func177 (by kernel_rfl) (by kernel_rfl) (by kernel_rfl) (e:=add64Entry) (by kernel_rfl),run_add64 x y 0 hx hy (by omega) (by omega)]
 simp only[Result.andThen,Int.add_zero]
theorem qTc(w:World):
  Calls Tryz.prog 244 #[.int .u64 2305843009213693951] w λe w'=>e=.returned (.int .i64 3)/\w'=w:=by
 have hl:∀w:World,Calls Tryz.prog 228 #[.int .u64 2305843009213693951] w λe w'=>e=.returned (.int .i64 61)/\w'=w:=by
  intro w
  go_enter Tryz.func228,Tryz.ntmps228
  go_wp2
  go_ret
  exact⟨by kernel_rfl,rfl⟩
 go_enter Tryz.func244,Tryz.ntmps244
 go_wp2_with (go_at_call 228;refine(hl _).mono ?_;rintro e w' ⟨rfl,rfl⟩)
 go_ret
 exact⟨rfl,rfl⟩
theorem zA1(a b:Int)(a0:0<=a)(a1:a<2305843009213693952)(b0:0<=b)(b1:b<8): bits .or .u64 (a*8) b=a*8+b:=by
 obtain⟨x,rfl⟩:=Int.eq_ofNat_of_zero_le a0
 obtain⟨y,rfl⟩:=Int.eq_ofNat_of_zero_le b0
 have h:(((x:Nat):Int)*8)=((x*8:Nat):Int):=by simp
 rw[h,bits_or_u64_nat _ _ (by omega) (by omega)]
 have h2:x*8 ||| y=x*8+y:=by
  have:=Nat.two_pow_add_eq_or_of_lt (i:=3) (b:=y) (by omega) x
  rw[show(2:Nat) ^ 3=8 by rfl,Nat.mul_comm 8 x]at this
  exact this.symm
 rw[h2];simp
theorem qWb(hi lo u v z n q:Int)(hU:u=hi*8+lo/2305843009213693952)(hV:v=lo*8%18446744073709551616)(hZ:z=v%4294967296)(hN:n=u*4294967296+v/4294967296)(h1:q*18446744073709551608<=n*4294967296+z)(h2:n*4294967296+z<(q+1)*18446744073709551608):
  IntKind.u64.wrap (IntKind.u64.wrap (IntKind.u64.wrap (n*4294967296)+z)-IntKind.u64.wrap (q*18446744073709551608))/8=(hi*18446744073709551616+lo)%2305843009213693951:=by
 simp only[IntKind.wrap_u64]
 have e:n*4294967296+z=8*(hi*18446744073709551616+lo):=by omega
 omega
theorem qPc(hi lo:Int)(w:World)(h0:0<=hi)(h1:hi<=268435456)(l0:0<=lo)(l1:lo<18446744073709551616):
  Calls Tryz.prog 221 #[.int .u64 hi,.int .u64 lo,.int .u64 2305843009213693951] w λe w'=>(∃q,e=.returned (.tuple #[.int .u64 q,.int .u64 ((hi*18446744073709551616+lo)%2305843009213693951)]))/\Keeps (λ_=>False) w w':=by
 by_cases hz:hi=0
 ·subst hz
  go_enter Tryz.func221,Tryz.ntmps221
  go_wp2
  go_region
  go_wp2
  go_ret2
  exact⟨⟨_,by simp;rfl⟩,(Keeps.refl _ _).drew⟩
 ·have hzb:(hi==0)=false:=by simp[hz]
  have hle:¬(2305843009213693951<=hi):=by omega
  have hand:bits .and .u64 18446744073709551608 4294967295=4294967288:=by decide +kernel
  obtain⟨u,hu,HU⟩:∃u,bits .or .u64 (hi*8) (lo/2305843009213693952)=u/\Hid (u=hi*8+lo/2305843009213693952):=⟨_,zA1 hi (lo/2305843009213693952) h0 (by omega) (by omega) (by omega),rfl⟩
  obtain⟨v,hv,HV⟩:∃v,IntKind.u64.wrap (lo*8)=v/\Hid (v=lo*8%18446744073709551616):=⟨_,IntKind.wrap_u64 _,rfl⟩
  have u0:0<=u:=by have:=uh HU;omega
  have u1:u<=2147483660:=by have:=uh HU;omega
  have v0:0<=v:=by have:=uh HV;omega
  have v1:v<18446744073709551616:=by have:=uh HV;omega
  obtain⟨z,hzz,HZ⟩:∃z,bits .and .u64 v 4294967295=z/\Hid (z=v%4294967296):=by
   obtain⟨x,rfl⟩:=Int.eq_ofNat_of_zero_le v0
   exact⟨_,Mul64.maskN x (by omega),by show _=_;omega⟩
  have z0:0<=z:=by have:=uh HZ;omega
  have z1:z<4294967296:=by have:=uh HZ;omega
  have hd:u.tdiv 4294967295=0:=by rw[Int.tdiv_eq_ediv_of_nonneg u0];omega
  go_enter Tryz.func221,Tryz.ntmps221
  go_wp2_with (go_at_call 244;refine(qTc _).mono ?_;rintro e w' ⟨rfl,rfl⟩)
  go_loop [15,16] (λa b=>a=.int .u64 0/\b=.int .u64 u) (λ_ _=>0)
  case atStart=>exact⟨by first | rfl | simp,by first | rfl | simp⟩
  case round =>
   obtain⟨rfl,rfl⟩:=hrel
   go_wp2
   obtain⟨n,HN⟩:∃n,Hid (n=u*4294967296+v/4294967296):=⟨_,rfl⟩
   have n0:0<=n:=by have:=uh HN;omega
   have n1:n<=9223372097000000000:=by have:=uh HN;omega
   have hn:u*4294967296+v/4294967296=n:=(uh HN).symm
   rw[hn]
   clear hn
   go_loop [16,18] (λb a=>∃q r:Int,a=.int .u64 q/\b=.int .u64 r/\0<=q/\q<=2147483700/\0<=r/\r<4294967296/\Hid (q*4294967295+r=n)/\Hid (n*4294967296+z<(q+1)*18446744073709551608)) (λ_ a=>(intOf a).toNat)
   case atStart=>exact⟨n/4294967295,n-n/4294967295*4294967295,rfl,rfl,by omega,by omega,by omega,by omega,by show _=_;omega,by show _<_;omega⟩
   case round =>
    obtain⟨q,r,rfl,rfl,q0,q1,r0,r1,HQ,HT⟩:=hrel
    by_cases hc:4294967296*r+z<q*4294967288
    ·have q2:1<=q:=by omega
     by_cases hb:4294967296<=r+4294967295
     ·go_wp2
      go_ret2
      exact⟨⟨_,by rw[qWb hi lo u v z n (q-1) (uh HU) (uh HV) (uh HZ) (uh HN) (by have:=uh HQ;omega) (by have:=uh HQ;omega)];rfl⟩,Keeps.refl _ _⟩
     ·go_wp2
      go_round
      case rel=>exact⟨q-1,r+4294967295,by first | rfl | go_num,by first | rfl | go_num,by omega,by omega,by omega,by omega,by have:=uh HQ;show _=_;omega,by have:=uh HQ;show _<_;omega⟩
      case measure=>simp[intOf];omega
    ·go_wp2
     go_ret2
     exact⟨⟨_,by rw[qWb hi lo u v z n q (uh HU) (uh HV) (uh HZ) (uh HN) (by have:=uh HQ;omega) (uh HT)];rfl⟩,Keeps.refl _ _⟩
end
end Go.Proofs.YtahnliehdjncdabGreatDoor
