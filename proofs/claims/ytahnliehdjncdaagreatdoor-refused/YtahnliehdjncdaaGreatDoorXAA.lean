import Derived.Test.YtahnliehdjncdaaGreatDoorRows
import Derived.WalkKit
import Derived.WalkLawsBesides
import Derived.WalkSpells
import Derived.BigQuiet
import Derived.Deep.MidRow
set_option maxRecDepth 100000
set_option maxHeartbeats 16000000
namespace Go.Proofs.YtahnliehdjncdaaGreatDoor
section
open Go.RowKit
def inB(n lo hi:Int): Bool:=decide (lo<=n)&&decide (n<=hi)
theorem qBa{a b:Bool}(h:a=b): Ending.returned (.bool a)=.returned (.bool b):=by rw[h]
theorem qA7{k:IntKind}{a b:Int}(h:a=b): Ending.returned (.int k a)=.returned (.int k b):=by rw[h]
theorem qAh(n lo hi:Int)(w:World):
  Calls Tryz.prog 58 #[.int .i64 n,.int .i64 lo,.int .i64 hi] w λe w'=>e=.returned (.bool (inB n lo hi))/\w'=w:=by
 by_cases h:lo<=n
 ·go_enter Tryz.func58,Tryz.ntmps58
  go_wp2
  go_ret
  exact⟨by simp[inB,h],rfl⟩
 ·have hd:decide (lo<=n)=false:=by simpa using h
  have HI:Hid (false=inB n lo hi):=by simp[Hid,inB,h]
  go_enter Tryz.func58,Tryz.ntmps58
  go_wp2
  go_ret
  exact⟨qBa HI.out,rfl⟩
theorem qE5(n:Int)(w:World):
  Calls Tryz.prog 65 #[.int .i64 n] w λe w'=>e=.returned (.bool (inB n 0 4611686018427387904))/\w'=w:=by
 go_enter Tryz.func65,Tryz.ntmps65
 go_wp2_with (go_at_call 58;refine(qAh _ _ _ _).mono ?_;rintro e w' ⟨rfl,rfl⟩)
 go_ret
 exact⟨rfl,rfl⟩
structure It where
 t:Int
 k:Int
 d:Int
 n:Int
def It.cells(x:It): Array Value:=#[.int .i64 x.t,.int .i64 x.k,.int .i64 x.d,.int .i64 x.n]
def It.val(x:It): Value:=.agg #[.int .i64 x.t,.int .i64 x.k,.int .i64 x.d,.int .i64 x.n]
def qCp(a b:It): Bool:=if a.t=b.t then decide (a.n<b.n) else decide (a.t<b.t)
theorem qFh(a b:It)(w:World):
  Calls Tryz.prog 90 #[a.val,b.val] w λe w'=>e=.returned (.bool (qCp a b))/\w'=(w.alloc (.cells a.cells 87)).alloc (.cells b.cells 87):=by
 unfold It.val It.cells
 by_cases h:a.t=b.t
 ·have H1:Hid (decide (a.n<b.n)=qCp a b):=by simp[Hid,qCp,h]
  have hb:(a.t !=b.t)=false:=by simp[h]
  clear h
  go_enter Tryz.func90,Tryz.ntmps90
  go_wp2
  go_ret
  exact⟨qBa H1.out,rfl⟩
 ·have H1:Hid (decide (a.t<b.t)=qCp a b):=by simp[Hid,qCp,h]
  have hb:(a.t !=b.t)=true:=by simp[h]
  clear h
  go_enter Tryz.func90,Tryz.ntmps90
  go_wp2
  go_ret
  exact⟨qBa H1.out,rfl⟩
def qHh(base:Int): Nat->Int->Option Int
 | 0,p=>some p
 | n+1,p=>if 2305843009213693952/base<p then none else qHh base n (p*base)
def qCm: Option Int->Int | some x=>x | none=>0
def qGi(o:Option Int): Value:=.tuple #[.int .i64 (qCm o),.bool o.isSome]
theorem zB2(p b:Int)(hp:1<=p)(hb:1<=b)(h:¬2305843009213693952/b<p): 1<=p*b/\p*b<=2305843009213693952:=by
 constructor
 ·have:=Int.mul_le_mul hp hb (by omega) (by omega);simpa using this
 ·have h1:p<=2305843009213693952/b:=by omega
  exact(Int.le_ediv_iff_mul_le (by omega)).1 h1
theorem qY3(b:Int)(n:Nat)(w:World)(hb:1<=b)(hb':b<=4611686018427387905)(hn:n<=3):
  Calls Tryz.prog 224 #[.int .i64 b,.int .i64 n] w λe w'=>e=.returned (qGi (qHh b n 1))/\w'=w:=by
 go_enter Tryz.func224,Tryz.ntmps224
 go_wp2
 go_loop [6,8] (λp i=>∃k:Nat,∃q:Int,k<=n/\i=.int .i64 k/\p=.int .i64 q/\1<=q/\q<=2305843009213693952/\qHh b n 1=qHh b (n-k) q) (λ_ i=>n-(intOf i).toNat)
 case atStart=>exact⟨0,1,Nat.zero_le _,rfl,rfl,by omega,by omega,rfl⟩
 case round =>
  obtain⟨k,q,hk,rfl,rfl,hq1,hq2,he⟩:=hrel
  have HE:Hid (qHh b n 1=qHh b (n-k) q):=he
  clear he
  by_cases hlt:k<n
  ·obtain⟨m,hm⟩:∃m,n-k=m+1:=⟨n-k-1,by omega⟩
   have HM:Hid (n-k=m+1):=hm
   clear hm
   by_cases hc:2305843009213693952/b<q
   ·go_wp2
    go_ret2
    refine⟨?_,rfl⟩
    rw[HE.out,HM.out];simp[qHh,hc,qGi,qCm]
   ·have hmo:=zB2 q b hq1 hb hc
    obtain⟨hm1,hm2⟩:=hmo
    go_wp2
    go_round
    case rel=>exact⟨k+1,q*b,by omega,by go_num,by go_num,hm1,hm2,by rw[HE.out,HM.out];rw[show n-(k+1)=m from by have:=HM.out;omega];simp[qHh,hc]⟩
    case measure=>simp[intOf];omega
  ·go_wp2
   go_ret2
   refine⟨?_,rfl⟩
   rw[HE.out,show n-k=0 from by omega];simp[qHh,qGi,qCm]
structure Keeps (M:Nat->Prop) (w w':World):Prop where
 os:w'.os=w.os
 tape:w'.tape=w.tape
 output:w'.output=w.output
 size:w.heap.size<=w'.heap.size
 block:∀k,k<w.heap.size->¬M k->w'.heap[k]?=w.heap[k]?
theorem Keeps.refl(M:Nat->Prop)(w:World): Keeps M w w:=⟨rfl,rfl,rfl,Nat.le_refl _,λ_ _ _=>rfl⟩
theorem Keeps.trans{M M':Nat->Prop}{a b c:World}(h:Keeps M a b)(k:Keeps M' b c)(hm:∀i,M' i->i<a.heap.size->M i): Keeps M a c :=
 ⟨k.os.trans h.os,k.tape.trans h.tape,k.output.trans h.output,Nat.le_trans h.size k.size,
    λi hi hn=>(k.block i (Nat.lt_of_lt_of_le hi h.size) (λhM=>hn (hm i hM hi))).trans (h.block i hi hn)⟩
theorem Keeps.then{M:Nat->Prop}{a b c:World}(h:Keeps M a b)(k:Keeps M b c): Keeps M a c:=h.trans k (λ_ hM _=>hM)
theorem Keeps.mono{M M':Nat->Prop}{a b:World}(h:Keeps M a b)(hm:∀i,i<a.heap.size->M i->M' i): Keeps M' a b :=
 ⟨h.os,h.tape,h.output,h.size,λi hi hn=>h.block i hi (λhM=>hn (hm i hi hM))⟩
theorem Keeps.drew{M:Nat->Prop}{a w:World}(h:Keeps M a w): Keeps M a w.drew:=⟨h.os,h.tape,h.output,h.size,h.block⟩
theorem Keeps.drewN(M:Nat->Prop)(w:World)(n:Nat): Keeps M w (w.drewN n):=⟨rfl,rfl,rfl,Nat.le_refl _,λ_ _ _=>rfl⟩
theorem Keeps.alloc{M:Nat->Prop}{a w:World}(h:Keeps M a w)(o:Obj): Keeps M a (w.alloc o) :=
 h.trans (M':=λ_=>False) ⟨rfl,rfl,rfl,by simp,λk hk _=>Below.heap_alloc _ _ _ hk⟩ (λ_ hf _=>hf.elim)
theorem Keeps.setCell{M:Nat->Prop}{a w:World}(h:Keeps M a w){p:Addr}(hp:M p.block\/a.heap.size<=p.block)(v:Value): Keeps M a (w.setCell p v) :=
 h.trans (M':=λk=>k=p.block) ⟨rfl,rfl,rfl,by simp,λk _ hk=>Below.heap_setCell _ _ _ _ hk⟩ (λi hi hlt=>by subst hi;rcases hp with hp | hp;exact hp;omega)
theorem Keeps.grown{M:Nat->Prop}{a w w':World}{row:Option Nat}(h:Keeps M a w)(hg:w.grownBy w' row)(hr:∀k,row=some k->M k\/a.heap.size<=k): Keeps M a w' :=
 h.trans (M':=λk=>row=some k) ⟨hg.os,hg.tape,hg.output,hg.size,λk hk hn=>hg.block k hk (λe=>hn e.symm)⟩
  (λi hi hlt=>by rcases hr i hi with h | h;exact h;omega)
theorem Keeps.cell{M:Nat->Prop}{w w':World}(h:Keeps M w w'){p:Addr}{v:Value}(hc:w.cell? p=some v)(hn:¬M p.block): w'.cell? p=some v :=
 (World.cell?_of_block (h.block p.block (World.block_lt_of_cell? w p hc) hn)).trans hc
theorem Keeps.frozen{M:Nat->Prop}{w w':World}(h:Keeps M w w'){p:Addr}(hlt:p.block<w.heap.size)(hn:¬M p.block): w'.frozen? p=w.frozen? p :=
 World.frozen?_of_block (h.block p.block hlt hn)
def Blk(w:World)(b:Nat)(cs:List Value)(T:TypeId): Prop:=w.heap[b]?=some (.cells cs.toArray T (0,0))
theorem Blk.lt{w:World}{b:Nat}{cs:List Value}{T:TypeId}(h:Blk w b cs T): b<w.heap.size:=(Array.getElem?_eq_some_iff.1 h).1
theorem Blk.cell{w:World}{b:Nat}{cs:List Value}{T:TypeId}(h:Blk w b cs T){i:Nat}{v:Value}(hi:cs[i]?=some v): w.cell? ⟨b,i,none⟩=some v:=by
 unfold Blk at h;simp[World.cell?,h,hi]
theorem Blk.frozen{w:World}{b:Nat}{cs:List Value}{T:TypeId}(h:Blk w b cs T)(i:Nat): w.frozen? ⟨b,i,none⟩=false:=by
 unfold Blk at h;simp[World.frozen?,h]
theorem Blk.keeps{M:Nat->Prop}{w w':World}{b:Nat}{cs:List Value}{T:TypeId}(h:Blk w b cs T)(k:Keeps M w w')(hn:¬M b): Blk w' b cs T:=by
 unfold Blk at h ⊢;rw[k.block b (Blk.lt h) hn];exact h
theorem Blk.setCell{w:World}{b:Nat}{cs:List Value}{T:TypeId}(h:Blk w b cs T)(i:Nat)(v:Value): Blk (w.setCell ⟨b,i,none⟩ v) b (cs.set i v) T:=by
 unfold Blk at h ⊢;simp[World.setCell,Array.getElem?_modify,h]
theorem Blk.setCell_far{w:World}{b:Nat}{cs:List Value}{T:TypeId}(h:Blk w b cs T){p:Addr}(hp:p.block≠b)(v:Value): Blk (w.setCell p v) b cs T:=by
 unfold Blk at h ⊢;rw[Below.heap_setCell _ _ _ _ (Ne.symm hp)];exact h
theorem Blk.drew{w:World}{b:Nat}{cs:List Value}{T:TypeId}(h:Blk w b cs T): Blk w.drew b cs T:=h
theorem Blk.alloc{w:World}{b:Nat}{cs:List Value}{T:TypeId}(h:Blk w b cs T)(o:Obj): Blk (w.alloc o) b cs T:=by
 unfold Blk at h ⊢;rw[Below.heap_alloc _ _ _ (Blk.lt h)];exact h
theorem Blk.new(w:World)(cs:List Value)(T:TypeId): Blk (w.alloc (.cells cs.toArray T)) w.heap.size cs T:=heap_alloc_new w _
def itAt(l:List It)(i:Nat): It:=l.getD i ⟨0,0,0,0⟩
def flat: List It->List Value
 | []=>[]
 | x::l=>.int .i64 x.t::.int .i64 x.k::.int .i64 x.d::.int .i64 x.n::flat l
theorem qDq(l:List It): (flat l).length=l.length*4:=by
 induction l with
 | nil=>rfl
 | cons x l ih=>simp[flat,ih];omega
theorem qEt(a b:List It): flat (a++b)=flat a++flat b:=by
 induction a with
 | nil=>rfl
 | cons x l ih=>simp[flat,ih]
theorem flat_get(l:List It)(i:Nat)(h:i<l.length): (flat l)[i*4]?=some (.int .i64 (itAt l i).t)/\(flat l)[i*4+1]?=some (.int .i64 (itAt l i).k)/\(flat l)[i*4+2]?=some (.int .i64 (itAt l i).d)/\(flat l)[i*4+3]?=some (.int .i64 (itAt l i).n):=by
 induction l generalizing i with
 | nil=>simp at h
 | cons x l ih =>
  cases i with
  | zero=>simp[flat,itAt]
  | succ i =>
   have:=ih i (by simpa using h)
   rw[show(i+1)*4=i*4+4 by omega]
   simpa[flat,itAt] using this
theorem qO0(l:List It)(i:Nat)(x:It): flat (l.set i x)=((((flat l).set (i*4) (.int .i64 x.t)).set (i*4+1) (.int .i64 x.k)).set (i*4+2) (.int .i64 x.d)).set (i*4+3) (.int .i64 x.n):=by
 induction l generalizing i with
 | nil=>simp[flat]
 | cons y l ih =>
  cases i with
  | zero=>simp[flat]
  | succ i=>rw[show(i+1)*4=i*4+4 by omega];simp[flat,ih]
structure IRow (w:World) (g cap:Nat) (l:List It):Prop where
 ex:∃cur:List Value,Blk w g cur 87/\cur.length=cap*4/\cur.take (l.length*4)=flat l
 le:l.length<=cap
 max:cap<=maxLen
theorem IRow.lt{w:World}{g cap:Nat}{l:List It}(h:IRow w g cap l): g<w.heap.size:=by obtain⟨cur,hb,_⟩:=h.ex;exact hb.lt
theorem IRow.frozen{w:World}{g cap:Nat}{l:List It}(h:IRow w g cap l)(o:Nat): w.frozen? ⟨g,o,none⟩=false:=by obtain⟨cur,hb,_⟩:=h.ex;exact hb.frozen o
theorem IRow.cells{w:World}{g cap:Nat}{l:List It}(h:IRow w g cap l)(i:Nat)(hi:i<l.length):
  w.cell? ⟨g,i*4,none⟩=some (.int .i64 (itAt l i).t)/\w.cell? ⟨g,i*4+1,none⟩=some (.int .i64 (itAt l i).k)/\w.cell? ⟨g,i*4+2,none⟩=some (.int .i64 (itAt l i).d)/\w.cell? ⟨g,i*4+3,none⟩=some (.int .i64 (itAt l i).n):=by
 obtain⟨cur,hb,hl,ht⟩:=h.ex
 have hg:∀k,k<l.length*4->cur[k]?=(flat l)[k]?:=λk hk=>by rw[<-ht,List.getElem?_take,if_pos hk]
 obtain⟨a,b,c,d⟩:=flat_get l i hi
 exact⟨hb.cell (by rw[hg _ (by omega)];exact a),hb.cell (by rw[hg _ (by omega)];exact b),hb.cell (by rw[hg _ (by omega)];exact c),hb.cell (by rw[hg _ (by omega)];exact d)⟩
theorem IRow.keeps{M:Nat->Prop}{w w':World}{g cap:Nat}{l:List It}(h:IRow w g cap l)(k:Keeps M w w')(hn:¬M g): IRow w' g cap l:=by
 obtain⟨cur,hb,r⟩:=h.ex;exact⟨⟨cur,hb.keeps k hn,r⟩,h.le,h.max⟩
theorem IRow.drew{w:World}{g cap:Nat}{l:List It}(h:IRow w g cap l): IRow w.drew g cap l:=by
 obtain⟨cur,hb,r⟩:=h.ex;exact⟨⟨cur,hb.drew,r⟩,h.le,h.max⟩
def putIt(w:World)(g i:Nat)(x:It): World :=
 (((w.setCell ⟨g,i*4,none⟩ (.int .i64 x.t)).setCell ⟨g,i*4+1,none⟩ (.int .i64 x.k)).setCell ⟨g,i*4+2,none⟩ (.int .i64 x.d)).setCell ⟨g,i*4+3,none⟩ (.int .i64 x.n)
theorem IRow.put{w:World}{g cap:Nat}{l:List It}(h:IRow w g cap l)(i:Nat)(x:It): IRow (putIt w g i x) g cap (l.set i x):=by
 obtain⟨cur,hb,hl,ht⟩:=h.ex
 refine⟨⟨_,(((hb.setCell _ _).setCell _ _).setCell _ _).setCell _ _,by simp[hl],?_⟩,by simpa using h.le,h.max⟩
 rw[qO0,<-ht,List.length_set]
 simp only[List.take_set]
theorem Keeps.putIt{M:Nat->Prop}{a w:World}(h:Keeps M a w){g:Nat}(hp:M g\/a.heap.size<=g)(i:Nat)(x:It): Keeps M a (putIt w g i x) :=
 (((h.setCell hp _).setCell hp _).setCell hp _).setCell hp _
theorem hide{p:Prop}(h:p): Hid p:=h
theorem uh{p:Prop}(h:Hid p): p:=h
structure Cfg where
 kind:Int
 lag:Int
 skew:Int
 cap:Int
 k:Int
 window:Int
 bits:Int
 rows:Int
 width:Int
 panes:Int
 size:Int
 degree:Int
 half:Int
 mark:Int
 s00:Int
 s01:Int
 s10:Int
 s11:Int
 s20:Int
 s21:Int
def Cfg.cells(c:Cfg): List Value:=[.int .i64 c.kind,.int .i64 c.lag,.int .i64 c.skew,.int .i64 c.cap,.int .i64 c.k,.int .i64 c.window,.int .i64 c.bits,.int .i64 c.rows,.int .i64 c.width,.int .i64 c.panes,.int .i64 c.size,.int .i64 c.degree,.int .i64 c.half,.int .i64 c.mark,.int .i64 c.s00,.int .i64 c.s01,.int .i64 c.s10,.int .i64 c.s11,.int .i64 c.s20,.int .i64 c.s21]
def Cfg.val(c:Cfg): Value:=.agg #[.int .i64 c.kind,.int .i64 c.lag,.int .i64 c.skew,.int .i64 c.cap,.int .i64 c.k,.int .i64 c.window,.int .i64 c.bits,.int .i64 c.rows,.int .i64 c.width,.int .i64 c.panes,.int .i64 c.size,.int .i64 c.degree,.int .i64 c.half,.int .i64 c.mark,.int .i64 c.s00,.int .i64 c.s01,.int .i64 c.s10,.int .i64 c.s11,.int .i64 c.s20,.int .i64 c.s21]
theorem qI9(n:Nat)(h:n<=61): (1:Int)<=2 ^ n/\(2:Int) ^ n<=2305843009213693952:=by
 have e:(2:Int) ^ n=((2 ^ n:Nat):Int):=by simp
 have h1:1<=2 ^ n:=Nat.one_le_two_pow
 have h2:2 ^ n<=2 ^ 61:=Nat.pow_le_pow_right (by omega) h
 have h3:(2:Nat) ^ 61=2305843009213693952:=by decide
 rw[e]
 omega
theorem qR2(n:Int)(w:World)(h0:0<=n)(h:n<=4611686018427387904):
  Calls Tryz.prog 225 #[.int .i64 n] w λe w'=>e=.returned (qGi (if 61<n then none else some (2 ^ n.toNat)))/\w'=w:=by
 by_cases hc:61<n
 ·rw[if_pos hc]
  go_enter Tryz.func225,Tryz.ntmps225
  go_wp2
  go_ret2
  exact⟨rfl,rfl⟩
 ·rw[if_neg hc]
  go_enter Tryz.func225,Tryz.ntmps225
  go_wp2
  go_ret2
  refine⟨?_,rfl⟩
  have h2:=qI9 n.toNat (by omega)
  show Ending.returned (.tuple #[.int .i64 (wrap64 (2 ^ n.toNat)),.bool true])=_
  rw[show wrap64 (2 ^ n.toNat)=2 ^ n.toNat by unfold wrap64;omega]
  rfl
theorem qZb(b d:Int)(w:World)(hb:1<=b)(hb':b<=4611686018427387905)(d0:0<=d)(d3:d<=3):
  Calls Tryz.prog 224 #[.int .i64 b,.int .i64 d] w λe w'=>e=.returned (qGi (qHh b d.toNat 1))/\w'=w:=by
 obtain⟨n,rfl⟩:=Int.eq_ofNat_of_zero_le d0
 rw[Int.toNat_natCast]
 exact qY3 b n w hb hb' (by omega)
def qBl(c:Cfg)(t:Int): Option Int :=
 if t<c.mark then none
 else if c.half=0 then qHh (t-c.mark+1) c.degree.toNat 1
 else if 61<(t-c.mark)/c.half then none else some (2 ^ ((t-c.mark)/c.half).toNat)
structure Cfg.weighs (c:Cfg):Prop where
 d0:0<=c.degree
 d1:c.degree<=3
 h0:0<=c.half
 h1:c.half<=100
 m0:0<=c.mark
 m1:c.mark<=4611686018427387904
theorem qYy(c:Cfg)(t:Int)(w:World)(hc:c.weighs)(t0:-100<=t)(t1:t<=4611686018427387904):
  Calls Tryz.prog 176 #[c.val,.int .i64 t] w λe w'=>e=.returned (qGi (qBl c t))/\w'=w.alloc (.cells c.cells.toArray 38):=by
 obtain⟨d0,d1,h0,h1,m0,m1⟩:=hc
 unfold Cfg.val Cfg.cells
 by_cases hm:t<c.mark
 ·have HW:=hide (show qBl c t=none by unfold qBl;rw[if_pos hm])
  go_enter Tryz.func176,Tryz.ntmps176
  go_wp2
  go_ret2
  exact⟨by rw[uh HW];rfl,rfl⟩
 ·by_cases hh:c.half=0
  ·have HW:=hide (show qBl c t=qHh (t-c.mark+1) c.degree.toNat 1 by unfold qBl;rw[if_neg hm,if_pos hh])
   have hhb:(c.half==0)=true:=by simp[hh]
   clear hh
   go_enter Tryz.func176,Tryz.ntmps176
   go_wp2_with fail
   refine(qZb (t-c.mark+1) c.degree _ (by omega) (by omega) d0 d1).mono ?_
   rintro e w' ⟨rfl,rfl⟩
   unfold qGi
   go_wp2
   go_ret2
   exact⟨by rw[uh HW];rfl,rfl⟩
  ·have HW:=hide (show qBl c t=if 61<(t-c.mark)/c.half then none else some (2 ^ ((t-c.mark)/c.half).toNat) by unfold qBl;rw[if_neg hm,if_neg hh])
   have hhb:(c.half==0)=false:=by simp[hh]
   have hh1:1<=c.half:=by omega
   have hq0:0<=(t-c.mark)/c.half:=Int.ediv_nonneg (by omega) (by omega)
   have hq1:(t-c.mark)/c.half<=4611686018427387904:=by
    have:=Int.ediv_le_self c.half (show 0<=t-c.mark by omega)
    omega
   clear hh
   go_enter Tryz.func176,Tryz.ntmps176
   go_wp2_with fail
   refine(qR2 ((t-c.mark)/c.half) _ hq0 hq1).mono ?_
   rintro e w' ⟨rfl,rfl⟩
   rw[<-uh HW]
   unfold qGi
   go_wp2
   go_ret2
   exact⟨rfl,rfl⟩
theorem Blk.newAt{w:World}{b:Nat}(hs:w.heap.size=b)(cs:List Value)(T:TypeId): Blk (w.alloc (.cells cs.toArray T)) b cs T:=by subst hs;exact Blk.new w cs T
def qEk(ty:TypeId)(v:Value): Sem Next:=do pure (.value (<-Instr.loadAt ty v))
theorem qAd(ρ:Operand->Value)(dst:Option Tmp)(x:Operand)(ty:TypeId)(pos:String)(after:Array Edge)(guard:Option (Nat×Bool)):
  execOp ρ { dst,op:=.load 38 x,type:=ty,pos,after,guard }=qEk 38 (ρ x):=rfl
theorem qAe(ρ:Operand->Value)(dst:Option Tmp)(x:Operand)(ty:TypeId)(pos:String)(after:Array Edge)(guard:Option (Nat×Bool)):
  execOp ρ { dst,op:=.load 40 x,type:=ty,pos,after,guard }=qEk 40 (ρ x):=rfl
def qBs(w:World)(b o n:Nat): List Value:=(List.range n).map λj=>(w.cell? ⟨b,o+j,none⟩).getD undef
def qAp(w:World)(b o n:Nat): Value:=.agg (qBs w b o n).toArray
def qAu(w:World)(b o n:Nat): Bool:=(List.range n).all λj=>(w.cell? ⟨b,o+j,none⟩).isSome
theorem qE3{w:World}{b o n:Nat}(h:qAu w b o n=true): w.rangeAt b o (qBs w b o n):=by
 intro j v hv
 have hj:j<n:=by have:=(List.getElem?_eq_some_iff.1 hv).1;simpa[qBs] using this
 have hs:(w.cell? ⟨b,o+j,none⟩).isSome=true:=by simp only[qAu,List.all_eq_true]at h;exact h j (by simpa using hj)
 obtain⟨u,hu⟩:=Option.isSome_iff_exists.1 hs
 simp[qBs,hj,hu]at hv
 rw[hu,hv]
theorem qMl: (Tryz.prog.info? 38).map (·.size)=some 20:=by kernel_rfl
theorem zCc: (Tryz.prog.info? 40).map (·.size)=some 26:=by kernel_rfl
theorem qAf(w:World)(b o:Nat)(h:qAu w b o 20=true): (qEk 38 (.pointer (some ⟨b,o,none⟩))).run Tryz.prog w=.ok (.value (qAp w b o 20)) w:=by
 unfold qEk
 rw[Sem.run_bind,run_loadAt_mid w b o 38 (qBs w b o 20) _ (qE3 h) Tryz.underlying38 rfl (by rw[qMl];simp[qBs])]
 rfl
theorem qAl(w:World)(b o:Nat)(h:qAu w b o 26=true): (qEk 40 (.pointer (some ⟨b,o,none⟩))).run Tryz.prog w=.ok (.value (qAp w b o 26)) w:=by
 unfold qEk
 rw[Sem.run_bind,run_loadAt_mid w b o 40 (qBs w b o 26) _ (qE3 h) Tryz.underlying40 rfl (by rw[zCc];simp[qBs])]
 rfl
theorem qAo{w:World}{b o:Nat}{cs:List Value}(h:w.rangeAt b o cs): qBs w b o cs.length=cs/\qAu w b o cs.length=true:=by
 constructor
 ·apply List.ext_getElem?
  intro j
  by_cases hj:j<cs.length
  ·have:=h j cs[j] (List.getElem?_eq_getElem hj)
   simp[qBs,hj,this]
  ·simp[qBs,hj]
 ·simp only[qAu,List.all_eq_true,List.mem_range]
  intro j hj
  rw[h j cs[j] (List.getElem?_eq_getElem hj)];rfl
theorem qAc(w:World)(b o n:Nat): qAp w.drew b o n=qAp w b o n:=rfl
theorem qAb(w:World)(b o n:Nat): qAu w.drew b o n=qAu w b o n:=rfl
theorem qAj{w:World}{b o n:Nat}(h:qAu w b o n=true)(O:Obj): qAu (w.alloc O) b o n=true:=by
 simp only[qAu,List.all_eq_true]at h ⊢
 intro j hj
 obtain⟨u,hu⟩:=Option.isSome_iff_exists.1 (h j hj)
 rw[World.cell?_alloc_lt _ _ _ (World.block_lt_of_cell? w _ hu)];exact h j hj
theorem qAi{w:World}{b o n:Nat}(h:qAu w b o n=true)(O:Obj): qAp (w.alloc O) b o n=qAp w b o n:=by
 have hc:qBs (w.alloc O) b o n=qBs w b o n:=by
  unfold qBs
  apply List.map_congr_left
  intro j hj
  simp only[qAu,List.all_eq_true]at h
  obtain⟨u,hu⟩:=Option.isSome_iff_exists.1 (h j hj)
  rw[World.cell?_alloc_lt _ _ _ (World.block_lt_of_cell? w _ hu)]
 unfold qAp;rw[hc]
theorem qRg(w:World)(l:List Value)(T:TypeId): (w.alloc (.cells l.toArray T)).rangeAt w.heap.size 0 l:=by
 intro j v hv
 rw[Nat.zero_add,World.cell?_alloc_new]
 simpa using hv
theorem qC9(w:World)(l:List Value)(T:TypeId)(n:Nat)(h:l.length=n): qAu (w.alloc (.cells l.toArray T)) w.heap.size 0 n=true:=by
 subst h;exact(qAo (qRg w l T)).2
theorem qAg(w:World)(l:List Value)(T:TypeId)(n:Nat)(h:l.length=n): qAp (w.alloc (.cells l.toArray T)) w.heap.size 0 n=.agg l.toArray:=by
 subst h;unfold qAp;rw[(qAo (qRg w l T)).1]
theorem qAk(w:World)(l:List Value)(T:TypeId)(n:Nat): qAu (w.alloc (.cells l.toArray T)) w.heap.size 0 n=decide (n<=l.length):=by
 rw[Bool.eq_iff_iff]
 simp only[qAu,List.all_eq_true,List.mem_range,decide_eq_true_eq,Nat.zero_add,World.cell?_alloc_new]
 constructor
 ·intro h
  rcases Nat.lt_or_ge l.length n with hl | hl
  ·have:=h l.length hl
   simp at this
  ·exact hl
 ·intro h j hj
  have hj':j<l.length:=by omega
  simp[hj']
theorem qAm{w:World}{b o n:Nat}(h:b≠w.heap.size)(O:Obj): qAu (w.alloc O) b o n=qAu w b o n:=by
 unfold qAu
 congr 1;funext j
 rw[World.cell?_alloc_old _ _ _ h]
theorem qAn{w:World}{b o n:Nat}(h:b≠w.heap.size)(O:Obj): qAp (w.alloc O) b o n=qAp w b o n:=by
 unfold qAp qBs
 congr 2
 apply List.map_congr_left
 intro j _
 rw[World.cell?_alloc_old _ _ _ h]
theorem qBf{w:World}{b:Nat}{l:List Value}{T:TypeId}(h:Blk w b l T)(n:Nat)(hn:l.length=n): qAp w b 0 n=.agg l.toArray/\qAu w b 0 n=true:=by
 have hr:=qAo (w:=w) (b:=b) (o:=0) (cs:=l) (λj v hv=>by rw[Nat.zero_add];exact h.cell hv)
 subst hn
 exact⟨by unfold qAp;rw[hr.1],hr.2⟩
theorem qBb{w:World}{b:Nat}{l:List Value}{T:TypeId}(h:Blk w b l T)(o n:Nat)(cs:List Value)(hcs:(l.drop o).take n=cs)(hn:cs.length=n): qAp w b o n=.agg cs.toArray/\qAu w b o n=true:=by
 have hr:=qAo (w:=w) (b:=b) (o:=o) (cs:=cs) (λj v hv=>by
    rw[<-hcs,List.getElem?_take]at hv
    split at hv
    ·exact h.cell (by simpa using hv)
    ·cases hv)
 subst hn
 exact⟨by unfold qAp;rw[hr.1],hr.2⟩
theorem qMx(w:World)(l:List Value)(T:TypeId)(o n:Nat): (w.alloc (.cells l.toArray T)).rangeAt w.heap.size o ((l.drop o).take n):=by
 intro j v hv
 rw[World.cell?_alloc_new]
 rw[List.getElem?_take]at hv
 split at hv
 ·simpa using hv
 ·cases hv
theorem qTl(w:World)(l:List Value)(T:TypeId)(o n:Nat)(h:o+n<=l.length): qAu (w.alloc (.cells l.toArray T)) w.heap.size o n=true:=by
 have:=(qAo (qMx w l T o n)).2
 rwa [show((l.drop o).take n).length=n by simp;omega]at this
theorem qTd(w:World)(l:List Value)(T:TypeId)(o n:Nat)(h:o+n<=l.length): qAp (w.alloc (.cells l.toArray T)) w.heap.size o n=.agg ((l.drop o).take n).toArray:=by
 have:=(qAo (qMx w l T o n)).1
 rw[show((l.drop o).take n).length=n by simp;omega]at this
 unfold qAp;rw[this]
end
section
open Go.RowKit
attribute [local go_sem ↓] qAd qAe
attribute [local go_sem] qAf qAl qAc qAb qAn qAm qAg qAk
def qD9(c:Cfg): Bool:=inB c.lag 0 100&&(inB c.skew 0 100&&inB c.cap 1 8)
def qEb(c:Cfg): Bool:=inB c.window 1 1000
def countB(c:Cfg): Bool:=inB c.k 1 10&&qEb c
def qTr(a b:Int): Bool:=inB a 1 2305843009213693950&&inB b 0 2305843009213693950
def Cfg.seed(c:Cfg): Nat->Bool
 | 0=>qTr c.s00 c.s01
 | 1=>qTr c.s10 c.s11
 | _=>qTr c.s20 c.s21
def qFl(c:Cfg): Nat->Nat->Bool
 | 0,_=>true
 | f+1,i=>c.seed i&&qFl c f (i+1)
def qKh(c:Cfg)(n:Nat): Bool:=qFl c n 0
def qGm(c:Cfg): Bool:=inB c.bits 1 4&&(qEb c&&qKh c 1)
def qRk(c:Cfg): Bool:=inB c.rows 1 3&&(inB c.width 1 16&&(inB c.panes 1 8&&(qEb c&&((c.window%c.panes==0)&&qKh c c.rows.toNat))))
def qHl(c:Cfg): Bool:=inB c.degree 0 3&&(inB c.half 0 100&&inB c.mark 0 4611686018427387904)
def qJg(c:Cfg): Bool:=inB c.size 1 5&&qHl c
theorem qI0(c:Cfg)(w:World): Calls Tryz.prog 88 #[c.val] w λe w'=>e=.returned (.bool (qD9 c))/\Keeps (λ_=>False) w w':=by
 have HC:=hide (show qD9 c=(inB c.lag 0 100&&(inB c.skew 0 100&&inB c.cap 1 8)) from rfl)
 unfold Cfg.val
 cases h1:inB c.lag 0 100
 ·go_enter Tryz.func88,Tryz.ntmps88
  go_wp2_with (go_at_call 58;refine(qAh _ _ _ _).mono ?_;rintro e w' ⟨rfl,rfl⟩)
  go_ret
  exact⟨qBa (by rw[uh HC,h1];rfl),(Keeps.refl _ _).alloc _⟩
 ·cases h2:inB c.skew 0 100
  ·go_enter Tryz.func88,Tryz.ntmps88
   go_wp2_with (go_at_call 58;refine(qAh _ _ _ _).mono ?_;rintro e w' ⟨rfl,rfl⟩)
   go_ret
   exact⟨qBa (by rw[uh HC,h1,h2];rfl),(Keeps.refl _ _).alloc _⟩
  ·go_enter Tryz.func88,Tryz.ntmps88
   go_wp2_with (go_at_call 58;refine(qAh _ _ _ _).mono ?_;rintro e w' ⟨rfl,rfl⟩)
   go_ret
   exact⟨qBa (by rw[uh HC,h1,h2];rfl),(Keeps.refl _ _).alloc _⟩
theorem qFa(c:Cfg)(w:World): Calls Tryz.prog 156 #[c.val] w λe w'=>e=.returned (.bool (qEb c))/\Keeps (λ_=>False) w w':=by
 have HC:=hide (show qEb c=inB c.window 1 1000 from rfl)
 unfold Cfg.val
 go_enter Tryz.func156,Tryz.ntmps156
 go_wp2_with (go_at_call 58;refine(qAh _ _ _ _).mono ?_;rintro e w' ⟨rfl,rfl⟩)
 go_ret
 exact⟨qBa (uh HC).symm,(Keeps.refl _ _).alloc _⟩
theorem qH5(c:Cfg)(w:World): Calls Tryz.prog 131 #[c.val] w λe w'=>e=.returned (.bool (qHl c))/\Keeps (λ_=>False) w w':=by
 have HC:=hide (show qHl c=(inB c.degree 0 3&&(inB c.half 0 100&&inB c.mark 0 4611686018427387904)) from rfl)
 unfold Cfg.val
 cases h1:inB c.degree 0 3
 ·go_enter Tryz.func131,Tryz.ntmps131
  go_wp2_with (go_at_call 58;refine(qAh _ _ _ _).mono ?_;rintro e w' ⟨rfl,rfl⟩)
  go_ret
  exact⟨qBa (by rw[uh HC,h1];rfl),(Keeps.refl _ _).alloc _⟩
 ·cases h2:inB c.half 0 100
  all_goals
   go_enter Tryz.func131,Tryz.ntmps131
   go_wp2_with (first | (go_at_call 58;refine(qAh _ _ _ _).mono ?_;rintro e w' ⟨rfl,rfl⟩) | (go_at_call 65;refine(qE5 _ _).mono ?_;rintro e w' ⟨rfl,rfl⟩))
   go_ret
   exact⟨qBa (by rw[uh HC,h1,h2];rfl),(Keeps.refl _ _).alloc _⟩
theorem qNv(c:Cfg)(w:World): Calls Tryz.prog 115 #[c.val] w λe w'=>e=.returned (.bool (countB c))/\Keeps (λ_=>False) w w':=by
 have HC:=hide (show countB c=(inB c.k 1 10&&qEb c) from rfl)
 unfold Cfg.val
 cases h1:inB c.k 1 10
 ·go_enter Tryz.func115,Tryz.ntmps115
  go_wp2_with (go_at_call 58;refine(qAh _ _ _ _).mono ?_;rintro e w' ⟨rfl,rfl⟩)
  go_ret
  exact⟨qBa (by rw[uh HC,h1];rfl),(Keeps.refl _ _).alloc _⟩
 ·go_enter Tryz.func115,Tryz.ntmps115
  go_wp2_with (first | (go_at_call 58;refine(qAh _ _ _ _).mono ?_;rintro e w' ⟨rfl,rfl⟩) | (go_at_call 156;refine(qFa c _).mono ?_;rintro e w' ⟨rfl,hk⟩))
  go_ret
  exact⟨qBa (by rw[uh HC,h1];rfl),((Keeps.refl _ _).alloc _).then hk⟩
theorem qNj(c:Cfg)(w:World): Calls Tryz.prog 135 #[c.val] w λe w'=>e=.returned (.bool (qJg c))/\Keeps (λ_=>False) w w':=by
 have HC:=hide (show qJg c=(inB c.size 1 5&&qHl c) from rfl)
 unfold Cfg.val
 cases h1:inB c.size 1 5
 ·go_enter Tryz.func135,Tryz.ntmps135
  go_wp2_with (go_at_call 58;refine(qAh _ _ _ _).mono ?_;rintro e w' ⟨rfl,rfl⟩)
  go_ret
  exact⟨qBa (by rw[uh HC,h1];rfl),(Keeps.refl _ _).alloc _⟩
 ·go_enter Tryz.func135,Tryz.ntmps135
  go_wp2_with (first | (go_at_call 58;refine(qAh _ _ _ _).mono ?_;rintro e w' ⟨rfl,rfl⟩) | (go_at_call 131;refine(qH5 c _).mono ?_;rintro e w' ⟨rfl,hk⟩))
  go_ret
  exact⟨qBa (by rw[uh HC,h1];rfl),((Keeps.refl _ _).alloc _).then hk⟩
def Cfg.seeds(c:Cfg): Value:=.agg #[.int .i64 c.s00,.int .i64 c.s01,.int .i64 c.s10,.int .i64 c.s11,.int .i64 c.s20,.int .i64 c.s21]
theorem qJo(c:Cfg)(n:Int)(w:World)(h0:0<=n)(h3:n<=3): Calls Tryz.prog 163 #[c.seeds,.int .i64 n] w λe w'=>e=.returned (.bool (qKh c n.toNat))/\Keeps (λ_=>False) w w':=by
 obtain⟨m,rfl⟩:=Int.eq_ofNat_of_zero_le h0
 rw[Int.toNat_natCast]
 have hm3:m<=3:=by omega
 unfold Cfg.seeds
 go_enter Tryz.func163,Tryz.ntmps163
 go_wp2
 go_loop [7] (λi=>∃k:Nat,k<=m/\i=.int .i64 k/\Hid (qKh c m=qFl c (m-k) k)) (λi=>m-(intOf i).toNat)
 case atStart=>exact⟨0,Nat.zero_le _,rfl,rfl⟩
 case round =>
  obtain⟨k,hk,rfl,HE⟩:=hrel
  by_cases hlt:k<m
  ·have HE':=hide (show qKh c m=(c.seed k&&qFl c (m-(k+1)) (k+1)) by rw[uh HE,show m-k=(m-(k+1))+1 by omega];rfl)
   clear HE
   have hk3:k=0\/k=1\/k=2:=by omega
   have hlt':(k:Int)<(m:Int):=by omega
   rcases hk3 with hk3 | hk3 | hk3
   all_goals
    subst hk3
    simp only[Cfg.seed,qTr]at HE'
   ·cases h1:inB c.s00 1 2305843009213693950
    ·go_wp2_with (go_at_call 58;refine(qAh _ _ _ _).mono ?_;rintro e w' ⟨rfl,rfl⟩)
     go_ret
     exact⟨qBa (by rw[uh HE',h1];rfl),(Keeps.refl _ _).alloc _⟩
    ·cases h2:inB c.s01 0 2305843009213693950
     ·go_wp2_with (go_at_call 58;refine(qAh _ _ _ _).mono ?_;rintro e w' ⟨rfl,rfl⟩)
      go_ret
      exact⟨qBa (by rw[uh HE',h1,h2];rfl),(Keeps.refl _ _).alloc _⟩
     ·go_wp2_with (go_at_call 58;refine(qAh _ _ _ _).mono ?_;rintro e w' ⟨rfl,rfl⟩)
      go_round
      case rel=>exact⟨1,by omega,rfl,by rw[h1,h2]at HE';exact HE'⟩
      case measure=>simp[intOf];omega
   ·cases h1:inB c.s10 1 2305843009213693950
    ·go_wp2_with (go_at_call 58;refine(qAh _ _ _ _).mono ?_;rintro e w' ⟨rfl,rfl⟩)
     go_ret
     exact⟨qBa (by rw[uh HE',h1];rfl),(Keeps.refl _ _).alloc _⟩
    ·cases h2:inB c.s11 0 2305843009213693950
     ·go_wp2_with (go_at_call 58;refine(qAh _ _ _ _).mono ?_;rintro e w' ⟨rfl,rfl⟩)
      go_ret
      exact⟨qBa (by rw[uh HE',h1,h2];rfl),(Keeps.refl _ _).alloc _⟩
     ·go_wp2_with (go_at_call 58;refine(qAh _ _ _ _).mono ?_;rintro e w' ⟨rfl,rfl⟩)
      go_round
      case rel=>exact⟨2,by omega,rfl,by rw[h1,h2]at HE';exact HE'⟩
      case measure=>simp[intOf];omega
   ·cases h1:inB c.s20 1 2305843009213693950
    ·go_wp2_with (go_at_call 58;refine(qAh _ _ _ _).mono ?_;rintro e w' ⟨rfl,rfl⟩)
     go_ret
     exact⟨qBa (by rw[uh HE',h1];rfl),(Keeps.refl _ _).alloc _⟩
    ·cases h2:inB c.s21 0 2305843009213693950
     ·go_wp2_with (go_at_call 58;refine(qAh _ _ _ _).mono ?_;rintro e w' ⟨rfl,rfl⟩)
      go_ret
      exact⟨qBa (by rw[uh HE',h1,h2];rfl),(Keeps.refl _ _).alloc _⟩
     ·go_wp2_with (go_at_call 58;refine(qAh _ _ _ _).mono ?_;rintro e w' ⟨rfl,rfl⟩)
      go_round
      case rel=>exact⟨3,by omega,rfl,by rw[h1,h2]at HE';exact HE'⟩
      case measure=>simp[intOf];omega
  ·go_wp2
   go_ret
   exact⟨qBa (by rw[uh HE,show m-k=0 by omega];rfl),(Keeps.refl _ _).alloc _⟩
theorem qCi{n lo hi:Int}(h:inB n lo hi=true): lo<=n/\n<=hi:=by simpa[inB] using h
theorem qJ4(c:Cfg)(w:World): Calls Tryz.prog 121 #[c.val] w λe w'=>e=.returned (.bool (qGm c))/\Keeps (λ_=>False) w w':=by
 have HC:=hide (show qGm c=(inB c.bits 1 4&&(qEb c&&qKh c 1)) from rfl)
 unfold Cfg.val
 cases h1:inB c.bits 1 4
 ·go_enter Tryz.func121,Tryz.ntmps121
  go_wp2_with (go_at_call 58;refine(qAh _ _ _ _).mono ?_;rintro e w' ⟨rfl,rfl⟩)
  go_ret
  exact⟨qBa (by rw[uh HC,h1];rfl),(Keeps.refl _ _).alloc _⟩
 ·cases h2:qEb c
  ·go_enter Tryz.func121,Tryz.ntmps121
   go_wp2_with (first | (go_at_call 58;refine(qAh _ _ _ _).mono ?_;rintro e w' ⟨rfl,rfl⟩) | (go_at_call 156;refine(qFa c _).mono ?_;rintro e w' ⟨rfl,hk⟩))
   go_ret
   exact⟨qBa (by rw[uh HC,h1,h2];rfl),((Keeps.refl _ _).alloc _).then hk⟩
  ·go_enter Tryz.func121,Tryz.ntmps121
   go_wp2_with fail
   refine(qAh _ _ _ _).mono ?_
   rintro e w' ⟨rfl,rfl⟩
   go_wp2_with fail
   refine(qFa c _).mono ?_
   rintro e w1 ⟨rfl,hk⟩
   have hB:Blk w1 w.heap.size c.cells 38:=(Blk.new w c.cells 38).keeps hk (λh=>h)
   have HK:=hide (((Keeps.refl _ _).alloc _).then hk)
   have c14:w1.cell? ⟨w.heap.size,14,none⟩=some (.int .i64 c.s00):=hB.cell rfl
   have c15:w1.cell? ⟨w.heap.size,15,none⟩=some (.int .i64 c.s01):=hB.cell rfl
   have c16:w1.cell? ⟨w.heap.size,16,none⟩=some (.int .i64 c.s10):=hB.cell rfl
   have c17:w1.cell? ⟨w.heap.size,17,none⟩=some (.int .i64 c.s11):=hB.cell rfl
   have c18:w1.cell? ⟨w.heap.size,18,none⟩=some (.int .i64 c.s20):=hB.cell rfl
   have c19:w1.cell? ⟨w.heap.size,19,none⟩=some (.int .i64 c.s21):=hB.cell rfl
   clear hk hB
   go_wp2_with fail
   refine(qJo c 1 _ (by omega) (by omega)).mono ?_
   rintro e w2 ⟨rfl,hk2⟩
   go_wp2
   go_ret
   exact⟨qBa (by rw[uh HC,h1,h2];rfl),(uh HK).then hk2⟩
theorem qN8(c:Cfg)(w:World): Calls Tryz.prog 127 #[c.val] w λe w'=>e=.returned (.bool (qRk c))/\Keeps (λ_=>False) w w':=by
 have HC:=hide (show qRk c=(inB c.rows 1 3&&(inB c.width 1 16&&(inB c.panes 1 8&&(qEb c&&((c.window%c.panes==0)&&qKh c c.rows.toNat))))) from rfl)
 unfold Cfg.val
 cases h1:inB c.rows 1 3
 ·go_enter Tryz.func127,Tryz.ntmps127
  go_wp2_with (go_at_call 58;refine(qAh _ _ _ _).mono ?_;rintro e w' ⟨rfl,rfl⟩)
  go_ret
  exact⟨qBa (by rw[uh HC,h1];rfl),(Keeps.refl _ _).alloc _⟩
 ·cases h2:inB c.width 1 16
  ·go_enter Tryz.func127,Tryz.ntmps127
   go_wp2_with (go_at_call 58;refine(qAh _ _ _ _).mono ?_;rintro e w' ⟨rfl,rfl⟩)
   go_ret
   exact⟨qBa (by rw[uh HC,h1,h2];rfl),(Keeps.refl _ _).alloc _⟩
  ·cases h3:inB c.panes 1 8
   ·go_enter Tryz.func127,Tryz.ntmps127
    go_wp2_with (go_at_call 58;refine(qAh _ _ _ _).mono ?_;rintro e w' ⟨rfl,rfl⟩)
    go_ret
    exact⟨qBa (by rw[uh HC,h1,h2,h3];rfl),(Keeps.refl _ _).alloc _⟩
   ·cases h4:qEb c
    ·go_enter Tryz.func127,Tryz.ntmps127
     go_wp2_with (first | (go_at_call 58;refine(qAh _ _ _ _).mono ?_;rintro e w' ⟨rfl,rfl⟩) | (go_at_call 156;refine(qFa c _).mono ?_;rintro e w' ⟨rfl,hk⟩))
     go_ret
     exact⟨qBa (by rw[uh HC,h1,h2,h3,h4];rfl),((Keeps.refl _ _).alloc _).then hk⟩
    ·obtain⟨p1,p8⟩:=qCi h3
     obtain⟨q1,q8⟩:=qCi h4
     obtain⟨r1,r3⟩:=qCi h1
     cases h5:(c.window%c.panes==0)
     all_goals
      go_enter Tryz.func127,Tryz.ntmps127
      go_wp2_with (first | (go_at_call 58;refine(qAh _ _ _ _).mono ?_;rintro e w' ⟨rfl,rfl⟩))
      refine(qFa c _).mono ?_
      rintro e w1 ⟨rfl,hk⟩
      have hB:Blk w1 w.heap.size c.cells 38:=(Blk.new w c.cells 38).keeps hk (λh=>h)
      have HK:=hide (((Keeps.refl _ _).alloc _).then hk)
      have c5:w1.cell? ⟨w.heap.size,5,none⟩=some (.int .i64 c.window):=hB.cell rfl
      have c7:w1.cell? ⟨w.heap.size,7,none⟩=some (.int .i64 c.rows):=hB.cell rfl
      have c9:w1.cell? ⟨w.heap.size,9,none⟩=some (.int .i64 c.panes):=hB.cell rfl
      have c14:w1.cell? ⟨w.heap.size,14,none⟩=some (.int .i64 c.s00):=hB.cell rfl
      have c15:w1.cell? ⟨w.heap.size,15,none⟩=some (.int .i64 c.s01):=hB.cell rfl
      have c16:w1.cell? ⟨w.heap.size,16,none⟩=some (.int .i64 c.s10):=hB.cell rfl
      have c17:w1.cell? ⟨w.heap.size,17,none⟩=some (.int .i64 c.s11):=hB.cell rfl
      have c18:w1.cell? ⟨w.heap.size,18,none⟩=some (.int .i64 c.s20):=hB.cell rfl
      have c19:w1.cell? ⟨w.heap.size,19,none⟩=some (.int .i64 c.s21):=hB.cell rfl
      clear hk hB
      go_wp2_with fail
     ·go_ret
      exact⟨qBa (by rw[uh HC,h1,h2,h3,h4,h5];rfl),uh HK⟩
     ·refine(qJo c c.rows _ (by omega) (by omega)).mono ?_
      rintro e w2 ⟨rfl,hk2⟩
      go_wp2
      go_ret
      exact⟨qBa (by rw[uh HC,h1,h2,h3,h4,h5];rfl),(uh HK).then hk2⟩
theorem qR3(n:Int)(w:World):
  Calls Tryz.prog 164 #[.int .i64 n] w λe w'=>e=.returned (.bool (inB n 0 2147483648))/\w'=w:=by
 go_enter Tryz.func164,Tryz.ntmps164
 go_wp2_with (go_at_call 58;refine(qAh _ _ _ _).mono ?_;rintro e w' ⟨rfl,rfl⟩)
 go_ret
 exact⟨rfl,rfl⟩
theorem zBc(n:Int)(w:World):
  Calls Tryz.prog 181 #[.int .i64 n] w λe w'=>e=.returned (.bool (inB n 1 2147483648))/\w'=w:=by
 go_enter Tryz.func181,Tryz.ntmps181
 go_wp2_with (go_at_call 58;refine(qAh _ _ _ _).mono ?_;rintro e w' ⟨rfl,rfl⟩)
 go_ret
 exact⟨rfl,rfl⟩
def qXu(x:It): Int:=if inB x.k 0 2147483648 then 0 else 10
def qG0(c:Cfg)(x:It): Int:=if (qBl c x.t).isSome then 0 else 8
def qMp(c:Cfg)(x:It): Int:=if (qBl c x.t).isSome then(if inB x.k 0 2147483648 then(if inB x.d 1 2147483648 then 0 else 9) else 10) else 8
theorem qI2(c:Cfg)(x:It)(w:World):
  Calls Tryz.prog 118 #[c.val,x.val] w λe w'=>e=.returned (.int .i64 0)/\Keeps (λ_=>False) w w':=by
 unfold Cfg.val It.val
 go_enter Tryz.func118,Tryz.ntmps118
 go_wp2
 go_ret
 exact⟨rfl,by repeat (first | exact Keeps.refl _ _ | apply Keeps.alloc)⟩
theorem qFw(c:Cfg)(x:It)(w:World):
  Calls Tryz.prog 124 #[c.val,x.val] w λe w'=>e=.returned (.int .i64 (qXu x))/\Keeps (λ_=>False) w w':=by
 unfold Cfg.val It.val
 have HE:=hide (show qXu x=if inB x.k 0 2147483648 then 0 else 10 from rfl)
 cases h:inB x.k 0 2147483648
 all_goals
  go_enter Tryz.func124,Tryz.ntmps124
  go_wp2_with (go_at_call 164;refine(qR3 _ _).mono ?_;rintro e w' ⟨rfl,rfl⟩)
  go_ret
  exact⟨qA7 (by rw[uh HE,h];rfl),by repeat (first | exact Keeps.refl _ _ | apply Keeps.alloc)⟩
theorem qDg(c:Cfg)(x:It)(w:World)(hc:c.weighs)(t0:0<=x.t)(t1:x.t<=4611686018427387904):
  Calls Tryz.prog 133 #[c.val,x.val] w λe w'=>e=.returned (.int .i64 (qG0 c x))/\Keeps (λ_=>False) w w':=by
 unfold Cfg.val It.val
 have HE:=hide (show qG0 c x=if (qBl c x.t).isSome then 0 else 8 from rfl)
 have HC:=hide hc
 cases h:(qBl c x.t).isSome
 all_goals
  clear hc
  go_enter Tryz.func133,Tryz.ntmps133
  go_wp2_with fail
  refine(qYy c x.t _ (uh HC) (by omega) t1).mono ?_
  rintro e w' ⟨rfl,rfl⟩
  unfold qGi
  rw[h]
  go_wp2
  go_ret
  exact⟨qA7 (by rw[uh HE,h];rfl),by repeat (first | exact Keeps.refl _ _ | apply Keeps.alloc)⟩
theorem qJ8(c:Cfg)(x:It)(w:World)(hc:c.weighs)(t0:0<=x.t)(t1:x.t<=4611686018427387904):
  Calls Tryz.prog 137 #[c.val,x.val] w λe w'=>e=.returned (.int .i64 (qMp c x))/\Keeps (λ_=>False) w w':=by
 have HE:=hide (show qMp c x=if (qBl c x.t).isSome then(if inB x.k 0 2147483648 then(if inB x.d 1 2147483648 then 0 else 9) else 10) else 8 from rfl)
 have HC:=hide hc
 have HB:=hide ((Blk.new w c.cells 38).alloc (.cells x.cells 87))
 have HX:=hide (show Blk ((w.alloc (.cells c.cells.toArray 38)).alloc (.cells x.cells 87)) (w.heap.size+1) [.int .i64 x.t,.int .i64 x.k,.int .i64 x.d,.int .i64 x.n] 87 by
    have:=Blk.new (w.alloc (.cells c.cells.toArray 38)) [.int .i64 x.t,.int .i64 x.k,.int .i64 x.d,.int .i64 x.n] 87
    rwa [World.size_alloc]at this)
 have HK:=hide (((Keeps.refl (λ_=>False) w).alloc (.cells c.cells.toArray 38)).alloc (.cells x.cells 87))
 unfold Cfg.val It.val
 cases h:(qBl c x.t).isSome
 ·have hw:qG0 c x=8:=by unfold qG0;rw[h];rfl
  clear hc
  go_enter Tryz.func137,Tryz.ntmps137
  go_wp2_with fail
  refine(qDg c x _ (uh HC) t0 t1).mono ?_
  rintro e w1 ⟨rfl,hk1⟩
  rw[hw]
  go_wp2
  go_ret
  exact⟨qA7 (by rw[uh HE,h];rfl),(uh HK).then hk1⟩
 ·have hw:qG0 c x=0:=by unfold qG0;rw[h];rfl
  clear hc
  go_enter Tryz.func137,Tryz.ntmps137
  go_wp2_with fail
  refine(qDg c x _ (uh HC) t0 t1).mono ?_
  rintro e w1 ⟨rfl,hk1⟩
  rw[hw]
  have hb1:=(uh HB).keeps hk1 (λh=>h)
  have hx1:=(uh HX).keeps hk1 (λh=>h)
  obtain⟨hv1,hh1⟩:=qBf hb1 20 rfl
  have a0:w1.cell? ⟨w.heap.size+1,0,none⟩=some (.int .i64 x.t):=hx1.cell rfl
  have a1:w1.cell? ⟨w.heap.size+1,1,none⟩=some (.int .i64 x.k):=hx1.cell rfl
  have a2:w1.cell? ⟨w.heap.size+1,2,none⟩=some (.int .i64 x.d):=hx1.cell rfl
  have a3:w1.cell? ⟨w.heap.size+1,3,none⟩=some (.int .i64 x.n):=hx1.cell rfl
  have HK1:=hide ((uh HK).then hk1)
  have HX1:=hide hx1
  clear hk1 hb1 hx1
  go_wp2_with fail
  refine(qFw c x _).mono ?_
  rintro e w2 ⟨rfl,hk2⟩
  have hx2:=(uh HX1).keeps hk2 (λh=>h)
  have b2:w2.cell? ⟨w.heap.size+1,2,none⟩=some (.int .i64 x.d):=hx2.cell rfl
  have HK2:=hide ((uh HK1).then hk2)
  clear hk2 hx2
  cases h2:inB x.k 0 2147483648
  ·have hw2:qXu x=10:=by unfold qXu;rw[h2];rfl
   rw[hw2]
   go_wp2
   go_ret
   exact⟨qA7 (by rw[uh HE,h,h2];rfl),uh HK2⟩
  ·have hw2:qXu x=0:=by unfold qXu;rw[h2];rfl
   rw[hw2]
   cases h3:inB x.d 1 2147483648
   all_goals
    go_wp2_with (go_at_call 181;refine(zBc _ _).mono ?_;rintro e w' ⟨rfl,rfl⟩)
    go_ret
    exact⟨qA7 (by rw[uh HE,h,h2,h3];rfl),uh HK2⟩
end
end Go.Proofs.YtahnliehdjncdaaGreatDoor
