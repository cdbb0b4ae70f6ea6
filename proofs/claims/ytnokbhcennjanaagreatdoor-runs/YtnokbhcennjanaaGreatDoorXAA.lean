import Derived.Test.YtnokbhcennjanaaGreatDoorRows
import Derived.WalkKit
import Derived.WalkLawsBesides
import Derived.WalkSpells
import Derived.BigQuiet
import Derived.Deep.MidRow
import Derived.BigRegion
import Derived.Deep.AppendLies
import Derived.Deep.QuietTactic
import Derived.Deep.RegionHeld3
import Derived.Deep.RegionLaw
import Derived.Laws.EntriesVeiled
open Go.RowKit Go.Proofs.Tryz
set_option maxRecDepth 100000
set_option maxHeartbeats 16000000
namespace Go.Proofs.YtnokbhcennjanaaGreatDoor
theorem hX:type_of% @List.getElem?_eq_getElem:=@List.getElem?_eq_getElem
theorem hY:type_of% @List.length_append:=@List.length_append
theorem hZ:type_of% @if_neg:=@if_neg
theorem h9:type_of% @if_pos:=@if_pos
theorem ic:type_of% @Go.IntKind.wrap_i64:=@Go.IntKind.wrap_i64
theorem ig:type_of% @List.mem_append:=@List.mem_append
theorem ij:type_of% @List.mem_singleton:=@List.mem_singleton
theorem ik:type_of% @List.getElem?_eq_some_iff:=@List.getElem?_eq_some_iff
theorem il:type_of% @Nat.le_refl:=@Nat.le_refl
theorem im:type_of% @List.length_map:=@List.length_map
theorem iq:type_of% @List.take_of_length_le:=@List.take_of_length_le
theorem ir:type_of% @Go.World.ownsRow_nil:=@Go.World.ownsRow_nil
theorem iu:type_of% @List.mem_of_getElem?:=@List.mem_of_getElem?
theorem iw:type_of% @List.mem_cons:=@List.mem_cons
theorem iy:type_of% @List.map_append:=@List.map_append
theorem iz:type_of% @List.append_nil:=@List.append_nil
theorem iA:type_of% @List.length_cons:=@List.length_cons
theorem iB:type_of% @List.mem_of_mem_drop:=@List.mem_of_mem_drop
theorem iC:type_of% @List.map_cons:=@List.map_cons
theorem iD:type_of% @List.length_take:=@List.length_take
theorem iE:type_of% @List.mem_map:=@List.mem_map
theorem iF:type_of% @List.mem_map_of_mem:=@List.mem_map_of_mem
theorem iG:type_of% @Int.le_refl:=@Int.le_refl
theorem iH:type_of% @Int.toNat_natCast:=@Int.toNat_natCast
theorem iI:type_of% @decide_eq_true_eq:=@decide_eq_true_eq
theorem iJ:type_of% @Go.heap_alloc_new:=@Go.heap_alloc_new
theorem iK:type_of% @Bool.and_eq_true:=@Bool.and_eq_true
theorem iL:type_of% @List.length_eq_zero_iff:=@List.length_eq_zero_iff
theorem iM:type_of% @Nat.zero_le:=@Nat.zero_le
theorem iN:type_of% @Go.bodyPost_ret:=@Go.bodyPost_ret
theorem iO:type_of% @List.getElem?_append_left:=@List.getElem?_append_left
theorem iP:type_of% @List.getElem?_map:=@List.getElem?_map
theorem iQ:type_of% @List.length_drop:=@List.length_drop
theorem iR:type_of% @List.filter_cons:=@List.filter_cons
theorem iS:type_of% @List.getElem?_append_right:=@List.getElem?_append_right
theorem iT:type_of% @Go.World.news_of_block:=@Go.World.news_of_block
theorem iU:type_of% @List.drop_eq_nil_of_le:=@List.drop_eq_nil_of_le
theorem iV:type_of% @List.getElem?_take:=@List.getElem?_take
theorem iW:type_of% @List.mem_of_find?_eq_some:=@List.mem_of_find?_eq_some
theorem iX:type_of% @List.take_append_of_le_length:=@List.take_append_of_le_length
theorem iY:type_of% @List.pairwise_append:=@List.pairwise_append
theorem iZ:type_of% @List.length_singleton:=@List.length_singleton
theorem ja:type_of% @Nat.zero_add:=@Nat.zero_add
theorem jb:type_of% @List.Perm.refl:=@List.Perm.refl
theorem jc:type_of% @List.getElem_mem:=@List.getElem_mem
theorem jd:type_of% @Int.eq_ofNat_of_zero_le:=@Int.eq_ofNat_of_zero_le
theorem je:type_of% @List.take_succ_eq_append_getElem:=@List.take_succ_eq_append_getElem
theorem jf:type_of% @Go.wpList_append_lies:=@Go.wpList_append_lies
theorem jg:type_of% @List.take_add_one:=@List.take_add_one
theorem jh:type_of% @Go.info_parts:=@Go.info_parts
theorem ji:type_of% @List.pairwise_cons:=@List.pairwise_cons
theorem jj:type_of% @List.filter_append:=@List.filter_append
theorem jk:type_of% @Nat.pow_le_pow_right:=@Nat.pow_le_pow_right
theorem jl:type_of% @Int.tdiv_eq_ediv_of_nonneg:=@Int.tdiv_eq_ediv_of_nonneg
theorem jm:type_of% @Go.Sem.run_bind:=@Go.Sem.run_bind
theorem jn:type_of% @List.mem_of_mem_take:=@List.mem_of_mem_take
theorem jo:type_of% @Int.mul_le_mul_of_nonneg_left:=@Int.mul_le_mul_of_nonneg_left
theorem jq:type_of% @Go.RowKit.Below.heap_alloc:=@Go.RowKit.Below.heap_alloc
theorem jr:type_of% @Array.getElem?_eq_some_iff:=@Array.getElem?_eq_some_iff
theorem js:type_of% @List.mem_or_eq_of_mem_set:=@List.mem_or_eq_of_mem_set
theorem jt:type_of% @List.nil_append:=@List.nil_append
theorem ju:type_of% @List.flatMap_cons:=@List.flatMap_cons
theorem jv:type_of% @Go.Calls.quiet_of_same:=@Go.Calls.quiet_of_same
theorem jw:type_of% @Go.World.cell?_of_block:=@Go.World.cell?_of_block
theorem jx:type_of% @List.length_set:=@List.length_set
theorem jy:type_of% @Go.Result.andThen_ok:=@Go.Result.andThen_ok
theorem jz:type_of% @List.getElem?_eq_none:=@List.getElem?_eq_none
theorem jA:type_of% @Option.some.inj:=@Option.some.inj
theorem jB:type_of% @List.takeWhile_cons:=@List.takeWhile_cons
theorem jC:type_of% @Go.IntKind.wrap_u64:=@Go.IntKind.wrap_u64
theorem jD:type_of% @List.nodup_append:=@List.nodup_append
theorem jE:type_of% @List.getElem?_set:=@List.getElem?_set
theorem jF:type_of% @List.length_reverse:=@List.length_reverse
theorem jG:type_of% @List.length_pos_iff:=@List.length_pos_iff
theorem jH:type_of% @Go.World.frozen?_of_block:=@Go.World.frozen?_of_block
theorem jI:type_of% @Nat.le_trans:=@Nat.le_trans
theorem jJ:type_of% @Nat.min_eq_left:=@Nat.min_eq_left
theorem jK:type_of% @Int.ediv_nonneg:=@Int.ediv_nonneg
theorem jL:type_of% @List.filter_eq_nil_iff:=@List.filter_eq_nil_iff
theorem jM:type_of% @List.take_zero:=@List.take_zero
theorem jN:type_of% @Int.ediv_le_self:=@Int.ediv_le_self
theorem jO:type_of% @List.map_congr_left:=@List.map_congr_left
theorem jP:type_of% @List.foldl_append:=@List.foldl_append
theorem jQ:type_of% @Go.World.cell?_setCell_far:=@Go.World.cell?_setCell_far
theorem jR:type_of% @List.mem_iff_getElem:=@List.mem_iff_getElem
theorem jS:type_of% @Int.tmod_eq_emod_of_nonneg:=@Int.tmod_eq_emod_of_nonneg
theorem jT:type_of% @List.foldl_cons:=@List.foldl_cons
theorem jU:type_of% @Go.World.size_alloc:=@Go.World.size_alloc
theorem jV:type_of% @Int.mul_le_mul_of_nonneg_right:=@Int.mul_le_mul_of_nonneg_right
theorem jW:type_of% @List.drop_sublist:=@List.drop_sublist
theorem jX:type_of% @Int.emod_add_mul_ediv:=@Int.emod_add_mul_ediv
theorem jY:type_of% @Go.run_underlying:=@Go.run_underlying
theorem jZ:type_of% @List.length_nil:=@List.length_nil
theorem j0:type_of% @List.getElem?_drop:=@List.getElem?_drop
theorem j1:type_of% @Int.emod_lt_of_pos:=@Int.emod_lt_of_pos
theorem j2:type_of% @List.mem_cons_of_mem:=@List.mem_cons_of_mem
theorem j3:type_of% @List.perm_append_singleton:=@List.perm_append_singleton
theorem j4:type_of% @List.ext_getElem?:=@List.ext_getElem?
theorem j5:type_of% @List.filter_eq_self:=@List.filter_eq_self
theorem j6:type_of% @List.range_succ:=@List.range_succ
theorem j7:type_of% @List.mem_filter:=@List.mem_filter
theorem j8:type_of% @Int.emod_nonneg:=@Int.emod_nonneg
theorem j9:type_of% @List.map_map:=@List.map_map
theorem ka:type_of% @List.pairwise_singleton:=@List.pairwise_singleton
theorem ke:type_of% @Option.map_some:=@Option.map_some
theorem kf:type_of% @Nat.sub_self:=@Nat.sub_self
theorem kg:type_of% @Nat.add_zero:=@Nat.add_zero
theorem kh:type_of% @List.map_nil:=@List.map_nil
theorem ki:type_of% @List.all_eq_true:=@List.all_eq_true
theorem kj:type_of% @Go.IntKind.wrap_u8':=@Go.IntKind.wrap_u8'
theorem kk:type_of% @List.mem_replicate:=@List.mem_replicate
theorem kl:type_of% @List.dropWhile_cons_of_pos:=@List.dropWhile_cons_of_pos
theorem km:type_of% @List.dropWhile_cons_of_neg:=@List.dropWhile_cons_of_neg
theorem ko:type_of% @List.singleton_append:=@List.singleton_append
theorem kq:type_of% @List.nodup_cons:=@List.nodup_cons
theorem ks:type_of% @Go.results_none:=@Go.results_none
theorem kt:type_of% @Nat.pow_succ:=@Nat.pow_succ
theorem ku:type_of% @Nat.lt_or_ge:=@Nat.lt_or_ge
theorem kv:type_of% @Go.Addr.add_lit:=@Go.Addr.add_lit
theorem kx:type_of% @List.drop_succ_cons:=@List.drop_succ_cons
theorem ky:type_of% @Int.toNat_of_nonneg:=@Int.toNat_of_nonneg
theorem kz:type_of% @Go.step_append_lies:=@Go.step_append_lies
theorem kA:type_of% @Go.World.block_lt_of_cell?:=@Go.World.block_lt_of_cell?
theorem kB:type_of% @List.take_take:=@List.take_take
theorem kC:type_of% @List.flatMap_nil:=@List.flatMap_nil
theorem kD:type_of% @List.drop_zero:=@List.drop_zero
theorem kE:type_of% @List.drop_length:=@List.drop_length
theorem kF:type_of% @Int.mul_nonneg:=@Int.mul_nonneg
theorem kG:type_of% @Nat.lt_of_lt_of_le:=@Nat.lt_of_lt_of_le
theorem kH:type_of% @List.map_set:=@List.map_set
theorem kI:type_of% @List.find?_cons:=@List.find?_cons
theorem kJ:type_of% @Go.World.cell?_alloc_new:=@Go.World.cell?_alloc_new
theorem kK:type_of% @List.set_append_right:=@List.set_append_right
theorem kL:type_of% @List.Pairwise.sublist:=@List.Pairwise.sublist
theorem kM:type_of% @Int.mul_le_mul:=@Int.mul_le_mul
theorem kN:type_of% @List.isEmpty_iff:=@List.isEmpty_iff
theorem kO:type_of% @Int.add_zero:=@Int.add_zero
theorem kP:type_of% @Go.World.size_drew:=@Go.World.size_drew
theorem kQ:type_of% @List.getElem?_replicate:=@List.getElem?_replicate
theorem kR:type_of% @List.getElem?_cons_succ:=@List.getElem?_cons_succ
theorem kS:type_of% @Nat.zero_mul:=@Nat.zero_mul
theorem kT:type_of% @Nat.add_comm:=@Nat.add_comm
theorem kU:type_of% @List.filter_congr:=@List.filter_congr
theorem kV:type_of% @Nat.div_lt_iff_lt_mul:=@Nat.div_lt_iff_lt_mul
theorem kW:type_of% @List.mem_append_right:=@List.mem_append_right
theorem kX:type_of% @List.length_filter_le:=@List.length_filter_le
theorem kY:type_of% @List.Perm.append_left:=@List.Perm.append_left
theorem kZ:type_of% @List.take_length:=@List.take_length
theorem k0:type_of% @List.perm_middle:=@List.perm_middle
theorem k3:type_of% @List.mem_flatMap:=@List.mem_flatMap
theorem k4:type_of% @List.getElem_map:=@List.getElem_map
theorem k6:type_of% @Nat.mul_assoc:=@Nat.mul_assoc
theorem k7:type_of% @Go.run_storeCells_cells:=@Go.run_storeCells_cells
theorem k8:type_of% @Go.run_storeAt_mid:=@Go.run_storeAt_mid
theorem k9:type_of% @Go.run_loadVar_mid:=@Go.run_loadVar_mid
theorem lf:type_of% @decide_eq_false:=@decide_eq_false
theorem lg:type_of% @List.toList_toArray:=@List.toList_toArray
theorem lh:type_of% @Go.bitLen_shift:=@Go.bitLen_shift
theorem lj:type_of% @List.mem_range:=@List.mem_range
theorem lk:type_of% @List.find?_eq_none:=@List.find?_eq_none
theorem ll:type_of% @Int.emod_eq_of_lt:=@Int.emod_eq_of_lt
theorem lp:type_of% @Nat.min_eq_right:=@Nat.min_eq_right
theorem lq:type_of% @List.range'_succ:=@List.range'_succ
theorem lu:type_of% @List.not_mem_nil:=@List.not_mem_nil
theorem lx:type_of% @Ne.symm:=@Ne.symm
theorem ly:type_of% @Nat.mul_comm:=@Nat.mul_comm
theorem lz:type_of% @Nat.two_pow_pos:=@Nat.two_pow_pos
theorem lA:type_of% @Bool.eq_iff_iff:=@Bool.eq_iff_iff
theorem lB:type_of% @List.takeWhile_prefix:=@List.takeWhile_prefix
theorem lC:type_of% @List.eq_nil_or_concat:=@List.eq_nil_or_concat
theorem lD:type_of% @List.concat_eq_append:=@List.concat_eq_append
theorem lE:type_of% @Go.World.cell?_alloc_lt:=@Go.World.cell?_alloc_lt
theorem lF:type_of% @Std.Legacy.Range.forIn_eq_forIn_range':=@Std.Legacy.Range.forIn_eq_forIn_range'
theorem lG:type_of% @Int.mul_add:=@Int.mul_add
theorem lH:type_of% @if_true:=@if_true
theorem lI:type_of% @Nat.one_le_two_pow:=@Nat.one_le_two_pow
theorem lJ:type_of% @Nat.eq_zero_or_pos:=@Nat.eq_zero_or_pos
theorem lK:type_of% @Nat.add_sub_cancel:=@Nat.add_sub_cancel
theorem lL:type_of% @Go.run_make_own:=@Go.run_make_own
theorem lM:type_of% @Option.some.injEq:=@Option.some.injEq
theorem lN:type_of% @Nat.le_succ_of_le:=@Nat.le_succ_of_le
section
def Ab(n lo hi:Int): Bool:=decide (lo<=n)&&decide (n<=hi)
theorem Bz{a b:Bool}(c:a=b): Ending.returned (.bool a)=.returned (.bool b):=by rw[c]
theorem A9{k:IntKind}{a b:Int}(c:a=b): Ending.returned (.int k a)=.returned (.int k b):=by rw[c]
theorem AK(n lo hi:Int)(w:World):
  Calls prog 34 #[.int .i64 n,.int .i64 lo,.int .i64 hi] w λd e=>d=.returned (.bool (Ab n lo hi))/\e=w:=by
 by_cases a:lo<=n
 ·go_enter func34,ntmps34;go_wp2;go_ret;exact⟨by simp[Ab,a],rfl⟩
 have h:decide (lo<=n)=false:=by simpa using a
 have c:Hid (false=Ab n lo hi):=by simp[Hid,Ab,a]
 go_enter func34,ntmps34;go_wp2;go_ret;exact⟨Bz c.out,rfl⟩
theorem Gm(n:Int)(w:World):
  Calls prog 41 #[.int .i64 n] w λa c=>a=.returned (.bool (Ab n 0 4611686018427387904))/\c=w:=by
 go_enter func41,ntmps41;go_wp2_with (go_at_call 34;refine(AK _ _ _ _).mono ?_;rintro a c ⟨rfl,rfl⟩)
 go_ret;exact⟨rfl,rfl⟩
structure It where
 t:Int
 k:Int
 d:Int
 n:Int
def It.cells(x:It): Array Value:=#[.int .i64 x.t,.int .i64 x.k,.int .i64 x.d,.int .i64 x.n]
def It.val(x:It): Value:=.agg #[.int .i64 x.t,.int .i64 x.k,.int .i64 x.d,.int .i64 x.n]
def BU(a b:It): Bool:=if a.t=b.t then decide (a.n<b.n) else decide (a.t<b.t)
theorem H7(a b:It)(w:World):
  Calls prog 66 #[a.val,b.val] w λe i=>e=.returned (.bool (BU a b))/\i=(w.alloc (.cells a.cells 80)).alloc (.cells b.cells 80):=by
 unfold It.val It.cells;by_cases c:a.t=b.t
 ·have d:Hid (decide (a.n<b.n)=BU a b):=by simp[Hid,BU,c]
  have h:(a.t !=b.t)=false:=by simp[c]
  clear c;go_enter func66,ntmps66;go_wp2;go_ret;exact⟨Bz d.out,rfl⟩
 have d:Hid (decide (a.t<b.t)=BU a b):=by simp[Hid,BU,c]
 have h:(a.t !=b.t)=true:=by simp[c]
 clear c;go_enter func66,ntmps66;go_wp2;go_ret;exact⟨Bz d.out,rfl⟩
def Bj(base:Int): Nat->Int->Option Int
 | 0,p=>some p
 | n+1,p=>if 2305843009213693952/base<p then none else Bj base n (p*base)
def Ar: Option Int->Int | some x=>x | none=>0
def Fl(o:Option Int): Value:=.tuple #[.int .i64 (Ar o),.bool o.isSome]
theorem KI(p b:Int)(d:1<=p)(c:1<=b)(e:¬2305843009213693952/b<p): 1<=p*b/\p*b<=2305843009213693952:=by
 constructor
 ·have:=kM d c (by omega) (by omega);simpa using this
 have a:p<=2305843009213693952/b:=by omega
 exact(Int.le_ediv_iff_mul_le (by omega)).1 a
theorem XD(b:Int)(n:Nat)(w:World)(o:1<=b)(v:b<=4611686018427387905)(A:n<=3):
  Calls prog 200 #[.int .i64 b,.int .i64 n] w λm u=>m=.returned (Fl (Bj b n 1))/\u=w:=by
 go_enter func200,ntmps200;go_wp2;go_loop [6,8] (λp j=>∃a:Nat,∃c:Int,a<=n/\j=.int .i64 a/\p=.int .i64 c/\1<=c/\c<=2305843009213693952/\Bj b n 1=Bj b (n-a) c) (λ_ j=>n-(intOf j).toNat)
 case atStart=>exact⟨0,1,iM _,rfl,rfl,by omega,by omega,rfl⟩
 case round =>
  obtain⟨a,c,x,rfl,rfl,t,B,k⟩:=hrel;have e:Hid (Bj b n 1=Bj b (n-a) c):=k;clear k;by_cases z:a<n
  ·obtain⟨d,l⟩:∃d,n-a=d+1:=⟨n-a-1,by omega⟩;have h:Hid (n-a=d+1):=l;clear l;by_cases i:2305843009213693952/b<c
   ·go_wp2;go_ret2;refine⟨?_,rfl⟩;rw[e.out,h.out];simp[Bj,i,Fl,Ar]
   have s:=KI c b t o i;obtain⟨q,r⟩:=s;go_wp2;go_round;case rel=>exact⟨a+1,c*b,by omega,by go_num,by go_num,q,r,by rw[e.out,h.out];rw[show n-(a+1)=d from by have:=h.out;omega];simp[Bj,i]⟩
   case measure=>simp[intOf];omega
  go_wp2;go_ret2;refine⟨?_,rfl⟩;rw[e.out,show n-a=0 from by omega];simp[Bj,Fl,Ar]
structure aA (M:Nat->Prop) (w w':World):Prop where
 os:w'.os=w.os
 tape:w'.tape=w.tape
 output:w'.output=w.output
 size:w.heap.size<=w'.heap.size
 block:∀k,k<w.heap.size->¬M k->w'.heap[k]?=w.heap[k]?
abbrev lO(w v:World):Prop:=aA (λ_=>False) w v
theorem aA.refl(M:Nat->Prop)(w:World): aA M w w:=⟨rfl,rfl,rfl,il _,λ_ _ _=>rfl⟩
theorem aA.trans{M M':Nat->Prop}{a b c:World}(e:aA M a b)(k:aA M' b c)(l:∀d,M' d->d<a.heap.size->M d): aA M a c :=
 ⟨k.os.trans e.os,k.tape.trans e.tape,k.output.trans e.output,jI e.size k.size,
    λd h i=>(k.block d (kG h e.size) (λj=>i (l d j h))).trans (e.block d h i)⟩
theorem aA.then{M:Nat->Prop}{a b c:World}(d:aA M a b)(k:aA M b c): aA M a c:=d.trans k (λ_ e _=>e)
theorem aA.mono{M M':Nat->Prop}{a b:World}(d:aA M a b)(i:∀c,c<a.heap.size->M c->M' c): aA M' a b :=
 ⟨d.os,d.tape,d.output,d.size,λc e j=>d.block c e (λh=>j (i c e h))⟩
theorem aA.drew{M:Nat->Prop}{a w:World}(c:aA M a w): aA M a w.drew:=⟨c.os,c.tape,c.output,c.size,c.block⟩
theorem aA.drewN(M:Nat->Prop)(w:World)(n:Nat): aA M w (w.drewN n):=⟨rfl,rfl,rfl,il _,λ_ _ _=>rfl⟩
theorem aA.alloc{M:Nat->Prop}{a w:World}(c:aA M a w)(o:Obj): aA M a (w.alloc o) :=
 c.trans (M':=λ_=>False) ⟨rfl,rfl,rfl,by simp,λh e _=>jq _ _ _ e⟩ (λ_ d _=>d.elim)
theorem aA.setCell{M:Nat->Prop}{a w:World}(e:aA M a w){p:Addr}(c:M p.block\/a.heap.size<=p.block)(v:Value): aA M a (w.setCell p v) :=
 e.trans (M':=λd=>d=p.block) ⟨rfl,rfl,rfl,by simp,λd _ i=>Below.heap_setCell _ _ _ _ i⟩ (λk h j=>by subst h;rcases c with c | c;exact c;omega)
theorem aA.grown{M:Nat->Prop}{a w w':World}{row:Option Nat}(e:aA M a w)(d:w.grownBy w' row)(l:∀c,row=some c->M c\/a.heap.size<=c): aA M a w' :=
 e.trans (M':=λc=>row=some c) ⟨d.os,d.tape,d.output,d.size,λc j k=>d.block c j (λh=>k h.symm)⟩
  (λm i n=>by rcases l m i with e | e;exact e;omega)
theorem aA.cell{M:Nat->Prop}{w w':World}(c:aA M w w'){p:Addr}{v:Value}(a:w.cell? p=some v)(d:¬M p.block): w'.cell? p=some v :=
 (jw (c.block p.block (kA w p a) d)).trans a
theorem aA.frozen{M:Nat->Prop}{w w':World}(a:aA M w w'){p:Addr}(c:p.block<w.heap.size)(d:¬M p.block): w'.frozen? p=w.frozen? p :=
 jH (a.block p.block c d)
def aD(w:World)(b:Nat)(cs:List Value)(T:TypeId): Prop:=w.heap[b]?=some (.cells cs.toArray T (0,0))
theorem aD.lt{w:World}{b:Nat}{cs:List Value}{T:TypeId}(a:aD w b cs T): b<w.heap.size:=(jr.1 a).1
theorem aD.cell{w:World}{b:Nat}{cs:List Value}{T:TypeId}(a:aD w b cs T){i:Nat}{v:Value}(hi:cs[i]?=some v): w.cell? ⟨b,i,none⟩=some v:=by
 unfold aD at a;simp[World.cell?,a,hi]
theorem aD.frozen{w:World}{b:Nat}{cs:List Value}{T:TypeId}(a:aD w b cs T)(i:Nat): w.frozen? ⟨b,i,none⟩=false:=by
 unfold aD at a;simp[World.frozen?,a]
theorem aD.keeps{M:Nat->Prop}{w w':World}{b:Nat}{cs:List Value}{T:TypeId}(a:aD w b cs T)(k:aA M w w')(c:¬M b): aD w' b cs T:=by
 unfold aD at a ⊢;rw[k.block b (aD.lt a) c];exact a
theorem aD.setCell{w:World}{b:Nat}{cs:List Value}{T:TypeId}(a:aD w b cs T)(i:Nat)(v:Value): aD (w.setCell ⟨b,i,none⟩ v) b (cs.set i v) T:=by
 unfold aD at a ⊢;simp[World.setCell,Array.getElem?_modify,a]
theorem aD.aW{w:World}{b:Nat}{cs:List Value}{T:TypeId}(a:aD w b cs T){p:Addr}(c:p.block≠b)(v:Value): aD (w.setCell p v) b cs T:=by
 unfold aD at a ⊢;rw[Below.heap_setCell _ _ _ _ (lx c)];exact a
theorem aD.drew{w:World}{b:Nat}{cs:List Value}{T:TypeId}(a:aD w b cs T): aD w.drew b cs T:=a
theorem aD.alloc{w:World}{b:Nat}{cs:List Value}{T:TypeId}(a:aD w b cs T)(o:Obj): aD (w.alloc o) b cs T:=by
 unfold aD at a ⊢;rw[jq _ _ _ (aD.lt a)];exact a
theorem aD.c0{w:World}{b:Nat}{v:Value}{l:List Value}{T:TypeId}(a:aD w b (v::l) T): w.cell? ⟨b,0,none⟩=some v:=a.cell rfl
theorem aD.c1{w:World}{b:Nat}{c v:Value}{l:List Value}{T:TypeId}(a:aD w b (c::v::l) T): w.cell? ⟨b,1,none⟩=some v:=a.cell rfl
theorem aD.c2{w:World}{b:Nat}{c d v:Value}{l:List Value}{T:TypeId}(a:aD w b (c::d::v::l) T): w.cell? ⟨b,2,none⟩=some v:=a.cell rfl
theorem aD.c3{w:World}{b:Nat}{c d x2 v:Value}{l:List Value}{T:TypeId}(a:aD w b (c::d::x2::v::l) T): w.cell? ⟨b,3,none⟩=some v:=a.cell rfl
theorem aD.c4{w:World}{b:Nat}{c d x2 e v:Value}{l:List Value}{T:TypeId}(a:aD w b (c::d::x2::e::v::l) T): w.cell? ⟨b,4,none⟩=some v:=a.cell rfl
theorem aD.c5{w:World}{b:Nat}{c d x2 e h v:Value}{l:List Value}{T:TypeId}(a:aD w b (c::d::x2::e::h::v::l) T): w.cell? ⟨b,5,none⟩=some v:=a.cell rfl
theorem aD.c6{w:World}{b:Nat}{c d x2 e h i v:Value}{l:List Value}{T:TypeId}(a:aD w b (c::d::x2::e::h::i::v::l) T): w.cell? ⟨b,6,none⟩=some v:=a.cell rfl
theorem aD.c7{w:World}{b:Nat}{c d x2 e h i j v:Value}{l:List Value}{T:TypeId}(a:aD w b (c::d::x2::e::h::i::j::v::l) T): w.cell? ⟨b,7,none⟩=some v:=a.cell rfl
theorem aD.c8{w:World}{b:Nat}{c d x2 e h i j k v:Value}{l:List Value}{T:TypeId}(a:aD w b (c::d::x2::e::h::i::j::k::v::l) T): w.cell? ⟨b,8,none⟩=some v:=a.cell rfl
theorem aD.c9{w:World}{b:Nat}{c d x2 e h i j k m v:Value}{l:List Value}{T:TypeId}(a:aD w b (c::d::x2::e::h::i::j::k::m::v::l) T): w.cell? ⟨b,9,none⟩=some v:=a.cell rfl
theorem aD.three{w:World}{b:Nat}{x y c:Value}{T:TypeId}(a:aD w b [x,y,c] T): w.cell? ⟨b,0,none⟩=some x/\w.cell? ⟨b,1,none⟩=some y/\w.cell? ⟨b,2,none⟩=some c/\∀d,w.frozen? ⟨b,d,none⟩=false:=⟨a.c0,a.c1,a.c2,a.frozen⟩
theorem aD.new(w:World)(cs:List Value)(T:TypeId): aD (w.alloc (.cells cs.toArray T)) w.heap.size cs T:=iJ w _
def itAt(l:List It)(i:Nat): It:=l.getD i ⟨0,0,0,0⟩
def flat: List It->List Value
 | []=>[]
 | x::l=>.int .i64 x.t::.int .i64 x.k::.int .i64 x.d::.int .i64 x.n::flat l
theorem G4(l:List It): (flat l).length=l.length*4:=by
 induction l with
 | nil=>rfl
 | cons c l a=>simp[flat,a];omega
theorem IS(a b:List It): flat (a++b)=flat a++flat b:=by
 induction a with
 | nil=>rfl
 | cons e d c=>simp[flat,c]
theorem flat_get(l:List It)(i:Nat)(a:i<l.length): (flat l)[i*4]?=some (.int .i64 (itAt l i).t)/\(flat l)[i*4+1]?=some (.int .i64 (itAt l i).k)/\(flat l)[i*4+2]?=some (.int .i64 (itAt l i).d)/\(flat l)[i*4+3]?=some (.int .i64 (itAt l i).n):=by
 induction l generalizing i with
 | nil=>simp at a
 | cons d l c =>
  cases i with
  | zero=>simp[flat,itAt]
  | succ i =>
   have:=c i (by simpa using a);rw[show(i+1)*4=i*4+4 by omega];simpa[flat,itAt] using this
theorem Mu(l:List It)(i:Nat)(x:It): flat (l.set i x)=((((flat l).set (i*4) (.int .i64 x.t)).set (i*4+1) (.int .i64 x.k)).set (i*4+2) (.int .i64 x.d)).set (i*4+3) (.int .i64 x.n):=by
 induction l generalizing i with
 | nil=>simp[flat]
 | cons y l a =>
  cases i with
  | zero=>simp[flat]
  | succ i=>rw[show(i+1)*4=i*4+4 by omega];simp[flat,a]
structure aP (w:World) (g cap:Nat) (l:List It):Prop where
 ex:∃cur:List Value,aD w g cur 80/\cur.length=cap*4/\cur.take (l.length*4)=flat l
 le:l.length<=cap
 max:cap<=maxLen
theorem aP.lt{w:World}{g a:Nat}{l:List It}(c:aP w g a l): g<w.heap.size:=by obtain⟨e,d,_⟩:=c.ex;exact d.lt
theorem aP.frozen{w:World}{g a:Nat}{l:List It}(c:aP w g a l)(o:Nat): w.frozen? ⟨g,o,none⟩=false:=by obtain⟨e,d,_⟩:=c.ex;exact d.frozen o
theorem aP.cells{w:World}{g j:Nat}{l:List It}(n:aP w g j l)(i:Nat)(hi:i<l.length):
  w.cell? ⟨g,i*4,none⟩=some (.int .i64 (itAt l i).t)/\w.cell? ⟨g,i*4+1,none⟩=some (.int .i64 (itAt l i).k)/\w.cell? ⟨g,i*4+2,none⟩=some (.int .i64 (itAt l i).d)/\w.cell? ⟨g,i*4+3,none⟩=some (.int .i64 (itAt l i).n):=by
 obtain⟨k,a,r,q⟩:=n.ex;have c:∀d,d<l.length*4->k[d]?=(flat l)[d]?:=λd o=>by rw[<-q,iV,h9 o]
 obtain⟨e,b,h,m⟩:=flat_get l i hi;exact⟨a.cell (by rw[c _ (by omega)];exact e),a.cell (by rw[c _ (by omega)];exact b),a.cell (by rw[c _ (by omega)];exact h),a.cell (by rw[c _ (by omega)];exact m)⟩
theorem aP.keeps{M:Nat->Prop}{w w':World}{g c:Nat}{l:List It}(a:aP w g c l)(k:aA M w w')(h:¬M g): aP w' g c l:=by
 obtain⟨d,e,i⟩:=a.ex;exact⟨⟨d,e.keeps k h,i⟩,a.le,a.max⟩
theorem aP.drew{w:World}{g c:Nat}{l:List It}(a:aP w g c l): aP w.drew g c l:=by
 obtain⟨d,e,h⟩:=a.ex;exact⟨⟨d,e.drew,h⟩,a.le,a.max⟩
def bP(w:World)(g i:Nat)(x:It): World :=
 (((w.setCell ⟨g,i*4,none⟩ (.int .i64 x.t)).setCell ⟨g,i*4+1,none⟩ (.int .i64 x.k)).setCell ⟨g,i*4+2,none⟩ (.int .i64 x.d)).setCell ⟨g,i*4+3,none⟩ (.int .i64 x.n)
theorem aP.put{w:World}{g c:Nat}{l:List It}(a:aP w g c l)(i:Nat)(x:It): aP (bP w g i x) g c (l.set i x):=by
 obtain⟨j,d,e,h⟩:=a.ex;refine⟨⟨_,(((d.setCell _ _).setCell _ _).setCell _ _).setCell _ _,by simp[e],?_⟩,by simpa using a.le,a.max⟩;rw[Mu,<-h,jx];simp only[List.take_set]
theorem aA.bP{M:Nat->Prop}{a w:World}(d:aA M a w){g:Nat}(c:M g\/a.heap.size<=g)(i:Nat)(x:It): aA M a (bP w g i x) :=
 (((d.setCell c _).setCell c _).setCell c _).setCell c _
theorem Aa{p:Prop}(a:p): Hid p:=a
theorem uh{p:Prop}(a:Hid p): p:=a
theorem _root_.Go.RowKit.Hid.o{p:Prop}(h:Hid p): p:=h
structure Cfg where
 kind:Int
 aK:Int
 bF:Int
 cap:Int
 k:Int
 aB:Int
 bits:Int
 rows:Int
 width:Int
 aM:Int
 size:Int
 degree:Int
 half:Int
 mark:Int
 bV:Int
 bW:Int
 cG:Int
 cH:Int
 cQ:Int
 cR:Int
def Cfg.cells(c:Cfg): List Value:=[.int .i64 c.kind,.int .i64 c.aK,.int .i64 c.bF,.int .i64 c.cap,.int .i64 c.k,.int .i64 c.aB,.int .i64 c.bits,.int .i64 c.rows,.int .i64 c.width,.int .i64 c.aM,.int .i64 c.size,.int .i64 c.degree,.int .i64 c.half,.int .i64 c.mark,.int .i64 c.bV,.int .i64 c.bW,.int .i64 c.cG,.int .i64 c.cH,.int .i64 c.cQ,.int .i64 c.cR]
def Cfg.val(c:Cfg): Value:=.agg #[.int .i64 c.kind,.int .i64 c.aK,.int .i64 c.bF,.int .i64 c.cap,.int .i64 c.k,.int .i64 c.aB,.int .i64 c.bits,.int .i64 c.rows,.int .i64 c.width,.int .i64 c.aM,.int .i64 c.size,.int .i64 c.degree,.int .i64 c.half,.int .i64 c.mark,.int .i64 c.bV,.int .i64 c.bW,.int .i64 c.cG,.int .i64 c.cH,.int .i64 c.cQ,.int .i64 c.cR]
theorem Gp(n:Nat)(c:n<=61): (1:Int)<=2 ^ n/\(2:Int) ^ n<=2305843009213693952:=by
 have a:(2:Int) ^ n=((2 ^ n:Nat):Int):=by simp
 have d:1<=2 ^ n:=lI;have e:2 ^ n<=2 ^ 61:=jk (by omega) c;rw[a];omega
theorem Uo(n:Int)(w:World)(h:0<=n)(e:n<=4611686018427387904):
  Calls prog 201 #[.int .i64 n] w λc d=>c=.returned (Fl (if 61<n then none else some (2 ^ n.toNat)))/\d=w:=by
 by_cases a:61<n
 ·rw[h9 a];go_enter func201,ntmps201;go_wp2;go_ret2;exact⟨rfl,rfl⟩
 rw[hZ a];go_enter func201,ntmps201;go_wp2;go_ret2;refine⟨?_,rfl⟩;have i:=Gp n.toNat (by omega);show Ending.returned (.tuple #[.int .i64 (wrap64 (2 ^ n.toNat)),.bool true])=_;rw[show wrap64 (2 ^ n.toNat)=2 ^ n.toNat by unfold wrap64;omega];rfl
theorem XP(b a:Int)(w:World)(e:1<=b)(h:b<=4611686018427387905)(c:0<=a)(k:a<=3):
  Calls prog 200 #[.int .i64 b,.int .i64 a] w λd j=>d=.returned (Fl (Bj b a.toNat 1))/\j=w:=by
 obtain⟨i,rfl⟩:=jd c;rw[iH];exact XD b i w e h (by omega)
def Am(c:Cfg)(t:Int): Option Int :=
 if t<c.mark then none
 else if c.half=0 then Bj (t-c.mark+1) c.degree.toNat 1
 else if 61<(t-c.mark)/c.half then none else some (2 ^ ((t-c.mark)/c.half).toNat)
structure Cfg.bH (c:Cfg):Prop where
 d0:0<=c.degree
 d1:c.degree<=3
 h0:0<=c.half
 h1:c.half<=100
 m0:0<=c.mark
 m1:c.mark<=4611686018427387904
theorem MP(c:Cfg)(t:Int)(w:World)(l:c.bH)(x:-100<=t)(z:t<=4611686018427387904):
  Calls prog 152 #[c.val,.int .i64 t] w λe i=>e=.returned (Fl (Am c t))/\i=w.alloc (.cells c.cells.toArray 46):=by
 obtain⟨j,k,q,r,u,v⟩:=l;unfold Cfg.val Cfg.cells;by_cases h:t<c.mark
 ·have d:=Aa (show Am c t=none by unfold Am;rw[h9 h]);go_enter func152,ntmps152;go_wp2;go_ret2;exact⟨by rw[d.o];rfl,rfl⟩
 by_cases a:c.half=0
 ·have d:=Aa (show Am c t=Bj (t-c.mark+1) c.degree.toNat 1 by unfold Am;rw[hZ h,h9 a]);have m:(c.half==0)=true:=by simp[a]
  clear a;go_enter func152,ntmps152;go_wp2_with fail
  refine(XP (t-c.mark+1) c.degree _ (by omega) (by omega) j k).mono ?_;rintro e i ⟨rfl,rfl⟩;unfold Fl;go_wp2;go_ret2;exact⟨by rw[d.o];rfl,rfl⟩
 have d:=Aa (show Am c t=if 61<(t-c.mark)/c.half then none else some (2 ^ ((t-c.mark)/c.half).toNat) by unfold Am;rw[hZ h,hZ a]);have m:(c.half==0)=false:=by simp[a]
 have s:1<=c.half:=by omega
 have n:0<=(t-c.mark)/c.half:=jK (by omega) (by omega);have o:(t-c.mark)/c.half<=4611686018427387904:=by
  have:=jN c.half (show 0<=t-c.mark by omega);omega
 clear a;go_enter func152,ntmps152;go_wp2_with fail
 refine(Uo ((t-c.mark)/c.half) _ n o).mono ?_;rintro e i ⟨rfl,rfl⟩;rw[<-d.o];unfold Fl;go_wp2;go_ret2;exact⟨rfl,rfl⟩
theorem aD.newAt{w:World}{b:Nat}(a:w.heap.size=b)(cs:List Value)(T:TypeId): aD (w.alloc (.cells cs.toArray T)) b cs T:=by subst a;exact aD.new w cs T
def EP(ty:TypeId)(v:Value): Sem Next:=do pure (.value (<-Instr.loadAt ty v))
theorem AN(ρ:Operand->Value)(dst:Option Tmp)(x:Operand)(a:TypeId)(pos:String)(after:Array Edge)(guard:Option (Nat×Bool)):
  execOp ρ { dst,op:=.load 46 x,type:=a,pos,after,guard }=EP 46 (ρ x):=rfl
theorem B2(ρ:Operand->Value)(dst:Option Tmp)(x:Operand)(a:TypeId)(pos:String)(after:Array Edge)(guard:Option (Nat×Bool)):
  execOp ρ { dst,op:=.load 48 x,type:=a,pos,after,guard }=EP 48 (ρ x):=rfl
def Cv(w:World)(b o n:Nat): List Value:=(List.range n).map λj=>(w.cell? ⟨b,o+j,none⟩).getD undef
def Ao(w:World)(b o n:Nat): Value:=.agg (Cv w b o n).toArray
def Ay(w:World)(b o n:Nat): Bool:=(List.range n).all λj=>(w.cell? ⟨b,o+j,none⟩).isSome
theorem JD{w:World}{b o n:Nat}(d:Ay w b o n=true): w.rangeAt b o (Cv w b o n):=by
 intro c k a;have e:c<n:=by have:=(ik.1 a).1;simpa[Cv] using this
 have i:(w.cell? ⟨b,o+c,none⟩).isSome=true:=by simp only[Ay,ki]at d;exact d c (by simpa using e)
 obtain⟨j,h⟩:=Option.isSome_iff_exists.1 i;simp[Cv,e,h]at a;rw[h,a]
theorem KG: (prog.info? 46).map (·.size)=some 20:=by kernel_rfl
theorem QN: (prog.info? 48).map (·.size)=some 26:=by kernel_rfl
theorem AO(w:World)(b o:Nat)(a:Ay w b o 20=true): (EP 46 (.pointer (some ⟨b,o,none⟩))).run prog w=.ok (.value (Ao w b o 20)) w:=by
 unfold EP;rw[jm,run_loadAt_mid w b o 46 (Cv w b o 20) _ (JD a) underlying46 rfl (by rw[KG];simp[Cv])];rfl
theorem B4(w:World)(b o:Nat)(a:Ay w b o 26=true): (EP 48 (.pointer (some ⟨b,o,none⟩))).run prog w=.ok (.value (Ao w b o 26)) w:=by
 unfold EP;rw[jm,run_loadAt_mid w b o 48 (Cv w b o 26) _ (JD a) underlying48 rfl (by rw[QN];simp[Cv])];rfl
theorem Dv{w:World}{b o:Nat}{cs:List Value}(d:w.rangeAt b o cs): Cv w b o cs.length=cs/\Ay w b o cs.length=true:=by
 constructor
 ·apply j4;intro a;by_cases c:a<cs.length
  ·have:=d a cs[a] (hX c);simp[Cv,c,this]
  simp[Cv,c]
 simp only[Ay,ki,lj];intro a c;rw[d a cs[a] (hX c)];rfl
theorem A5(w:World)(b o n:Nat): Ao w.drew b o n=Ao w b o n:=rfl
theorem A6(w:World)(b o n:Nat): Ay w.drew b o n=Ay w b o n:=rfl
theorem BD{w:World}{b o n:Nat}(a:Ay w b o n=true)(e:Obj): Ay (w.alloc e) b o n=true:=by
 simp only[Ay,ki]at a ⊢;intro d c;obtain⟨i,h⟩:=Option.isSome_iff_exists.1 (a d c);rw[lE _ _ _ (kA w _ h)];exact a d c
theorem BC{w:World}{b o n:Nat}(c:Ay w b o n=true)(a:Obj): Ao (w.alloc a) b o n=Ao w b o n:=by
 have d:Cv (w.alloc a) b o n=Cv w b o n:=by
  unfold Cv;apply jO;intro i e;simp only[Ay,ki]at c;obtain⟨j,h⟩:=Option.isSome_iff_exists.1 (c i e);rw[lE _ _ _ (kA w _ h)]
 unfold Ao;rw[d]
theorem Pd(w:World)(l:List Value)(T:TypeId): (w.alloc (.cells l.toArray T)).rangeAt w.heap.size 0 l:=by
 intro c d a;rw[ja,kJ];simpa using a
theorem LJ(w:World)(l:List Value)(T:TypeId)(n:Nat)(a:l.length=n): Ay (w.alloc (.cells l.toArray T)) w.heap.size 0 n=true:=by
 subst a;exact(Dv (Pd w l T)).2
theorem Bf(w:World)(l:List Value)(T:TypeId)(n:Nat)(a:l.length=n): Ao (w.alloc (.cells l.toArray T)) w.heap.size 0 n=.agg l.toArray:=by
 subst a;unfold Ao;rw[(Dv (Pd w l T)).1]
theorem B3(w:World)(l:List Value)(T:TypeId)(n:Nat): Ay (w.alloc (.cells l.toArray T)) w.heap.size 0 n=decide (n<=l.length):=by
 rw[lA];simp only[Ay,ki,lj,iI,ja,kJ];constructor
 ·intro c;rcases ku l.length n with a | a
  ·have:=c l.length a;simp at this
  exact a
 intro c e h;have d:e<l.length:=by omega
 simp[d]
theorem AJ{w:World}{b o n:Nat}(c:b≠w.heap.size)(a:Obj): Ay (w.alloc a) b o n=Ay w b o n:=by
 unfold Ay;congr 1;funext j;rw[World.cell?_alloc_old _ _ _ c]
theorem AI{w:World}{b o n:Nat}(c:b≠w.heap.size)(a:Obj): Ao (w.alloc a) b o n=Ao w b o n:=by
 unfold Ao Cv;congr 2;apply jO;intro d _;rw[World.cell?_alloc_old _ _ _ c]
theorem CE{w:World}{b:Nat}{l:List Value}{T:TypeId}(c:aD w b l T)(n:Nat)(d:l.length=n): Ao w b 0 n=.agg l.toArray/\Ay w b 0 n=true:=by
 have a:=Dv (w:=w) (b:=b) (o:=0) (cs:=l) (λh i e=>by rw[ja];exact c.cell e);subst d;exact⟨by unfold Ao;rw[a.1],a.2⟩
theorem Eg{w:World}{b:Nat}{l:List Value}{T:TypeId}(d:aD w b l T)(o n:Nat)(cs:List Value)(e:(l.drop o).take n=cs)(h:cs.length=n): Ao w b o n=.agg cs.toArray/\Ay w b o n=true:=by
 have c:=Dv (w:=w) (b:=b) (o:=o) (cs:=cs) (λi j a=>by
    rw[<-e,iV]at a;split at a
    ·exact d.cell (by simpa using a)
    cases a)
 subst h;exact⟨by unfold Ao;rw[c.1],c.2⟩
theorem Oi(w:World)(l:List Value)(T:TypeId)(o n:Nat): (w.alloc (.cells l.toArray T)).rangeAt w.heap.size o ((l.drop o).take n):=by
 intro c d a;rw[kJ];rw[iV]at a;split at a
 ·simpa using a
 cases a
theorem UE(w:World)(l:List Value)(T:TypeId)(o n:Nat)(a:o+n<=l.length): Ay (w.alloc (.cells l.toArray T)) w.heap.size o n=true:=by
 have:=(Dv (Oi w l T o n)).2;rwa [show((l.drop o).take n).length=n by simp;omega]at this
theorem TJ(w:World)(l:List Value)(T:TypeId)(o n:Nat)(a:o+n<=l.length): Ao (w.alloc (.cells l.toArray T)) w.heap.size o n=.agg ((l.drop o).take n).toArray:=by
 have:=(Dv (Oi w l T o n)).1;rw[show((l.drop o).take n).length=n by simp;omega]at this;unfold Ao;rw[this]
end
section
attribute [local go_sem ↓] AN B2
attribute [local go_sem] AO B4 A5 A6 AI AJ Bf B3
def B0(c:Cfg): Bool:=Ab c.aK 0 100&&(Ab c.bF 0 100&&Ab c.cap 1 8)
def Cc(c:Cfg): Bool:=Ab c.aB 1 1000
def countB(c:Cfg): Bool:=Ab c.k 1 10&&Cc c
def FP(a b:Int): Bool:=Ab a 1 2305843009213693950&&Ab b 0 2305843009213693950
def Cfg.seed(c:Cfg): Nat->Bool
 | 0=>FP c.bV c.bW
 | 1=>FP c.cG c.cH
 | _=>FP c.cQ c.cR
def Fh(c:Cfg): Nat->Nat->Bool
 | 0,_=>true
 | f+1,i=>c.seed i&&Fh c f (i+1)
def EQ(c:Cfg)(n:Nat): Bool:=Fh c n 0
def G9(c:Cfg): Bool:=Ab c.bits 1 4&&(Cc c&&EQ c 1)
def ER(c:Cfg): Bool:=Ab c.rows 1 3&&(Ab c.width 1 16&&(Ab c.aM 1 8&&(Cc c&&((c.aB%c.aM==0)&&EQ c c.rows.toNat))))
def CN(c:Cfg): Bool:=Ab c.degree 0 3&&(Ab c.half 0 100&&Ab c.mark 0 4611686018427387904)
def Fs(c:Cfg): Bool:=Ab c.size 1 5&&CN c
theorem UN(c:Cfg)(w:World): Calls prog 64 #[c.val] w λa d=>a=.returned (.bool (B0 c))/\lO w d:=by
 have e:=Aa (show B0 c=(Ab c.aK 0 100&&(Ab c.bF 0 100&&Ab c.cap 1 8)) from rfl);unfold Cfg.val;cases h1:Ab c.aK 0 100
 ·go_enter func64,ntmps64;go_wp2_with (go_at_call 34;refine(AK _ _ _ _).mono ?_;rintro a d ⟨rfl,rfl⟩)
  go_ret;exact⟨Bz (by rw[e.o,h1];rfl),(aA.refl _ _).alloc _⟩
 cases h2:Ab c.bF 0 100
 ·go_enter func64,ntmps64;go_wp2_with (go_at_call 34;refine(AK _ _ _ _).mono ?_;rintro a d ⟨rfl,rfl⟩)
  go_ret;exact⟨Bz (by rw[e.o,h1,h2];rfl),(aA.refl _ _).alloc _⟩
 go_enter func64,ntmps64;go_wp2_with (go_at_call 34;refine(AK _ _ _ _).mono ?_;rintro a d ⟨rfl,rfl⟩)
 go_ret;exact⟨Bz (by rw[e.o,h1,h2];rfl),(aA.refl _ _).alloc _⟩
theorem IT(c:Cfg)(w:World): Calls prog 132 #[c.val] w λa d=>a=.returned (.bool (Cc c))/\lO w d:=by
 have e:=Aa (show Cc c=Ab c.aB 1 1000 from rfl);unfold Cfg.val;go_enter func132,ntmps132;go_wp2_with (go_at_call 34;refine(AK _ _ _ _).mono ?_;rintro a d ⟨rfl,rfl⟩)
 go_ret;exact⟨Bz e.o.symm,(aA.refl _ _).alloc _⟩
theorem Nk(c:Cfg)(w:World): Calls prog 107 #[c.val] w λa d=>a=.returned (.bool (CN c))/\lO w d:=by
 have e:=Aa (show CN c=(Ab c.degree 0 3&&(Ab c.half 0 100&&Ab c.mark 0 4611686018427387904)) from rfl);unfold Cfg.val;cases h1:Ab c.degree 0 3
 ·go_enter func107,ntmps107;go_wp2_with (go_at_call 34;refine(AK _ _ _ _).mono ?_;rintro a d ⟨rfl,rfl⟩)
  go_ret;exact⟨Bz (by rw[e.o,h1];rfl),(aA.refl _ _).alloc _⟩
 cases h2:Ab c.half 0 100;all_goals
  go_enter func107,ntmps107;go_wp2_with (first | (go_at_call 34;refine(AK _ _ _ _).mono ?_;rintro a d ⟨rfl,rfl⟩) | (go_at_call 41;refine(Gm _ _).mono ?_;rintro a d ⟨rfl,rfl⟩))
  go_ret;exact⟨Bz (by rw[e.o,h1,h2];rfl),(aA.refl _ _).alloc _⟩
theorem S6(c:Cfg)(w:World): Calls prog 91 #[c.val] w λa d=>a=.returned (.bool (countB c))/\lO w d:=by
 have e:=Aa (show countB c=(Ab c.k 1 10&&Cc c) from rfl);unfold Cfg.val;cases h1:Ab c.k 1 10
 ·go_enter func91,ntmps91;go_wp2_with (go_at_call 34;refine(AK _ _ _ _).mono ?_;rintro a d ⟨rfl,rfl⟩)
  go_ret;exact⟨Bz (by rw[e.o,h1];rfl),(aA.refl _ _).alloc _⟩
 go_enter func91,ntmps91;go_wp2_with (first | (go_at_call 34;refine(AK _ _ _ _).mono ?_;rintro a d ⟨rfl,rfl⟩) | (go_at_call 132;refine(IT c _).mono ?_;rintro a d ⟨rfl,h⟩))
 go_ret;exact⟨Bz (by rw[e.o,h1];rfl),((aA.refl _ _).alloc _).then h⟩
theorem S9(c:Cfg)(w:World): Calls prog 111 #[c.val] w λa d=>a=.returned (.bool (Fs c))/\lO w d:=by
 have e:=Aa (show Fs c=(Ab c.size 1 5&&CN c) from rfl);unfold Cfg.val;cases h1:Ab c.size 1 5
 ·go_enter func111,ntmps111;go_wp2_with (go_at_call 34;refine(AK _ _ _ _).mono ?_;rintro a d ⟨rfl,rfl⟩)
  go_ret;exact⟨Bz (by rw[e.o,h1];rfl),(aA.refl _ _).alloc _⟩
 go_enter func111,ntmps111;go_wp2_with (first | (go_at_call 34;refine(AK _ _ _ _).mono ?_;rintro a d ⟨rfl,rfl⟩) | (go_at_call 107;refine(Nk c _).mono ?_;rintro a d ⟨rfl,h⟩))
 go_ret;exact⟨Bz (by rw[e.o,h1];rfl),((aA.refl _ _).alloc _).then h⟩
def Cfg.gA(c:Cfg): Value:=.agg #[.int .i64 c.bV,.int .i64 c.bW,.int .i64 c.cG,.int .i64 c.cH,.int .i64 c.cQ,.int .i64 c.cR]
theorem N9(c:Cfg)(n:Int)(w:World)(m:0<=n)(o:n<=3): Calls prog 139 #[c.gA,.int .i64 n] w λh i=>h=.returned (.bool (EQ c n.toNat))/\lO w i:=by
 obtain⟨e,rfl⟩:=jd m;rw[iH];unfold Cfg.gA;go_enter func139,ntmps139;go_wp2;go_loop [7] (λl=>∃a:Nat,a<=e/\l=.int .i64 a/\Hid (EQ c e=Fh c (e-a) a)) (λl=>e-(intOf l).toNat)
 case atStart=>exact⟨0,iM _,rfl,rfl⟩
 case round =>
  obtain⟨a,q,rfl,k⟩:=hrel;by_cases r:a<e
  ·have d:=Aa (show EQ c e=(c.seed a&&Fh c (e-(a+1)) (a+1)) by rw[k.o,show e-a=(e-(a+1))+1 by omega];rfl);clear k;have j:a=0\/a=1\/a=2:=by omega
   have s:(a:Int)<(e:Int):=by omega
   rcases j with j | j | j;all_goals
    subst j;simp only[Cfg.seed,FP]at d
   ·cases h1:Ab c.bV 1 2305843009213693950
    ·go_wp2_with (go_at_call 34;refine(AK _ _ _ _).mono ?_;rintro h i ⟨rfl,rfl⟩)
     go_ret;exact⟨Bz (by rw[d.o,h1];rfl),(aA.refl _ _).alloc _⟩
    cases h2:Ab c.bW 0 2305843009213693950
    ·go_wp2_with (go_at_call 34;refine(AK _ _ _ _).mono ?_;rintro h i ⟨rfl,rfl⟩)
     go_ret;exact⟨Bz (by rw[d.o,h1,h2];rfl),(aA.refl _ _).alloc _⟩
    go_wp2_with (go_at_call 34;refine(AK _ _ _ _).mono ?_;rintro h i ⟨rfl,rfl⟩)
    go_round;case rel=>exact⟨1,by omega,rfl,by rw[h1,h2]at d;exact d⟩
    case measure=>simp[intOf];omega
   ·cases h1:Ab c.cG 1 2305843009213693950
    ·go_wp2_with (go_at_call 34;refine(AK _ _ _ _).mono ?_;rintro h i ⟨rfl,rfl⟩)
     go_ret;exact⟨Bz (by rw[d.o,h1];rfl),(aA.refl _ _).alloc _⟩
    cases h2:Ab c.cH 0 2305843009213693950
    ·go_wp2_with (go_at_call 34;refine(AK _ _ _ _).mono ?_;rintro h i ⟨rfl,rfl⟩)
     go_ret;exact⟨Bz (by rw[d.o,h1,h2];rfl),(aA.refl _ _).alloc _⟩
    go_wp2_with (go_at_call 34;refine(AK _ _ _ _).mono ?_;rintro h i ⟨rfl,rfl⟩)
    go_round;case rel=>exact⟨2,by omega,rfl,by rw[h1,h2]at d;exact d⟩
    case measure=>simp[intOf];omega
   cases h1:Ab c.cQ 1 2305843009213693950
   ·go_wp2_with (go_at_call 34;refine(AK _ _ _ _).mono ?_;rintro h i ⟨rfl,rfl⟩)
    go_ret;exact⟨Bz (by rw[d.o,h1];rfl),(aA.refl _ _).alloc _⟩
   cases h2:Ab c.cR 0 2305843009213693950
   ·go_wp2_with (go_at_call 34;refine(AK _ _ _ _).mono ?_;rintro h i ⟨rfl,rfl⟩)
    go_ret;exact⟨Bz (by rw[d.o,h1,h2];rfl),(aA.refl _ _).alloc _⟩
   go_wp2_with (go_at_call 34;refine(AK _ _ _ _).mono ?_;rintro h i ⟨rfl,rfl⟩)
   go_round;case rel=>exact⟨3,by omega,rfl,by rw[h1,h2]at d;exact d⟩
   case measure=>simp[intOf];omega
  go_wp2;go_ret;exact⟨Bz (by rw[k.o,show e-a=0 by omega];rfl),(aA.refl _ _).alloc _⟩
theorem Bp{n lo hi:Int}(a:Ab n lo hi=true): lo<=n/\n<=hi:=by simpa[Ab] using a
theorem R0(c:Cfg)(w:World): Calls prog 97 #[c.val] w λa i=>a=.returned (.bool (G9 c))/\lO w i:=by
 have j:=Aa (show G9 c=(Ab c.bits 1 4&&(Cc c&&EQ c 1)) from rfl);unfold Cfg.val;cases h1:Ab c.bits 1 4
 ·go_enter func97,ntmps97;go_wp2_with (go_at_call 34;refine(AK _ _ _ _).mono ?_;rintro a i ⟨rfl,rfl⟩)
  go_ret;exact⟨Bz (by rw[j.o,h1];rfl),(aA.refl _ _).alloc _⟩
 cases h2:Cc c
 ·go_enter func97,ntmps97;go_wp2_with (first | (go_at_call 34;refine(AK _ _ _ _).mono ?_;rintro a i ⟨rfl,rfl⟩) | (go_at_call 132;refine(IT c _).mono ?_;rintro a i ⟨rfl,h⟩))
  go_ret;exact⟨Bz (by rw[j.o,h1,h2];rfl),((aA.refl _ _).alloc _).then h⟩
 go_enter func97,ntmps97;go_wp2_with fail
 refine(AK _ _ _ _).mono ?_;rintro a i ⟨rfl,rfl⟩;go_wp2_with fail
 refine(IT c _).mono ?_;rintro a e ⟨rfl,h⟩;have d:aD e w.heap.size c.cells 46:=(aD.new w c.cells 46).keeps h id;have k:=Aa (((aA.refl _ _).alloc _).then h);have n:e.cell? ⟨w.heap.size,14,none⟩=some (.int .i64 c.bV):=d.cell rfl;have o:e.cell? ⟨w.heap.size,15,none⟩=some (.int .i64 c.bW):=d.cell rfl;have q:e.cell? ⟨w.heap.size,16,none⟩=some (.int .i64 c.cG):=d.cell rfl;have r:e.cell? ⟨w.heap.size,17,none⟩=some (.int .i64 c.cH):=d.cell rfl;have s:e.cell? ⟨w.heap.size,18,none⟩=some (.int .i64 c.cQ):=d.cell rfl;have t:e.cell? ⟨w.heap.size,19,none⟩=some (.int .i64 c.cR):=d.cell rfl;clear h d;go_wp2_with fail
 refine(N9 c 1 _ (by omega) (by omega)).mono ?_;rintro a u ⟨rfl,m⟩;go_wp2;go_ret;exact⟨Bz (by rw[j.o,h1,h2];rfl),k.o.then m⟩
theorem Sx(c:Cfg)(w:World): Calls prog 103 #[c.val] w λd e=>d=.returned (.bool (ER c))/\lO w e:=by
 have i:=Aa (show ER c=(Ab c.rows 1 3&&(Ab c.width 1 16&&(Ab c.aM 1 8&&(Cc c&&((c.aB%c.aM==0)&&EQ c c.rows.toNat))))) from rfl);unfold Cfg.val;cases h1:Ab c.rows 1 3
 ·go_enter func103,ntmps103;go_wp2_with (go_at_call 34;refine(AK _ _ _ _).mono ?_;rintro d e ⟨rfl,rfl⟩)
  go_ret;exact⟨Bz (by rw[i.o,h1];rfl),(aA.refl _ _).alloc _⟩
 cases h2:Ab c.width 1 16
 ·go_enter func103,ntmps103;go_wp2_with (go_at_call 34;refine(AK _ _ _ _).mono ?_;rintro d e ⟨rfl,rfl⟩)
  go_ret;exact⟨Bz (by rw[i.o,h1,h2];rfl),(aA.refl _ _).alloc _⟩
 cases h3:Ab c.aM 1 8
 ·go_enter func103,ntmps103;go_wp2_with (go_at_call 34;refine(AK _ _ _ _).mono ?_;rintro d e ⟨rfl,rfl⟩)
  go_ret;exact⟨Bz (by rw[i.o,h1,h2,h3];rfl),(aA.refl _ _).alloc _⟩
 cases h4:Cc c
 ·go_enter func103,ntmps103;go_wp2_with (first | (go_at_call 34;refine(AK _ _ _ _).mono ?_;rintro d e ⟨rfl,rfl⟩) | (go_at_call 132;refine(IT c _).mono ?_;rintro d e ⟨rfl,j⟩))
  go_ret;exact⟨Bz (by rw[i.o,h1,h2,h3,h4];rfl),((aA.refl _ _).alloc _).then j⟩
 obtain⟨u,v⟩:=Bp h3;obtain⟨x,z⟩:=Bp h4;obtain⟨A,B⟩:=Bp h1;cases h5:(c.aB%c.aM==0);all_goals
  go_enter func103,ntmps103;go_wp2_with (first | (go_at_call 34;refine(AK _ _ _ _).mono ?_;rintro d e ⟨rfl,rfl⟩))
  refine(IT c _).mono ?_;rintro d h ⟨rfl,j⟩;have a:aD h w.heap.size c.cells 46:=(aD.new w c.cells 46).keeps j id;have k:=Aa (((aA.refl _ _).alloc _).then j);have c5:=a.c5;have c7:=a.c7;have c9:=a.c9;have n:h.cell? ⟨w.heap.size,14,none⟩=some (.int .i64 c.bV):=a.cell rfl;have o:h.cell? ⟨w.heap.size,15,none⟩=some (.int .i64 c.bW):=a.cell rfl;have q:h.cell? ⟨w.heap.size,16,none⟩=some (.int .i64 c.cG):=a.cell rfl;have r:h.cell? ⟨w.heap.size,17,none⟩=some (.int .i64 c.cH):=a.cell rfl;have s:h.cell? ⟨w.heap.size,18,none⟩=some (.int .i64 c.cQ):=a.cell rfl;have t:h.cell? ⟨w.heap.size,19,none⟩=some (.int .i64 c.cR):=a.cell rfl;clear j a;go_wp2_with fail
 ·go_ret;exact⟨Bz (by rw[i.o,h1,h2,h3,h4,h5];rfl),k.o⟩
 refine(N9 c c.rows _ (by omega) (by omega)).mono ?_;rintro d C ⟨rfl,m⟩;go_wp2;go_ret;exact⟨Bz (by rw[i.o,h1,h2,h3,h4,h5];rfl),k.o.then m⟩
theorem MN(n:Int)(w:World):
  Calls prog 140 #[.int .i64 n] w λa c=>a=.returned (.bool (Ab n 0 2147483648))/\c=w:=by
 go_enter func140,ntmps140;go_wp2_with (go_at_call 34;refine(AK _ _ _ _).mono ?_;rintro a c ⟨rfl,rfl⟩)
 go_ret;exact⟨rfl,rfl⟩
theorem YA(n:Int)(w:World):
  Calls prog 157 #[.int .i64 n] w λa c=>a=.returned (.bool (Ab n 1 2147483648))/\c=w:=by
 go_enter func157,ntmps157;go_wp2_with (go_at_call 34;refine(AK _ _ _ _).mono ?_;rintro a c ⟨rfl,rfl⟩)
 go_ret;exact⟨rfl,rfl⟩
def Dp(x:It): Int:=if Ab x.k 0 2147483648 then 0 else 10
def Ev(c:Cfg)(x:It): Int:=if (Am c x.t).isSome then 0 else 8
def E8(c:Cfg)(x:It): Int:=if (Am c x.t).isSome then(if Ab x.k 0 2147483648 then(if Ab x.d 1 2147483648 then 0 else 9) else 10) else 8
theorem Rx(c:Cfg)(x:It)(w:World):
  Calls prog 94 #[c.val,x.val] w λa d=>a=.returned (.int .i64 0)/\lO w d:=by
 unfold Cfg.val It.val;go_enter func94,ntmps94;go_wp2;go_ret;exact⟨rfl,by repeat (first | exact aA.refl _ _ | apply aA.alloc)⟩
theorem Lj(c:Cfg)(x:It)(w:World):
  Calls prog 100 #[c.val,x.val] w λa d=>a=.returned (.int .i64 (Dp x))/\lO w d:=by
 unfold Cfg.val It.val;have e:=Aa (show Dp x=if Ab x.k 0 2147483648 then 0 else 10 from rfl);cases h:Ab x.k 0 2147483648;all_goals
  go_enter func100,ntmps100;go_wp2_with (go_at_call 140;refine(MN _ _).mono ?_;rintro a d ⟨rfl,rfl⟩)
  go_ret;exact⟨A9 (by rw[e.o,h];rfl),by repeat (first | exact aA.refl _ _ | apply aA.alloc)⟩
theorem Lb(c:Cfg)(x:It)(w:World)(d:c.bH)(l:0<=x.t)(k:x.t<=4611686018427387904):
  Calls prog 109 #[c.val,x.val] w λa e=>a=.returned (.int .i64 (Ev c x))/\lO w e:=by
 unfold Cfg.val It.val;have j:=Aa (show Ev c x=if (Am c x.t).isSome then 0 else 8 from rfl);have i:=Aa d;cases h:(Am c x.t).isSome;all_goals
  clear d;go_enter func109,ntmps109;go_wp2_with fail
  refine(MP c x.t _ i.o (by omega) k).mono ?_;rintro a e ⟨rfl,rfl⟩;unfold Fl;rw[h];go_wp2;go_ret;exact⟨A9 (by rw[j.o,h];rfl),by repeat (first | exact aA.refl _ _ | apply aA.alloc)⟩
theorem R8(c:Cfg)(x:It)(w:World)(j:c.bH)(t:0<=x.t)(u:x.t<=4611686018427387904):
  Calls prog 113 #[c.val,x.val] w λh v=>h=.returned (.int .i64 (E8 c x))/\lO w v:=by
 have i:=Aa (show E8 c x=if (Am c x.t).isSome then(if Ab x.k 0 2147483648 then(if Ab x.d 1 2147483648 then 0 else 9) else 10) else 8 from rfl);have n:=Aa j;have z:=Aa ((aD.new w c.cells 46).alloc (.cells x.cells 80))
 have B:=Aa (show aD ((w.alloc (.cells c.cells.toArray 46)).alloc (.cells x.cells 80)) (w.heap.size+1) [.int .i64 x.t,.int .i64 x.k,.int .i64 x.d,.int .i64 x.n] 80 by
    have:=aD.new (w.alloc (.cells c.cells.toArray 46)) [.int .i64 x.t,.int .i64 x.k,.int .i64 x.d,.int .i64 x.n] 80
    rwa [jU]at this)
 have o:=Aa (((aA.refl (λ_=>False) w).alloc (.cells c.cells.toArray 46)).alloc (.cells x.cells 80));unfold Cfg.val It.val;cases a:(Am c x.t).isSome
 ·have l:Ev c x=8:=by unfold Ev;rw[a];rfl
  clear j;go_enter func113,ntmps113;go_wp2_with fail
  refine(Lb c x _ n.o t u).mono ?_;rintro h D ⟨rfl,d⟩;rw[l];go_wp2;go_ret;exact⟨A9 (by rw[i.o,a];rfl),o.o.then d⟩
 have l:Ev c x=0:=by unfold Ev;rw[a];rfl
 clear j;go_enter func113,ntmps113;go_wp2_with fail
 refine(Lb c x _ n.o t u).mono ?_;rintro h D ⟨rfl,d⟩;rw[l];have r:=z.o.keeps d id;have e:=B.o.keeps d id;obtain⟨L,J⟩:=CE r 20 rfl;have E:=e.c0;have F:=e.c1;have G:=e.c2;have H:=e.c3;have A:=Aa (o.o.then d);have C:=Aa e;clear d r e;go_wp2_with fail
 refine(Lj c x _).mono ?_;rintro h M ⟨rfl,k⟩;have s:=C.o.keeps k id;have I:=s.c2;have q:=Aa (A.o.then k);clear k s;cases h2:Ab x.k 0 2147483648
 ·have m:Dp x=10:=by unfold Dp;rw[h2];rfl
  rw[m];go_wp2;go_ret;exact⟨A9 (by rw[i.o,a,h2];rfl),q.o⟩
 have m:Dp x=0:=by unfold Dp;rw[h2];rfl
 rw[m];cases h3:Ab x.d 1 2147483648;all_goals
  go_wp2_with (go_at_call 157;refine(YA _ _).mono ?_;rintro h v ⟨rfl,rfl⟩)
  go_ret;exact⟨A9 (by rw[i.o,a,h2,h3];rfl),q.o⟩
theorem GJ{n:Int}(a:-9223372036854775808<=n)(c:n<=9223372036854775807): IntKind.i64.wrap n=n:=by rw[ic];omega
theorem Wg(c:Cfg)(t:Int)(w:World)(e:c.bH)(i:-100<=t)(j:t<=4611686018427387904):
  Calls prog 202 #[c.val,.int .i64 t] w λa d=>a=.returned (.int .i64 (Ar (Am c t)))/\d=(w.alloc (.cells c.cells.toArray 46)).alloc (.cells c.cells.toArray 46):=by
 cases h:Am c t with
 | none =>
  unfold Cfg.val;go_enter func202,ntmps202;go_wp2_with fail
  refine(MP c t _ e i j).mono ?_;rintro a d ⟨rfl,rfl⟩;rw[h];unfold Fl;go_wp2;go_ret;exact⟨rfl,rfl⟩
 | some k =>
  unfold Cfg.val;go_enter func202,ntmps202;go_wp2_with fail
  refine(MP c t _ e i j).mono ?_;rintro a d ⟨rfl,rfl⟩;rw[h];unfold Fl;go_wp2;go_ret;exact⟨rfl,rfl⟩
theorem Ry(a b:Int)(w:World):
  Calls prog 144 #[.int .i64 a,.int .i64 b] w λc d=>c=.returned (.tuple #[.int .i64 0,.int .i64 0])/\d=w:=by
 go_enter func144,ntmps144;go_wp2;go_ret2;exact⟨rfl,rfl⟩
def E7(c:Cfg)(q r:Int): List Value:=c.cells++[.int .i64 q,.int .i64 r]
theorem Sa(c:Cfg)(w:World):
  Calls prog 110 #[c.val] w λe d=>∃a,e=.returned (.agg #[.func (.func 153) #[.pointer (some ⟨a,0,none⟩)] #[],.func (.func 154) #[.pointer (some ⟨a,0,none⟩)] #[],.func (.func 144) #[] #[],.func (.func 155) #[.pointer (some ⟨a,0,none⟩)] #[],.func (.func 156) #[.pointer (some ⟨a,0,none⟩)] #[]])/\w.heap.size<=a/\aD d a (E7 c 0 0) 194/\lO w d:=by
 unfold Cfg.val;go_enter func110,ntmps110;go_wp2;refine iN (v:=.agg #[.func (.func 153) #[.pointer (some ⟨w.heap.size+1+1,0,none⟩)] #[],.func (.func 154) #[.pointer (some ⟨w.heap.size+1+1,0,none⟩)] #[],.func (.func 144) #[] #[],.func (.func 155) #[.pointer (some ⟨w.heap.size+1+1,0,none⟩)] #[],.func (.func 156) #[.pointer (some ⟨w.heap.size+1+1,0,none⟩)] #[]]) (by simp[results,results110,go_sem]) rfl ⟨w.heap.size+1+1,rfl,by omega,?_,?_⟩
 ·exact aD.newAt (by simp) (E7 c 0 0) 194
 repeat (first | exact aA.refl _ _ | apply aA.alloc)
theorem Fz{w w':World}{b o n:Nat}(h:lO w w')(i:b<w.heap.size): Ao w' b o n=Ao w b o n/\Ay w' b o n=Ay w b o n:=by
 have d:∀c,w'.cell? ⟨b,o+c,none⟩=w.cell? ⟨b,o+c,none⟩:=λc=>jw (a:=⟨b,o+c,none⟩) (h.block b i id);constructor
 ·unfold Ao Cv;simp only[d]
 unfold Ay;simp only[d]
theorem Lg(c:Cfg)(t:Int)(w:World)(d:c.bH)(h:-100<=t)(i:t<=4611686018427387904):
  Calls prog 202 #[c.val,.int .i64 t] w λa j=>a=.returned (.int .i64 (Ar (Am c t)))/\lO w j :=
 (Wg c t w d h i).mono λ_ _ ⟨e,hw⟩=>⟨e,by rw[hw];exact((aA.refl _ _).alloc _).alloc _⟩
theorem Sb(a:Nat)(c:Cfg)(j d:Int)(x:It)(m:Int)(w:World)(v:aD w a (E7 c j d) 194)(z:c.bH)(Z:0<=x.t)(G:x.t<=4611686018427387904)(X:0<=d)(Y:d<2305843009213693952)(V:0<=j)(W:j<=4611686018427387904)(R:0<=Ar (Am c x.t))(S:Ar (Am c x.t)<=2305843009213693952):
  Calls prog 153 #[.pointer (some ⟨a,0,none⟩),x.val,.int .i64 m] w λu i=>u=.returned (.tuple #[]) /\
   aD i a (E7 c (j+(d+Ar (Am c x.t))/2305843009213693952) ((d+Ar (Am c x.t))%2305843009213693952)) 194/\aA (λs=>s=a) w i:=by
 obtain⟨h,o⟩:∃h,h=w.alloc (.cells x.cells 80):=⟨_,rfl⟩;have k:aD h a (E7 c j d) 194:=by rw[o];exact v.alloc _
 have B:aD h w.heap.size [.int .i64 x.t,.int .i64 x.k,.int .i64 x.d,.int .i64 x.n] 80:=by rw[o];exact aD.new w _ _
 have D:=Aa (show aA (λs=>s=a) w h by rw[o];exact(aA.refl _ _).alloc _);have F:=Aa o;clear o v;have H:h.cell? ⟨a,20,none⟩=some (.int .i64 j):=k.cell rfl;have I:h.cell? ⟨a,21,none⟩=some (.int .i64 d):=k.cell rfl;have U:=B.c0;obtain⟨Q,L⟩:=Eg k 0 20 c.cells rfl rfl;have q:=k.lt;have t:=Aa k;have C:=Aa z;clear k B z;generalize A:Ar (Am c x.t)=n at *
 have E:=Aa A;clear A;have O:0<=d+n:=by omega
 have P:d+n<4611686018427387904:=by omega
 have M:0<=(d+n)/2305843009213693952:=by omega
 have N:(d+n)/2305843009213693952<=1:=by omega
 have T:IntKind.i64.wrap (d+n)=d+n:=GJ (by omega) (by omega);unfold It.val;go_enter func153,ntmps153;go_wp2_with fail
 rw[show w.alloc (.cells #[.int .i64 x.t,.int .i64 x.k,.int .i64 x.d,.int .i64 x.n] 80)=h from F.o.symm];go_region_held3 (λi=>i.cell? ⟨a,20,none⟩=some (.int .i64 j)/\i.cell? ⟨a,21,none⟩=some (.int .i64 d)/\i.cell? ⟨w.heap.size,0,none⟩=some (.int .i64 x.t)/\Ao i a 0 20=.agg c.cells.toArray/\Ay i a 0 20=true)
  (first | (go_split_ands;exact⟨by assumption,by assumption,by assumption,by assumption,by assumption⟩) | (go_split_ands;exact⟨l.cell (by assumption) id,l.cell (by assumption) id,l.cell (by assumption) id,(Fz l (by first | exact q | simpa using q)).1.trans (by assumption),(Fz l (by first | exact q | simpa using q)).2.trans (by assumption)⟩))
  (first | (go_at_call 202;refine(Lg c x.t _ C.o (by omega) G).mono ?_;rintro u aa ⟨rfl,l⟩;rw[E.o]))
 have r:=Aa (((aA.refl (λ_=>False) h).drew).then l);have J:=(t.o.keeps r.o id).frozen;go_wp2;go_end0;exact⟨rfl,((t.o.keeps r.o id).setCell 20 _).setCell 21 _,(((D.o.trans r.o (λ_ e=>e.elim)).setCell (p:=⟨a,20,none⟩) (Or.inl rfl) _).setCell (p:=⟨a,21,none⟩) (Or.inl rfl) _)⟩
theorem Ti(d:Nat)(c:Cfg)(l m a t:Int)(w:World)(k:aD w d (E7 c l m) 194)(r:c.bH)(z:-100<=t)(A:t<=4611686018427387904):
  Calls prog 154 #[.pointer (some ⟨d,0,none⟩),.int .i64 a,.int .i64 t] w λq i=>∃g,q=.returned (.tuple #[.slice (some ⟨g,0,none⟩) 3 3,.int .i64 0]) /\
   w.heap.size<=g/\aD i g [.int .i64 l,.int .i64 m,.int .i64 (Ar (Am c t))] 3/\lO w i:=by
 have C:w.cell? ⟨d,20,none⟩=some (.int .i64 l):=k.cell rfl;have D:w.cell? ⟨d,21,none⟩=some (.int .i64 m):=k.cell rfl;obtain⟨F,E⟩:=Eg k 0 20 c.cells rfl rfl;have j:=k.lt;have u:=Aa r;clear k r;generalize s:Ar (Am c t)=B at *
 have v:=Aa s;clear s;go_enter func154,ntmps154;go_wp2_with fail
 go_region_held3 (λi=>i.cell? ⟨d,20,none⟩=some (.int .i64 l)/\i.cell? ⟨d,21,none⟩=some (.int .i64 m)/\Ao i d 0 20=.agg c.cells.toArray/\Ay i d 0 20=true)
  (first | (go_split_ands;exact⟨by assumption,by assumption,by assumption,by assumption⟩) | (go_split_ands;exact⟨((aA.refl (λ_=>False) _).alloc _).cell (by assumption) id,((aA.refl (λ_=>False) _).alloc _).cell (by assumption) id,(Fz ((aA.refl (λ_=>False) _).alloc _) (by first | exact j | (have:=h.size;have x:w.heap.size<=n.heap.size:=(by simpa using this);omega))).1.trans (by assumption),(Fz ((aA.refl (λ_=>False) _).alloc _) (by first | exact j | (have:=h.size;have x:w.heap.size<=n.heap.size:=(by simpa using this);omega))).2.trans (by assumption)⟩) | (go_split_ands;exact⟨h.cell (by assumption) id,h.cell (by assumption) id,(Fz h (by first | exact j | simpa using j)).1.trans (by assumption),(Fz h (by first | exact j | simpa using j)).2.trans (by assumption)⟩))
  (first | (go_at_call 202;refine(Lg c t _ u.o z A).mono ?_;rintro q n ⟨rfl,h⟩;rw[v.o]))
 have o:=Aa (((aA.refl (λ_=>False) w).drew).then h);go_wp2;go_ret2;exact⟨n.heap.size,rfl,o.o.size,aD.new n [.int .i64 l,.int .i64 m,.int .i64 B] 3,o.o.alloc _⟩
