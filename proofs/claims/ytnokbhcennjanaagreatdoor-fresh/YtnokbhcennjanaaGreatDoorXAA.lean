import Derived.Test.YtnokbhcennjanaaGreatDoorRows
import Derived.WalkKit
import Derived.WalkLawsBesides
import Derived.WalkSpells
import Derived.BigQuiet
import Derived.Deep.MidRow
import Derived.BigRegion
import Derived.Deep.AppendLies
import Derived.Deep.QuietTactic
import Derived.Deep.RegionHeld3
import Derived.Deep.RegionLaw
import Derived.Laws.EntriesVeiled
open Go.RowKit Go.Proofs.Tryz
set_option maxRecDepth 100000
set_option maxHeartbeats 16000000
namespace Go.Proofs.YtnokbhcennjanaaGreatDoor
abbrev ι(n:Int):Value:=.int .i64 n
abbrev π(b:Nat):Value:=.pointer (some ⟨b,0,none⟩)
abbrev σ(g n c:Nat):Value:=.slice (some ⟨g,0,none⟩) n c
abbrev κ(w:World)(b i:Nat)(v:Value):Prop:=w.cell? ⟨b,i,none⟩=some v
theorem γ:type_of% @List.getD_eq_getElem?_getD:=@List.getD_eq_getElem?_getD
theorem ε:type_of% @List.append_assoc:=@List.append_assoc
theorem δ:type_of% @List.drop_eq_getElem_cons:=@List.drop_eq_getElem_cons
theorem τ:type_of% @List.take_append_drop:=@List.take_append_drop
theorem θ:type_of% @List.cons_append:=@List.cons_append
theorem ν:type_of% @List.Pairwise.nil:=@List.Pairwise.nil
theorem h9:type_of% @List.getElem?_eq_getElem:=@List.getElem?_eq_getElem
theorem ic:type_of% @List.length_append:=@List.length_append
theorem ig:type_of% @if_neg:=@if_neg
theorem ij:type_of% @if_pos:=@if_pos
theorem ik:type_of% @List.mem_append:=@List.mem_append
theorem il:type_of% @Go.IntKind.wrap_i64:=@Go.IntKind.wrap_i64
theorem im:type_of% @List.mem_singleton:=@List.mem_singleton
theorem iq:type_of% @List.getElem?_eq_some_iff:=@List.getElem?_eq_some_iff
theorem ir:type_of% @Nat.le_refl:=@Nat.le_refl
theorem iu:type_of% @List.length_map:=@List.length_map
theorem iw:type_of% @List.take_of_length_le:=@List.take_of_length_le
theorem iy:type_of% @Go.World.ownsRow_nil:=@Go.World.ownsRow_nil
theorem iz:type_of% @List.mem_of_getElem?:=@List.mem_of_getElem?
theorem iA:type_of% @List.mem_cons:=@List.mem_cons
theorem iB:type_of% @List.map_append:=@List.map_append
theorem iC:type_of% @List.append_nil:=@List.append_nil
theorem iD:type_of% @List.length_cons:=@List.length_cons
theorem iE:type_of% @List.mem_of_mem_drop:=@List.mem_of_mem_drop
theorem iF:type_of% @List.map_cons:=@List.map_cons
theorem iG:type_of% @List.length_take:=@List.length_take
theorem iH:type_of% @Go.heap_alloc_new:=@Go.heap_alloc_new
theorem iI:type_of% @List.mem_map:=@List.mem_map
theorem iJ:type_of% @Go.World.news_of_block:=@Go.World.news_of_block
theorem iK:type_of% @List.mem_map_of_mem:=@List.mem_map_of_mem
theorem iL:type_of% @Int.le_refl:=@Int.le_refl
theorem iM:type_of% @Int.toNat_natCast:=@Int.toNat_natCast
theorem iN:type_of% @List.getElem?_append_left:=@List.getElem?_append_left
theorem iO:type_of% @List.getElem?_append_right:=@List.getElem?_append_right
theorem iP:type_of% @decide_eq_true_eq:=@decide_eq_true_eq
theorem iQ:type_of% @Bool.and_eq_true:=@Bool.and_eq_true
theorem iR:type_of% @List.length_eq_zero_iff:=@List.length_eq_zero_iff
theorem iS:type_of% @List.getElem?_map:=@List.getElem?_map
theorem iT:type_of% @Nat.zero_le:=@Nat.zero_le
theorem iU:type_of% @List.length_drop:=@List.length_drop
theorem iV:type_of% @Go.bodyPost_ret:=@Go.bodyPost_ret
theorem iW:type_of% @List.getElem?_take:=@List.getElem?_take
theorem iX:type_of% @List.drop_eq_nil_of_le:=@List.drop_eq_nil_of_le
theorem iY:type_of% @List.filter_cons:=@List.filter_cons
theorem iZ:type_of% @List.mem_of_mem_take:=@List.mem_of_mem_take
theorem ja:type_of% @Nat.zero_add:=@Nat.zero_add
theorem jb:type_of% @List.pairwise_append:=@List.pairwise_append
theorem jc:type_of% @List.mem_of_find?_eq_some:=@List.mem_of_find?_eq_some
theorem jd:type_of% @Int.tdiv_eq_ediv_of_nonneg:=@Int.tdiv_eq_ediv_of_nonneg
theorem je:type_of% @List.take_append_of_le_length:=@List.take_append_of_le_length
theorem jf:type_of% @Go.wpList_append_lies:=@Go.wpList_append_lies
theorem jg:type_of% @Go.info_parts:=@Go.info_parts
theorem jh:type_of% @List.length_singleton:=@List.length_singleton
theorem ji:type_of% @List.take_add_one:=@List.take_add_one
theorem jj:type_of% @List.Perm.refl:=@List.Perm.refl
theorem jk:type_of% @List.getElem_mem:=@List.getElem_mem
theorem jl:type_of% @Int.eq_ofNat_of_zero_le:=@Int.eq_ofNat_of_zero_le
theorem jm:type_of% @List.take_succ_eq_append_getElem:=@List.take_succ_eq_append_getElem
theorem jn:type_of% @List.pairwise_cons:=@List.pairwise_cons
theorem jo:type_of% @List.filter_append:=@List.filter_append
theorem jq:type_of% @Go.Sem.run_bind:=@Go.Sem.run_bind
theorem jr:type_of% @Nat.pow_le_pow_right:=@Nat.pow_le_pow_right
theorem js:type_of% @Array.getElem?_eq_some_iff:=@Array.getElem?_eq_some_iff
theorem jt:type_of% @Int.mul_le_mul_of_nonneg_left:=@Int.mul_le_mul_of_nonneg_left
theorem ju:type_of% @Go.RowKit.Below.heap_alloc:=@Go.RowKit.Below.heap_alloc
theorem jv:type_of% @List.nil_append:=@List.nil_append
theorem jw:type_of% @List.length_set:=@List.length_set
theorem jx:type_of% @List.mem_or_eq_of_mem_set:=@List.mem_or_eq_of_mem_set
theorem jy:type_of% @Go.Result.andThen_ok:=@Go.Result.andThen_ok
theorem jz:type_of% @List.flatMap_cons:=@List.flatMap_cons
theorem jA:type_of% @Go.Calls.quiet_of_same:=@Go.Calls.quiet_of_same
theorem jB:type_of% @Go.World.cell?_of_block:=@Go.World.cell?_of_block
theorem jC:type_of% @List.getElem?_eq_none:=@List.getElem?_eq_none
theorem jD:type_of% @Option.some.inj:=@Option.some.inj
theorem jE:type_of% @List.takeWhile_cons:=@List.takeWhile_cons
theorem jF:type_of% @Go.IntKind.wrap_u64:=@Go.IntKind.wrap_u64
theorem jG:type_of% @Nat.min_eq_left:=@Nat.min_eq_left
theorem jH:type_of% @List.nodup_append:=@List.nodup_append
theorem jI:type_of% @List.getElem?_set:=@List.getElem?_set
theorem jJ:type_of% @List.length_reverse:=@List.length_reverse
theorem jK:type_of% @List.length_pos_iff:=@List.length_pos_iff
theorem jL:type_of% @Go.run_underlying:=@Go.run_underlying
theorem jM:type_of% @Go.World.frozen?_of_block:=@Go.World.frozen?_of_block
theorem jN:type_of% @Nat.le_trans:=@Nat.le_trans
theorem jO:type_of% @Int.ediv_nonneg:=@Int.ediv_nonneg
theorem jP:type_of% @List.take_zero:=@List.take_zero
theorem jQ:type_of% @List.filter_eq_nil_iff:=@List.filter_eq_nil_iff
theorem jR:type_of% @Go.World.size_alloc:=@Go.World.size_alloc
theorem jS:type_of% @Int.ediv_le_self:=@Int.ediv_le_self
theorem jT:type_of% @List.map_congr_left:=@List.map_congr_left
theorem jU:type_of% @List.set_append_right:=@List.set_append_right
theorem jV:type_of% @List.foldl_append:=@List.foldl_append
theorem jW:type_of% @Go.World.cell?_setCell_far:=@Go.World.cell?_setCell_far
theorem jX:type_of% @List.mem_iff_getElem:=@List.mem_iff_getElem
theorem jY:type_of% @Int.tmod_eq_emod_of_nonneg:=@Int.tmod_eq_emod_of_nonneg
theorem jZ:type_of% @List.foldl_cons:=@List.foldl_cons
theorem j0:type_of% @Nat.add_zero:=@Nat.add_zero
theorem j1:type_of% @Int.mul_le_mul_of_nonneg_right:=@Int.mul_le_mul_of_nonneg_right
theorem j2:type_of% @List.drop_sublist:=@List.drop_sublist
theorem j3:type_of% @Int.emod_add_mul_ediv:=@Int.emod_add_mul_ediv
theorem j4:type_of% @List.length_nil:=@List.length_nil
theorem j5:type_of% @List.getElem?_drop:=@List.getElem?_drop
theorem j6:type_of% @Int.emod_lt_of_pos:=@Int.emod_lt_of_pos
theorem j7:type_of% @List.pairwise_singleton:=@List.pairwise_singleton
theorem j8:type_of% @List.mem_cons_of_mem:=@List.mem_cons_of_mem
theorem j9:type_of% @Nat.sub_self:=@Nat.sub_self
theorem ka:type_of% @List.perm_append_singleton:=@List.perm_append_singleton
theorem ke:type_of% @List.ext_getElem?:=@List.ext_getElem?
theorem kf:type_of% @List.filter_eq_self:=@List.filter_eq_self
theorem kg:type_of% @List.range_succ:=@List.range_succ
theorem kh:type_of% @List.mem_filter:=@List.mem_filter
theorem ki:type_of% @Int.emod_nonneg:=@Int.emod_nonneg
theorem kj:type_of% @List.mem_replicate:=@List.mem_replicate
theorem kk:type_of% @List.map_map:=@List.map_map
theorem kl:type_of% @Go.Addr.add_lit:=@Go.Addr.add_lit
theorem km:type_of% @Std.Legacy.Range.forIn_eq_forIn_range':=@Std.Legacy.Range.forIn_eq_forIn_range'
theorem ko:type_of% @Option.map_some:=@Option.map_some
theorem kq:type_of% @List.map_nil:=@List.map_nil
theorem ks:type_of% @List.not_mem_nil:=@List.not_mem_nil
theorem kt:type_of% @List.all_eq_true:=@List.all_eq_true
theorem ku:type_of% @Go.IntKind.wrap_u8':=@Go.IntKind.wrap_u8'
theorem kv:type_of% @List.take_take:=@List.take_take
theorem kx:type_of% @List.dropWhile_cons_of_pos:=@List.dropWhile_cons_of_pos
theorem ky:type_of% @List.dropWhile_cons_of_neg:=@List.dropWhile_cons_of_neg
theorem kz:type_of% @List.singleton_append:=@List.singleton_append
theorem kA:type_of% @List.nodup_cons:=@List.nodup_cons
theorem kB:type_of% @Go.results_none:=@Go.results_none
theorem kC:type_of% @Nat.lt_or_ge:=@Nat.lt_or_ge
theorem kD:type_of% @List.drop_succ_cons:=@List.drop_succ_cons
theorem kE:type_of% @Int.toNat_of_nonneg:=@Int.toNat_of_nonneg
theorem kF:type_of% @Go.step_append_lies:=@Go.step_append_lies
theorem kG:type_of% @Go.World.block_lt_of_cell?:=@Go.World.block_lt_of_cell?
theorem kH:type_of% @Nat.add_sub_cancel_left:=@Nat.add_sub_cancel_left
theorem kI:type_of% @List.flatMap_nil:=@List.flatMap_nil
theorem kJ:type_of% @List.drop_zero:=@List.drop_zero
theorem kK:type_of% @List.drop_length:=@List.drop_length
theorem kL:type_of% @Int.mul_nonneg:=@Int.mul_nonneg
theorem kM:type_of% @Nat.pow_succ:=@Nat.pow_succ
theorem kN:type_of% @Nat.lt_of_lt_of_le:=@Nat.lt_of_lt_of_le
theorem kO:type_of% @List.map_set:=@List.map_set
theorem kP:type_of% @List.find?_cons:=@List.find?_cons
theorem kQ:type_of% @Go.World.cell?_alloc_new:=@Go.World.cell?_alloc_new
theorem kR:type_of% @List.Pairwise.sublist:=@List.Pairwise.sublist
theorem kS:type_of% @Go.run_storeCells_cells:=@Go.run_storeCells_cells
theorem kT:type_of% @Int.mul_le_mul:=@Int.mul_le_mul
theorem kU:type_of% @List.range'_succ:=@List.range'_succ
theorem kV:type_of% @List.isEmpty_iff:=@List.isEmpty_iff
theorem kW:type_of% @Int.add_zero:=@Int.add_zero
theorem kX:type_of% @Option.isSome_iff_exists:=@Option.isSome_iff_exists
theorem kY:type_of% @Go.World.size_drew:=@Go.World.size_drew
theorem kZ:type_of% @Nat.add_sub_cancel:=@Nat.add_sub_cancel
theorem k0:type_of% @List.getElem?_replicate:=@List.getElem?_replicate
theorem k3:type_of% @List.getElem?_cons_succ:=@List.getElem?_cons_succ
theorem k4:type_of% @Nat.zero_mul:=@Nat.zero_mul
theorem k6:type_of% @Nat.add_comm:=@Nat.add_comm
theorem k7:type_of% @List.filter_congr:=@List.filter_congr
theorem k8:type_of% @List.mem_append_right:=@List.mem_append_right
theorem k9:type_of% @List.length_filter_le:=@List.length_filter_le
theorem lf:type_of% @List.Perm.append_left:=@List.Perm.append_left
theorem lg:type_of% @List.take_length:=@List.take_length
theorem lh:type_of% @List.perm_middle:=@List.perm_middle
theorem lj:type_of% @List.mem_flatMap:=@List.mem_flatMap
theorem lk:type_of% @List.getElem_map:=@List.getElem_map
theorem ll:type_of% @Nat.mul_assoc:=@Nat.mul_assoc
theorem lp:type_of% @List.getElem?_set_ne:=@List.getElem?_set_ne
theorem lq:type_of% @Go.run_storeAt_mid:=@Go.run_storeAt_mid
theorem lu:type_of% @Go.run_loadVar_mid:=@Go.run_loadVar_mid
theorem lx:type_of% @decide_eq_false:=@decide_eq_false
theorem ly:type_of% @List.toList_toArray:=@List.toList_toArray
theorem lz:type_of% @Go.bitLen_shift:=@Go.bitLen_shift
theorem lA:type_of% @List.mem_range:=@List.mem_range
theorem lB:type_of% @List.find?_eq_none:=@List.find?_eq_none
theorem lC:type_of% @Int.emod_eq_of_lt:=@Int.emod_eq_of_lt
theorem lD:type_of% @Nat.min_eq_right:=@Nat.min_eq_right
theorem lE:type_of% @Ne.symm:=@Ne.symm
theorem lF:type_of% @Nat.mul_comm:=@Nat.mul_comm
theorem lG:type_of% @Nat.two_pow_pos:=@Nat.two_pow_pos
theorem lH:type_of% @Bool.eq_iff_iff:=@Bool.eq_iff_iff
theorem lI:type_of% @Nat.div_lt_iff_lt_mul:=@Nat.div_lt_iff_lt_mul
theorem lJ:type_of% @List.takeWhile_prefix:=@List.takeWhile_prefix
theorem lK:type_of% @List.eq_nil_or_concat:=@List.eq_nil_or_concat
theorem lL:type_of% @List.concat_eq_append:=@List.concat_eq_append
theorem lM:type_of% @Go.World.cell?_alloc_lt:=@Go.World.cell?_alloc_lt
theorem lN:type_of% @Nat.div_one:=@Nat.div_one
theorem lO:type_of% @Nat.add_mul:=@Nat.add_mul
theorem lP:type_of% @Int.mul_add:=@Int.mul_add
theorem lQ:type_of% @if_true:=@if_true
theorem lR:type_of% @Nat.one_le_two_pow:=@Nat.one_le_two_pow
theorem lS:type_of% @Nat.eq_zero_or_pos:=@Nat.eq_zero_or_pos
theorem lT:type_of% @Go.run_make_own:=@Go.run_make_own
theorem lU:type_of% @Option.some.injEq:=@Option.some.injEq
theorem lV:type_of% @Nat.sub_zero:=@Nat.sub_zero
theorem lW:type_of% @Nat.le_succ_of_le:=@Nat.le_succ_of_le
section
def Ab(n lo hi:Int): Bool:=decide (lo<=n)&&decide (n<=hi)
theorem B4{a b:Bool}(c:a=b): Ending.returned (.bool a)=.returned (.bool b):=by rw[c]
theorem A9{k:IntKind}{a b:Int}(c:a=b): Ending.returned (.int k a)=.returned (.int k b):=by rw[c]
theorem AN(n lo hi:Int)(w:World):
  Calls prog 34 #[ι n,ι lo,ι hi] w λd e=>d=.returned (.bool (Ab n lo hi))/\e=w:=by
 by_cases a:lo<=n
 ·go_enter func34,ntmps34;go_wp2;go_ret;exact⟨by simp[Ab,a],rfl⟩
 have h:decide (lo<=n)=false:=by simpa using a
 have c:Hid (false=Ab n lo hi):=by simp[Hid,Ab,a]
 go_enter func34,ntmps34;go_wp2;go_ret;exact⟨B4 c.out,rfl⟩
theorem Gv(n:Int)(w:World):
  Calls prog 41 #[ι n] w λa c=>a=.returned (.bool (Ab n 0 4611686018427387904))/\c=w:=by
 go_enter func41,ntmps41;go_wp2_with (go_at_call 34;refine(AN _ _ _ _).mono ?_;rintro a c ⟨rfl,rfl⟩)
 go_ret;exact⟨rfl,rfl⟩
structure It where
 t:Int
 k:Int
 d:Int
 n:Int
def It.cells(x:It): Array Value:=#[ι x.t,ι x.k,ι x.d,ι x.n]
def It.val(x:It): Value:=.agg #[ι x.t,ι x.k,ι x.d,ι x.n]
def BY(a b:It): Bool:=if a.t=b.t then decide (a.n<b.n) else decide (a.t<b.t)
theorem Il(a b:It)(w:World):
  Calls prog 66 #[a.val,b.val] w λe i=>e=.returned (.bool (BY a b))/\i=(w.alloc (.cells a.cells 80)).alloc (.cells b.cells 80):=by
 unfold It.val It.cells;by_cases c:a.t=b.t
 ·have d:Hid (decide (a.n<b.n)=BY a b):=by simp[Hid,BY,c]
  have h:(a.t !=b.t)=false:=by simp[c]
  clear c;go_enter func66,ntmps66;go_wp2;go_ret;exact⟨B4 d.out,rfl⟩
 have d:Hid (decide (a.t<b.t)=BY a b):=by simp[Hid,BY,c]
 have h:(a.t !=b.t)=true:=by simp[c]
 clear c;go_enter func66,ntmps66;go_wp2;go_ret;exact⟨B4 d.out,rfl⟩
def Bo(base:Int): Nat->Int->Option Int
 | 0,p=>some p
 | n+1,p=>if 2305843009213693952/base<p then none else Bo base n (p*base)
def As: Option Int->Int | some x=>x | none=>0
def Fv(o:Option Int): Value:=.tuple #[ι (As o),.bool o.isSome]
theorem Lb(p b:Int)(d:1<=p)(c:1<=b)(e:¬2305843009213693952/b<p): 1<=p*b/\p*b<=2305843009213693952:=by
 constructor
 ·have:=kT d c (by omega) (by omega);simpa using this
 have a:p<=2305843009213693952/b:=by omega
 exact(Int.le_ediv_iff_mul_le (by omega)).1 a
theorem XA(b:Int)(n:Nat)(w:World)(o:1<=b)(v:b<=4611686018427387905)(A:n<=3):
  Calls prog 200 #[ι b,ι n] w λm u=>m=.returned (Fv (Bo b n 1))/\u=w:=by
 go_enter func200,ntmps200;go_wp2;go_loop [6,8] (λp j=>∃a:Nat,∃c:Int,a<=n/\j=ι a/\p=ι c/\1<=c/\c<=2305843009213693952/\Bo b n 1=Bo b (n-a) c) (λ_ j=>n-(intOf j).toNat)
 case atStart=>exact⟨0,1,iT _,rfl,rfl,by omega,by omega,rfl⟩
 case round =>
  obtain⟨a,c,x,rfl,rfl,t,B,k⟩:=hrel;have e:Hid (Bo b n 1=Bo b (n-a) c):=k;clear k;by_cases z:a<n
  ·obtain⟨d,l⟩:∃d,n-a=d+1:=⟨n-a-1,by omega⟩;have h:Hid (n-a=d+1):=l;clear l;by_cases i:2305843009213693952/b<c
   ·go_wp2;go_ret2;refine⟨?_,rfl⟩;rw[e.out,h.out];simp[Bo,i,Fv,As]
   have s:=Lb c b t o i;obtain⟨q,r⟩:=s;go_wp2;go_round;case rel=>exact⟨a+1,c*b,by omega,by go_num,by go_num,q,r,by rw[e.out,h.out];rw[show n-(a+1)=d from by have:=h.out;omega];simp[Bo,i]⟩
   case measure=>simp[intOf];omega
  go_wp2;go_ret2;refine⟨?_,rfl⟩;rw[e.out,show n-a=0 from by omega];simp[Bo,Fv,As]
structure aA (M:Nat->Prop) (w w':World):Prop where
 os:w'.os=w.os
 tape:w'.tape=w.tape
 output:w'.output=w.output
 size:w.heap.size<=w'.heap.size
 block:∀k,k<w.heap.size->¬M k->w'.heap[k]?=w.heap[k]?
abbrev lX(w v:World):Prop:=aA (λ_=>False) w v
theorem aA.refl(M:Nat->Prop)(w:World): aA M w w:=⟨rfl,rfl,rfl,ir _,λ_ _ _=>rfl⟩
theorem aA.trans{M M':Nat->Prop}{a b c:World}(e:aA M a b)(k:aA M' b c)(l:∀d,M' d->d<a.heap.size->M d): aA M a c :=
 ⟨k.os.trans e.os,k.tape.trans e.tape,k.output.trans e.output,jN e.size k.size,
    λd h i=>(k.block d (kN h e.size) (λj=>i (l d j h))).trans (e.block d h i)⟩
theorem aA.then{M:Nat->Prop}{a b c:World}(d:aA M a b)(k:aA M b c): aA M a c:=d.trans k (λ_ e _=>e)
theorem aA.mono{M M':Nat->Prop}{a b:World}(d:aA M a b)(i:∀c,c<a.heap.size->M c->M' c): aA M' a b :=
 ⟨d.os,d.tape,d.output,d.size,λc e j=>d.block c e (λh=>j (i c e h))⟩
theorem aA.drew{M:Nat->Prop}{a w:World}(c:aA M a w): aA M a w.drew:=⟨c.os,c.tape,c.output,c.size,c.block⟩
theorem aA.drewN(M:Nat->Prop)(w:World)(n:Nat): aA M w (w.drewN n):=⟨rfl,rfl,rfl,ir _,λ_ _ _=>rfl⟩
theorem aA.alloc{M:Nat->Prop}{a w:World}(c:aA M a w)(o:Obj): aA M a (w.alloc o) :=
 c.trans (M':=λ_=>False) ⟨rfl,rfl,rfl,by simp,λh e _=>ju _ _ _ e⟩ (λ_ d _=>d.elim)
theorem aA.setCell{M:Nat->Prop}{a w:World}(e:aA M a w){p:Addr}(c:M p.block\/a.heap.size<=p.block)(v:Value): aA M a (w.setCell p v) :=
 e.trans (M':=λd=>d=p.block) ⟨rfl,rfl,rfl,by simp,λd _ i=>Below.heap_setCell _ _ _ _ i⟩ (λk h j=>by subst h;rcases c with c | c;exact c;omega)
theorem aA.grown{M:Nat->Prop}{a w w':World}{row:Option Nat}(e:aA M a w)(d:w.grownBy w' row)(l:∀c,row=some c->M c\/a.heap.size<=c): aA M a w' :=
 e.trans (M':=λc=>row=some c) ⟨d.os,d.tape,d.output,d.size,λc j k=>d.block c j (λh=>k h.symm)⟩
  (λm i n=>by rcases l m i with e | e;exact e;omega)
theorem aA.cell{M:Nat->Prop}{w w':World}(c:aA M w w'){p:Addr}{v:Value}(a:w.cell? p=some v)(d:¬M p.block): w'.cell? p=some v :=
 (jB (c.block p.block (kG w p a) d)).trans a
theorem aA.frozen{M:Nat->Prop}{w w':World}(a:aA M w w'){p:Addr}(c:p.block<w.heap.size)(d:¬M p.block): w'.frozen? p=w.frozen? p :=
 jM (a.block p.block c d)
def aD(w:World)(b:Nat)(cs:List Value)(T:TypeId): Prop:=w.heap[b]?=some (.cells cs.toArray T (0,0))
theorem aD.lt{w:World}{b:Nat}{cs:List Value}{T:TypeId}(a:aD w b cs T): b<w.heap.size:=(js.1 a).1
theorem aD.cell{w:World}{b:Nat}{cs:List Value}{T:TypeId}(a:aD w b cs T){i:Nat}{v:Value}(hi:cs[i]?=some v): w.cell? ⟨b,i,none⟩=some v:=by
 unfold aD at a;simp[World.cell?,a,hi]
theorem aD.frozen{w:World}{b:Nat}{cs:List Value}{T:TypeId}(a:aD w b cs T)(i:Nat): w.frozen? ⟨b,i,none⟩=false:=by
 unfold aD at a;simp[World.frozen?,a]
theorem aD.keeps{M:Nat->Prop}{w w':World}{b:Nat}{cs:List Value}{T:TypeId}(a:aD w b cs T)(k:aA M w w')(c:¬M b): aD w' b cs T:=by
 unfold aD at a ⊢;rw[k.block b (aD.lt a) c];exact a
theorem aD.setCell{w:World}{b:Nat}{cs:List Value}{T:TypeId}(a:aD w b cs T)(i:Nat)(v:Value): aD (w.setCell ⟨b,i,none⟩ v) b (cs.set i v) T:=by
 unfold aD at a ⊢;simp[World.setCell,Array.getElem?_modify,a]
theorem aD.aW{w:World}{b:Nat}{cs:List Value}{T:TypeId}(a:aD w b cs T){p:Addr}(c:p.block≠b)(v:Value): aD (w.setCell p v) b cs T:=by
 unfold aD at a ⊢;rw[Below.heap_setCell _ _ _ _ (lE c)];exact a
theorem aD.drew{w:World}{b:Nat}{cs:List Value}{T:TypeId}(a:aD w b cs T): aD w.drew b cs T:=a
theorem aD.alloc{w:World}{b:Nat}{cs:List Value}{T:TypeId}(a:aD w b cs T)(o:Obj): aD (w.alloc o) b cs T:=by
 unfold aD at a ⊢;rw[ju _ _ _ (aD.lt a)];exact a
theorem aD.c0{w:World}{b:Nat}{v:Value}{l:List Value}{T:TypeId}(a:aD w b (v::l) T): w.cell? ⟨b,0,none⟩=some v:=a.cell rfl
theorem aD.c1{w:World}{b:Nat}{c v:Value}{l:List Value}{T:TypeId}(a:aD w b (c::v::l) T): w.cell? ⟨b,1,none⟩=some v:=a.cell rfl
theorem aD.c2{w:World}{b:Nat}{c d v:Value}{l:List Value}{T:TypeId}(a:aD w b (c::d::v::l) T): w.cell? ⟨b,2,none⟩=some v:=a.cell rfl
theorem aD.c3{w:World}{b:Nat}{c d x2 v:Value}{l:List Value}{T:TypeId}(a:aD w b (c::d::x2::v::l) T): w.cell? ⟨b,3,none⟩=some v:=a.cell rfl
theorem aD.c4{w:World}{b:Nat}{c d x2 e v:Value}{l:List Value}{T:TypeId}(a:aD w b (c::d::x2::e::v::l) T): w.cell? ⟨b,4,none⟩=some v:=a.cell rfl
theorem aD.c5{w:World}{b:Nat}{c d x2 e h v:Value}{l:List Value}{T:TypeId}(a:aD w b (c::d::x2::e::h::v::l) T): w.cell? ⟨b,5,none⟩=some v:=a.cell rfl
theorem aD.c6{w:World}{b:Nat}{c d x2 e h i v:Value}{l:List Value}{T:TypeId}(a:aD w b (c::d::x2::e::h::i::v::l) T): w.cell? ⟨b,6,none⟩=some v:=a.cell rfl
theorem aD.c7{w:World}{b:Nat}{c d x2 e h i j v:Value}{l:List Value}{T:TypeId}(a:aD w b (c::d::x2::e::h::i::j::v::l) T): w.cell? ⟨b,7,none⟩=some v:=a.cell rfl
theorem aD.c8{w:World}{b:Nat}{c d x2 e h i j k v:Value}{l:List Value}{T:TypeId}(a:aD w b (c::d::x2::e::h::i::j::k::v::l) T): w.cell? ⟨b,8,none⟩=some v:=a.cell rfl
theorem aD.c9{w:World}{b:Nat}{c d x2 e h i j k m v:Value}{l:List Value}{T:TypeId}(a:aD w b (c::d::x2::e::h::i::j::k::m::v::l) T): w.cell? ⟨b,9,none⟩=some v:=a.cell rfl
theorem aD.three{w:World}{b:Nat}{x y c:Value}{T:TypeId}(a:aD w b [x,y,c] T): w.cell? ⟨b,0,none⟩=some x/\w.cell? ⟨b,1,none⟩=some y/\w.cell? ⟨b,2,none⟩=some c/\∀d,w.frozen? ⟨b,d,none⟩=false:=⟨a.c0,a.c1,a.c2,a.frozen⟩
theorem aD.new(w:World)(cs:List Value)(T:TypeId): aD (w.alloc (.cells cs.toArray T)) w.heap.size cs T:=iH w _
def itAt(l:List It)(i:Nat): It:=l.getD i ⟨0,0,0,0⟩
def flat: List It->List Value
 | []=>[]
 | x::l=>ι x.t::ι x.k::ι x.d::ι x.n::flat l
theorem GJ(l:List It): (flat l).length=l.length*4:=by
 induction l with
 | nil=>rfl
 | cons c l a=>simp[flat,a];omega
theorem Jg(a b:List It): flat (a++b)=flat a++flat b:=by
 induction a with
 | nil=>rfl
 | cons e d c=>simp[flat,c]
theorem flat_get(l:List It)(i:Nat)(a:i<l.length): (flat l)[i*4]?=some (ι (itAt l i).t)/\(flat l)[i*4+1]?=some (ι (itAt l i).k)/\(flat l)[i*4+2]?=some (ι (itAt l i).d)/\(flat l)[i*4+3]?=some (ι (itAt l i).n):=by
 induction l generalizing i with
 | nil=>simp at a
 | cons d l c =>
  cases i with
  | zero=>simp[flat,itAt]
  | succ i =>
   have:=c i (by simpa using a);rw[show(i+1)*4=i*4+4 by omega];simpa[flat,itAt] using this
theorem ME(l:List It)(i:Nat)(x:It): flat (l.set i x)=((((flat l).set (i*4) (ι x.t)).set (i*4+1) (ι x.k)).set (i*4+2) (ι x.d)).set (i*4+3) (ι x.n):=by
 induction l generalizing i with
 | nil=>simp[flat]
 | cons y l a =>
  cases i with
  | zero=>simp[flat]
  | succ i=>rw[show(i+1)*4=i*4+4 by omega];simp[flat,a]
structure aP (w:World) (g cap:Nat) (l:List It):Prop where
 ex:∃cur:List Value,aD w g cur 80/\cur.length=cap*4/\cur.take (l.length*4)=flat l
 le:l.length<=cap
 max:cap<=maxLen
theorem aP.lt{w:World}{g cap:Nat}{l:List It}(a:aP w g cap l): g<w.heap.size:=by obtain⟨d,c,_⟩:=a.ex;exact c.lt
theorem aP.frozen{w:World}{g cap:Nat}{l:List It}(a:aP w g cap l)(o:Nat): w.frozen? ⟨g,o,none⟩=false:=by obtain⟨d,c,_⟩:=a.ex;exact c.frozen o
theorem aP.cells{w:World}{g cap:Nat}{l:List It}(m:aP w g cap l)(i:Nat)(hi:i<l.length):
  w.cell? ⟨g,i*4,none⟩=some (ι (itAt l i).t)/\w.cell? ⟨g,i*4+1,none⟩=some (ι (itAt l i).k)/\w.cell? ⟨g,i*4+2,none⟩=some (ι (itAt l i).d)/\w.cell? ⟨g,i*4+3,none⟩=some (ι (itAt l i).n):=by
 obtain⟨j,a,q,o⟩:=m.ex;have c:∀d,d<l.length*4->j[d]?=(flat l)[d]?:=λd n=>by rw[<-o,iW,ij n]
 obtain⟨e,b,h,k⟩:=flat_get l i hi;exact⟨a.cell (by rw[c _ (by omega)];exact e),a.cell (by rw[c _ (by omega)];exact b),a.cell (by rw[c _ (by omega)];exact h),a.cell (by rw[c _ (by omega)];exact k)⟩
theorem aP.keeps{M:Nat->Prop}{w w':World}{g cap:Nat}{l:List It}(a:aP w g cap l)(k:aA M w w')(e:¬M g): aP w' g cap l:=by
 obtain⟨c,d,h⟩:=a.ex;exact⟨⟨c,d.keeps k e,h⟩,a.le,a.max⟩
theorem aP.drew{w:World}{g cap:Nat}{l:List It}(a:aP w g cap l): aP w.drew g cap l:=by
 obtain⟨c,d,e⟩:=a.ex;exact⟨⟨c,d.drew,e⟩,a.le,a.max⟩
def bP(w:World)(g i:Nat)(x:It): World :=
 (((w.setCell ⟨g,i*4,none⟩ (ι x.t)).setCell ⟨g,i*4+1,none⟩ (ι x.k)).setCell ⟨g,i*4+2,none⟩ (ι x.d)).setCell ⟨g,i*4+3,none⟩ (ι x.n)
theorem aP.put{w:World}{g cap:Nat}{l:List It}(a:aP w g cap l)(i:Nat)(x:It): aP (bP w g i x) g cap (l.set i x):=by
 obtain⟨h,c,d,e⟩:=a.ex;refine⟨⟨_,(((c.setCell _ _).setCell _ _).setCell _ _).setCell _ _,by simp[d],?_⟩,by simpa using a.le,a.max⟩;rw[ME,<-e,jw];simp only[List.take_set]
theorem aA.bP{M:Nat->Prop}{a w:World}(d:aA M a w){g:Nat}(c:M g\/a.heap.size<=g)(i:Nat)(x:It): aA M a (bP w g i x) :=
 (((d.setCell c _).setCell c _).setCell c _).setCell c _
theorem Aa{p:Prop}(a:p): Hid p:=a
theorem uh{p:Prop}(a:Hid p): p:=a
theorem _root_.Go.RowKit.Hid.o{p:Prop}(h:Hid p): p:=h
structure Cfg where
 kind:Int
 aL:Int
 bF:Int
 cap:Int
 k:Int
 aB:Int
 bits:Int
 rows:Int
 width:Int
 aM:Int
 size:Int
 degree:Int
 half:Int
 mark:Int
 bV:Int
 bW:Int
 cI:Int
 cJ:Int
 cS:Int
 cT:Int
def Cfg.cells(c:Cfg): List Value:=[ι c.kind,ι c.aL,ι c.bF,ι c.cap,ι c.k,ι c.aB,ι c.bits,ι c.rows,ι c.width,ι c.aM,ι c.size,ι c.degree,ι c.half,ι c.mark,ι c.bV,ι c.bW,ι c.cI,ι c.cJ,ι c.cS,ι c.cT]
def Cfg.val(c:Cfg): Value:=.agg #[ι c.kind,ι c.aL,ι c.bF,ι c.cap,ι c.k,ι c.aB,ι c.bits,ι c.rows,ι c.width,ι c.aM,ι c.size,ι c.degree,ι c.half,ι c.mark,ι c.bV,ι c.bW,ι c.cI,ι c.cJ,ι c.cS,ι c.cT]
theorem G0(n:Nat)(c:n<=61): (1:Int)<=2 ^ n/\(2:Int) ^ n<=2305843009213693952:=by
 have a:(2:Int) ^ n=((2 ^ n:Nat):Int):=by simp
 have d:1<=2 ^ n:=lR;have e:2 ^ n<=2 ^ 61:=jr (by omega) c;rw[a];omega
theorem Uu(n:Int)(w:World)(h:0<=n)(e:n<=4611686018427387904):
  Calls prog 201 #[ι n] w λc d=>c=.returned (Fv (if 61<n then none else some (2 ^ n.toNat)))/\d=w:=by
 by_cases a:61<n
 ·rw[ij a];go_enter func201,ntmps201;go_wp2;go_ret2;exact⟨rfl,rfl⟩
 rw[ig a];go_enter func201,ntmps201;go_wp2;go_ret2;refine⟨?_,rfl⟩;have i:=G0 n.toNat (by omega);show Ending.returned (.tuple #[ι (wrap64 (2 ^ n.toNat)),.bool true])=_;rw[show wrap64 (2 ^ n.toNat)=2 ^ n.toNat by unfold wrap64;omega];rfl
theorem YK(b a:Int)(w:World)(e:1<=b)(h:b<=4611686018427387905)(c:0<=a)(k:a<=3):
  Calls prog 200 #[ι b,ι a] w λd j=>d=.returned (Fv (Bo b a.toNat 1))/\j=w:=by
 obtain⟨i,rfl⟩:=jl c;rw[iM];exact XA b i w e h (by omega)
def Am(c:Cfg)(t:Int): Option Int :=
 if t<c.mark then none
 else if c.half=0 then Bo (t-c.mark+1) c.degree.toNat 1
 else if 61<(t-c.mark)/c.half then none else some (2 ^ ((t-c.mark)/c.half).toNat)
structure Cfg.bI (c:Cfg):Prop where
 d0:0<=c.degree
 d1:c.degree<=3
 h0:0<=c.half
 h1:c.half<=100
 m0:0<=c.mark
 m1:c.mark<=4611686018427387904
theorem Nk(c:Cfg)(t:Int)(w:World)(l:c.bI)(x:-100<=t)(z:t<=4611686018427387904):
  Calls prog 152 #[c.val,ι t] w λe i=>e=.returned (Fv (Am c t))/\i=w.alloc (.cells c.cells.toArray 46):=by
 obtain⟨j,k,q,r,u,v⟩:=l;unfold Cfg.val Cfg.cells;by_cases h:t<c.mark
 ·have d:=Aa (show Am c t=none by unfold Am;rw[ij h]);go_enter func152,ntmps152;go_wp2;go_ret2;exact⟨by rw[d.o];rfl,rfl⟩
 by_cases a:c.half=0
 ·have d:=Aa (show Am c t=Bo (t-c.mark+1) c.degree.toNat 1 by unfold Am;rw[ig h,ij a]);have m:(c.half==0)=true:=by simp[a]
  clear a;go_enter func152,ntmps152;go_wp2_with fail
  refine(YK (t-c.mark+1) c.degree _ (by omega) (by omega) j k).mono ?_;rintro e i ⟨rfl,rfl⟩;unfold Fv;go_wp2;go_ret2;exact⟨by rw[d.o];rfl,rfl⟩
 have d:=Aa (show Am c t=if 61<(t-c.mark)/c.half then none else some (2 ^ ((t-c.mark)/c.half).toNat) by unfold Am;rw[ig h,ig a]);have m:(c.half==0)=false:=by simp[a]
 have s:1<=c.half:=by omega
 have n:0<=(t-c.mark)/c.half:=jO (by omega) (by omega);have o:(t-c.mark)/c.half<=4611686018427387904:=by
  have:=jS c.half (show 0<=t-c.mark by omega);omega
 clear a;go_enter func152,ntmps152;go_wp2_with fail
 refine(Uu ((t-c.mark)/c.half) _ n o).mono ?_;rintro e i ⟨rfl,rfl⟩;rw[<-d.o];unfold Fv;go_wp2;go_ret2;exact⟨rfl,rfl⟩
theorem aD.newAt{w:World}{b:Nat}(a:w.heap.size=b)(cs:List Value)(T:TypeId): aD (w.alloc (.cells cs.toArray T)) b cs T:=by subst a;exact aD.new w cs T
def EW(ty:TypeId)(v:Value): Sem Next:=do pure (.value (<-Instr.loadAt ty v))
theorem AH(ρ:Operand->Value)(dst:Option Tmp)(x:Operand)(a:TypeId)(pos:String)(after:Array Edge)(guard:Option (Nat×Bool)):
  execOp ρ { dst,op:=.load 46 x,type:=a,pos,after,guard }=EW 46 (ρ x):=rfl
theorem Bs(ρ:Operand->Value)(dst:Option Tmp)(x:Operand)(a:TypeId)(pos:String)(after:Array Edge)(guard:Option (Nat×Bool)):
  execOp ρ { dst,op:=.load 48 x,type:=a,pos,after,guard }=EW 48 (ρ x):=rfl
def C1(w:World)(b o n:Nat): List Value:=(List.range n).map λj=>(w.cell? ⟨b,o+j,none⟩).getD undef
def Ap(w:World)(b o n:Nat): Value:=.agg (C1 w b o n).toArray
def Az(w:World)(b o n:Nat): Bool:=(List.range n).all λj=>(w.cell? ⟨b,o+j,none⟩).isSome
theorem JY{w:World}{b o n:Nat}(d:Az w b o n=true): w.rangeAt b o (C1 w b o n):=by
 intro c k a;have e:c<n:=by have:=(iq.1 a).1;simpa[C1] using this
 have i:(w.cell? ⟨b,o+c,none⟩).isSome=true:=by simp only[Az,kt]at d;exact d c (by simpa using e)
 obtain⟨j,h⟩:=kX.1 i;simp[C1,e,h]at a;rw[h,a]
theorem Lc: (prog.info? 46).map (·.size)=some 20:=by kernel_rfl
theorem R7: (prog.info? 48).map (·.size)=some 26:=by kernel_rfl
theorem AI(w:World)(b o:Nat)(a:Az w b o 20=true): (EW 46 (.pointer (some ⟨b,o,none⟩))).run prog w=.ok (.value (Ap w b o 20)) w:=by
 unfold EW;rw[jq,run_loadAt_mid w b o 46 (C1 w b o 20) _ (JY a) underlying46 rfl (by rw[Lc];simp[C1])];rfl
theorem Bt(w:World)(b o:Nat)(a:Az w b o 26=true): (EW 48 (.pointer (some ⟨b,o,none⟩))).run prog w=.ok (.value (Ap w b o 26)) w:=by
 unfold EW;rw[jq,run_loadAt_mid w b o 48 (C1 w b o 26) _ (JY a) underlying48 rfl (by rw[R7];simp[C1])];rfl
theorem D4{w:World}{b o:Nat}{cs:List Value}(d:w.rangeAt b o cs): C1 w b o cs.length=cs/\Az w b o cs.length=true:=by
 constructor
 ·apply ke;intro a;by_cases c:a<cs.length
  ·have:=d a cs[a] (h9 c);simp[C1,c,this]
  simp[C1,c]
 simp only[Az,kt,lA];intro a c;rw[d a cs[a] (h9 c)];rfl
theorem A3(w:World)(b o n:Nat): Ap w.drew b o n=Ap w b o n:=rfl
theorem A4(w:World)(b o n:Nat): Az w.drew b o n=Az w b o n:=rfl
theorem B9{w:World}{b o n:Nat}(a:Az w b o n=true)(O:Obj): Az (w.alloc O) b o n=true:=by
 simp only[Az,kt]at a ⊢;intro d c;obtain⟨h,e⟩:=kX.1 (a d c);rw[lM _ _ _ (kG w _ e)];exact a d c
theorem B8{w:World}{b o n:Nat}(a:Az w b o n=true)(O:Obj): Ap (w.alloc O) b o n=Ap w b o n:=by
 have c:C1 (w.alloc O) b o n=C1 w b o n:=by
  unfold C1;apply jT;intro h d;simp only[Az,kt]at a;obtain⟨i,e⟩:=kX.1 (a h d);rw[lM _ _ _ (kG w _ e)]
 unfold Ap;rw[c]
theorem PW(w:World)(l:List Value)(T:TypeId): (w.alloc (.cells l.toArray T)).rangeAt w.heap.size 0 l:=by
 intro c d a;rw[ja,kQ];simpa using a
theorem LP(w:World)(l:List Value)(T:TypeId)(n:Nat)(a:l.length=n): Az (w.alloc (.cells l.toArray T)) w.heap.size 0 n=true:=by
 subst a;exact(D4 (PW w l T)).2
theorem Bd(w:World)(l:List Value)(T:TypeId)(n:Nat)(a:l.length=n): Ap (w.alloc (.cells l.toArray T)) w.heap.size 0 n=.agg l.toArray:=by
 subst a;unfold Ap;rw[(D4 (PW w l T)).1]
theorem B2(w:World)(l:List Value)(T:TypeId)(n:Nat): Az (w.alloc (.cells l.toArray T)) w.heap.size 0 n=decide (n<=l.length):=by
 rw[lH];simp only[Az,kt,lA,iP,ja,kQ];constructor
 ·intro c;rcases kC l.length n with a | a
  ·have:=c l.length a;simp at this
  exact a
 intro c e h;have d:e<l.length:=by omega
 simp[d]
theorem AL{w:World}{b o n:Nat}(a:b≠w.heap.size)(O:Obj): Az (w.alloc O) b o n=Az w b o n:=by
 unfold Az;congr 1;funext j;rw[World.cell?_alloc_old _ _ _ a]
theorem AJ{w:World}{b o n:Nat}(a:b≠w.heap.size)(O:Obj): Ap (w.alloc O) b o n=Ap w b o n:=by
 unfold Ap C1;congr 2;apply jT;intro c _;rw[World.cell?_alloc_old _ _ _ a]
theorem CM{w:World}{b:Nat}{l:List Value}{T:TypeId}(c:aD w b l T)(n:Nat)(d:l.length=n): Ap w b 0 n=.agg l.toArray/\Az w b 0 n=true:=by
 have a:=D4 (w:=w) (b:=b) (o:=0) (cs:=l) (λh i e=>by rw[ja];exact c.cell e);subst d;exact⟨by unfold Ap;rw[a.1],a.2⟩
theorem El{w:World}{b:Nat}{l:List Value}{T:TypeId}(d:aD w b l T)(o n:Nat)(cs:List Value)(e:(l.drop o).take n=cs)(h:cs.length=n): Ap w b o n=.agg cs.toArray/\Az w b o n=true:=by
 have c:=D4 (w:=w) (b:=b) (o:=o) (cs:=cs) (λi j a=>by
    rw[<-e,iW]at a;split at a
    ·exact d.cell (by simpa using a)
    cases a)
 subst h;exact⟨by unfold Ap;rw[c.1],c.2⟩
theorem OI(w:World)(l:List Value)(T:TypeId)(o n:Nat): (w.alloc (.cells l.toArray T)).rangeAt w.heap.size o ((l.drop o).take n):=by
 intro c d a;rw[kQ];rw[iW]at a;split at a
 ·simpa using a
 cases a
theorem UM(w:World)(l:List Value)(T:TypeId)(o n:Nat)(a:o+n<=l.length): Az (w.alloc (.cells l.toArray T)) w.heap.size o n=true:=by
 have:=(D4 (OI w l T o n)).2;rwa [show((l.drop o).take n).length=n by simp;omega]at this
theorem Up(w:World)(l:List Value)(T:TypeId)(o n:Nat)(a:o+n<=l.length): Ap (w.alloc (.cells l.toArray T)) w.heap.size o n=.agg ((l.drop o).take n).toArray:=by
 have:=(D4 (OI w l T o n)).1;rw[show((l.drop o).take n).length=n by simp;omega]at this;unfold Ap;rw[this]
end
section
attribute [local go_sem ↓] AH Bs
attribute [local go_sem] AI Bt A3 A4 AJ AL Bd B2
def B5(c:Cfg): Bool:=Ab c.aL 0 100&&(Ab c.bF 0 100&&Ab c.cap 1 8)
def Cg(c:Cfg): Bool:=Ab c.aB 1 1000
def countB(c:Cfg): Bool:=Ab c.k 1 10&&Cg c
def FW(a b:Int): Bool:=Ab a 1 2305843009213693950&&Ab b 0 2305843009213693950
def Cfg.seed(c:Cfg): Nat->Bool
 | 0=>FW c.bV c.bW
 | 1=>FW c.cI c.cJ
 | _=>FW c.cS c.cT
def Fq(c:Cfg): Nat->Nat->Bool
 | 0,_=>true
 | f+1,i=>c.seed i&&Fq c f (i+1)
def Fb(c:Cfg)(n:Nat): Bool:=Fq c n 0
def GL(c:Cfg): Bool:=Ab c.bits 1 4&&(Cg c&&Fb c 1)
def EY(c:Cfg): Bool:=Ab c.rows 1 3&&(Ab c.width 1 16&&(Ab c.aM 1 8&&(Cg c&&((c.aB%c.aM==0)&&Fb c c.rows.toNat))))
def CV(c:Cfg): Bool:=Ab c.degree 0 3&&(Ab c.half 0 100&&Ab c.mark 0 4611686018427387904)
def Fz(c:Cfg): Bool:=Ab c.size 1 5&&CV c
theorem VB(c:Cfg)(w:World): Calls prog 64 #[c.val] w λa d=>a=.returned (.bool (B5 c))/\lX w d:=by
 have e:=Aa (show B5 c=(Ab c.aL 0 100&&(Ab c.bF 0 100&&Ab c.cap 1 8)) from rfl);unfold Cfg.val;cases h1:Ab c.aL 0 100
 ·go_enter func64,ntmps64;go_wp2_with (go_at_call 34;refine(AN _ _ _ _).mono ?_;rintro a d ⟨rfl,rfl⟩)
  go_ret;exact⟨B4 (by rw[e.o,h1];rfl),(aA.refl _ _).alloc _⟩
 cases h2:Ab c.bF 0 100
 ·go_enter func64,ntmps64;go_wp2_with (go_at_call 34;refine(AN _ _ _ _).mono ?_;rintro a d ⟨rfl,rfl⟩)
  go_ret;exact⟨B4 (by rw[e.o,h1,h2];rfl),(aA.refl _ _).alloc _⟩
 go_enter func64,ntmps64;go_wp2_with (go_at_call 34;refine(AN _ _ _ _).mono ?_;rintro a d ⟨rfl,rfl⟩)
 go_ret;exact⟨B4 (by rw[e.o,h1,h2];rfl),(aA.refl _ _).alloc _⟩
theorem Jp(c:Cfg)(w:World): Calls prog 132 #[c.val] w λa d=>a=.returned (.bool (Cg c))/\lX w d:=by
 have e:=Aa (show Cg c=Ab c.aB 1 1000 from rfl);unfold Cfg.val;go_enter func132,ntmps132;go_wp2_with (go_at_call 34;refine(AN _ _ _ _).mono ?_;rintro a d ⟨rfl,rfl⟩)
 go_ret;exact⟨B4 e.o.symm,(aA.refl _ _).alloc _⟩
theorem NG(c:Cfg)(w:World): Calls prog 107 #[c.val] w λa d=>a=.returned (.bool (CV c))/\lX w d:=by
 have e:=Aa (show CV c=(Ab c.degree 0 3&&(Ab c.half 0 100&&Ab c.mark 0 4611686018427387904)) from rfl);unfold Cfg.val;cases h1:Ab c.degree 0 3
 ·go_enter func107,ntmps107;go_wp2_with (go_at_call 34;refine(AN _ _ _ _).mono ?_;rintro a d ⟨rfl,rfl⟩)
  go_ret;exact⟨B4 (by rw[e.o,h1];rfl),(aA.refl _ _).alloc _⟩
 cases h2:Ab c.half 0 100;all_goals
  go_enter func107,ntmps107;go_wp2_with (first | (go_at_call 34;refine(AN _ _ _ _).mono ?_;rintro a d ⟨rfl,rfl⟩) | (go_at_call 41;refine(Gv _ _).mono ?_;rintro a d ⟨rfl,rfl⟩))
  go_ret;exact⟨B4 (by rw[e.o,h1,h2];rfl),(aA.refl _ _).alloc _⟩
theorem SP(c:Cfg)(w:World): Calls prog 91 #[c.val] w λa d=>a=.returned (.bool (countB c))/\lX w d:=by
 have e:=Aa (show countB c=(Ab c.k 1 10&&Cg c) from rfl);unfold Cfg.val;cases h1:Ab c.k 1 10
 ·go_enter func91,ntmps91;go_wp2_with (go_at_call 34;refine(AN _ _ _ _).mono ?_;rintro a d ⟨rfl,rfl⟩)
  go_ret;exact⟨B4 (by rw[e.o,h1];rfl),(aA.refl _ _).alloc _⟩
 go_enter func91,ntmps91;go_wp2_with (first | (go_at_call 34;refine(AN _ _ _ _).mono ?_;rintro a d ⟨rfl,rfl⟩) | (go_at_call 132;refine(Jp c _).mono ?_;rintro a d ⟨rfl,h⟩))
 go_ret;exact⟨B4 (by rw[e.o,h1];rfl),((aA.refl _ _).alloc _).then h⟩
theorem SS(c:Cfg)(w:World): Calls prog 111 #[c.val] w λa d=>a=.returned (.bool (Fz c))/\lX w d:=by
 have e:=Aa (show Fz c=(Ab c.size 1 5&&CV c) from rfl);unfold Cfg.val;cases h1:Ab c.size 1 5
 ·go_enter func111,ntmps111;go_wp2_with (go_at_call 34;refine(AN _ _ _ _).mono ?_;rintro a d ⟨rfl,rfl⟩)
  go_ret;exact⟨B4 (by rw[e.o,h1];rfl),(aA.refl _ _).alloc _⟩
 go_enter func111,ntmps111;go_wp2_with (first | (go_at_call 34;refine(AN _ _ _ _).mono ?_;rintro a d ⟨rfl,rfl⟩) | (go_at_call 107;refine(NG c _).mono ?_;rintro a d ⟨rfl,h⟩))
 go_ret;exact⟨B4 (by rw[e.o,h1];rfl),((aA.refl _ _).alloc _).then h⟩
def Cfg.gC(c:Cfg): Value:=.agg #[ι c.bV,ι c.bW,ι c.cI,ι c.cJ,ι c.cS,ι c.cT]
theorem NY(c:Cfg)(n:Int)(w:World)(m:0<=n)(o:n<=3): Calls prog 139 #[c.gC,ι n] w λh i=>h=.returned (.bool (Fb c n.toNat))/\lX w i:=by
 obtain⟨e,rfl⟩:=jl m;rw[iM];unfold Cfg.gC;go_enter func139,ntmps139;go_wp2;go_loop [7] (λl=>∃a:Nat,a<=e/\l=ι a/\Hid (Fb c e=Fq c (e-a) a)) (λl=>e-(intOf l).toNat)
 case atStart=>exact⟨0,iT _,rfl,rfl⟩
 case round =>
  obtain⟨a,q,rfl,k⟩:=hrel;by_cases r:a<e
  ·have d:=Aa (show Fb c e=(c.seed a&&Fq c (e-(a+1)) (a+1)) by rw[k.o,show e-a=(e-(a+1))+1 by omega];rfl);clear k;have j:a=0\/a=1\/a=2:=by omega
   have s:(a:Int)<(e:Int):=by omega
   rcases j with j | j | j;all_goals
    subst j;simp only[Cfg.seed,FW]at d
   ·cases h1:Ab c.bV 1 2305843009213693950
    ·go_wp2_with (go_at_call 34;refine(AN _ _ _ _).mono ?_;rintro h i ⟨rfl,rfl⟩)
     go_ret;exact⟨B4 (by rw[d.o,h1];rfl),(aA.refl _ _).alloc _⟩
    cases h2:Ab c.bW 0 2305843009213693950
    ·go_wp2_with (go_at_call 34;refine(AN _ _ _ _).mono ?_;rintro h i ⟨rfl,rfl⟩)
     go_ret;exact⟨B4 (by rw[d.o,h1,h2];rfl),(aA.refl _ _).alloc _⟩
    go_wp2_with (go_at_call 34;refine(AN _ _ _ _).mono ?_;rintro h i ⟨rfl,rfl⟩)
    go_round;case rel=>exact⟨1,by omega,rfl,by rw[h1,h2]at d;exact d⟩
    case measure=>simp[intOf];omega
   ·cases h1:Ab c.cI 1 2305843009213693950
    ·go_wp2_with (go_at_call 34;refine(AN _ _ _ _).mono ?_;rintro h i ⟨rfl,rfl⟩)
     go_ret;exact⟨B4 (by rw[d.o,h1];rfl),(aA.refl _ _).alloc _⟩
    cases h2:Ab c.cJ 0 2305843009213693950
    ·go_wp2_with (go_at_call 34;refine(AN _ _ _ _).mono ?_;rintro h i ⟨rfl,rfl⟩)
     go_ret;exact⟨B4 (by rw[d.o,h1,h2];rfl),(aA.refl _ _).alloc _⟩
    go_wp2_with (go_at_call 34;refine(AN _ _ _ _).mono ?_;rintro h i ⟨rfl,rfl⟩)
    go_round;case rel=>exact⟨2,by omega,rfl,by rw[h1,h2]at d;exact d⟩
    case measure=>simp[intOf];omega
   cases h1:Ab c.cS 1 2305843009213693950
   ·go_wp2_with (go_at_call 34;refine(AN _ _ _ _).mono ?_;rintro h i ⟨rfl,rfl⟩)
    go_ret;exact⟨B4 (by rw[d.o,h1];rfl),(aA.refl _ _).alloc _⟩
   cases h2:Ab c.cT 0 2305843009213693950
   ·go_wp2_with (go_at_call 34;refine(AN _ _ _ _).mono ?_;rintro h i ⟨rfl,rfl⟩)
    go_ret;exact⟨B4 (by rw[d.o,h1,h2];rfl),(aA.refl _ _).alloc _⟩
   go_wp2_with (go_at_call 34;refine(AN _ _ _ _).mono ?_;rintro h i ⟨rfl,rfl⟩)
   go_round;case rel=>exact⟨3,by omega,rfl,by rw[h1,h2]at d;exact d⟩
   case measure=>simp[intOf];omega
  go_wp2;go_ret;exact⟨B4 (by rw[k.o,show e-a=0 by omega];rfl),(aA.refl _ _).alloc _⟩
theorem Bu{n lo hi:Int}(a:Ab n lo hi=true): lo<=n/\n<=hi:=by simpa[Ab] using a
theorem RY(c:Cfg)(w:World): Calls prog 97 #[c.val] w λa i=>a=.returned (.bool (GL c))/\lX w i:=by
 have j:=Aa (show GL c=(Ab c.bits 1 4&&(Cg c&&Fb c 1)) from rfl);unfold Cfg.val;cases h1:Ab c.bits 1 4
 ·go_enter func97,ntmps97;go_wp2_with (go_at_call 34;refine(AN _ _ _ _).mono ?_;rintro a i ⟨rfl,rfl⟩)
  go_ret;exact⟨B4 (by rw[j.o,h1];rfl),(aA.refl _ _).alloc _⟩
 cases h2:Cg c
 ·go_enter func97,ntmps97;go_wp2_with (first | (go_at_call 34;refine(AN _ _ _ _).mono ?_;rintro a i ⟨rfl,rfl⟩) | (go_at_call 132;refine(Jp c _).mono ?_;rintro a i ⟨rfl,h⟩))
  go_ret;exact⟨B4 (by rw[j.o,h1,h2];rfl),((aA.refl _ _).alloc _).then h⟩
 go_enter func97,ntmps97;go_wp2_with fail
 refine(AN _ _ _ _).mono ?_;rintro a i ⟨rfl,rfl⟩;go_wp2_with fail
 refine(Jp c _).mono ?_;rintro a e ⟨rfl,h⟩;have d:aD e w.heap.size c.cells 46:=(aD.new w c.cells 46).keeps h id;have k:=Aa (((aA.refl _ _).alloc _).then h);have n:κ e w.heap.size 14 (ι c.bV):=d.cell rfl;have o:κ e w.heap.size 15 (ι c.bW):=d.cell rfl;have q:κ e w.heap.size 16 (ι c.cI):=d.cell rfl;have r:κ e w.heap.size 17 (ι c.cJ):=d.cell rfl;have s:κ e w.heap.size 18 (ι c.cS):=d.cell rfl;have t:κ e w.heap.size 19 (ι c.cT):=d.cell rfl;clear h d;go_wp2_with fail
 refine(NY c 1 _ (by omega) (by omega)).mono ?_;rintro a u ⟨rfl,m⟩;go_wp2;go_ret;exact⟨B4 (by rw[j.o,h1,h2];rfl),k.o.then m⟩
theorem Tp(c:Cfg)(w:World): Calls prog 103 #[c.val] w λd e=>d=.returned (.bool (EY c))/\lX w e:=by
 have i:=Aa (show EY c=(Ab c.rows 1 3&&(Ab c.width 1 16&&(Ab c.aM 1 8&&(Cg c&&((c.aB%c.aM==0)&&Fb c c.rows.toNat))))) from rfl);unfold Cfg.val;cases h1:Ab c.rows 1 3
 ·go_enter func103,ntmps103;go_wp2_with (go_at_call 34;refine(AN _ _ _ _).mono ?_;rintro d e ⟨rfl,rfl⟩)
  go_ret;exact⟨B4 (by rw[i.o,h1];rfl),(aA.refl _ _).alloc _⟩
 cases h2:Ab c.width 1 16
 ·go_enter func103,ntmps103;go_wp2_with (go_at_call 34;refine(AN _ _ _ _).mono ?_;rintro d e ⟨rfl,rfl⟩)
  go_ret;exact⟨B4 (by rw[i.o,h1,h2];rfl),(aA.refl _ _).alloc _⟩
 cases h3:Ab c.aM 1 8
 ·go_enter func103,ntmps103;go_wp2_with (go_at_call 34;refine(AN _ _ _ _).mono ?_;rintro d e ⟨rfl,rfl⟩)
  go_ret;exact⟨B4 (by rw[i.o,h1,h2,h3];rfl),(aA.refl _ _).alloc _⟩
 cases h4:Cg c
 ·go_enter func103,ntmps103;go_wp2_with (first | (go_at_call 34;refine(AN _ _ _ _).mono ?_;rintro d e ⟨rfl,rfl⟩) | (go_at_call 132;refine(Jp c _).mono ?_;rintro d e ⟨rfl,j⟩))
  go_ret;exact⟨B4 (by rw[i.o,h1,h2,h3,h4];rfl),((aA.refl _ _).alloc _).then j⟩
 obtain⟨u,v⟩:=Bu h3;obtain⟨x,z⟩:=Bu h4;obtain⟨A,B⟩:=Bu h1;cases h5:(c.aB%c.aM==0);all_goals
  go_enter func103,ntmps103;go_wp2_with (first | (go_at_call 34;refine(AN _ _ _ _).mono ?_;rintro d e ⟨rfl,rfl⟩))
  refine(Jp c _).mono ?_;rintro d h ⟨rfl,j⟩;have a:aD h w.heap.size c.cells 46:=(aD.new w c.cells 46).keeps j id;have k:=Aa (((aA.refl _ _).alloc _).then j);have c5:=a.c5;have c7:=a.c7;have c9:=a.c9;have n:κ h w.heap.size 14 (ι c.bV):=a.cell rfl;have o:κ h w.heap.size 15 (ι c.bW):=a.cell rfl;have q:κ h w.heap.size 16 (ι c.cI):=a.cell rfl;have r:κ h w.heap.size 17 (ι c.cJ):=a.cell rfl;have s:κ h w.heap.size 18 (ι c.cS):=a.cell rfl;have t:κ h w.heap.size 19 (ι c.cT):=a.cell rfl;clear j a;go_wp2_with fail
 ·go_ret;exact⟨B4 (by rw[i.o,h1,h2,h3,h4,h5];rfl),k.o⟩
 refine(NY c c.rows _ (by omega) (by omega)).mono ?_;rintro d C ⟨rfl,m⟩;go_wp2;go_ret;exact⟨B4 (by rw[i.o,h1,h2,h3,h4,h5];rfl),k.o.then m⟩
theorem MX(n:Int)(w:World):
  Calls prog 140 #[ι n] w λa c=>a=.returned (.bool (Ab n 0 2147483648))/\c=w:=by
 go_enter func140,ntmps140;go_wp2_with (go_at_call 34;refine(AN _ _ _ _).mono ?_;rintro a c ⟨rfl,rfl⟩)
 go_ret;exact⟨rfl,rfl⟩
theorem Zg(n:Int)(w:World):
  Calls prog 157 #[ι n] w λa c=>a=.returned (.bool (Ab n 1 2147483648))/\c=w:=by
 go_enter func157,ntmps157;go_wp2_with (go_at_call 34;refine(AN _ _ _ _).mono ?_;rintro a c ⟨rfl,rfl⟩)
 go_ret;exact⟨rfl,rfl⟩
def Dx(x:It): Int:=if Ab x.k 0 2147483648 then 0 else 10
def E1(c:Cfg)(x:It): Int:=if (Am c x.t).isSome then 0 else 8
def EF(c:Cfg)(x:It): Int:=if (Am c x.t).isSome then(if Ab x.k 0 2147483648 then(if Ab x.d 1 2147483648 then 0 else 9) else 10) else 8
theorem RS(c:Cfg)(x:It)(w:World):
  Calls prog 94 #[c.val,x.val] w λa d=>a=.returned (ι 0)/\lX w d:=by
 unfold Cfg.val It.val;go_enter func94,ntmps94;go_wp2;go_ret;exact⟨rfl,by repeat (first | exact aA.refl _ _ | apply aA.alloc)⟩
theorem Ly(c:Cfg)(x:It)(w:World):
  Calls prog 100 #[c.val,x.val] w λa d=>a=.returned (ι (Dx x))/\lX w d:=by
 unfold Cfg.val It.val;have e:=Aa (show Dx x=if Ab x.k 0 2147483648 then 0 else 10 from rfl);cases h:Ab x.k 0 2147483648;all_goals
  go_enter func100,ntmps100;go_wp2_with (go_at_call 140;refine(MX _ _).mono ?_;rintro a d ⟨rfl,rfl⟩)
  go_ret;exact⟨A9 (by rw[e.o,h];rfl),by repeat (first | exact aA.refl _ _ | apply aA.alloc)⟩
theorem Lt(c:Cfg)(x:It)(w:World)(d:c.bI)(l:0<=x.t)(k:x.t<=4611686018427387904):
  Calls prog 109 #[c.val,x.val] w λa e=>a=.returned (ι (E1 c x))/\lX w e:=by
 unfold Cfg.val It.val;have j:=Aa (show E1 c x=if (Am c x.t).isSome then 0 else 8 from rfl);have i:=Aa d;cases h:(Am c x.t).isSome;all_goals
  clear d;go_enter func109,ntmps109;go_wp2_with fail
  refine(Nk c x.t _ i.o (by omega) k).mono ?_;rintro a e ⟨rfl,rfl⟩;unfold Fv;rw[h];go_wp2;go_ret;exact⟨A9 (by rw[j.o,h];rfl),by repeat (first | exact aA.refl _ _ | apply aA.alloc)⟩
theorem Sc(c:Cfg)(x:It)(w:World)(j:c.bI)(t:0<=x.t)(u:x.t<=4611686018427387904):
  Calls prog 113 #[c.val,x.val] w λh v=>h=.returned (ι (EF c x))/\lX w v:=by
 have i:=Aa (show EF c x=if (Am c x.t).isSome then(if Ab x.k 0 2147483648 then(if Ab x.d 1 2147483648 then 0 else 9) else 10) else 8 from rfl);have n:=Aa j;have z:=Aa ((aD.new w c.cells 46).alloc (.cells x.cells 80))
 have B:=Aa (show aD ((w.alloc (.cells c.cells.toArray 46)).alloc (.cells x.cells 80)) (w.heap.size+1) [ι x.t,ι x.k,ι x.d,ι x.n] 80 by
    have:=aD.new (w.alloc (.cells c.cells.toArray 46)) [ι x.t,ι x.k,ι x.d,ι x.n] 80
    rwa [jR]at this)
 have o:=Aa (((aA.refl (λ_=>False) w).alloc (.cells c.cells.toArray 46)).alloc (.cells x.cells 80));unfold Cfg.val It.val;cases a:(Am c x.t).isSome
 ·have l:E1 c x=8:=by unfold E1;rw[a];rfl
  clear j;go_enter func113,ntmps113;go_wp2_with fail
  refine(Lt c x _ n.o t u).mono ?_;rintro h D ⟨rfl,d⟩;rw[l];go_wp2;go_ret;exact⟨A9 (by rw[i.o,a];rfl),o.o.then d⟩
 have l:E1 c x=0:=by unfold E1;rw[a];rfl
 clear j;go_enter func113,ntmps113;go_wp2_with fail
 refine(Lt c x _ n.o t u).mono ?_;rintro h D ⟨rfl,d⟩;rw[l];have r:=z.o.keeps d id;have e:=B.o.keeps d id;obtain⟨L,J⟩:=CM r 20 rfl;have E:=e.c0;have F:=e.c1;have G:=e.c2;have H:=e.c3;have A:=Aa (o.o.then d);have C:=Aa e;clear d r e;go_wp2_with fail
 refine(Ly c x _).mono ?_;rintro h M ⟨rfl,k⟩;have s:=C.o.keeps k id;have I:=s.c2;have q:=Aa (A.o.then k);clear k s;cases h2:Ab x.k 0 2147483648
 ·have m:Dx x=10:=by unfold Dx;rw[h2];rfl
  rw[m];go_wp2;go_ret;exact⟨A9 (by rw[i.o,a,h2];rfl),q.o⟩
 have m:Dx x=0:=by unfold Dx;rw[h2];rfl
 rw[m];cases h3:Ab x.d 1 2147483648;all_goals
  go_wp2_with (go_at_call 157;refine(Zg _ _).mono ?_;rintro h v ⟨rfl,rfl⟩)
  go_ret;exact⟨A9 (by rw[i.o,a,h2,h3];rfl),q.o⟩
theorem GY{n:Int}(a:-9223372036854775808<=n)(c:n<=9223372036854775807): IntKind.i64.wrap n=n:=by rw[il];omega
theorem WR(c:Cfg)(t:Int)(w:World)(e:c.bI)(i:-100<=t)(j:t<=4611686018427387904):
  Calls prog 202 #[c.val,ι t] w λa d=>a=.returned (ι (As (Am c t)))/\d=(w.alloc (.cells c.cells.toArray 46)).alloc (.cells c.cells.toArray 46):=by
 cases h:Am c t with
 | none =>
  unfold Cfg.val;go_enter func202,ntmps202;go_wp2_with fail
  refine(Nk c t _ e i j).mono ?_;rintro a d ⟨rfl,rfl⟩;rw[h];unfold Fv;go_wp2;go_ret;exact⟨rfl,rfl⟩
 | some k =>
  unfold Cfg.val;go_enter func202,ntmps202;go_wp2_with fail
  refine(Nk c t _ e i j).mono ?_;rintro a d ⟨rfl,rfl⟩;rw[h];unfold Fv;go_wp2;go_ret;exact⟨rfl,rfl⟩
theorem RV(a b:Int)(w:World):
  Calls prog 144 #[ι a,ι b] w λc d=>c=.returned (.tuple #[ι 0,ι 0])/\d=w:=by
 go_enter func144,ntmps144;go_wp2;go_ret2;exact⟨rfl,rfl⟩
def ED(c:Cfg)(q r:Int): List Value:=c.cells++[ι q,ι r]
theorem Sq(c:Cfg)(w:World):
  Calls prog 110 #[c.val] w λe d=>∃a,e=.returned (.agg #[.func (.func 153) #[π a] #[],.func (.func 154) #[π a] #[],.func (.func 144) #[] #[],.func (.func 155) #[π a] #[],.func (.func 156) #[π a] #[]])/\w.heap.size<=a/\aD d a (ED c 0 0) 194/\lX w d:=by
 unfold Cfg.val;go_enter func110,ntmps110;go_wp2;refine iV (v:=.agg #[.func (.func 153) #[π (w.heap.size+1+1)] #[],.func (.func 154) #[π (w.heap.size+1+1)] #[],.func (.func 144) #[] #[],.func (.func 155) #[π (w.heap.size+1+1)] #[],.func (.func 156) #[π (w.heap.size+1+1)] #[]]) (by simp[results,results110,go_sem]) rfl ⟨w.heap.size+1+1,rfl,by omega,?_,?_⟩
 ·exact aD.newAt (by simp) (ED c 0 0) 194
 repeat (first | exact aA.refl _ _ | apply aA.alloc)
theorem F6{w w':World}{b o n:Nat}(h:lX w w')(i:b<w.heap.size): Ap w' b o n=Ap w b o n/\Az w' b o n=Az w b o n:=by
 have d:∀c,w'.cell? ⟨b,o+c,none⟩=w.cell? ⟨b,o+c,none⟩:=λc=>jB (a:=⟨b,o+c,none⟩) (h.block b i id);constructor
 ·unfold Ap C1;simp only[d]
 unfold Az;simp only[d]
theorem L5(c:Cfg)(t:Int)(w:World)(d:c.bI)(h:-100<=t)(i:t<=4611686018427387904):
  Calls prog 202 #[c.val,ι t] w λa j=>a=.returned (ι (As (Am c t)))/\lX w j :=
 (WR c t w d h i).mono λ_ _ ⟨e,hw⟩=>⟨e,by rw[hw];exact((aA.refl _ _).alloc _).alloc _⟩
theorem Sr(a:Nat)(c:Cfg)(j d:Int)(x:It)(m:Int)(w:World)(v:aD w a (ED c j d) 194)(z:c.bI)(Z:0<=x.t)(G:x.t<=4611686018427387904)(X:0<=d)(Y:d<2305843009213693952)(V:0<=j)(W:j<=4611686018427387904)(R:0<=As (Am c x.t))(S:As (Am c x.t)<=2305843009213693952):
  Calls prog 153 #[π a,x.val,ι m] w λu i=>u=.returned (.tuple #[]) /\
   aD i a (ED c (j+(d+As (Am c x.t))/2305843009213693952) ((d+As (Am c x.t))%2305843009213693952)) 194/\aA (λs=>s=a) w i:=by
 obtain⟨h,o⟩:∃h,h=w.alloc (.cells x.cells 80):=⟨_,rfl⟩;have k:aD h a (ED c j d) 194:=by rw[o];exact v.alloc _
 have B:aD h w.heap.size [ι x.t,ι x.k,ι x.d,ι x.n] 80:=by rw[o];exact aD.new w _ _
 have D:=Aa (show aA (λs=>s=a) w h by rw[o];exact(aA.refl _ _).alloc _);have F:=Aa o;clear o v;have H:κ h a 20 (ι j):=k.cell rfl;have I:κ h a 21 (ι d):=k.cell rfl;have U:=B.c0;obtain⟨Q,L⟩:=El k 0 20 c.cells rfl rfl;have q:=k.lt;have t:=Aa k;have C:=Aa z;clear k B z;generalize A:As (Am c x.t)=n at *
 have E:=Aa A;clear A;have O:0<=d+n:=by omega
 have P:d+n<4611686018427387904:=by omega
 have M:0<=(d+n)/2305843009213693952:=by omega
 have N:(d+n)/2305843009213693952<=1:=by omega
 have T:IntKind.i64.wrap (d+n)=d+n:=GY (by omega) (by omega);unfold It.val;go_enter func153,ntmps153;go_wp2_with fail
 rw[show w.alloc (.cells #[ι x.t,ι x.k,ι x.d,ι x.n] 80)=h from F.o.symm];go_region_held3 (λi=>i.cell? ⟨a,20,none⟩=some (ι j)/\i.cell? ⟨a,21,none⟩=some (ι d)/\i.cell? ⟨w.heap.size,0,none⟩=some (ι x.t)/\Ap i a 0 20=.agg c.cells.toArray/\Az i a 0 20=true)
  (first | (go_split_ands;exact⟨by assumption,by assumption,by assumption,by assumption,by assumption⟩) | (go_split_ands;exact⟨l.cell (by assumption) id,l.cell (by assumption) id,l.cell (by assumption) id,(F6 l (by first | exact q | simpa using q)).1.trans (by assumption),(F6 l (by first | exact q | simpa using q)).2.trans (by assumption)⟩))
  (first | (go_at_call 202;refine(L5 c x.t _ C.o (by omega) G).mono ?_;rintro u aa ⟨rfl,l⟩;rw[E.o]))
 have r:=Aa (((aA.refl (λ_=>False) h).drew).then l);have J:=(t.o.keeps r.o id).frozen;go_wp2;go_end0;exact⟨rfl,((t.o.keeps r.o id).setCell 20 _).setCell 21 _,(((D.o.trans r.o (λ_ e=>e.elim)).setCell (p:=⟨a,20,none⟩) (Or.inl rfl) _).setCell (p:=⟨a,21,none⟩) (Or.inl rfl) _)⟩
theorem TR(d:Nat)(c:Cfg)(l m a t:Int)(w:World)(k:aD w d (ED c l m) 194)(r:c.bI)(z:-100<=t)(A:t<=4611686018427387904):
  Calls prog 154 #[π d,ι a,ι t] w λq i=>∃g,q=.returned (.tuple #[σ g 3 3,ι 0]) /\
   w.heap.size<=g/\aD i g [ι l,ι m,ι (As (Am c t))] 3/\lX w i:=by
 have C:κ w d 20 (ι l):=k.cell rfl;have D:κ w d 21 (ι m):=k.cell rfl;obtain⟨F,E⟩:=El k 0 20 c.cells rfl rfl;have j:=k.lt;have u:=Aa r;clear k r;generalize s:As (Am c t)=B at *
 have v:=Aa s;clear s;go_enter func154,ntmps154;go_wp2_with fail
 go_region_held3 (λi=>i.cell? ⟨d,20,none⟩=some (ι l)/\i.cell? ⟨d,21,none⟩=some (ι m)/\Ap i d 0 20=.agg c.cells.toArray/\Az i d 0 20=true)
  (first | (go_split_ands;exact⟨by assumption,by assumption,by assumption,by assumption⟩) | (go_split_ands;exact⟨((aA.refl (λ_=>False) _).alloc _).cell (by assumption) id,((aA.refl (λ_=>False) _).alloc _).cell (by assumption) id,(F6 ((aA.refl (λ_=>False) _).alloc _) (by first | exact j | (have:=h.size;have x:w.heap.size<=n.heap.size:=(by simpa using this);omega))).1.trans (by assumption),(F6 ((aA.refl (λ_=>False) _).alloc _) (by first | exact j | (have:=h.size;have x:w.heap.size<=n.heap.size:=(by simpa using this);omega))).2.trans (by assumption)⟩) | (go_split_ands;exact⟨h.cell (by assumption) id,h.cell (by assumption) id,(F6 h (by first | exact j | simpa using j)).1.trans (by assumption),(F6 h (by first | exact j | simpa using j)).2.trans (by assumption)⟩))
  (first | (go_at_call 202;refine(L5 c t _ u.o z A).mono ?_;rintro q n ⟨rfl,h⟩;rw[v.o]))
 have o:=Aa (((aA.refl (λ_=>False) w).drew).then h);go_wp2;go_ret2;exact⟨n.heap.size,rfl,o.o.size,aD.new n [ι l,ι m,ι B] 3,o.o.alloc _⟩
def fn(f:Nat): Value:=.func (.func f) #[] #[]
def Bi: Nat->Nat | 1=>91 | 2=>97 | 3=>103 | 4=>107 | _=>111
def AO: Nat->Nat | 1=>94 | 2=>100 | 3=>100 | 4=>109 | _=>113
def Be: Nat->Nat | 1=>96 | 2=>102 | 3=>106 | 4=>110 | _=>115
def AU: Nat->Nat | 1=>92 | 2=>98 | 3=>104 | 4=>108 | _=>112
def AV: Nat->Nat | 1=>93 | 2=>99 | 3=>105 | 4=>93 | _=>93
def AR: Nat->Nat | 1=>95 | 2=>101 | 3=>101 | 4=>95 | _=>114
def B6(k:Nat): List Value:=[fn (Bi k),fn (AU k),fn (AV k),fn (AO k),fn (AR k),fn (Be k)]
def DN: List Value:=[.nilFunc,.nilFunc,.nilFunc,.nilFunc,.nilFunc,.nilFunc]++(B6 1++(B6 2++(B6 3++(B6 4++B6 5))))
def Rt(ty:TypeId)(ps:Array (Nat×Value)): Sem Next:=do pure (.value (<-Instr.build ty ps))
theorem Tq(ρ:Operand->Value)(dst:Option Tmp)(x:Array (Nat×Operand))(c:TypeId)(pos:String)(after:Array Edge)(guard:Option (Nat×Bool)):
  execOp ρ { dst,op:=.build 157 x,type:=c,pos,after,guard }=Rt 157 (x.map λ(a,y)=>(a,ρ y)):=rfl
theorem VQ(w:World): (Rt 157 #[(1,.agg #[.func (.func 91) #[] #[],.func (.func 92) #[] #[],.func (.func 93) #[] #[],.func (.func 94) #[] #[],.func (.func 95) #[] #[],.func (.func 96) #[] #[]]),(2,.agg #[.func (.func 97) #[] #[],.func (.func 98) #[] #[],.func (.func 99) #[] #[],.func (.func 100) #[] #[],.func (.func 101) #[] #[],.func (.func 102) #[] #[]]),(3,.agg #[.func (.func 103) #[] #[],.func (.func 104) #[] #[],.func (.func 105) #[] #[],.func (.func 100) #[] #[],.func (.func 101) #[] #[],.func (.func 106) #[] #[]]),(4,.agg #[.func (.func 107) #[] #[],.func (.func 108) #[] #[],.func (.func 93) #[] #[],.func (.func 109) #[] #[],.func (.func 95) #[] #[],.func (.func 110) #[] #[]]),(5,.agg #[.func (.func 111) #[] #[],.func (.func 112) #[] #[],.func (.func 93) #[] #[],.func (.func 113) #[] #[],.func (.func 114) #[] #[],.func (.func 115) #[] #[]])]).run prog w=.ok (.value (.agg DN.toArray)) w:=by kernel_rfl
def storeT(ty:TypeId)(a x:Value): Sem Next:=do Instr.storeAt ty a x;pure .skip
theorem SO(ρ:Operand->Value)(dst:Option Tmp)(x y:Operand)(a:TypeId)(pos:String)(after:Array Edge)(guard:Option (Nat×Bool)):
  execOp ρ { dst,op:=.store 157 x y,type:=a,pos,after,guard }=storeT 157 (ρ x) (ρ y):=rfl
theorem JJ: (prog.info? 157).map (·.size)=some 36:=by kernel_rfl
def J9(arr:Array Value)(o:Nat): List Value->Array Value
 | []=>arr
 | c::r=>J9 (arr.setIfInBounds o c) (o+1) r
theorem NH(w:World)(T:TypeId): ∀(cs:List Value) (o:Nat) (a:Array Value),(w.alloc (.cells a T)).setCells w.heap.size o cs=w.alloc (.cells (J9 a o cs) T)
 | [],_,_=>rfl
 | c::r,o,a=>by
  unfold World.setCells J9;rw[World.setCell_alloc_at _ _ _ _ _ rfl];exact NH w T r (o+1) (a.setIfInBounds o c)
theorem NL: ∀(cs:List Value) (pre:List Value) (rest:List Value),rest.length=cs.length->J9 (pre++rest).toArray pre.length cs=(pre++cs).toArray
 | [],pre,rest,h=>by
  have:rest=[]:=iR.1 h;subst this;rfl
 | c::r,pre,rest,h=>by
  cases rest with
  | nil=>simp at h
  | cons d a =>
   unfold J9;have e:((pre++d::a).toArray.setIfInBounds pre.length c)=((pre++[c])++a).toArray:=by simp
   rw[e];have:=NL r (pre++[c]) a (by simpa using h);rw[ic]at this;simpa using this
theorem Ue: DN.toArray.all (·.oneCell')=true:=by simp[DN,B6,fn,Value.oneCell']
theorem Lv: DN.length=36:=rfl
theorem V3(w:World)(a:List Value)(j:a.length=36)(b:Nat)(d:w.heap.size=b):
  (storeT 157 (π b) (.agg DN.toArray)).run prog (w.alloc (.cells a.toArray 157))=.ok .skip (w.alloc (.cells DN.toArray 157)):=by
 subst d;unfold storeT;have i:(w.alloc (.cells a.toArray 157)).there w.heap.size 0 DN.toArray.size:=by
  intro k e;have h:k<36:=by simpa[Lv] using e
  rw[ja,kQ,World.frozen?_alloc_new];simp[j,h]
 rw[jq,lq _ w.heap.size 0 157 DN.toArray i (by rw[JJ];simp[Lv]) Ue];have c:=NL DN [] a (by rw[Lv];omega);simp only[jv,j4]at c;rw[NH,ly,c];rfl
attribute [local go_sem ↓] Tq SO
attribute [local go_sem] VQ
@[reducible] def Ds: List Value:=[.nilFunc,.nilFunc,.nilFunc,.nilFunc,.nilFunc,.nilFunc]
@[reducible] def RA:List Value:=[.nilFunc,.nilFunc,.nilFunc,.nilFunc,.nilFunc,.nilFunc,.nilFunc,.nilFunc,.nilFunc,.nilFunc,.nilFunc,.nilFunc,.nilFunc,.nilFunc,.nilFunc,.nilFunc,.nilFunc,.nilFunc,.nilFunc,.nilFunc,.nilFunc,.nilFunc,.nilFunc,.nilFunc,.nilFunc,.nilFunc,.nilFunc,.nilFunc,.nilFunc,.nilFunc,.nilFunc,.nilFunc,.nilFunc,.nilFunc,.nilFunc,.nilFunc]
theorem aD.bX {w:World} {b:Nat} {c d e h i j:Value} {T:TypeId} (a:aD w b [c,d,e,h,i,j] T):w.cell? ⟨b,0,none⟩=some c/\w.cell? ⟨b,1,none⟩=some d/\w.cell? ⟨b,2,none⟩=some e/\w.cell? ⟨b,3,none⟩=some h/\w.cell? ⟨b,4,none⟩=some i/\w.cell? ⟨b,5,none⟩=some j/\∀k,w.frozen? ⟨b,k,none⟩=false:=⟨a.c0,a.c1,a.c2,a.c3,a.c4,a.c5,a.frozen⟩
theorem JI(d:World)(a:Nat)(e h i j k l:Value): aA (λc=>c=a) d ((((((d.setCell ⟨a,0,none⟩ e).setCell ⟨a,1,none⟩ h).setCell ⟨a,2,none⟩ i).setCell ⟨a,3,none⟩ j).setCell ⟨a,4,none⟩ k).setCell ⟨a,5,none⟩ l) :=
 ((((((aA.refl (λc=>c=a) d).setCell (p:=⟨a,0,none⟩) (Or.inl rfl) _).setCell (p:=⟨a,1,none⟩) (Or.inl rfl) _).setCell (p:=⟨a,2,none⟩) (Or.inl rfl) _).setCell (p:=⟨a,3,none⟩) (Or.inl rfl) _).setCell (p:=⟨a,4,none⟩) (Or.inl rfl) _).setCell (p:=⟨a,5,none⟩) (Or.inl rfl) _
theorem JC{g:Func}{R:Ending->World->Prop}{a:Act}{e:World}{c:Nat}{t u x2 w x z h i j k l m v:Value}{T:TypeId}(n:aD e c [t,u,x2,w,x,z] T)(r:∀d,aD d c [h,i,j,k,l,m] T->(results g a.tmps).run prog d=.ok v d)(q:a.defers=[])(o:∀d,aA (λs=>s=c) e d->R (.returned v) d):
  bodyPost prog g R .ret a ((((((e.setCell ⟨c,0,none⟩ h).setCell ⟨c,1,none⟩ i).setCell ⟨c,2,none⟩ j).setCell ⟨c,3,none⟩ k).setCell ⟨c,4,none⟩ l).setCell ⟨c,5,none⟩ m):=iV (r _ ((((((n.setCell 0 _).setCell 1 _).setCell 2 _).setCell 3 _).setCell 4 _).setCell 5 _)) q (o _ (JI _ _ _ _ _ _ _ _))
theorem Zi{g:Func}{R:Ending->World->Prop}{a:Act}{e:World}{c:Nat}{u w x2 x z A h i j k l m v:Value}{T:TypeId}{o:Obj}(n:aD e c [u,w,x2,x,z,A] T)(s:∀d,aD d c [h,i,j,k,l,m] T->(results g a.tmps).run prog d=.ok v d)(r:a.defers=[])(q:∀d,aA (λt=>t=c) e d->R (.returned v) d):
  bodyPost prog g R .ret a (((((((e.setCell ⟨c,0,none⟩ h).setCell ⟨c,1,none⟩ i).setCell ⟨c,2,none⟩ j).setCell ⟨c,3,none⟩ k).setCell ⟨c,4,none⟩ l).setCell ⟨c,5,none⟩ m).alloc o):=iV (s _ (((((((n.setCell 0 _).setCell 1 _).setCell 2 _).setCell 3 _).setCell 4 _).setCell 5 _).alloc _)) r (q _ ((JI _ _ _ _ _ _ _ _).alloc _))
theorem zO9(n:Nat)(c:1<=n)(d:n<=5): DN[n*6]?=some (fn (Bi n))/\DN[n*6+1]?=some (fn (AU n))/\DN[n*6+2]?=some (fn (AV n))/\DN[n*6+3]?=some (fn (AO n))/\DN[n*6+4]?=some (fn (AR n))/\DN[n*6+5]?=some (fn (Be n)):=by
 have a:n=1\/n=2\/n=3\/n=4\/n=5:=by omega
 rcases a with rfl | rfl | rfl | rfl | rfl <;> exact⟨rfl,rfl,rfl,rfl,rfl,rfl⟩
theorem Pv(n:Int)(w:World)(b:Bool)(F:Ab n 1 5=b)(cs:List Value)(O:(b=false/\cs=Ds)\/(b=true/\cs=B6 n.toNat)):
  Calls prog 63 #[ι n] w λE C=>E=.returned (.tuple #[.agg cs.toArray,.bool b])/\lX w C:=by
 have H:=V3 (w.alloc (.cells Ds.toArray 75)) RA rfl (w.heap.size+1) (by simp);unfold Ds RA at H;obtain⟨d,e⟩:∃d,d=(w.alloc (.cells Ds.toArray 75)).alloc (.cells DN.toArray 157):=⟨_,rfl⟩;have j:=Aa (show aD d w.heap.size Ds 75 by rw[e];exact(aD.new w Ds 75).alloc _);have c:=Aa (show aD d (w.heap.size+1) DN 157 by rw[e];exact aD.newAt (by simp) _ _);have L:=Aa (show lX w d by rw[e];exact((aA.refl _ _).alloc _).alloc _);have N:=Aa e;clear e;go_enter func63,ntmps63;go_wp2_with fail
 clear H;rw[<-N.o];generalize G:w.heap.size=P at *
 have M:=Aa G;clear G;refine(AN _ _ _ _).mono ?_;rintro E C ⟨rfl,I⟩;rw[I,F];clear I C;obtain⟨W,X,Y,Z,aa,ab,ad⟩:=j.o.bX;have D:=Aa (show ∀a,aA (λJ=>J=P) d a->lX w a from λa h=>L.o.trans h (λJ Q R=>by have:=M.o;omega));rcases O with ⟨rfl,rfl⟩ | ⟨rfl,rfl⟩
 ·go_wp2;exact JC (v:=.tuple #[.agg Ds.toArray,.bool false]) j.o (λa k=>by obtain⟨l,m,o,q,r,s,_⟩:=k.bX;simp[results,results63,go_sem,l,m,o,q,r,s]) rfl (λa h=>⟨rfl,D.o a h⟩)
 obtain⟨U,V⟩:=Bu F;obtain⟨i,rfl⟩:=jl (show 0<=n by omega);obtain⟨t,u,x,z,A,B⟩:=zO9 i (by omega) (by omega);replace t:=c.o.cell t;replace u:=c.o.cell u;replace x:=c.o.cell x;replace z:=c.o.cell z;replace A:=c.o.cell A;replace B:=c.o.cell B;have S:(0:Int)<=(i:Int):=by omega
 have T:(i:Int)<6:=by omega
 unfold fn at t u x z A B;go_wp2;exact JC (v:=.tuple #[.agg (B6 i).toArray,.bool true]) j.o (λa k=>by obtain⟨l,m,o,q,r,s,_⟩:=k.bX;simp[results,results63,go_sem,l,m,o,q,r,s,B6,fn]) rfl (λa h=>⟨rfl,D.o a h⟩)
end
section
attribute [local go_sem ↓] AH Bs
attribute [local go_sem] AI Bt A3 A4 AJ AL B8 B9 Bd B2
theorem C9{f:FuncId}{g:Func}(h:prog.funcs[f]?=some g)(i:(g.name== "runtime.NumGoroutine")=false)(e:g.body.isNone=false)(args:Array Value)(w:World):
  (callFunc f args).run prog w=.ok (.enter f args) w:=by
 have c:¬(g.name= "runtime.NumGoroutine"):=by simpa using i
 have d:¬g.body=none:=by intro a;simp[a]at e
 simp[callFunc,h,c,d]
def Ht(F:Nat->Nat): Prop:=∀k:Nat,1<=k->k<=5->∀(args:Array Value) (w:World),(callFunc (F k) args).run prog w=.ok (.enter (F k) args) w
noncomputable def Hl(f:Nat): Bool:=match prog.funcs[f]? with | some g=>!(g.name== "runtime.NumGoroutine")&&!g.body.isNone | none=>false
theorem Ir{c:Nat->Nat}(e:(Hl (c 1)&&Hl (c 2)&&Hl (c 3)&&Hl (c 4)&&Hl (c 5))=true): Ht c:=by
 intro d n o args m;have a:Hl (c d)=true:=by
  simp only[iQ]at e;obtain⟨⟨⟨⟨h,b⟩,i⟩,j⟩,k⟩:=e;have a:d=1\/d=2\/d=3\/d=4\/d=5:=by omega
  rcases a with rfl | rfl | rfl | rfl | rfl;exact h;exact b;exact i;exact j;exact k
 unfold Hl at a;split at a
 ·rename_i g l;simp only[iQ,Bool.not_eq_true']at a;exact C9 l a.1 a.2 args m
 cases a
theorem Pq: Ht AU:=Ir (by kernel_rfl)
theorem PS: Ht AV:=Ir (by kernel_rfl)
theorem PK: Ht AR:=Ir (by kernel_rfl)
theorem Z5: Ht Bi:=Ir (by kernel_rfl)
theorem ON: Ht AO:=Ir (by kernel_rfl)
theorem Xy: Ht Be:=Ir (by kernel_rfl)
def Gs(c:Cfg)(k:Nat): Bool:=match k with | 1=>countB c | 2=>GL c | 3=>EY c | 4=>CV c | _=>Fz c
def Ak(c:Cfg): Bool:=Ab c.kind 1 5&&(B5 c&&Gs c c.kind.toNat)
theorem ZZ(c:Cfg)(k:Nat)(w:World)(h:1<=k)(i:k<=5):
  Calls prog (Bi k) #[c.val] w λd e=>d=.returned (.bool (Gs c k))/\lX w e:=by
 have a:k=1\/k=2\/k=3\/k=4\/k=5:=by omega
 rcases a with a | a | a | a | a;all_goals subst a
 ·exact SP c w
 ·exact RY c w
 ·exact Tp c w
 ·exact NG c w
 exact SS c w
def AP(c:Cfg)(k:Nat)(x:It): Int:=match k with | 1=>0 | 2=>Dx x | 3=>Dx x | 4=>E1 c x | _=>EF c x
theorem Ml(c:Cfg)(k:Nat)(x:It)(w:World)(l:1<=k)(m:k<=5)(d:4<=k->c.bI)(e:0<=x.t)(h:x.t<=4611686018427387904):
  Calls prog (AO k) #[c.val,x.val] w λi j=>i=.returned (ι (AP c k x))/\lX w j:=by
 have a:k=1\/k=2\/k=3\/k=4\/k=5:=by omega
 rcases a with a | a | a | a | a;all_goals subst a
 ·exact RS c x w
 ·exact Ly c x w
 ·exact Ly c x w
 ·exact Lt c x w (d (by omega)) e h
 exact Sc c x w (d (by omega)) e h
theorem Qg(n:Int)(k:Nat)(w:World)(c:n=k)(e:1<=k)(h:k<=5):
  Calls prog 63 #[ι n] w λa d=>a=.returned (.tuple #[.agg (B6 k).toArray,.bool true])/\lX w d :=
 Pv n w true (by unfold Ab;simp;omega) _ (Or.inr ⟨rfl,by subst c;rfl⟩)
theorem Oz(c:Cfg)(w:World)(b:Bool)(al:Ak c=b)(cs:List Value)(an:(b=false/\cs=Ds)\/(b=true/\cs=B6 c.kind.toNat)):
  Calls prog 36 #[c.val] w λC a3=>C=.returned (.tuple #[.agg cs.toArray,.bool b])/\lX w a3:=by
 have ad:=Aa (show aD ((w.alloc (.cells c.cells.toArray 46)).alloc (.cells Ds.toArray 75)) w.heap.size c.cells 46 from(aD.new w c.cells 46).alloc _);have ak:=Aa (show aD ((w.alloc (.cells c.cells.toArray 46)).alloc (.cells Ds.toArray 75)) (w.heap.size+1) Ds 75 from aD.newAt (by simp) Ds _);have ah:=Aa (((aA.refl (λ_=>False) w).alloc (.cells c.cells.toArray 46)).alloc (.cells Ds.toArray 75));have G:=Aa an;have P:=Aa al;clear an al;have r:∃t B,Ab c.kind 1 5=t/\((t=false/\B=Ds)\/(t=true/\B=B6 c.kind.toNat)):=by
  cases a:Ab c.kind 1 5
  ·exact⟨_,_,rfl,Or.inl ⟨rfl,rfl⟩⟩
  exact⟨_,_,rfl,Or.inr ⟨rfl,rfl⟩⟩
 obtain⟨t,B,s,am⟩:=r;have r:=Aa s;have ag:=Aa am;clear s am;unfold Cfg.val;go_enter func36,ntmps36;go_wp2_with fail
 refine(Pv c.kind _ t r.o B ag.o).mono ?_;rintro C ab ⟨rfl,D⟩;have S:=ak.o.keeps D id;have Q:=ad.o.keeps D id;have H:=Aa (ah.o.then D);have a6:=S.lt;obtain⟨az,av⟩:=CM Q 20 rfl;have z:=Aa S;have ae:=Aa Q;clear D S Q;rcases ag.o with ⟨rfl,rfl⟩ | ⟨rfl,rfl⟩
 ·obtain⟨rfl,rfl⟩:b=false/\cs=Ds:=by
   have a:=P.o;unfold Ak at a;rw[r.o]at a;rcases G.o with h | h
   ·exact h
   rw[h.1]at a;simp at a
  obtain⟨U,V,W,X,Y,Z,aa⟩:=z.o.bX;go_wp2;exact Zi (v:=.tuple #[.agg Ds.toArray,.bool false]) z.o (λq i=>by obtain⟨j,k,l,m,n,o,_⟩:=i.bX;simp[results,results36,go_sem,j,k,l,m,n,o]) rfl (λq e=>⟨rfl,H.o.trans e (λT s R=>by omega)⟩)
 obtain⟨a1,a2⟩:=Bu r.o;obtain⟨d,e⟩:∃d,c.kind.toNat=d:=⟨_,rfl⟩;have ao:1<=d:=by omega
 have ap:d<=5:=by omega
 have aj:=Aa e;rw[e];clear a1 a2 e;unfold B6 fn;have F:=Aa (ae.o.alloc (.cells (B6 d).toArray 75));have L:=Aa (z.o.alloc (.cells (B6 d).toArray 75));have N:=Aa (aD.new ab (B6 d) 75);have I:=Aa (H.o.alloc (.cells (B6 d).toArray 75));unfold B6 fn at F L N I;clear ae z H ad ak ah;go_wp2_with fail
 generalize ab.alloc (.cells #[.func (.func (Bi d)) #[] #[],.func (.func (AU d)) #[] #[],.func (.func (AV d)) #[] #[],.func (.func (AO d)) #[] #[],.func (.func (AR d)) #[] #[],.func (.func (Be d)) #[] #[]] 75)=a4 at *
 generalize ax:ab.heap.size=a7 at *
 refine(VB c a4).mono ?_;rintro C a5 ⟨rfl,x⟩;have af:=Aa (F.o.keeps x id);have A:=Aa (L.o.keeps x id);have O:=Aa (N.o.keeps x id);have J:=Aa (I.o.then x);clear x F L N I az av ax;obtain⟨U,V,W,X,Y,Z,aa⟩:=A.o.bX;have aq:=O.o.c0;obtain⟨a0,aw⟩:=CM af.o 20 rfl;have ay:=Z5 d ao ap;rcases Bool.eq_false_or_eq_true (B5 c) with u | u
 ·rw[u];go_wp2_with fail
  refine(ZZ c d a5 ao ap).mono ?_;rintro C bd ⟨rfl,E⟩;have ar:=Aa (O.o.keeps E id);have M:=Aa (A.o.keeps E id);have ai:=Aa (J.o.then E);clear E af O A J aq a0 aw ay U V W X Y Z aa;have au:Gs c d=b:=by
   have a:=P.o;unfold Ak at a;rw[r.o,u,aj.o]at a;simpa using a
  rw[au];obtain⟨U,V,W,X,Y,Z,aa⟩:=M.o.bX;obtain⟨aq,a8,a9,ba,bb,bc,_⟩:=ar.o.bX;rcases G.o with ⟨rfl,rfl⟩ | ⟨rfl,rfl⟩
  ·go_wp2;exact JC (v:=.tuple #[.agg Ds.toArray,.bool false]) M.o (λq i=>by obtain⟨j,k,l,m,n,o,_⟩:=i.bX;simp[results,results36,go_sem,j,k,l,m,n,o]) rfl (λq e=>⟨rfl,ai.o.trans e (λT s R=>by omega)⟩)
  go_wp2;exact JC (v:=.tuple #[.agg (B6 d).toArray,.bool true]) M.o (λq i=>by obtain⟨j,k,l,m,n,o,_⟩:=i.bX;simp[results,results36,go_sem,j,k,l,m,n,o,B6,fn]) rfl (λq e=>⟨by rw[aj.o],ai.o.trans e (λT s R=>by omega)⟩)
 obtain⟨rfl,rfl⟩:b=false/\cs=Ds:=by
  have a:=P.o;unfold Ak at a;rw[u]at a;rcases G.o with h | h
  ·exact h
  rw[h.1]at a;simp at a
 rw[u];go_wp2;exact JC (v:=.tuple #[.agg Ds.toArray,.bool false]) A.o (λq i=>by obtain⟨j,k,l,m,n,o,_⟩:=i.bX;simp[results,results36,go_sem,j,k,l,m,n,o]) rfl (λq e=>⟨rfl,J.o.trans e (λT s R=>by omega)⟩)
theorem WW(c:Cfg)(w:World)(d:Ak c=false):
  Calls prog 36 #[c.val] w λa e=>a=.returned (.tuple #[.agg Ds.toArray,.bool false])/\lX w e:=Oz c w _ d _ (Or.inl ⟨rfl,rfl⟩)
theorem LG(c:Cfg)(k:Nat)(w:World)(j:c.kind=k)(l:1<=k)(m:k<=5)(e:B5 c=true)(h:Gs c k=true):
  Calls prog 36 #[c.val] w λd i=>d=.returned (.tuple #[.agg (B6 k).toArray,.bool true])/\lX w i:=by
 have a:c.kind.toNat=k:=by omega
 exact Oz c w _ (by unfold Ak Ab;rw[a,e,h];simp;omega) _ (Or.inr ⟨rfl,by rw[a]⟩)
end
section
def Cn: Value:=.func (.func 66) #[] #[]
structure QB (w:World) (q:Nat) (v:Value):Prop where
 b:aD w q [Cn,v] 159
def swapL(l:List It)(i j:Nat): List It:=(l.set i (itAt l j)).set j (itAt l i)
theorem J4(c g i j cap n:Nat)(w:World)(l:List It)(q:l.length=n)(d:QB w c (σ g n cap))(a:aP w g cap l)(hi:i<n)(x:j<n)(u:i≠j)(D:c≠g):
  Calls prog 163 #[π c,ι i,ι j] w λo e=>o=.returned (.tuple #[])/\aA (·=g) w e/\aP e g cap (swapL l i j):=by
 have C:κ w c 1 (σ g n cap):=d.b.cell rfl;have t:(0:Int)<=(i:Int):=by omega
 have v:(i:Int)<(n:Int):=by omega
 have z:(0:Int)<=(j:Int):=by omega
 have A:(j:Int)<(n:Int):=by omega
 obtain⟨E,F,G,H⟩:=a.cells i (by omega);obtain⟨I,J,L,M⟩:=a.cells j (by omega);have s:=a.frozen;have B:i*4≠j*4:=by omega
 have k:Hid (aP w g cap l):=a;clear a d q;have m:Hid (swapL l i j=(l.set i (itAt l j)).set j (itAt l i)):=rfl;generalize itAt l i=h at *
 generalize itAt l j=y at *
 go_enter func163,ntmps163;go_region
 go_end0;refine⟨rfl,?_,?_⟩
 ·exact(((aA.refl (λr=>r=g) w).bP (Or.inl rfl) i y).bP (Or.inl rfl) j h).drew
 rw[m.out];exact((k.out.put i y).put j h).drew
def riseL: Nat->List It->Nat->List It
 | 0,l,_=>l
 | f+1,l,i=>if i=0 then l else if BY (itAt l i) (itAt l ((i-1)/2)) then riseL f (swapL l i ((i-1)/2)) ((i-1)/2) else l
theorem Ce(l:List It)(i j:Nat): (swapL l i j).length=l.length:=by simp[swapL]
theorem MD(h g i cap n:Nat)(w:World)(l:List It)(H:l.length=n)(Z:n<=1000)(J:QB w h (σ g n cap))(L:aP w g cap l)(hi:i<n)(s:h≠g):
  Calls prog 116 #[π h,ι i] w λz c=>z=.returned (.tuple #[])/\aA (·=g) w c/\aP c g cap (riseL (i+1) l i):=by
 have v:Hid (QB w h (σ g n cap)):=J;have S:Hid (aP w g cap l):=L;have R:Hid (l.length=n):=H;clear J L H;go_enter func116,ntmps116;go_wp2;go_loopw [1] (λB wr=>∃(a f:Nat) (d:List It),B=ι a/\a<n/\a<=f/\Hid (d.length=n)/\Hid (aA (·=g) w wr)/\Hid (aP wr g cap d)/\Hid (riseL (i+1) l i=riseL (f+1) d a)) (λB _=>(intOf B).toNat)
 case atStart=>exact⟨i,i,l,rfl,hi,ir _,R,aA.refl _ _,S,rfl⟩
 case round =>
  obtain⟨a,f,d,rfl,E,W,r,k,m,t⟩:=hrel;by_cases V:0<a
  ·have af:κ wr h 1 (σ g n cap):=k.out.cell (v.out.b.cell rfl) s;have U:κ wr h 0 Cn:=k.out.cell (v.out.b.cell rfl) s;unfold Cn at U;obtain⟨p,I⟩:∃p,p=(a-1)/2:=⟨_,rfl⟩;have ad:p<a:=by omega
   have ab:((a:Int)-1)/2=(p:Int):=by omega
   have u:Hid (p=(a-1)/2):=I;clear I;obtain⟨ag,ah,ai,aj⟩:=m.out.cells a (by rw[r.out];exact E);obtain⟨ak,al,am,an⟩:=m.out.cells p (by rw[r.out];omega);have X:(0:Int)<=(a:Int):=by omega
   have Y:(a:Int)<(n:Int):=by omega
   have aa:(0:Int)<=(p:Int):=by omega
   have ae:(p:Int)<(n:Int):=by omega
   generalize N:itAt d a=j at *
   generalize O:itAt d p=y at *
   have C:Hid (itAt d a=j):=N;have D:Hid (itAt d p=y):=O;clear N O;cases hab:BY j y;all_goals
    go_wp2
    go_region_held3 (λc=>c.cell? ⟨h,0,none⟩=some (.func (.func 66) #[] #[])/\c.cell? ⟨h,1,none⟩=some (σ g n cap) /\
       c.cell? ⟨g,a*4,none⟩=some (ι j.t)/\c.cell? ⟨g,a*4+1,none⟩=some (ι j.k)/\c.cell? ⟨g,a*4+2,none⟩=some (ι j.d)/\c.cell? ⟨g,a*4+3,none⟩=some (ι j.n) /\
       c.cell? ⟨g,p*4,none⟩=some (ι y.t)/\c.cell? ⟨g,p*4+1,none⟩=some (ι y.k)/\c.cell? ⟨g,p*4+2,none⟩=some (ι y.d)/\c.cell? ⟨g,p*4+3,none⟩=some (ι y.n)) (go_keep)
     (first | (go_at_call 66;refine(Il j y _).mono ?_;rintro z c ⟨rfl,rfl⟩))
    have F:lX wr ((wr.alloc (.cells j.cells 80)).alloc (.cells y.cells 80)).drew:=(((aA.refl _ _).alloc _).alloc _).drew;generalize((wr.alloc (.cells j.cells 80)).alloc (.cells y.cells 80)).drew=x at *
    have o:Hid (lX wr x):=F;clear F
   ·go_wp2;refine iV (kB rfl _ _ _) rfl ?_;refine⟨rfl,k.out.trans o.out (λ_ e=>e.elim),?_⟩;have q:=hab;rw[<-C.out,<-D.out,u.out]at q;rw[t.out];simp only[riseL,ig (show ¬a=0 by omega),q];exact m.out.keeps o.out id
   go_wp2_with fail
   refine(J4 h g a p cap n x d r.out ⟨(v.out.b.keeps k.out s).keeps o.out id⟩ (m.out.keeps o.out id) E (by omega) (by omega) s).mono ?_;rintro z P ⟨rfl,G,M⟩;have Q:Hid (aA (·=g) x P):=G;have T:Hid (aP P g cap (swapL d a p)):=M;clear G M;go_wp2;go_roundw;case rel =>
    obtain⟨A,rfl⟩:∃A,f=A+1:=⟨f-1,by omega⟩;refine⟨p,A,swapL d a p,rfl,by omega,by omega,(Ce _ _ _).trans r.out,(k.out.trans o.out (λ_ e=>e.elim)).then Q.out,T,?_⟩;show _=_;have q:=hab;rw[<-C.out,<-D.out,u.out]at q;rw[t.out,u.out]
    conv=>lhs;unfold riseL
    rw[ig (by omega),ij q]
   case measure=>simp[intOf];omega
  go_wp2;go_end0;refine⟨rfl,k.out,?_⟩;rw[t.out,show a=0 by omega];simpa[riseL] using m.out
def Bn(l:List It)(i:Nat): Int :=
 if 2*i+1<l.length then
  if 2*i+2<l.length then(if BY (itAt l (2*i+2)) (itAt l (2*i+1)) then(2*i+2:Nat) else(2*i+1:Nat)) else(2*i+1:Nat)
 else -1
theorem M6(h g i cap n:Nat)(w:World)(l:List It)(r:l.length=n)(H:n<=1000)(G:i<=1000)(k:QB w h (σ g n cap))(m:aP w g cap l):
  Calls prog 164 #[π h,ι i] w λt c=>t=.returned (ι (Bn l i))/\lX w c:=by
 have J:κ w h 1 (σ g n cap):=k.b.cell rfl;have I:κ w h 0 (.func (.func 66) #[] #[]):=k.b.cell rfl;obtain⟨a,o⟩:∃a,a=2*i+1:=⟨_,rfl⟩;obtain⟨b,q⟩:∃b,b=2*i+2:=⟨_,rfl⟩;have z:2*(i:Int)+1=(a:Int):=by omega
 have A:(a:Int)+1=(b:Int):=by omega
 have e:Bn l i=if a<n then(if b<n then(if BY (itAt l b) (itAt l a) then(b:Int) else(a:Int)) else(a:Int)) else -1:=by
  subst o q r;rfl
 have D:a<=2001:=by omega
 have F:b<=2002:=by omega
 have C:(0:Int)<=(a:Int):=by omega
 have E:(0:Int)<=(b:Int):=by omega
 by_cases s:a<n
 ·have v:(a:Int)<(n:Int):=by omega
  by_cases u:b<n
  ·have x:(b:Int)<(n:Int):=by omega
   obtain⟨L,M,N,O⟩:=m.cells b (by omega);obtain⟨P,Q,R,S⟩:=m.cells a (by omega);generalize itAt l b=d at *
   generalize itAt l a=y at *
   cases hab:BY d y
   ·have j:Hid (Bn l i=(a:Int)):=by show _=_;rw[e,ij s,ij u,hab];rfl
    clear m k r o q e;go_enter func164,ntmps164;go_wp2
    go_region_held3 (λc=>c.cell? ⟨h,0,none⟩=some (.func (.func 66) #[] #[])/\c.cell? ⟨h,1,none⟩=some (σ g n cap) /\
       c.cell? ⟨g,b*4,none⟩=some (ι d.t)/\c.cell? ⟨g,b*4+1,none⟩=some (ι d.k)/\c.cell? ⟨g,b*4+2,none⟩=some (ι d.d)/\c.cell? ⟨g,b*4+3,none⟩=some (ι d.n) /\
       c.cell? ⟨g,a*4,none⟩=some (ι y.t)/\c.cell? ⟨g,a*4+1,none⟩=some (ι y.k)/\c.cell? ⟨g,a*4+2,none⟩=some (ι y.d)/\c.cell? ⟨g,a*4+3,none⟩=some (ι y.n)) (go_keep)
     (first | (go_at_call 66;refine(Il d y _).mono ?_;rintro t c ⟨rfl,rfl⟩))
    go_wp2;go_ret;exact⟨A9 j.out.symm,(((aA.refl _ _).alloc _).alloc _).drew⟩
   have j:Hid (Bn l i=(b:Int)):=by show _=_;rw[e,ij s,ij u,hab];rfl
   clear m k r o q e;go_enter func164,ntmps164;go_wp2
   go_region_held3 (λc=>c.cell? ⟨h,0,none⟩=some (.func (.func 66) #[] #[])/\c.cell? ⟨h,1,none⟩=some (σ g n cap) /\
      c.cell? ⟨g,b*4,none⟩=some (ι d.t)/\c.cell? ⟨g,b*4+1,none⟩=some (ι d.k)/\c.cell? ⟨g,b*4+2,none⟩=some (ι d.d)/\c.cell? ⟨g,b*4+3,none⟩=some (ι d.n) /\
      c.cell? ⟨g,a*4,none⟩=some (ι y.t)/\c.cell? ⟨g,a*4+1,none⟩=some (ι y.k)/\c.cell? ⟨g,a*4+2,none⟩=some (ι y.d)/\c.cell? ⟨g,a*4+3,none⟩=some (ι y.n)) (go_keep)
    (first | (go_at_call 66;refine(Il d y _).mono ?_;rintro t c ⟨rfl,rfl⟩))
   go_wp2;go_ret;exact⟨A9 j.out.symm,(((aA.refl _ _).alloc _).alloc _).drew⟩
  have x:decide ((b:Int)<(n:Int))=false:=by simp;omega
  have j:Hid (Bn l i=(a:Int)):=by show _=_;rw[e,ij s,ig u]
  clear m k r o q e;go_enter func164,ntmps164;go_wp2;go_quiet (fail)
  go_wp2;go_ret;exact⟨A9 j.out.symm,⟨rfl,rfl,rfl,ir _,λ_ _ _=>rfl⟩⟩
 have v:decide ((a:Int)<(n:Int))=false:=by simp;omega
 have j:Hid (Bn l i=-1):=by show _=_;rw[e,ig s]
 have B:(n:Int)<=(a:Int):=by omega
 clear m k r o q e;go_enter func164,ntmps164;go_wp2;go_ret;exact⟨A9 j.out.symm,aA.refl _ _⟩
