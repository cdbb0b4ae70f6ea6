import Derived.Laws.AppendOwnNone
import Derived.Test.YtahnliehdjncdaaGreatDoorXBK
import Derived.Test.YtahnliehdjncdaaGreatDoorXAX
import Derived.Deep.DeepHandedRow
import Derived.Lib.LaidTab
import Derived.SevenTiedAt
import Derived.Test.YtahnliehdjncdaaGreatDoorCards
import Derived.Test.YtahnliehdjncdaaGreatDoorXAR
import Derived.Test.YtahnliehdjncdaaGreatDoorTie
import Derived.Test.YtahnliehdjncdaaGreatDoorXBE
import Derived.Laws.IdiomCopy
import Derived.Test.YtahnliehdjncdaaGreatDoorXAH
import Derived.Stop.BytesEq
set_option maxRecDepth 100000
set_option maxHeartbeats 16000000
namespace Go.Proofs.YtahnliehdjncdaaGreatDoor
section
open Go.RowKit
def ScriptW(w:World)(v:Value)(ops:List OpM): Prop:=((∃a c,v=.slice a 0 c)/\ops=[])\/∃sb so cap,v=.slice (some ⟨sb,so,none⟩) ops.length cap/\ops.length<=cap/\ScriptAt w sb so ops/\sb<w.heap.size
theorem ScriptAt.keeps{w w':World}{sb so:Nat}{ops:List OpM}(h:ScriptAt w sb so ops)(hk:Keeps (λ_=>False) w w'): ScriptAt w' sb so ops :=
 λi o ho j u hu=>hk.cell (h i o ho j u hu) (λh=>h)
theorem ScriptW.keeps{w w':World}{v:Value}{ops:List OpM}(h:ScriptW w v ops)(hk:Keeps (λ_=>False) w w'): ScriptW w' v ops:=by
 rcases h with h | ⟨sb,so,cap,h1,h2,h3,h4⟩
 ·exact .inl h
 ·exact .inr ⟨sb,so,cap,h1,h2,h3.keeps hk,by have:=hk.size;omega⟩
end
section
open Go.ChangeShapes Go.WideShapes Go.ChangeAt Go.RowKit Go.Deep
theorem gTab: Tryz.prog.globalNamed "math/bits.deBruijn64tab"=some 2:=by kernel_rfl
theorem zAa: (Tryz.prog.globals[2]?).map (·.type)=some 287:=by kernel_rfl
theorem zBy: Tryz.prog.cellsOf 287=64:=by kernel_rfl
theorem zCc: Tryz.prog.cellsOf 5=1:=by kernel_rfl
theorem zBq: Tryz.prog.underlying 5=some (.int .u8):=by kernel_rfl
def qOf: List Int:=Lib.deBruijn64tab.map λ(n:Nat)=>(n:Int)
def zBz: Array Value:=(qOf.map (.int .u8 ·)).toArray
theorem zDs{W:World}(h:laidMetH Tryz.prog [("math/bits.deBruijn64tab",Rows.laid_math_bits_deBruijn64tab)] W): Tab W:=by
 have ht:Lib.TabIs Tryz.prog W "math/bits.deBruijn64tab" .u8 qOf:=Lib.tabIs_of_head (rest:=[]) gTab zAa Tryz.underlying287 zBq zCc zBy h
 intro j hj
 have h1:=ht.cell gTab j (by simpa[qOf] using hj)
 rw[h1]
 unfold qOf
 rw[List.getD_eq_getElem?_getD,List.getD_eq_getElem?_getD,List.getElem?_map,List.getElem?_eq_getElem hj]
 rfl
noncomputable def qKf(os:Os): World :=
 { World.holding Tryz.prog os ⟨#[],#[],[]⟩ with heap:=(World.holding Tryz.prog os ⟨#[],#[],[]⟩).heap.modify 2 fun
     | .cells _ t frozen=>.cells zBz t frozen
     | o=>o }
theorem qPo{H:Type}{enc:TypeId×Value->H}{W:World}{fuel:Nat}{a0:Option Addr}{len cap:Nat}{d:DataW H}{p:List MemPlace}(hf:DataW.trod enc Tryz.prog W 0 (λ_=>true) true fuel 22 (Value.slice a0 len cap).cells.toList=some (d,p))(hlt:∀x∈p,x.block<W.heap.size):
  ∃ops,ScriptW W (.slice a0 len cap) ops/\ops.length=len/\(len≠0->∃elems spare,d=.slice elems spare/\len<=elems.length+spare.length)/\∀o,o∈ops->o.bytes.size<=9223372036854775807:=by
 by_cases hl0:len=0
 ·subst hl0
  exact⟨[],.inl ⟨⟨_,_,rfl⟩,rfl⟩,rfl,λh=>absurd rfl h,λo ho=>by cases ho⟩
 ·rcases open_slice Tryz.underlying22 hf with ⟨hcs,hx⟩ | ⟨a,len',cap',k,n,D,Pl,hcs,_,hl,hm,hk,hx,hcell⟩
  ·simp[Value.cells]at hcs
   exact absurd hcs.2.1 hl0
  ·simp[Value.cells]at hcs
   obtain⟨rfl,rfl,rfl⟩:=hcs
   simp only[Prod.mk.injEq]at hx
   obtain⟨rfl,rfl⟩:=hx
   simp only[if_true]at hk
   subst k
   rw[qQ5]at hcell
   obtain⟨b,off,spot⟩:=a
   have hspot:spot=none:=by
    obtain⟨cs',h1,_⟩:=hcell 0 (by omega)
    obtain⟨_,h2,h3⟩:=World.cells?_some h1
    have h4:=h3 0 (by omega)
    rw[List.getElem?_eq_getElem (by omega)]at h4
    simpa[Addr.add] using World.cell?_spot h4
   subst hspot
   have hbW:b<W.heap.size:=hlt (.cell b off) (List.mem_append_left _ (MemPlace.mem_row.2 ⟨0,by rw[qQ5];omega,by simp⟩))
   have hops:∀i,i<len->∃o:OpM,W.rangeAt b (off+i*26) o.cells/\o.bytes.size<=9223372036854775807:=by
    intro i hi
    obtain⟨cs',h1,h2⟩:=hcell i (by omega)
    obtain⟨V,bs,rfl,_,hbz⟩:=zC9 h2
    obtain⟨_,h3,h4⟩:=World.cells?_some h1
    refine⟨opOf V bs,λj v hv=>?_,hbz⟩
    have hj:j<26:=by have:=(List.getElem?_eq_some_iff.1 hv).1;omega
    have:=h4 j hj
    rw[add_add,add_plain,hv,<-Nat.add_assoc]at this
    exact this
   haveI:Inhabited OpM:=⟨o1⟩
   obtain⟨O,hO⟩:=choose_lt (α:=OpM) hops
   refine⟨(List.range len).map O,.inr ⟨b,off,cap,by simp,by simpa using hl,?_,hbW⟩,by simp,λ_=>⟨_,_,rfl,by simp⟩,λo ho=>?_⟩
   ·intro i o ho
    have hi:i<len:=by have:=(List.getElem?_eq_some_iff.1 ho).1;simpa using this
    have:O i=o:=by simpa[hi] using ho
    rw[<-this]
    exact(hO i hi).1
   ·obtain⟨i,hi,rfl⟩:=List.mem_map.1 ho
    exact(hO i (List.mem_range.1 hi)).2
end
section
open Go.RowKit
theorem qQu(l:List Nat): (qFy l).size=l.length:=by
 unfold qFy strOfNums
 show(List.toArray _).size=_
 simp
theorem qZ8(l:List Nat)(i:Nat)(hi:i<l.length)(hb:l.getD i 0<256)(h:i<(qFy l).size): (((qFy l)[i]'h).toNat:Int)=((l.getD i 0:Nat):Int):=by
 have e:(qFy l)[i]'h=UInt8.ofNat (l.getD i 0):=by
  show(qFy l).data[i]=_
  unfold qFy strOfNums
  simp[List.getD_eq_getElem?_getD,List.getElem?_eq_getElem hi]
 rw[e,UInt8.toNat_ofNat']
 omega
theorem qOm(l:List Nat)(k:Nat): (qFy l).extract k (qFy l).size=qFy (l.drop k):=by
 rw[qQu]
 unfold qFy strOfNums
 rw[ByteArray.extract_mk]
 congr 2
 rw[List.map_drop,List.map_drop]
 rw[List.take_of_length_le (by simp)]
theorem qVx(a b:Nat)(ha:a<9223372036854775808)(hb:b<9223372036854775808): bits .or .i64 (a:Int) (b:Int)=((a ||| b:Nat):Int):=by
 have hx:a ||| b<2 ^ 63:=Nat.or_lt_two_pow (by omega) (by omega)
 show IntKind.i64.wrap ((BitVec.ofInt 64 (a:Int) ||| BitVec.ofInt 64 (b:Int)).toNat:Int)=_
 rw[BitVec.toNat_or,ofInt_u64 a (by omega),ofInt_u64 b (by omega),IntKind.wrap_i64]
 omega
theorem qHv(r:Nat)(w:World): Calls Tryz.prog 148 #[.pointer (some ⟨r,0,none⟩),.bool true] w λe w'=>e=.returned (.tuple #[])/\w'=w:=by
 go_enter Tryz.func148,Tryz.ntmps148
 go_wp2
 go_end0
 exact⟨rfl,rfl⟩
def qJe: List Value->List Nat->List Int->List Value
 | cs,o::os,n::ns=>qJe (cs.set o (.int .i64 n)) os ns
 | cs,_,_=>cs
theorem qSu(os:List Nat): ∀(cs:List Value) (ns:List Int),(qJe cs os ns).length=cs.length:=by
 induction os with
 | nil=>intro cs ns;rfl
 | cons o os ih =>
  intro cs ns
  cases ns with
  | nil=>rfl
  | cons n ns=>show(qJe (cs.set o (.int .i64 n)) os ns).length=_;rw[ih];simp
theorem qW5(os:List Nat): ∀(cs:List Value) (ns:List Int) (o:Nat) (n:Int),os.length=ns.length->qJe cs (os++[o]) (ns++[n])=(qJe cs os ns).set o (.int .i64 n):=by
 induction os with
 | nil =>
  intro cs ns o n h
  cases ns with
  | nil=>rfl
  | cons a ns=>simp at h
 | cons a os ih =>
  intro cs ns o n h
  cases ns with
  | nil=>simp at h
  | cons b ns =>
   show qJe (cs.set a (.int .i64 b)) (os++[o]) (ns++[n])=(qJe (cs.set a (.int .i64 b)) os ns).set o (.int .i64 n)
   exact ih _ _ _ _ (by simpa using h)
theorem qPd(w:World)(ty:TypeId)(b dLen dCap:Nat)(s:ByteArray)(cs:List Value)(hcs:cs=((s.extract 0 (Nat.min s.size dLen)).data.map λ(b:UInt8)=>Value.int .u8 (b.toNat:Int)).toList)(hc:∀j,j<cs.length->(w.cell? ⟨b,j,none⟩).isSome=true)(hf:∀j,j<cs.length->w.frozen? ⟨b,j,none⟩=false):
  (Builtin.copy_ #[134,9] ty #[.slice (some ⟨b,0,none⟩) dLen dCap,.string s]).run Tryz.prog w=.ok (goInt (Nat.min s.size dLen)) (w.setCells b 0 cs):=by
 obtain⟨i0,hi0,hz0,hz1,hz2⟩:=info_parts zA4
 have hst:=run_storeCells_cells (P:=Tryz.prog) b 0 cs 0 w (by simpa using hc) (by simpa using hf) (λv hv=>by
    rw[hcs,Array.toList_map]at hv
    obtain⟨a,_,rfl⟩:=List.mem_map.1 hv
    rfl)
 subst hcs
 simp[Builtin.copy_,run_underlying Tryz.underlying134,Builtin.lenOf,Builtin.firstCells,sizeOf,typeInfo,hi0]
 simp at hst
 rw[hst]
 rfl
theorem zAq: (Tryz.prog.info? 170).map (·.size)=some 8:=by kernel_rfl
def qRp: Nat->Nat->Nat->List Nat->Option (Nat×List Nat)
 | 0,_,_,_=>none
 | _+1,_,_,[]=>none
 | f+1,i,a,b::l=>if b<128 then some (a+b*128 ^ i,l) else qRp f (i+1) (a+b%128*128 ^ i) l
def zA0(l:List Nat): Option (Nat×List Nat):=qRp 9 0 0 l
theorem zAm: ∀(f i a:Nat) (l:List Nat),f+i<=9->a<128 ^ i->∀n l',qRp f i a l=some (n,l')->n<9223372036854775808/\∃p,l=p++l'/\1<=p.length
 | 0,_,_,_,_,_,_,_,h=>by cases h
 | _+1,_,_,[],_,_,_,_,h=>by cases h
 | f+1,i,a,b::l,hf,ha,n,l',h=>by
  have hp:∀x,x<128->a+x*128 ^ i<128 ^ (i+1):=λx hx=>by
   rw[Nat.pow_succ]
   have h1:x*128 ^ i<=127*128 ^ i:=Nat.mul_le_mul_right _ (by omega)
   omega
  unfold qRp at h
  split at h
  ·rename_i hb
   simp only[Option.some.injEq,Prod.mk.injEq]at h
   obtain⟨rfl,rfl⟩:=h
   have h2:=hp b hb
   have h3:(128:Nat) ^ (i+1)<=128 ^ 9:=Nat.pow_le_pow_right (by omega) (by omega)
   have h4:(128:Nat) ^ 9=9223372036854775808:=by decide
   exact⟨by omega,[b],rfl,by simp⟩
  ·obtain⟨h1,p,h2,h3⟩:=zAm f (i+1) _ l (by omega) (hp (b%128) (Nat.mod_lt _ (by omega))) n l' h
   exact⟨h1,b::p,by rw[h2];rfl,by simp⟩
theorem zDx(a x i:Nat)(ha:a<128 ^ i): a ||| x*128 ^ i=a+x*128 ^ i:=by
 have e:(128:Nat) ^ i=2 ^ (7*i):=by rw[Nat.pow_mul]
 rw[e]at ha ⊢
 have:=Nat.shiftLeft_add_eq_or_of_lt ha x
 rw[Nat.shiftLeft_eq]at this
 rw[Nat.or_comm,<-this,Nat.add_comm]
theorem qXk(a x i:Nat)(hi:i<9)(ha:a<128 ^ i)(hx:x<256): ∃B Y:Nat,x%128=B/\B*128 ^ i=Y/\a+Y<128 ^ (i+1)/\bits BinOp.and IntKind.u8 (x:Int) 127=(B:Int)/\wrap64 ((B:Int)*2 ^ (7*i))=(Y:Int)/\wrap64 (B:Int)=(B:Int)/\bits .or .i64 (a:Int) (Y:Int)=((a+Y:Nat):Int):=by
 obtain⟨B,hB⟩:∃B,x%128=B:=⟨_,rfl⟩
 have hB128:B<128:=by rw[<-hB];exact Nat.mod_lt _ (by omega)
 obtain⟨Y,hY⟩:∃Y,B*128 ^ i=Y:=⟨_,rfl⟩
 have hsum:a+Y<128 ^ (i+1):=by
  rw[<-hY,Nat.pow_succ]
  have h1:B*128 ^ i<=127*128 ^ i:=Nat.mul_le_mul_right _ (by omega)
  generalize 128 ^ i=P at *
  omega
 have hlt:a+Y<9223372036854775808:=by
  have hp1:(128:Nat) ^ (i+1)<=128 ^ 9:=Nat.pow_le_pow_right (by omega) (by omega)
  have h63:(128:Nat) ^ 9=9223372036854775808:=by decide
  rw[h63]at hp1
  exact Nat.lt_of_lt_of_le hsum hp1
 have hor:=zDx a B i ha
 rw[hY]at hor
 have hbo:=qVx a Y (by omega) (by omega)
 rw[hor]at hbo
 refine⟨B,Y,hB,hY,hsum,?_,?_,?_,hbo⟩
 ·have:=u8_and_nat x 127 hx (by omega)
  rw[nat_mask7,hB]at this
  exact this
 ·have e:((B:Int)*2 ^ (7*i))=(Y:Int):=by
   rw[<-hY,Int.natCast_mul,Int.natCast_pow]
   congr 1
   rw[Int.pow_mul];rfl
  rw[e]
  have h1:=IntKind.wrap_i64 (Y:Int)
  have h9:(Y:Int)<9223372036854775808:=by omega
  unfold wrap64
  clear e hor hsum hbo hY ha
  omega
 ·have h1:=IntKind.wrap_i64 (B:Int)
  unfold wrap64
  clear hor hsum hbo hY ha
  omega
structure RdB (w:World) (r:Nat) (l:List Nat) (wr:Bool):Prop where
 blk:Blk w r [.string (qFy l),.bool wr] 173
 len:l.length<=9223372036854775807
 byt:∀b,b∈l->b<256
theorem RdB.keeps{M:Nat->Prop}{w w':World}{r:Nat}{l:List Nat}{wr:Bool}(h:RdB w r l wr)(hk:Keeps M w w')(hn:¬M r): RdB w' r l wr:=⟨h.blk.keeps hk hn,h.len,h.byt⟩
def qZu: Option (Nat×List Nat)->Value
 | some (n,_)=>.tuple #[.int .i64 (n:Int),.bool true]
 | none=>.tuple #[.int .i64 0,.bool false]
def nxtL(l:List Nat): Option (Nat×List Nat)->List Nat
 | some (_,l')=>l'
 | none=>l
theorem zAv(r:Nat)(l:List Nat)(wg:Bool)(w:World)(h:RdB w r l wg):
  Calls Tryz.prog 147 #[.pointer (some ⟨r,0,none⟩)] w λe w'=>e=.returned (qZu (zA0 l))/\RdB w' r (nxtL l (zA0 l)) wg/\Keeps (λi=>i=r) w w':=by
 have c0:w.cell? ⟨r,0,none⟩=some (.string (qFy l)):=h.blk.cell rfl
 have fz:=h.blk.frozen
 have hsz:(qFy l).size=l.length:=qQu l
 have HG:=hide (show ∀i,i<l.length->∀h:i<(qFy l).size,(((qFy l)[i]'h).toNat:Int)=((l.getD i 0:Nat):Int) from λi hi hb=>qZ8 _ i hi (h.byt _ (by rw[List.getD_eq_getElem?_getD,List.getElem?_eq_getElem hi];exact List.getElem_mem hi)) hb)
 have HD:=hide (show ∀i,(qFy l).extract (i+1) (qFy l).size=qFy (l.drop (i+1)) from λi=>qOm l (i+1))
 have HB:=hide h
 have hln:=h.len
 clear h
 obtain⟨SZ,hSZ⟩:∃SZ:Nat,l.length=SZ:=⟨_,rfl⟩
 rw[hSZ]at hsz hln
 have HSZ:=hide hSZ
 clear hSZ
 generalize qFy l=st at *
 go_enter Tryz.func147,Tryz.ntmps147
 by_cases h9:(SZ:Int)<9
 all_goals
  go_wp2
  have H9:=hide h9
  clear h9
  go_loopw [4,13] (λnv iv wr=>∃i a:Nat,i<=9/\i<=SZ/\iv=.int .i64 i/\nv=.int .i64 (a:Int)/\wr=w/\Hid (a<128 ^ i)/\Hid (qRp (9-i) i a (l.drop i)=zA0 l)) (λ_ iv _=>9-(intOf iv).toNat)
  case atStart=>exact⟨0,0,by omega,by omega,rfl,rfl,rfl,Nat.pow_pos (by omega),rfl⟩
  case round =>
   obtain⟨i,a,hi9',hiS',rfl,rfl,rfl,HA,HF⟩:=hrel
   by_cases hlt:i<SZ/\i<9
   ·have hil:i<l.length:=by rw[uh HSZ];exact hlt.1
    have hiK:(i:Int)<(SZ:Int):=by omega
    have hi9:(i:Int)<9:=by omega
    have hi0:(0:Int)<=(i:Int):=by omega
    have w7:IntKind.i64.wrap (7*(i:Int))=((7*i:Nat):Int):=by rw[IntKind.wrap_i64];omega
    have hib:=uh HG i hil (by omega)
    obtain⟨x,hx⟩:∃x,l.getD i 0=x:=⟨_,rfl⟩
    rw[hx]at hib
    have hgl:l[i]?=some x:=by
     rw[List.getElem?_eq_getElem hil]
     rw[List.getD_eq_getElem?_getD,List.getElem?_eq_getElem hil]at hx
     exact congrArg some hx
    have hx3:x<256:=(uh HB).byt x (List.mem_of_getElem? hgl)
    have hdr:l.drop i=x::l.drop (i+1):=by
     rw[List.drop_eq_getElem_cons hil]
     rw[List.getElem?_eq_getElem hil]at hgl
     rw[Option.some.inj hgl]
    have hf9:9-i=(9-(i+1))+1:=by omega
    have hF:=uh HF
    rw[hdr,hf9]at hF
    unfold qRp at hF
    obtain⟨B,Y,hB,hY,hsum,a7,hsh,hwB,hbo⟩:=qXk a x i hlt.2 (uh HA) hx3
    have HS:=hide hsum
    have HFF:=hide hF
    have HBX:=hide hB
    have HY:=hide hY
    clear hB hY hx hF hdr hf9 hgl hsum hil
    by_cases hxl:x<128
    ·have hxi:(x:Int)<128:=by omega
     have hex:=uh HD i
     rw[hsz]at hex
     have hR:zA0 l=some (a+Y,l.drop (i+1)):=by
      have hF:=uh HFF
      rw[if_pos hxl]at hF
      rw[<-hF,<-uh HY,<-uh HBX,Nat.mod_eq_of_lt hxl]
     have HR:=hide hR
     have HBN:=hide ((uh HB).blk.setCell 0 (.string (qFy (l.drop (i+1)))))
     have HKN:=hide ((Keeps.refl (λi=>i=r) wr).setCell (p:=⟨r,0,none⟩) (Or.inl rfl) (.string (qFy (l.drop (i+1)))))
     clear hR
     generalize a+Y=n at *
     go_wp2
     refine bodyPost_ret (v:=.tuple #[.int .i64 (n:Int),.bool true]) (by simp[results,Tryz.results147,go_sem]) rfl ?_
     rw[uh HR]
     exact⟨rfl,⟨uh HBN,by show(l.drop (i+1)).length<=_;rw[List.length_drop];have:=(uh HB).len;omega,λb hb=>(uh HB).byt b (List.mem_of_mem_drop hb)⟩,uh HKN⟩
    ·have hxi:decide ((x:Int)<128)=false:=by simp;omega
     have HN:=hide (show qRp (9-(i+1)) (i+1) (a+Y) (l.drop (i+1))=zA0 l by
        have hF:=uh HFF
        rw[if_neg hxl]at hF
        rw[<-hF,<-uh HY,<-uh HBX])
     have HSN:=hide (uh HS)
     generalize a+Y=n at *
     go_wp2
     go_roundw
     case rel=>exact⟨i+1,n,by omega,by omega,by go_num,rfl,by trivial,HSN,HN⟩
     case measure=>simp[intOf];omega
   ·have hR:zA0 l=none:=by
     have hF:=uh HF
     rcases Nat.lt_or_ge i 9 with h1 | h1
     ·have hnil:l.drop i=[]:=List.drop_eq_nil_of_le (by rw[uh HSZ];omega)
      rw[hnil,show 9-i=(9-(i+1))+1 by omega]at hF
      exact hF.symm
     ·have:i=9:=by omega
      subst this
      exact hF.symm
    have HR:=hide hR
    have hle:(SZ:Int)<=(i:Int)\/(9:Int)<=(i:Int):=by omega
    clear hR HF
    have h9:=uh H9
    have hd:(i=SZ/\(SZ:Int)<9)\/(i=9/\¬(SZ:Int)<9):=by omega
    clear hle hlt
    rcases hd with ⟨hd,hx⟩ | ⟨hd,hx⟩
    all_goals
     first
      | (exfalso;omega)
      | (clear h9 hx
         subst hd
         go_wp2
         go_ret2
         rw[uh HR]
         exact⟨rfl,uh HB,Keeps.refl _ _⟩)
def RdS(w:World)(r:Nat)(st:Option (List Nat)): Prop:=∃l,RdB w r l st.isNone/\(st=none\/st=some l)
theorem RdS.keeps{M:Nat->Prop}{w w':World}{r:Nat}{st:Option (List Nat)}(h:RdS w r st)(hk:Keeps M w w')(hn:¬M r): RdS w' r st:=by
 obtain⟨l,h1,h2⟩:=h
 exact⟨l,h1.keeps hk hn,h2⟩
theorem RdS.lt{w:World}{r:Nat}{st:Option (List Nat)}(h:RdS w r st): r<w.heap.size:=by
 obtain⟨l,h1,_⟩:=h
 exact h1.blk.lt
def qAr(lo hi:Int)(st:Option (List Nat)): Int×Option (List Nat) :=
 match st with
 | none=>(lo,none)
 | some l=>match zA0 l with
  | none=>(lo,none)
  | some (n,l')=>if inB (n:Int) lo hi then((n:Int),some l') else(lo,none)
def qEv(b:Bool)(st:Option (List Nat)): Option (List Nat):=if b then st else none
theorem qCy(r:Nat)(b:Bool)(st:Option (List Nat))(w:World)(h:RdS w r st): Calls Tryz.prog 148 #[.pointer (some ⟨r,0,none⟩),.bool b] w λe w'=>e=.returned (.tuple #[])/\RdS w' r (qEv b st)/\Keeps (λi=>i=r) w w':=by
 cases b with
 | true =>
  refine(qHv r w).mono ?_
  rintro e w' ⟨rfl,rfl⟩
  exact⟨rfl,h,Keeps.refl _ _⟩
 | false =>
  obtain⟨l,h1,_⟩:=h
  obtain⟨u,hc⟩:∃u,w.cell? ⟨r,1,none⟩=some u:=⟨_,h1.blk.cell rfl⟩
  have fz:=h1.blk.frozen
  have HB:=hide (h1.blk.setCell 1 (.bool true))
  have HK:=hide ((Keeps.refl (λi=>i=r) w).setCell (p:=⟨r,1,none⟩) (Or.inl rfl) (.bool true))
  have HL:=hide h1
  clear h1
  go_enter Tryz.func148,Tryz.ntmps148
  go_wp2
  go_end0
  exact⟨rfl,⟨l,⟨uh HB,(uh HL).len,(uh HL).byt⟩,.inl rfl⟩,uh HK⟩
theorem qGg(r:Nat)(st:Option (List Nat))(w:World)(h:RdS w r st): Calls Tryz.prog 103 #[.pointer (some ⟨r,0,none⟩)] w λe w'=>e=.returned (.bool st.isNone)/\w'=w:=by
 obtain⟨l,h1,_⟩:=h
 have hc:w.cell? ⟨r,1,none⟩=some (.bool st.isNone):=h1.blk.cell rfl
 clear h1
 generalize st.isNone=b at *
 go_enter Tryz.func103,Tryz.ntmps103
 go_wp2
 go_ret
 exact⟨rfl,rfl⟩
theorem qBy(r:Nat)(lo hi:Int)(st:Option (List Nat))(w:World)(h:RdS w r st):
  Calls Tryz.prog 101 #[.pointer (some ⟨r,0,none⟩),.int .i64 lo,.int .i64 hi] w λe w'=>e=.returned (.int .i64 (qAr lo hi st).1)/\RdS w' r (qAr lo hi st).2/\Keeps (λi=>i=r) w w':=by
 obtain⟨l,h1,h2⟩:=h
 obtain⟨wg,hwg⟩:∃wg,st.isNone=wg:=⟨_,rfl⟩
 rw[hwg]at h1
 have HN:=hide (zAv r l wg w h1)
 clear h1
 cases hn:zA0 l with
 | none =>
  have hR:qAr lo hi st=(lo,none):=by
   rcases h2 with e | e
   ·rw[e];rfl
   ·rw[e];unfold qAr;simp only;rw[hn]
  rw[hn]at HN
  rw[hR]
  go_enter Tryz.func101,Tryz.ntmps101
  go_wp2_with fail
  refine(uh HN).mono ?_
  rintro e w1 ⟨rfl,hr1,hk1⟩
  have HR:=hide (show RdS w1 r (if wg then none else some l) from⟨l,by cases wg <;> exact hr1,by cases wg <;> simp⟩)
  have HK:=hide hk1
  clear hr1 hk1 HN
  unfold qZu
  go_wp2_with fail
  refine(qCy r false _ w1 (uh HR)).mono ?_
  rintro e w2 ⟨rfl,hr2,hk2⟩
  have hr3:RdS w2 r none:=hr2
  have HR2:=hide hr3
  have HK2:=hide ((uh HK).then hk2)
  obtain⟨l2,h4,_⟩:=hr3
  have hc:w2.cell? ⟨r,1,none⟩=some (.bool true):=h4.blk.cell rfl
  clear hr2 hk2 h4
  go_wp2
  go_ret
  exact⟨rfl,uh HR2,uh HK2⟩
 | some q =>
  obtain⟨n,l'⟩:=q
  rw[hn]at HN
  cases hb:inB (n:Int) lo hi with
  | false =>
   have hR:qAr lo hi st=(lo,none):=by
    rcases h2 with e | e
    ·rw[e];rfl
    ·rw[e];unfold qAr;simp only;rw[hn];simp only;rw[hb];rfl
   rw[hR]
   go_enter Tryz.func101,Tryz.ntmps101
   go_wp2_with fail
   refine(uh HN).mono ?_
   rintro e w1 ⟨rfl,hr1,hk1⟩
   have HR:=hide (show RdS w1 r (if wg then none else some l') from⟨l',by cases wg <;> exact hr1,by cases wg <;> simp⟩)
   have HK:=hide hk1
   clear hr1 hk1 HN
   unfold qZu
   go_wp2_with fail
   refine(qAf n lo hi _).mono ?_
   rintro e w2 ⟨rfl,hw2⟩
   rw[hw2,hb]
   clear hw2 w2
   go_wp2_with fail
   refine(qCy r false _ w1 (uh HR)).mono ?_
   rintro e w2 ⟨rfl,hr2,hk2⟩
   have hr3:RdS w2 r none:=hr2
   have HR2:=hide hr3
   have HK2:=hide ((uh HK).then hk2)
   obtain⟨l2,h4,_⟩:=hr3
   have hc:w2.cell? ⟨r,1,none⟩=some (.bool true):=h4.blk.cell rfl
   clear hr2 hk2 h4
   go_wp2
   go_ret
   exact⟨rfl,uh HR2,uh HK2⟩
  | true =>
   have hR:qAr lo hi st=if wg then(lo,none) else((n:Int),some l'):=by
    rcases h2 with e | e
    ·rw[e]at hwg ⊢;rw[<-hwg];rfl
    ·rw[e]at hwg ⊢;rw[<-hwg];unfold qAr;simp only;rw[hn];simp only;rw[hb];rfl
   rw[hR]
   go_enter Tryz.func101,Tryz.ntmps101
   go_wp2_with fail
   refine(uh HN).mono ?_
   rintro e w1 ⟨rfl,hr1,hk1⟩
   have hc:w1.cell? ⟨r,1,none⟩=some (.bool wg):=hr1.blk.cell rfl
   have HR:=hide hr1
   have HK:=hide hk1
   clear hr1 hk1 HN
   unfold qZu
   go_wp2_with fail
   refine(qAf n lo hi _).mono ?_
   rintro e w2 ⟨rfl,hw2⟩
   rw[hw2,hb]
   clear hw2 w2
   go_wp2_with fail
   refine(qHv r _).mono ?_
   rintro e w2 ⟨rfl,hw2⟩
   rw[hw2]
   clear hw2 w2
   cases wg with
   | true =>
    go_wp2
    go_ret
    exact⟨rfl,⟨l',uh HR,.inl rfl⟩,uh HK⟩
   | false =>
    go_wp2
    go_ret
    exact⟨rfl,⟨l',uh HR,.inr rfl⟩,uh HK⟩
theorem qBs(lo hi:Int)(st:Option (List Nat)): lo<=(qAr lo hi st).1/\((qAr lo hi st).1<=hi\/(qAr lo hi st).1=lo)/\((qAr lo hi st).2≠none->(qAr lo hi st).1<=hi):=by
 unfold qAr
 split
 ·exact⟨Int.le_refl _,.inr rfl,λh=>absurd rfl h⟩
 ·split
  ·exact⟨Int.le_refl _,.inr rfl,λh=>absurd rfl h⟩
  ·split
   ·rename_i h
    obtain⟨a,b⟩:=qCh h
    exact⟨a,.inl b,λ_=>b⟩
   ·exact⟨Int.le_refl _,.inr rfl,λh=>absurd rfl h⟩
def qAu: Nat->Option (List Nat)->List Int×Option (List Nat)
 | 0,st=>([],st)
 | k+1,st=>((qAr 0 9223372036854775807 st).1::(qAu k (qAr 0 9223372036854775807 st).2).1,(qAu k (qAr 0 9223372036854775807 st).2).2)
theorem qD0(k:Nat): ∀st,(qAu k st).1.length=k:=by
 induction k with
 | zero=>intro st;rfl
 | succ k ih=>intro st;unfold qAu;rw[List.length_cons,ih]
theorem qVw(a b:Nat): ∀st,qAu (a+b) st=((qAu a st).1++(qAu b (qAu a st).2).1,(qAu b (qAu a st).2).2):=by
 induction a with
 | zero=>intro st;rw[Nat.zero_add];rfl
 | succ a ih =>
  intro st
  rw[Nat.succ_add]
  show((qAr 0 9223372036854775807 st).1::(qAu (a+b) (qAr 0 9223372036854775807 st).2).1,(qAu (a+b) (qAr 0 9223372036854775807 st).2).2)=_
  rw[ih]
  rfl
theorem qS3(k:Nat)(st:Option (List Nat)): qAu (k+1) st=((qAu k st).1++[(qAr 0 9223372036854775807 (qAu k st).2).1],(qAr 0 9223372036854775807 (qAu k st).2).2):=qVw k 1 st
theorem qK0(r cb:Nat)(os:List Nat)(cs:List Value)(T:TypeId)(pv:Value)(base:Nat)(st:Option (List Nat))(w:World)(h:RdS w r st)(hp:w.ownsRow base 167 1 pv os.length (qCs (at' cb os)))(hb:Blk w cb cs T)(ho:∀o,o∈os->o<cs.length)(hne:cb≠r)(hpv:∀i,pv.ownBlock=some i->i≠r/\i≠cb)(hl2:os.length<=1000):
  Calls Tryz.prog 152 #[.pointer (some ⟨r,0,none⟩),pv] w λe w'=>e=.returned (.tuple #[])/\RdS w' r (qAu os.length st).2/\Blk w' cb (qJe cs os (qAu os.length st).1) T/\Keeps (λi=>i=r\/i=cb) w w':=by
 have HR:=hide h
 have HP:=hide hp
 have HB:=hide hb
 have HO:=hide ho
 have HPV:=hide hpv
 obtain⟨va,vcap,hv,hva⟩:=qB4 hp
 have HVA:=hide hva
 clear h hp hb ho hpv hva
 subst hv
 generalize hm:os.length=m at *
 have HM:=hide hm
 clear hm
 go_enter Tryz.func152,Tryz.ntmps152
 go_wp2
 go_loopw [8] (λi wr=>∃k:Nat,i=.int .i64 k/\k<=m/\Hid (RdS wr r (qAu k st).2)/\Hid (Blk wr cb (qJe cs (os.take k) (qAu k st).1) T)/\Hid (Keeps (λi=>i=r\/i=cb) w wr)) (λi _=>m-(intOf i).toNat)
 case atStart=>exact⟨0,rfl,Nat.zero_le _,HR,HB,Keeps.refl _ _⟩
 case round =>
  obtain⟨k,rfl,hk,HRr,HBr,HKr⟩:=hrel
  by_cases hlk:k<m
  ·obtain⟨g,hg,hgb⟩:=uh HVA (by omega)
   subst hg
   have hkp:k<os.length:=by rw[uh HM];exact hlk
   obtain⟨o,hok⟩:∃o,os[k]?=some o:=⟨_,List.getElem?_eq_getElem hkp⟩
   have hrow:=qLg (uh HP) (uh HKr) (λi hi he=>by have:=uh HPV i hi;rcases he with e | e <;> omega)
   have hck:wr.cell? ⟨g,k,none⟩=some (.pointer (some ⟨cb,o,none⟩)):=by
    rcases qIm hrow with ⟨h0,_⟩ | ⟨g',cap',hv',hc⟩
    ·omega
    ·cases hv';exact hc k _ (by unfold qCs at';rw[List.getElem?_map,List.getElem?_map,hok];rfl)
   have hol:=uh HO o (List.mem_of_getElem? hok)
   have hsn:=qS3 k st
   have HNG:=hide (qBy r 0 9223372036854775807 (qAu k st).2 wr (uh HRr))
   have HTK:=hide (show qJe cs (os.take (k+1)) ((qAu k st).1++[(qAr 0 9223372036854775807 (qAu k st).2).1])=(qJe cs (os.take k) (qAu k st).1).set o (.int .i64 (qAr 0 9223372036854775807 (qAu k st).2).1) by
      rw[List.take_add_one,hok]
      exact qW5 _ _ _ _ _ (by rw[List.length_take,uh HM,qD0];omega))
   generalize qAr 0 9223372036854775807 (qAu k st).2=q at *
   obtain⟨n,st2⟩:=q
   have HSN:=hide hsn
   have hk0:(0:Int)<=(k:Int):=by omega
   have hkm:(k:Int)<(m:Int):=by omega
   clear hrow hok hkp hsn
   go_wp2_with fail
   refine(uh HNG).mono ?_
   rintro e w1 ⟨rfl,hr1,hk1⟩
   have HR1:=hide hr1
   have HB1:=hide ((uh HBr).keeps hk1 hne)
   have HK1:=hide ((uh HKr).trans hk1 (λi hi _=>.inl hi))
   clear hr1 hk1 hck
   obtain⟨u,hu⟩:∃u,(qJe cs (os.take k) (qAu k st).1)[o]?=some u:=⟨_,List.getElem?_eq_getElem (by rw[qSu];exact hol)⟩
   have hcu:=(uh HB1).cell hu
   have hfz:=(uh HB1).frozen o
   have HB2:=hide ((uh HB1).setCell o (.int .i64 n))
   have HR2:=hide ((uh HR1).keeps ((Keeps.refl (λi=>i=cb) w1).setCell (p:=⟨cb,o,none⟩) (Or.inl rfl) (.int .i64 n)) (λe=>hne e.symm))
   have HK2:=hide ((uh HK1).setCell (p:=⟨cb,o,none⟩) (Or.inl (.inr rfl)) (.int .i64 n))
   clear hu
   go_wp2
   go_roundw
   case rel=>exact⟨k+1,by go_num,by omega,hide (by rw[uh HSN];exact uh HR2),hide (by rw[uh HSN,uh HTK];exact uh HB2),HK2⟩
   case measure=>simp[intOf];omega
  ·have hkm:k=m:=by omega
   subst hkm
   have h1:os.take k=os:=List.take_of_length_le (by rw[uh HM];exact Nat.le_refl _)
   rw[h1]at HBr
   go_wp2
   go_end0
   exact⟨rfl,uh HRr,uh HBr,uh HKr⟩
def bytesOf(t:ByteArray): List Nat:=t.data.toList.map UInt8.toNat
theorem qUm(t:ByteArray): ∀b,b∈bytesOf t->b<256:=λb hb=>by
 obtain⟨u,_,rfl⟩:=List.mem_map.1 hb
 exact u.toNat_lt
theorem qQv(t:ByteArray): qFy (bytesOf t)=t:=by
 unfold qFy strOfNums bytesOf
 apply ByteArray.ext
 simp[List.map_map,Function.comp_def]
theorem bytesOf_length(t:ByteArray): (bytesOf t).length=t.size:=by unfold bytesOf;rw[List.length_map];rfl
def qGt(t:ByteArray): List UInt8:=(t.data.toList.take 8)++List.replicate (8-(t.data.toList.take 8).length) 0
theorem qGl(t:ByteArray): (qGt t).length=8:=by
 unfold qGt
 rw[List.length_append,List.length_replicate]
 have:(t.data.toList.take 8).length<=8:=by rw[List.length_take];omega
 omega
def u8V(l:List UInt8): List Value:=l.map λb=>.int .u8 (b.toNat:Int)
def z8: List Value:=List.replicate 8 (.int .u8 0)
def qUf(t:ByteArray): List Value:=((t.extract 0 (Nat.min t.size 8)).data.map λ(b:UInt8)=>Value.int .u8 (b.toNat:Int)).toList
theorem qTw(t:ByteArray): qUf t=u8V (t.data.toList.take 8):=by
 unfold qUf u8V
 rw[Array.toList_map]
 congr 1
 rw[ByteArray.data_extract,Array.toList_extract]
 simp only[List.extract,List.drop_zero,Nat.sub_zero]
 have hs:t.size=t.data.toList.length:=rfl
 rw[hs]
 rcases Nat.le_total t.data.toList.length 8 with h | h
 ·rw[show Nat.min t.data.toList.length 8=t.data.toList.length from Nat.min_eq_left h,List.take_of_length_le (Nat.le_refl _),List.take_of_length_le h]
 ·rw[show Nat.min t.data.toList.length 8=8 from Nat.min_eq_right h]
theorem qI8(t:ByteArray): (qUf t).length<=8:=by
 rw[qTw]
 unfold u8V
 rw[List.length_map,List.length_take]
 exact Nat.min_le_left _ _
theorem qYk(t:ByteArray): over z8 0 (qUf t)=u8V (qGt t):=by
 unfold over qGt
 rw[qTw,List.take_zero,List.nil_append,Nat.zero_add]
 unfold u8V z8
 rw[List.map_append,List.map_replicate,List.drop_replicate,List.length_map]
 rfl
theorem list8{α:Type}(l:List α)(h:l.length=8): ∃a b c d e f g i,l=[a,b,c,d,e,f,g,i]:=by
 match l,h with
 | [a,b,c,d,e,f,g,i],_=>exact⟨a,b,c,d,e,f,g,i,rfl⟩
theorem qL3(t:ByteArray)(w:World): Calls Tryz.prog 146 #[.string t] w λe w'=>e=.returned (.agg (u8V (qGt t)).toArray)/\Keeps (λ_=>False) w w':=by
 obtain⟨W0,hW0⟩:∃W0,((w.alloc (.cells #[.int .u8 0,.int .u8 0,.int .u8 0,.int .u8 0,.int .u8 0,.int .u8 0,.int .u8 0,.int .u8 0] 170)).alloc (.cells #[.int .u8 0,.int .u8 0,.int .u8 0,.int .u8 0,.int .u8 0,.int .u8 0,.int .u8 0,.int .u8 0] 170))=W0:=⟨_,rfl⟩
 have HW0:=hide (show Blk W0 (w.heap.size+1) z8 170 by rw[<-hW0];exact Blk.newAt (by simp) _ _)
 have HR0:=hide (show Blk W0 w.heap.size z8 170 by rw[<-hW0];exact(Blk.new w _ _).alloc _)
 have HK0:=hide (show Keeps (λ_=>False) w W0 by rw[<-hW0];exact((Keeps.refl _ _).alloc _).alloc _)
 obtain⟨W1,hW1⟩:∃W1,W0.setCells (w.heap.size+1) 0 (qUf t)=W1:=⟨_,rfl⟩
 have hcp:(Builtin.copy_ #[134,9] 3 #[.slice (some ⟨w.heap.size+1,0,none⟩) 8 8,.string t]).run Tryz.prog ((w.alloc (.cells #[.int .u8 0,.int .u8 0,.int .u8 0,.int .u8 0,.int .u8 0,.int .u8 0,.int .u8 0,.int .u8 0] 170)).alloc (.cells #[.int .u8 0,.int .u8 0,.int .u8 0,.int .u8 0,.int .u8 0,.int .u8 0,.int .u8 0,.int .u8 0] 170))=.ok (goInt (Nat.min t.size 8)) W1:=by
  rw[hW0,<-hW1]
  refine qPd W0 3 (w.heap.size+1) 8 8 _ _ rfl (λj hj=>?_) (λj _=>(uh HW0).frozen j)
  have:=qI8 t
  exact(uh HW0).some (show j<z8.length by show j<8;omega)
 have hb1:=Blk.setCells (qUf t) 0 W0 z8 (uh HW0) (by have:=qI8 t;show 0+_<=8;omega)
 rw[hW1,qYk]at hb1
 obtain⟨c0,c1,c2,c3,c4,c5,c6,c7,hc⟩:=list8 (qGt t) (qGl t)
 have hU:u8V (qGt t)=[.int .u8 (c0.toNat:Int),.int .u8 (c1.toNat:Int),.int .u8 (c2.toNat:Int),.int .u8 (c3.toNat:Int),.int .u8 (c4.toNat:Int),.int .u8 (c5.toNat:Int),.int .u8 (c6.toNat:Int),.int .u8 (c7.toNat:Int)]:=by rw[hc];rfl
 rw[hU]at hb1 ⊢
 generalize(c0.toNat:Int)=u0 at *
 generalize(c1.toNat:Int)=u1 at *
 generalize(c2.toNat:Int)=u2 at *
 generalize(c3.toNat:Int)=u3 at *
 generalize(c4.toNat:Int)=u4 at *
 generalize(c5.toNat:Int)=u5 at *
 generalize(c6.toNat:Int)=u6 at *
 generalize(c7.toNat:Int)=u7 at *
 have hk1:Keeps (λi=>i=w.heap.size+1) W0 W1:=by rw[<-hW1];exact Keeps.setCells (M:=λi=>i=w.heap.size+1) (b:=w.heap.size+1) (Or.inl rfl) _ _ _ (Keeps.refl _ _)
 have HK1:=hide ((uh HK0).trans hk1 (λi hi hlt=>by omega))
 have hr1:=(uh HR0).keeps hk1 (by omega)
 have a0:=hb1.cell (i:=0) rfl
 have a1:=hb1.cell (i:=1) rfl
 have a2:=hb1.cell (i:=2) rfl
 have a3:=hb1.cell (i:=3) rfl
 have a4:=hb1.cell (i:=4) rfl
 have a5:=hb1.cell (i:=5) rfl
 have a6:=hb1.cell (i:=6) rfl
 have a7:=hb1.cell (i:=7) rfl
 have b0:=hr1.cell (i:=0) rfl
 have b1:=hr1.cell (i:=1) rfl
 have b2:=hr1.cell (i:=2) rfl
 have b3:=hr1.cell (i:=3) rfl
 have b4:=hr1.cell (i:=4) rfl
 have b5:=hr1.cell (i:=5) rfl
 have b6:=hr1.cell (i:=6) rfl
 have b7:=hr1.cell (i:=7) rfl
 have bf:=hr1.frozen
 have HK2:=hide ((((((((((uh HK1).setCell (p:=⟨w.heap.size,0,none⟩) (Or.inr (Nat.le_refl _)) (.int .u8 u0)).setCell (p:=⟨w.heap.size,1,none⟩) (Or.inr (Nat.le_refl _)) (.int .u8 u1)).setCell (p:=⟨w.heap.size,2,none⟩) (Or.inr (Nat.le_refl _)) (.int .u8 u2)).setCell (p:=⟨w.heap.size,3,none⟩) (Or.inr (Nat.le_refl _)) (.int .u8 u3)).setCell (p:=⟨w.heap.size,4,none⟩) (Or.inr (Nat.le_refl _)) (.int .u8 u4)).setCell (p:=⟨w.heap.size,5,none⟩) (Or.inr (Nat.le_refl _)) (.int .u8 u5)).setCell (p:=⟨w.heap.size,6,none⟩) (Or.inr (Nat.le_refl _)) (.int .u8 u6)).setCell (p:=⟨w.heap.size,7,none⟩) (Or.inr (Nat.le_refl _)) (.int .u8 u7)))
 have HF:=hide (show Blk _ w.heap.size [.int .u8 u0,.int .u8 u1,.int .u8 u2,.int .u8 u3,.int .u8 u4,.int .u8 u5,.int .u8 u6,.int .u8 u7] 170 from(((((((hr1.setCell 0 (.int .u8 u0)).setCell 1 (.int .u8 u1)).setCell 2 (.int .u8 u2)).setCell 3 (.int .u8 u3)).setCell 4 (.int .u8 u4)).setCell 5 (.int .u8 u5)).setCell 6 (.int .u8 u6)).setCell 7 (.int .u8 u7))
 clear hW0 hW1 hk1 hb1 hr1 hc hU
 go_enter Tryz.func146,Tryz.ntmps146
 go_wp2
 clear a0 a1 a2 a3 a4 a5 a6 a7 b0 b1 b2 b3 b4 b5 b6 b7 bf hcp
 generalize(((((((W1.setCell ⟨w.heap.size,0,none⟩ (.int .u8 u0)).setCell ⟨w.heap.size,1,none⟩ (.int .u8 u1)).setCell ⟨w.heap.size,2,none⟩ (.int .u8 u2)).setCell ⟨w.heap.size,3,none⟩ (.int .u8 u3)).setCell ⟨w.heap.size,4,none⟩ (.int .u8 u4)).setCell ⟨w.heap.size,5,none⟩ (.int .u8 u5)).setCell ⟨w.heap.size,6,none⟩ (.int .u8 u6)).setCell ⟨w.heap.size,7,none⟩ (.int .u8 u7)=W2 at *
 have HLV:=hide (show(loadVar 170 ⟨w.heap.size,0,none⟩).run Tryz.prog W2=.ok (.agg #[.int .u8 u0,.int .u8 u1,.int .u8 u2,.int .u8 u3,.int .u8 u4,.int .u8 u5,.int .u8 u6,.int .u8 u7]) W2 from run_loadVar_mid W2 w.heap.size 0 170 [.int .u8 u0,.int .u8 u1,.int .u8 u2,.int .u8 u3,.int .u8 u4,.int .u8 u5,.int .u8 u6,.int .u8 u7] _ (λj v hv=>by rw[Nat.zero_add];exact(uh HF).cell hv) Tryz.underlying170 rfl (by rw[zAq];rfl))
 refine bodyPost_ret (v:=.agg #[.int .u8 u0,.int .u8 u1,.int .u8 u2,.int .u8 u3,.int .u8 u4,.int .u8 u5,.int .u8 u6,.int .u8 u7]) (by simp[results,Tryz.results146,asAddr,uh HLV]) rfl ?_
 exact⟨rfl,uh HK2⟩
def qLx: List UInt8:=[115,107,101,116,99,104,32,49]
theorem qU8: qGt (qFy (qIu++[]))=qLx:=by kernel_rfl
theorem zD7(w:World): (sizeOf 5).run Tryz.prog w=.ok 1 w:=by kernel_rfl
theorem head_eq(xs ys:List UInt8)(hx:xs.length=8)(hy:ys.length=8)(w:World): (Op.equalIn 10000 170 (.agg (u8V xs).toArray) (.agg (u8V ys).toArray)).run Tryz.prog w=.ok (xs==ys) w :=
 run_equalIn_bytes w 9998 170 5 8 (by kernel_rfl) (by kernel_rfl) (λw=>zD7 w) xs ys hx hy
theorem qUs{t:ByteArray}(h:qGt t=qLx): 8<=t.size:=by
 have hs:t.size=t.data.toList.length:=rfl
 rw[hs]
 refine Nat.le_of_not_lt (λhlt=>?_)
 have h1:(qGt t)[7]?=some 0:=by
  unfold qGt
  rw[List.getElem?_append_right (by rw[List.length_take];omega),List.getElem?_replicate,if_pos (by rw[List.length_take];omega)]
 rw[h]at h1
 have h2:qLx[7]?=some 49:=rfl
 rw[h2]at h1
 exact absurd (Option.some.inj h1) (by decide)
def qNb(t:ByteArray): Option (List Nat):=if qGt t=qLx then some ((bytesOf t).drop 8) else none
theorem qOb(t:ByteArray)(w:World)(hl:t.size<=9223372036854775807): Calls Tryz.prog 100 #[.string t] w λe w'=>∃r,e=.returned (.pointer (some ⟨r,0,none⟩))/\w.heap.size<=r/\RdS w' r (qNb t)/\Keeps (λ_=>False) w w':=by
 have HE:=hide (λw=>head_eq (qGt t) (qGt (qFy (qIu++[]))) (qGl _) (qGl _) w)
 have HH:=hide (qL3 t)
 have HG:=hide (qL3 (qFy (qIu++[])))
 rw[qU8]at HE HG
 by_cases h:qGt t=qLx
 ·have hs:=qUs h
  have hdr:t.extract 8 t.size=qFy ((bytesOf t).drop 8):=by
   have h1:=qOm (bytesOf t) 8
   rw[qQv]at h1
   exact h1
  have HN:=hide (show qNb t=some ((bytesOf t).drop 8) by unfold qNb;rw[if_pos h])
  have HLN:=hide (show((bytesOf t).drop 8).length<=9223372036854775807 by rw[List.length_drop,bytesOf_length];omega)
  have HBY:=hide (show ∀b,b∈(bytesOf t).drop 8->b<256 from λb hb=>qUm t b (List.mem_of_mem_drop hb))
  rw[h]at HE HH
  clear h
  obtain⟨SZ,hSZ⟩:∃SZ,t.size=SZ:=⟨_,rfl⟩
  rw[hSZ]at hdr hs hl
  generalize(bytesOf t).drop 8=rest at *
  generalize u8V qLx=fU at *
  go_enter Tryz.func100,Tryz.ntmps100
  go_wp2_with fail
  refine(uh HH w).mono ?_
  rintro e w1 ⟨rfl,hk1⟩
  have HK1:=hide hk1
  clear hk1
  go_wp2_with fail
  have hF:(Value.string ⟨#[115,107,101,116,99,104,32,49]⟩)=.string (qFy (qIu++[])):=by kernel_rfl
  rw[hF]
  refine(uh HG w1).mono ?_
  rintro e w2 ⟨rfl,hk2⟩
  have HK2:=hide ((uh HK1).then hk2)
  have hq:=uh HE w2
  rw[show(qLx==qLx)=true from by decide]at hq
  clear hk2 HK1 hF
  have HRB:=hide (Blk.new w2 [.string (qFy rest),.bool false] 173)
  have HK3:=hide ((uh HK2).alloc (.cells #[.string (qFy rest),.bool false] 173))
  have hle:=(uh HK2).size
  have h8:(8:Int)<=(SZ:Int):=by omega
  go_wp2
  go_ret
  exact⟨_,rfl,hle,by rw[uh HN];exact⟨rest,⟨uh HRB,uh HLN,uh HBY⟩,.inr rfl⟩,uh HK3⟩
 ·have HN:=hide (show qNb t=none by unfold qNb;rw[if_neg h])
  have hbe:(qGt t==qLx)=false:=by simpa using h
  rw[hbe]at HE
  clear h hbe
  generalize u8V (qGt t)=tU at *
  generalize u8V qLx=fU at *
  go_enter Tryz.func100,Tryz.ntmps100
  go_wp2_with fail
  refine(uh HH w).mono ?_
  rintro e w1 ⟨rfl,hk1⟩
  have HK1:=hide hk1
  clear hk1
  go_wp2_with fail
  have hF:(Value.string ⟨#[115,107,101,116,99,104,32,49]⟩)=.string (qFy (qIu++[])):=by kernel_rfl
  rw[hF]
  refine(uh HG w1).mono ?_
  rintro e w2 ⟨rfl,hk2⟩
  have HK2:=hide ((uh HK1).then hk2)
  have hq:=uh HE w2
  clear hk2 HK1 hF
  have HRB:=hide (show Blk (w2.alloc (.cells #[.string ⟨#[]⟩,.bool true] 173)) w2.heap.size [.string (qFy []),.bool true] 173 from Blk.new w2 [.string ⟨#[]⟩,.bool true] 173)
  have HK3:=hide ((uh HK2).alloc (.cells #[.string ⟨#[]⟩,.bool true] 173))
  have hle:=(uh HK2).size
  go_wp2
  go_ret
  exact⟨_,rfl,hle,by rw[uh HN];exact⟨[],⟨uh HRB,by simp,λb hb=>by cases hb⟩,.inl rfl⟩,uh HK3⟩
end
end Go.Proofs.YtahnliehdjncdaaGreatDoor
