import Derived.Test.YtahnliehdjncdabGreatDoorXAX
import Derived.Laws.IdiomCopy
import Derived.Test.YtahnliehdjncdabGreatDoorXAF
import Derived.Test.YtahnliehdjncdabGreatDoorXAY
import Derived.Stop.BytesEq
import Derived.Test.YtahnliehdjncdabGreatDoorXBD
import Derived.Test.YtahnliehdjncdabGreatDoorXAW
set_option maxRecDepth 100000
set_option maxHeartbeats 16000000
namespace Go.Proofs.YtahnliehdjncdabGreatDoor
section
open Go.RowKit
theorem qLu(l:List Nat): (qE3 l).size=l.length:=by
 unfold qE3 strOfNums;show(List.toArray _).size=_;simp
theorem zDb(l:List Nat)(i:Nat)(hi:i<l.length)(hb:l.getD i 0<256)(h:i<(qE3 l).size): (((qE3 l)[i]'h).toNat:Int)=((l.getD i 0:Nat):Int):=by
 have e:(qE3 l)[i]'h=UInt8.ofNat (l.getD i 0):=by
  show(qE3 l).data[i]=_;unfold qE3 strOfNums;simp[List.getD_eq_getElem?_getD,List.getElem?_eq_getElem hi]
 rw[e,UInt8.toNat_ofNat'];omega
theorem qSn(l:List Nat)(k:Nat): (qE3 l).extract k (qE3 l).size=qE3 (l.drop k):=by
 rw[qLu];unfold qE3 strOfNums;rw[ByteArray.extract_mk]
 congr 2
 rw[List.map_drop,List.map_drop];rw[List.take_of_length_le (by simp)]
theorem qYd(a b:Nat)(ha:a<9223372036854775808)(hb:b<9223372036854775808): bits .or .i64 (a:Int) (b:Int)=((a ||| b:Nat):Int):=by
 have hx:a ||| b<2 ^ 63:=Nat.or_lt_two_pow (by omega) (by omega)
 show IntKind.i64.wrap ((BitVec.ofInt 64 (a:Int) ||| BitVec.ofInt 64 (b:Int)).toNat:Int)=_;rw[BitVec.toNat_or,ofInt_u64 a (by omega),ofInt_u64 b (by omega),IntKind.wrap_i64];omega
theorem qJb(r:Nat)(w:World): Calls Tryz.prog 135 #[.pointer (some ⟨r,0,none⟩),.bool true] w λe w'=>e=.returned (.tuple #[])/\w'=w:=by
 go_enter Tryz.func135,Tryz.ntmps135
 go_wp2
 go_end0
 exact⟨rfl,rfl⟩
def qLj: List Value->List Nat->List Int->List Value
 | cs,o::os,n::ns=>qLj (cs.set o (.int .i64 n)) os ns
 | cs,_,_=>cs
theorem qUz(os:List Nat): ∀(cs:List Value) (ns:List Int),(qLj cs os ns).length=cs.length:=by
 induction os with
 | nil=>intro cs ns;rfl
 | cons o os ih =>
  intro cs ns;cases ns with
  | nil=>rfl
  | cons n ns=>show(qLj (cs.set o (.int .i64 n)) os ns).length=_;rw[ih];simp
theorem zB6(os:List Nat): ∀(cs:List Value) (ns:List Int) (o:Nat) (n:Int),os.length=ns.length->qLj cs (os++[o]) (ns++[n])=(qLj cs os ns).set o (.int .i64 n):=by
 induction os with
 | nil =>
  intro cs ns o n h;cases ns with
  | nil=>rfl
  | cons a ns=>simp at h
 | cons a os ih =>
  intro cs ns o n h;cases ns with
  | nil=>simp at h
  | cons b ns =>
   show qLj (cs.set a (.int .i64 b)) (os++[o]) (ns++[n])=(qLj (cs.set a (.int .i64 b)) os ns).set o (.int .i64 n);exact ih _ _ _ _ (by simpa using h)
theorem qSp(w:World)(ty:TypeId)(b dLen dCap:Nat)(s:ByteArray)(cs:List Value)(hcs:cs=((s.extract 0 (Nat.min s.size dLen)).data.map λ(b:UInt8)=>Value.int .u8 (b.toNat:Int)).toList)(hc:∀j,j<cs.length->(w.cell? ⟨b,j,none⟩).isSome=true)(hf:∀j,j<cs.length->w.frozen? ⟨b,j,none⟩=false):
  (Builtin.copy_ #[136,9] ty #[.slice (some ⟨b,0,none⟩) dLen dCap,.string s]).run Tryz.prog w=.ok (goInt (Nat.min s.size dLen)) (w.setCells b 0 cs):=by
 obtain⟨i0,hi0,hz0,hz1,hz2⟩:=info_parts zFq
 have hst:=run_storeCells_cells (P:=Tryz.prog) b 0 cs 0 w (by simpa using hc) (by simpa using hf) (λv hv=>by
    rw[hcs,Array.toList_map]at hv;obtain⟨a,_,rfl⟩:=List.mem_map.1 hv
    rfl)
 subst hcs;simp[Builtin.copy_,run_underlying Tryz.underlying136,Builtin.lenOf,Builtin.firstCells,sizeOf,typeInfo,hi0];simp at hst;rw[hst];rfl
theorem zE7: (Tryz.prog.info? 173).map (·.size)=some 8:=by kernel_rfl
def qQc: Nat->Nat->Nat->List Nat->Option (Nat×List Nat)
 | 0,_,_,_=>none
 | _+1,_,_,[]=>none
 | f+1,i,a,b::l=>if b<128 then some (a+b*128 ^ i,l) else qQc f (i+1) (a+b%128*128 ^ i) l
def zCo(l:List Nat): Option (Nat×List Nat):=qQc 9 0 0 l
theorem zEc: ∀(f i a:Nat) (l:List Nat),f+i<=9->a<128 ^ i->∀n l',qQc f i a l=some (n,l')->n<9223372036854775808/\∃p,l=p++l'/\1<=p.length
 | 0,_,_,_,_,_,_,_,h=>by cases h
 | _+1,_,_,[],_,_,_,_,h=>by cases h
 | f+1,i,a,b::l,hf,ha,n,l',h=>by
  have hp:∀x,x<128->a+x*128 ^ i<128 ^ (i+1):=λx hx=>by
   rw[Nat.pow_succ];have h1:x*128 ^ i<=127*128 ^ i:=Nat.mul_le_mul_right _ (by omega);omega
  unfold qQc at h
  split at h
  ·rename_i hb
   simp only[Option.some.injEq,Prod.mk.injEq]at h;obtain⟨rfl,rfl⟩:=h;have h2:=hp b hb;have h3:(128:Nat) ^ (i+1)<=128 ^ 9:=Nat.pow_le_pow_right (by omega) (by omega);have h4:(128:Nat) ^ 9=9223372036854775808:=by decide
   exact⟨by omega,[b],rfl,by simp⟩
  ·obtain⟨h1,p,h2,h3⟩:=zEc f (i+1) _ l (by omega) (hp (b%128) (Nat.mod_lt _ (by omega))) n l' h
   exact⟨h1,b::p,by rw[h2];rfl,by simp⟩
theorem zIy(a x i:Nat)(ha:a<128 ^ i): a ||| x*128 ^ i=a+x*128 ^ i:=by
 have e:(128:Nat) ^ i=2 ^ (7*i):=by rw[Nat.pow_mul]
 rw[e]at ha ⊢;have:=Nat.shiftLeft_add_eq_or_of_lt ha x;rw[Nat.shiftLeft_eq]at this;rw[Nat.or_comm,<-this,Nat.add_comm]
theorem qZy(a x i:Nat)(hi:i<9)(ha:a<128 ^ i)(hx:x<256): ∃B Y:Nat,x%128=B/\B*128 ^ i=Y/\a+Y<128 ^ (i+1)/\bits BinOp.and IntKind.u8 (x:Int) 127=(B:Int)/\wrap64 ((B:Int)*2 ^ (7*i))=(Y:Int)/\wrap64 (B:Int)=(B:Int)/\bits .or .i64 (a:Int) (Y:Int)=((a+Y:Nat):Int):=by
 obtain⟨B,hB⟩:∃B,x%128=B:=⟨_,rfl⟩;have hB128:B<128:=by rw[<-hB];exact Nat.mod_lt _ (by omega)
 obtain⟨Y,hY⟩:∃Y,B*128 ^ i=Y:=⟨_,rfl⟩;have hsum:a+Y<128 ^ (i+1):=by
  rw[<-hY,Nat.pow_succ];have h1:B*128 ^ i<=127*128 ^ i:=Nat.mul_le_mul_right _ (by omega);generalize 128 ^ i=P at *;omega
 have hlt:a+Y<9223372036854775808:=by
  have hp1:(128:Nat) ^ (i+1)<=128 ^ 9:=Nat.pow_le_pow_right (by omega) (by omega);have h63:(128:Nat) ^ 9=9223372036854775808:=by decide
  rw[h63]at hp1;exact Nat.lt_of_lt_of_le hsum hp1
 have hor:=zIy a B i ha;rw[hY]at hor;have hbo:=qYd a Y (by omega) (by omega);rw[hor]at hbo;refine⟨B,Y,hB,hY,hsum,?_,?_,?_,hbo⟩
 ·have:=u8_and_nat x 127 hx (by omega)
  rw[nat_mask7,hB]at this;exact this
 ·have e:((B:Int)*2 ^ (7*i))=(Y:Int):=by
   rw[<-hY,Int.natCast_mul,Int.natCast_pow]
   congr 1
   rw[Int.pow_mul];rfl
  rw[e];have h1:=IntKind.wrap_i64 (Y:Int);have h9:(Y:Int)<9223372036854775808:=by omega
  unfold wrap64;clear e hor hsum hbo hY ha;omega
 ·have h1:=IntKind.wrap_i64 (B:Int)
  unfold wrap64;clear hor hsum hbo hY ha;omega
structure RdB (w:World) (r:Nat) (l:List Nat) (wr:Bool):Prop where
 blk:Blk w r [.string (qE3 l),.bool wr] 176
 len:l.length<=9223372036854775807
 byt:∀b,b∈l->b<256
theorem RdB.keeps{M:Nat->Prop}{w w':World}{r:Nat}{l:List Nat}{wr:Bool}(h:RdB w r l wr)(hk:Keeps M w w')(hn:¬M r): RdB w' r l wr:=⟨h.blk.keeps hk hn,h.len,h.byt⟩
def zD5: Option (Nat×List Nat)->Value
 | some (n,_)=>.tuple #[.int .i64 (n:Int),.bool true]
 | none=>.tuple #[.int .i64 0,.bool false]
def nxtL(l:List Nat): Option (Nat×List Nat)->List Nat
 | some (_,l')=>l'
 | none=>l
theorem zCs(r:Nat)(l:List Nat)(wg:Bool)(w:World)(h:RdB w r l wg):
  Calls Tryz.prog 134 #[.pointer (some ⟨r,0,none⟩)] w λe w'=>e=.returned (zD5 (zCo l))/\RdB w' r (nxtL l (zCo l)) wg/\Keeps (λi=>i=r) w w':=by
 have c0:w.cell? ⟨r,0,none⟩=some (.string (qE3 l)):=h.blk.cell rfl;have fz:=h.blk.frozen;have hsz:(qE3 l).size=l.length:=qLu l;have HG:=hide (show ∀i,i<l.length->∀h:i<(qE3 l).size,(((qE3 l)[i]'h).toNat:Int)=((l.getD i 0:Nat):Int) from λi hi hb=>zDb _ i hi (h.byt _ (by rw[List.getD_eq_getElem?_getD,List.getElem?_eq_getElem hi];exact List.getElem_mem hi)) hb);have HD:=hide (show ∀i,(qE3 l).extract (i+1) (qE3 l).size=qE3 (l.drop (i+1)) from λi=>qSn l (i+1));have HB:=hide h;have hln:=h.len;clear h;obtain⟨SZ,hSZ⟩:∃SZ:Nat,l.length=SZ:=⟨_,rfl⟩;rw[hSZ]at hsz hln;have HSZ:=hide hSZ;clear hSZ;generalize qE3 l=st at *;go_enter Tryz.func134,Tryz.ntmps134
 by_cases h9:(SZ:Int)<9
 all_goals
  go_wp2
  have H9:=hide h9;clear h9;go_loopw [4,13] (λnv iv wr=>∃i a:Nat,i<=9/\i<=SZ/\iv=.int .i64 i/\nv=.int .i64 (a:Int)/\wr=w/\Hid (a<128 ^ i)/\Hid (qQc (9-i) i a (l.drop i)=zCo l)) (λ_ iv _=>9-(intOf iv).toNat)
  case atStart=>exact⟨0,0,by omega,by omega,rfl,rfl,rfl,Nat.pow_pos (by omega),rfl⟩
  case round =>
   obtain⟨i,a,hi9',hiS',rfl,rfl,rfl,HA,HF⟩:=hrel
   by_cases hlt:i<SZ/\i<9
   ·have hil:i<l.length:=by rw[uh HSZ];exact hlt.1
    have hiK:(i:Int)<(SZ:Int):=by omega
    have hi9:(i:Int)<9:=by omega
    have hi0:(0:Int)<=(i:Int):=by omega
    have w7:IntKind.i64.wrap (7*(i:Int))=((7*i:Nat):Int):=by rw[IntKind.wrap_i64];omega
    have hib:=uh HG i hil (by omega);obtain⟨x,hx⟩:∃x,l.getD i 0=x:=⟨_,rfl⟩;rw[hx]at hib;have hgl:l[i]?=some x:=by
     rw[List.getElem?_eq_getElem hil];rw[List.getD_eq_getElem?_getD,List.getElem?_eq_getElem hil]at hx;exact congrArg some hx
    have hx3:x<256:=(uh HB).byt x (List.mem_of_getElem? hgl);have hdr:l.drop i=x::l.drop (i+1):=by
     rw[List.drop_eq_getElem_cons hil];rw[List.getElem?_eq_getElem hil]at hgl;rw[Option.some.inj hgl]
    have hf9:9-i=(9-(i+1))+1:=by omega
    have hF:=uh HF;rw[hdr,hf9]at hF;unfold qQc at hF;obtain⟨B,Y,hB,hY,hsum,a7,hsh,hwB,hbo⟩:=qZy a x i hlt.2 (uh HA) hx3;have HS:=hide hsum;have HFF:=hide hF;have HBX:=hide hB;have HY:=hide hY;clear hB hY hx hF hdr hf9 hgl hsum hil
    by_cases hxl:x<128
    ·have hxi:(x:Int)<128:=by omega
     have hex:=uh HD i;rw[hsz]at hex;have hR:zCo l=some (a+Y,l.drop (i+1)):=by
      have hF:=uh HFF;rw[if_pos hxl]at hF;rw[<-hF,<-uh HY,<-uh HBX,Nat.mod_eq_of_lt hxl]
     have HR:=hide hR;have HBN:=hide ((uh HB).blk.setCell 0 (.string (qE3 (l.drop (i+1)))));have HKN:=hide ((Keeps.refl (λi=>i=r) wr).setCell (p:=⟨r,0,none⟩) (Or.inl rfl) (.string (qE3 (l.drop (i+1)))));clear hR;generalize a+Y=n at *;go_wp2
     refine bodyPost_ret (v:=.tuple #[.int .i64 (n:Int),.bool true]) (by simp[results,Tryz.results134,go_sem]) rfl ?_;rw[uh HR];exact⟨rfl,⟨uh HBN,by show(l.drop (i+1)).length<=_;rw[List.length_drop];have:=(uh HB).len;omega,λb hb=>(uh HB).byt b (List.mem_of_mem_drop hb)⟩,uh HKN⟩
    ·have hxi:decide ((x:Int)<128)=false:=by simp;omega
     have HN:=hide (show qQc (9-(i+1)) (i+1) (a+Y) (l.drop (i+1))=zCo l by
        have hF:=uh HFF;rw[if_neg hxl]at hF
        rw[<-hF,<-uh HY,<-uh HBX])
     have HSN:=hide (uh HS);generalize a+Y=n at *;go_wp2
     go_roundw
     case rel=>exact⟨i+1,n,by omega,by omega,by go_num,rfl,by trivial,HSN,HN⟩
     case measure=>simp[intOf];omega
   ·have hR:zCo l=none:=by
     have hF:=uh HF;rcases Nat.lt_or_ge i 9 with h1 | h1
     ·have hnil:l.drop i=[]:=List.drop_eq_nil_of_le (by rw[uh HSZ];omega)
      rw[hnil,show 9-i=(9-(i+1))+1 by omega]at hF;exact hF.symm
     ·have:i=9:=by omega
      subst this;exact hF.symm
    have HR:=hide hR;have hle:(SZ:Int)<=(i:Int)\/(9:Int)<=(i:Int):=by omega
    clear hR HF;have h9:=uh H9;have hd:(i=SZ/\(SZ:Int)<9)\/(i=9/\¬(SZ:Int)<9):=by omega
    clear hle hlt;rcases hd with ⟨hd,hx⟩ | ⟨hd,hx⟩
    all_goals
     first
      | (exfalso;omega)
      | (clear h9 hx
         subst hd;go_wp2
         go_ret2
         rw[uh HR]
         exact⟨rfl,uh HB,Keeps.refl _ _⟩)
def RdS(w:World)(r:Nat)(st:Option (List Nat)): Prop:=∃l,RdB w r l st.isNone/\(st=none\/st=some l)
theorem RdS.keeps{M:Nat->Prop}{w w':World}{r:Nat}{st:Option (List Nat)}(h:RdS w r st)(hk:Keeps M w w')(hn:¬M r): RdS w' r st:=by
 obtain⟨l,h1,h2⟩:=h;exact⟨l,h1.keeps hk hn,h2⟩
theorem RdS.lt{w:World}{r:Nat}{st:Option (List Nat)}(h:RdS w r st): r<w.heap.size:=by
 obtain⟨l,h1,_⟩:=h;exact h1.blk.lt
def qAs(lo hi:Int)(st:Option (List Nat)): Int×Option (List Nat) :=
 match st with
 | none=>(lo,none)
 | some l=>match zCo l with
  | none=>(lo,none)
  | some (n,l')=>if inB (n:Int) lo hi then((n:Int),some l') else(lo,none)
def qEm(b:Bool)(st:Option (List Nat)): Option (List Nat):=if b then st else none
theorem qDi(r:Nat)(b:Bool)(st:Option (List Nat))(w:World)(h:RdS w r st): Calls Tryz.prog 135 #[.pointer (some ⟨r,0,none⟩),.bool b] w λe w'=>e=.returned (.tuple #[])/\RdS w' r (qEm b st)/\Keeps (λi=>i=r) w w':=by
 cases b with
 | true =>
  refine(qJb r w).mono ?_;rintro e w' ⟨rfl,rfl⟩;exact⟨rfl,h,Keeps.refl _ _⟩
 | false =>
  obtain⟨l,h1,_⟩:=h;obtain⟨u,hc⟩:∃u,w.cell? ⟨r,1,none⟩=some u:=⟨_,h1.blk.cell rfl⟩;have fz:=h1.blk.frozen;have HB:=hide (h1.blk.setCell 1 (.bool true));have HK:=hide ((Keeps.refl (λi=>i=r) w).setCell (p:=⟨r,1,none⟩) (Or.inl rfl) (.bool true));have HL:=hide h1;clear h1;go_enter Tryz.func135,Tryz.ntmps135
  go_wp2
  go_end0
  exact⟨rfl,⟨l,⟨uh HB,(uh HL).len,(uh HL).byt⟩,.inl rfl⟩,uh HK⟩
theorem qHe(r:Nat)(st:Option (List Nat))(w:World)(h:RdS w r st): Calls Tryz.prog 90 #[.pointer (some ⟨r,0,none⟩)] w λe w'=>e=.returned (.bool st.isNone)/\w'=w:=by
 obtain⟨l,h1,_⟩:=h;have hc:w.cell? ⟨r,1,none⟩=some (.bool st.isNone):=h1.blk.cell rfl;clear h1;generalize st.isNone=b at *;go_enter Tryz.func90,Tryz.ntmps90
 go_wp2
 go_ret
 exact⟨rfl,rfl⟩
theorem qCd(r:Nat)(lo hi:Int)(st:Option (List Nat))(w:World)(h:RdS w r st):
  Calls Tryz.prog 88 #[.pointer (some ⟨r,0,none⟩),.int .i64 lo,.int .i64 hi] w λe w'=>e=.returned (.int .i64 (qAs lo hi st).1)/\RdS w' r (qAs lo hi st).2/\Keeps (λi=>i=r) w w':=by
 obtain⟨l,h1,h2⟩:=h;obtain⟨wg,hwg⟩:∃wg,st.isNone=wg:=⟨_,rfl⟩;rw[hwg]at h1;have HN:=hide (zCs r l wg w h1);clear h1;cases hn:zCo l with
 | none =>
  have hR:qAs lo hi st=(lo,none):=by
   rcases h2 with e | e
   ·rw[e];rfl
   ·rw[e];unfold qAs;simp only;rw[hn]
  rw[hn]at HN;rw[hR];go_enter Tryz.func88,Tryz.ntmps88
  go_wp2_with fail
  refine(uh HN).mono ?_;rintro e w1 ⟨rfl,hr1,hk1⟩;have HR:=hide (show RdS w1 r (if wg then none else some l) from⟨l,by cases wg <;> exact hr1,by cases wg <;> simp⟩);have HK:=hide hk1;clear hr1 hk1 HN;unfold zD5;go_wp2_with fail
  refine(qDi r false _ w1 (uh HR)).mono ?_;rintro e w2 ⟨rfl,hr2,hk2⟩;have hr3:RdS w2 r none:=hr2;have HR2:=hide hr3;have HK2:=hide ((uh HK).then hk2);obtain⟨l2,h4,_⟩:=hr3;have hc:w2.cell? ⟨r,1,none⟩=some (.bool true):=h4.blk.cell rfl;clear hr2 hk2 h4;go_wp2
  go_ret
  exact⟨rfl,uh HR2,uh HK2⟩
 | some q =>
  obtain⟨n,l'⟩:=q;rw[hn]at HN;cases hb:inB (n:Int) lo hi with
  | false =>
   have hR:qAs lo hi st=(lo,none):=by
    rcases h2 with e | e
    ·rw[e];rfl
    ·rw[e];unfold qAs;simp only;rw[hn];simp only;rw[hb];rfl
   rw[hR];go_enter Tryz.func88,Tryz.ntmps88
   go_wp2_with fail
   refine(uh HN).mono ?_;rintro e w1 ⟨rfl,hr1,hk1⟩;have HR:=hide (show RdS w1 r (if wg then none else some l') from⟨l',by cases wg <;> exact hr1,by cases wg <;> simp⟩);have HK:=hide hk1;clear hr1 hk1 HN;unfold zD5;go_wp2_with fail
   refine(qAg n lo hi _).mono ?_;rintro e w2 ⟨rfl,hw2⟩;rw[hw2,hb];clear hw2 w2;go_wp2_with fail
   refine(qDi r false _ w1 (uh HR)).mono ?_;rintro e w2 ⟨rfl,hr2,hk2⟩;have hr3:RdS w2 r none:=hr2;have HR2:=hide hr3;have HK2:=hide ((uh HK).then hk2);obtain⟨l2,h4,_⟩:=hr3;have hc:w2.cell? ⟨r,1,none⟩=some (.bool true):=h4.blk.cell rfl;clear hr2 hk2 h4;go_wp2
   go_ret
   exact⟨rfl,uh HR2,uh HK2⟩
  | true =>
   have hR:qAs lo hi st=if wg then(lo,none) else((n:Int),some l'):=by
    rcases h2 with e | e
    ·rw[e]at hwg ⊢;rw[<-hwg];rfl
    ·rw[e]at hwg ⊢;rw[<-hwg];unfold qAs;simp only;rw[hn];simp only;rw[hb];rfl
   rw[hR];go_enter Tryz.func88,Tryz.ntmps88
   go_wp2_with fail
   refine(uh HN).mono ?_;rintro e w1 ⟨rfl,hr1,hk1⟩;have hc:w1.cell? ⟨r,1,none⟩=some (.bool wg):=hr1.blk.cell rfl;have HR:=hide hr1;have HK:=hide hk1;clear hr1 hk1 HN;unfold zD5;go_wp2_with fail
   refine(qAg n lo hi _).mono ?_;rintro e w2 ⟨rfl,hw2⟩;rw[hw2,hb];clear hw2 w2;go_wp2_with fail
   refine(qJb r _).mono ?_;rintro e w2 ⟨rfl,hw2⟩;rw[hw2];clear hw2 w2;cases wg with
   | true =>
    go_wp2
    go_ret
    exact⟨rfl,⟨l',uh HR,.inl rfl⟩,uh HK⟩
   | false =>
    go_wp2
    go_ret
    exact⟨rfl,⟨l',uh HR,.inr rfl⟩,uh HK⟩
theorem qB4(lo hi:Int)(st:Option (List Nat)): lo<=(qAs lo hi st).1/\((qAs lo hi st).1<=hi\/(qAs lo hi st).1=lo)/\((qAs lo hi st).2≠none->(qAs lo hi st).1<=hi):=by
 unfold qAs
 split
 ·exact⟨Int.le_refl _,.inr rfl,λh=>absurd rfl h⟩
 ·split
  ·exact⟨Int.le_refl _,.inr rfl,λh=>absurd rfl h⟩
  ·split
   ·rename_i h
    obtain⟨a,b⟩:=qCq h;exact⟨a,.inl b,λ_=>b⟩
   ·exact⟨Int.le_refl _,.inr rfl,λh=>absurd rfl h⟩
def qAy: Nat->Option (List Nat)->List Int×Option (List Nat)
 | 0,st=>([],st)
 | k+1,st=>((qAs 0 9223372036854775807 st).1::(qAy k (qAs 0 9223372036854775807 st).2).1,(qAy k (qAs 0 9223372036854775807 st).2).2)
theorem qEf(k:Nat): ∀st,(qAy k st).1.length=k:=by
 induction k with
 | zero=>intro st;rfl
 | succ k ih=>intro st;unfold qAy;rw[List.length_cons,ih]
theorem qYu(a b:Nat): ∀st,qAy (a+b) st=((qAy a st).1++(qAy b (qAy a st).2).1,(qAy b (qAy a st).2).2):=by
 induction a with
 | zero=>intro st;rw[Nat.zero_add];rfl
 | succ a ih =>
  intro st;rw[Nat.succ_add];show((qAs 0 9223372036854775807 st).1::(qAy (a+b) (qAs 0 9223372036854775807 st).2).1,(qAy (a+b) (qAs 0 9223372036854775807 st).2).2)=_;rw[ih];rfl
theorem qU9(k:Nat)(st:Option (List Nat)): qAy (k+1) st=((qAy k st).1++[(qAs 0 9223372036854775807 (qAy k st).2).1],(qAs 0 9223372036854775807 (qAy k st).2).2):=qYu k 1 st
theorem qMo(r cb:Nat)(os:List Nat)(cs:List Value)(T:TypeId)(pv:Value)(base:Nat)(st:Option (List Nat))(w:World)(h:RdS w r st)(hp:w.ownsRow base 170 1 pv os.length (qC7 (at' cb os)))(hb:Blk w cb cs T)(ho:∀o,o∈os->o<cs.length)(hne:cb≠r)(hpv:∀i,pv.ownBlock=some i->i≠r/\i≠cb)(hl2:os.length<=1000):
  Calls Tryz.prog 139 #[.pointer (some ⟨r,0,none⟩),pv] w λe w'=>e=.returned (.tuple #[])/\RdS w' r (qAy os.length st).2/\Blk w' cb (qLj cs os (qAy os.length st).1) T/\Keeps (λi=>i=r\/i=cb) w w':=by
 have HR:=hide h;have HP:=hide hp;have HB:=hide hb;have HO:=hide ho;have HPV:=hide hpv;obtain⟨va,vcap,hv,hva⟩:=qCh hp;have HVA:=hide hva;clear h hp hb ho hpv hva;subst hv;generalize hm:os.length=m at *;have HM:=hide hm;clear hm;go_enter Tryz.func139,Tryz.ntmps139
 go_wp2
 go_loopw [8] (λi wr=>∃k:Nat,i=.int .i64 k/\k<=m/\Hid (RdS wr r (qAy k st).2)/\Hid (Blk wr cb (qLj cs (os.take k) (qAy k st).1) T)/\Hid (Keeps (λi=>i=r\/i=cb) w wr)) (λi _=>m-(intOf i).toNat)
 case atStart=>exact⟨0,rfl,Nat.zero_le _,HR,HB,Keeps.refl _ _⟩
 case round =>
  obtain⟨k,rfl,hk,HRr,HBr,HKr⟩:=hrel
  by_cases hlk:k<m
  ·obtain⟨g,hg,hgb⟩:=uh HVA (by omega)
   subst hg;have hkp:k<os.length:=by rw[uh HM];exact hlk
   obtain⟨o,hok⟩:∃o,os[k]?=some o:=⟨_,List.getElem?_eq_getElem hkp⟩;have hrow:=qNn (uh HP) (uh HKr) (λi hi he=>by have:=uh HPV i hi;rcases he with e | e <;> omega);have hck:wr.cell? ⟨g,k,none⟩=some (.pointer (some ⟨cb,o,none⟩)):=by
    rcases qKj hrow with ⟨h0,_⟩ | ⟨g',cap',hv',hc⟩
    ·omega
    ·cases hv';exact hc k _ (by unfold qC7 at';rw[List.getElem?_map,List.getElem?_map,hok];rfl)
   have hol:=uh HO o (List.mem_of_getElem? hok);have hsn:=qU9 k st;have HNG:=hide (qCd r 0 9223372036854775807 (qAy k st).2 wr (uh HRr))
   have HTK:=hide (show qLj cs (os.take (k+1)) ((qAy k st).1++[(qAs 0 9223372036854775807 (qAy k st).2).1])=(qLj cs (os.take k) (qAy k st).1).set o (.int .i64 (qAs 0 9223372036854775807 (qAy k st).2).1) by
      rw[List.take_add_one,hok]
      exact zB6 _ _ _ _ _ (by rw[List.length_take,uh HM,qEf];omega))
   generalize qAs 0 9223372036854775807 (qAy k st).2=q at *;obtain⟨n,st2⟩:=q;have HSN:=hide hsn;have hk0:(0:Int)<=(k:Int):=by omega
   have hkm:(k:Int)<(m:Int):=by omega
   clear hrow hok hkp hsn;go_wp2_with fail
   refine(uh HNG).mono ?_;rintro e w1 ⟨rfl,hr1,hk1⟩;have HR1:=hide hr1;have HB1:=hide ((uh HBr).keeps hk1 hne);have HK1:=hide ((uh HKr).trans hk1 (λi hi _=>.inl hi));clear hr1 hk1 hck;obtain⟨u,hu⟩:∃u,(qLj cs (os.take k) (qAy k st).1)[o]?=some u:=⟨_,List.getElem?_eq_getElem (by rw[qUz];exact hol)⟩;have hcu:=(uh HB1).cell hu;have hfz:=(uh HB1).frozen o;have HB2:=hide ((uh HB1).setCell o (.int .i64 n));have HR2:=hide ((uh HR1).keeps ((Keeps.refl (λi=>i=cb) w1).setCell (p:=⟨cb,o,none⟩) (Or.inl rfl) (.int .i64 n)) (λe=>hne e.symm));have HK2:=hide ((uh HK1).setCell (p:=⟨cb,o,none⟩) (Or.inl (.inr rfl)) (.int .i64 n));clear hu;go_wp2
   go_roundw
   case rel=>exact⟨k+1,by go_num,by omega,hide (by rw[uh HSN];exact uh HR2),hide (by rw[uh HSN,uh HTK];exact uh HB2),HK2⟩
   case measure=>simp[intOf];omega
  ·have hkm:k=m:=by omega
   subst hkm;have h1:os.take k=os:=List.take_of_length_le (by rw[uh HM];exact Nat.le_refl _);rw[h1]at HBr;go_wp2
   go_end0
   exact⟨rfl,uh HRr,uh HBr,uh HKr⟩
def bytesOf(t:ByteArray): List Nat:=t.data.toList.map UInt8.toNat
theorem qXt(t:ByteArray): ∀b,b∈bytesOf t->b<256:=λb hb=>by
 obtain⟨u,_,rfl⟩:=List.mem_map.1 hb;exact u.toNat_lt
theorem qR9(t:ByteArray): qE3 (bytesOf t)=t:=by
 unfold qE3 strOfNums bytesOf;apply ByteArray.ext;simp[List.map_map,Function.comp_def]
theorem bytesOf_length(t:ByteArray): (bytesOf t).length=t.size:=by unfold bytesOf;rw[List.length_map];rfl
theorem qRa(l:List Nat)(h:∀b,b∈l->b<256): bytesOf (qE3 l)=l:=by
 unfold bytesOf qE3 strOfNums;simp only[List.map_map]
 conv=>rhs;rw[<-List.map_id l]
 refine List.map_congr_left (λb hb=>?_);have:=h b hb;simp;omega
def qGj(t:ByteArray): List UInt8:=(t.data.toList.take 8)++List.replicate (8-(t.data.toList.take 8).length) 0
theorem qHc(t:ByteArray): (qGj t).length=8:=by
 unfold qGj;rw[List.length_append,List.length_replicate];have:(t.data.toList.take 8).length<=8:=by rw[List.length_take];omega
 omega
def u8V(l:List UInt8): List Value:=l.map λb=>.int .u8 (b.toNat:Int)
def z8: List Value:=List.replicate 8 (.int .u8 0)
def qYb(t:ByteArray): List Value:=((t.extract 0 (Nat.min t.size 8)).data.map λ(b:UInt8)=>Value.int .u8 (b.toNat:Int)).toList
theorem qWq(t:ByteArray): qYb t=u8V (t.data.toList.take 8):=by
 unfold qYb u8V;rw[Array.toList_map]
 congr 1
 rw[ByteArray.data_extract,Array.toList_extract];simp only[List.extract,List.drop_zero,Nat.sub_zero];have hs:t.size=t.data.toList.length:=rfl;rw[hs];rcases Nat.le_total t.data.toList.length 8 with h | h
 ·rw[show Nat.min t.data.toList.length 8=t.data.toList.length from Nat.min_eq_left h,List.take_of_length_le (Nat.le_refl _),List.take_of_length_le h]
 ·rw[show Nat.min t.data.toList.length 8=8 from Nat.min_eq_right h]
theorem qK9(t:ByteArray): (qYb t).length<=8:=by
 rw[qWq];unfold u8V;rw[List.length_map,List.length_take];exact Nat.min_le_left _ _
theorem zBs(t:ByteArray): over z8 0 (qYb t)=u8V (qGj t):=by
 unfold over qGj;rw[qWq,List.take_zero,List.nil_append,Nat.zero_add];unfold u8V z8;rw[List.map_append,List.map_replicate,List.drop_replicate,List.length_map];rfl
theorem list8{α:Type}(l:List α)(h:l.length=8): ∃a b c d e f g i,l=[a,b,c,d,e,f,g,i]:=by
 match l,h with
 | [a,b,c,d,e,f,g,i],_=>exact⟨a,b,c,d,e,f,g,i,rfl⟩
theorem qOq(t:ByteArray)(w:World): Calls Tryz.prog 133 #[.string t] w λe w'=>e=.returned (.agg (u8V (qGj t)).toArray)/\Keeps (λ_=>False) w w':=by
 obtain⟨W0,hW0⟩:∃W0,((w.alloc (.cells #[.int .u8 0,.int .u8 0,.int .u8 0,.int .u8 0,.int .u8 0,.int .u8 0,.int .u8 0,.int .u8 0] 173)).alloc (.cells #[.int .u8 0,.int .u8 0,.int .u8 0,.int .u8 0,.int .u8 0,.int .u8 0,.int .u8 0,.int .u8 0] 173))=W0:=⟨_,rfl⟩;have HW0:=hide (show Blk W0 (w.heap.size+1) z8 173 by rw[<-hW0];exact Blk.newAt (by simp) _ _);have HR0:=hide (show Blk W0 w.heap.size z8 173 by rw[<-hW0];exact(Blk.new w _ _).alloc _);have HK0:=hide (show Keeps (λ_=>False) w W0 by rw[<-hW0];exact((Keeps.refl _ _).alloc _).alloc _);obtain⟨W1,hW1⟩:∃W1,W0.setCells (w.heap.size+1) 0 (qYb t)=W1:=⟨_,rfl⟩;have hcp:(Builtin.copy_ #[136,9] 3 #[.slice (some ⟨w.heap.size+1,0,none⟩) 8 8,.string t]).run Tryz.prog ((w.alloc (.cells #[.int .u8 0,.int .u8 0,.int .u8 0,.int .u8 0,.int .u8 0,.int .u8 0,.int .u8 0,.int .u8 0] 173)).alloc (.cells #[.int .u8 0,.int .u8 0,.int .u8 0,.int .u8 0,.int .u8 0,.int .u8 0,.int .u8 0,.int .u8 0] 173))=.ok (goInt (Nat.min t.size 8)) W1:=by
  rw[hW0,<-hW1];refine qSp W0 3 (w.heap.size+1) 8 8 _ _ rfl (λj hj=>?_) (λj _=>(uh HW0).frozen j);have:=qK9 t;exact(uh HW0).some (show j<z8.length by show j<8;omega)
 have hb1:=Blk.setCells (qYb t) 0 W0 z8 (uh HW0) (by have:=qK9 t;show 0+_<=8;omega);rw[hW1,zBs]at hb1;obtain⟨c0,c1,c2,c3,c4,c5,c6,c7,hc⟩:=list8 (qGj t) (qHc t);have hU:u8V (qGj t)=[.int .u8 (c0.toNat:Int),.int .u8 (c1.toNat:Int),.int .u8 (c2.toNat:Int),.int .u8 (c3.toNat:Int),.int .u8 (c4.toNat:Int),.int .u8 (c5.toNat:Int),.int .u8 (c6.toNat:Int),.int .u8 (c7.toNat:Int)]:=by rw[hc];rfl
 rw[hU]at hb1 ⊢;generalize(c0.toNat:Int)=u0 at *;generalize(c1.toNat:Int)=u1 at *;generalize(c2.toNat:Int)=u2 at *;generalize(c3.toNat:Int)=u3 at *;generalize(c4.toNat:Int)=u4 at *;generalize(c5.toNat:Int)=u5 at *;generalize(c6.toNat:Int)=u6 at *;generalize(c7.toNat:Int)=u7 at *;have hk1:Keeps (λi=>i=w.heap.size+1) W0 W1:=by rw[<-hW1];exact Keeps.setCells (M:=λi=>i=w.heap.size+1) (b:=w.heap.size+1) (Or.inl rfl) _ _ _ (Keeps.refl _ _)
 have HK1:=hide ((uh HK0).trans hk1 (λi hi hlt=>by omega));have hr1:=(uh HR0).keeps hk1 (by omega);have a0:=hb1.cell (i:=0) rfl;have a1:=hb1.cell (i:=1) rfl;have a2:=hb1.cell (i:=2) rfl;have a3:=hb1.cell (i:=3) rfl;have a4:=hb1.cell (i:=4) rfl;have a5:=hb1.cell (i:=5) rfl;have a6:=hb1.cell (i:=6) rfl;have a7:=hb1.cell (i:=7) rfl;have b0:=hr1.cell (i:=0) rfl;have b1:=hr1.cell (i:=1) rfl;have b2:=hr1.cell (i:=2) rfl;have b3:=hr1.cell (i:=3) rfl;have b4:=hr1.cell (i:=4) rfl;have b5:=hr1.cell (i:=5) rfl;have b6:=hr1.cell (i:=6) rfl;have b7:=hr1.cell (i:=7) rfl;have bf:=hr1.frozen;have HK2:=hide ((((((((((uh HK1).setCell (p:=⟨w.heap.size,0,none⟩) (Or.inr (Nat.le_refl _)) (.int .u8 u0)).setCell (p:=⟨w.heap.size,1,none⟩) (Or.inr (Nat.le_refl _)) (.int .u8 u1)).setCell (p:=⟨w.heap.size,2,none⟩) (Or.inr (Nat.le_refl _)) (.int .u8 u2)).setCell (p:=⟨w.heap.size,3,none⟩) (Or.inr (Nat.le_refl _)) (.int .u8 u3)).setCell (p:=⟨w.heap.size,4,none⟩) (Or.inr (Nat.le_refl _)) (.int .u8 u4)).setCell (p:=⟨w.heap.size,5,none⟩) (Or.inr (Nat.le_refl _)) (.int .u8 u5)).setCell (p:=⟨w.heap.size,6,none⟩) (Or.inr (Nat.le_refl _)) (.int .u8 u6)).setCell (p:=⟨w.heap.size,7,none⟩) (Or.inr (Nat.le_refl _)) (.int .u8 u7)));have HF:=hide (show Blk _ w.heap.size [.int .u8 u0,.int .u8 u1,.int .u8 u2,.int .u8 u3,.int .u8 u4,.int .u8 u5,.int .u8 u6,.int .u8 u7] 173 from(((((((hr1.setCell 0 (.int .u8 u0)).setCell 1 (.int .u8 u1)).setCell 2 (.int .u8 u2)).setCell 3 (.int .u8 u3)).setCell 4 (.int .u8 u4)).setCell 5 (.int .u8 u5)).setCell 6 (.int .u8 u6)).setCell 7 (.int .u8 u7));clear hW0 hW1 hk1 hb1 hr1 hc hU;go_enter Tryz.func133,Tryz.ntmps133
 go_wp2
 clear a0 a1 a2 a3 a4 a5 a6 a7 b0 b1 b2 b3 b4 b5 b6 b7 bf hcp;generalize(((((((W1.setCell ⟨w.heap.size,0,none⟩ (.int .u8 u0)).setCell ⟨w.heap.size,1,none⟩ (.int .u8 u1)).setCell ⟨w.heap.size,2,none⟩ (.int .u8 u2)).setCell ⟨w.heap.size,3,none⟩ (.int .u8 u3)).setCell ⟨w.heap.size,4,none⟩ (.int .u8 u4)).setCell ⟨w.heap.size,5,none⟩ (.int .u8 u5)).setCell ⟨w.heap.size,6,none⟩ (.int .u8 u6)).setCell ⟨w.heap.size,7,none⟩ (.int .u8 u7)=W2 at *;have HLV:=hide (show(loadVar 173 ⟨w.heap.size,0,none⟩).run Tryz.prog W2=.ok (.agg #[.int .u8 u0,.int .u8 u1,.int .u8 u2,.int .u8 u3,.int .u8 u4,.int .u8 u5,.int .u8 u6,.int .u8 u7]) W2 from run_loadVar_mid W2 w.heap.size 0 173 [.int .u8 u0,.int .u8 u1,.int .u8 u2,.int .u8 u3,.int .u8 u4,.int .u8 u5,.int .u8 u6,.int .u8 u7] _ (λj v hv=>by rw[Nat.zero_add];exact(uh HF).cell hv) Tryz.underlying173 rfl (by rw[zE7];rfl));refine bodyPost_ret (v:=.agg #[.int .u8 u0,.int .u8 u1,.int .u8 u2,.int .u8 u3,.int .u8 u4,.int .u8 u5,.int .u8 u6,.int .u8 u7]) (by simp[results,Tryz.results133,asAddr,uh HLV]) rfl ?_;exact⟨rfl,uh HK2⟩
def qKr: List UInt8:=[115,107,101,116,99,104,32,49]
theorem qXa: qGj (qE3 (qFi++[]))=qKr:=by kernel_rfl
theorem zJb(w:World): (sizeOf 5).run Tryz.prog w=.ok 1 w:=by kernel_rfl
theorem head_eq(xs ys:List UInt8)(hx:xs.length=8)(hy:ys.length=8)(w:World): (Op.equalIn 10000 173 (.agg (u8V xs).toArray) (.agg (u8V ys).toArray)).run Tryz.prog w=.ok (xs==ys) w :=
 run_equalIn_bytes w 9998 173 5 8 (by kernel_rfl) (by kernel_rfl) (λw=>zJb w) xs ys hx hy
theorem qW7{t:ByteArray}(h:qGj t=qKr): 8<=t.size:=by
 have hs:t.size=t.data.toList.length:=rfl;rw[hs];refine Nat.le_of_not_lt (λhlt=>?_);have h1:(qGj t)[7]?=some 0:=by
  unfold qGj;rw[List.getElem?_append_right (by rw[List.length_take];omega),List.getElem?_replicate,if_pos (by rw[List.length_take];omega)]
 rw[h]at h1;have h2:qKr[7]?=some 49:=rfl;rw[h2]at h1;exact absurd (Option.some.inj h1) (by decide)
def qLm(t:ByteArray): Option (List Nat):=if qGj t=qKr then some ((bytesOf t).drop 8) else none
theorem qPo(t:ByteArray)(w:World)(hl:t.size<=9223372036854775807): Calls Tryz.prog 87 #[.string t] w λe w'=>∃r,e=.returned (.pointer (some ⟨r,0,none⟩))/\w.heap.size<=r/\RdS w' r (qLm t)/\Keeps (λ_=>False) w w':=by
 have HE:=hide (λw=>head_eq (qGj t) (qGj (qE3 (qFi++[]))) (qHc _) (qHc _) w);have HH:=hide (qOq t);have HG:=hide (qOq (qE3 (qFi++[])));rw[qXa]at HE HG
 by_cases h:qGj t=qKr
 ·have hs:=qW7 h
  have hdr:t.extract 8 t.size=qE3 ((bytesOf t).drop 8):=by
   have h1:=qSn (bytesOf t) 8;rw[qR9]at h1;exact h1
  have HN:=hide (show qLm t=some ((bytesOf t).drop 8) by unfold qLm;rw[if_pos h]);have HLN:=hide (show((bytesOf t).drop 8).length<=9223372036854775807 by rw[List.length_drop,bytesOf_length];omega);have HBY:=hide (show ∀b,b∈(bytesOf t).drop 8->b<256 from λb hb=>qXt t b (List.mem_of_mem_drop hb));rw[h]at HE HH;clear h;obtain⟨SZ,hSZ⟩:∃SZ,t.size=SZ:=⟨_,rfl⟩;rw[hSZ]at hdr hs hl;generalize(bytesOf t).drop 8=rest at *;generalize u8V qKr=fU at *;go_enter Tryz.func87,Tryz.ntmps87
  go_wp2_with fail
  refine(uh HH w).mono ?_;rintro e w1 ⟨rfl,hk1⟩;have HK1:=hide hk1;clear hk1;go_wp2_with fail
  have hF:(Value.string ⟨#[115,107,101,116,99,104,32,49]⟩)=.string (qE3 (qFi++[])):=by kernel_rfl
  rw[hF];refine(uh HG w1).mono ?_;rintro e w2 ⟨rfl,hk2⟩;have HK2:=hide ((uh HK1).then hk2);have hq:=uh HE w2;rw[show(qKr==qKr)=true from by decide]at hq;clear hk2 HK1 hF;have HRB:=hide (Blk.new w2 [.string (qE3 rest),.bool false] 176);have HK3:=hide ((uh HK2).alloc (.cells #[.string (qE3 rest),.bool false] 176));have hle:=(uh HK2).size;have h8:(8:Int)<=(SZ:Int):=by omega
  go_wp2
  go_ret
  exact⟨_,rfl,hle,by rw[uh HN];exact⟨rest,⟨uh HRB,uh HLN,uh HBY⟩,.inr rfl⟩,uh HK3⟩
 ·have HN:=hide (show qLm t=none by unfold qLm;rw[if_neg h])
  have hbe:(qGj t==qKr)=false:=by simpa using h
  rw[hbe]at HE;clear h hbe;generalize u8V (qGj t)=tU at *;generalize u8V qKr=fU at *;go_enter Tryz.func87,Tryz.ntmps87
  go_wp2_with fail
  refine(uh HH w).mono ?_;rintro e w1 ⟨rfl,hk1⟩;have HK1:=hide hk1;clear hk1;go_wp2_with fail
  have hF:(Value.string ⟨#[115,107,101,116,99,104,32,49]⟩)=.string (qE3 (qFi++[])):=by kernel_rfl
  rw[hF];refine(uh HG w1).mono ?_;rintro e w2 ⟨rfl,hk2⟩;have HK2:=hide ((uh HK1).then hk2);have hq:=uh HE w2;clear hk2 HK1 hF;have HRB:=hide (show Blk (w2.alloc (.cells #[.string ⟨#[]⟩,.bool true] 176)) w2.heap.size [.string (qE3 []),.bool true] 176 from Blk.new w2 [.string ⟨#[]⟩,.bool true] 176);have HK3:=hide ((uh HK2).alloc (.cells #[.string ⟨#[]⟩,.bool true] 176));have hle:=(uh HK2).size;go_wp2
  go_ret
  exact⟨_,rfl,hle,by rw[uh HN];exact⟨[],⟨uh HRB,by simp,λb hb=>by cases hb⟩,.inl rfl⟩,uh HK3⟩
def qKz: Cfg:=⟨0,0,0,0,0,0,0,0,0,0,0,0,0,0,0,0,0,0,0,0⟩
def zDd(c:Cfg): Cfg:={ qKz with kind:=c.kind }
def zCb(c:Cfg): Cfg:={ qKz with kind:=c.kind,lag:=c.lag,skew:=c.skew,cap:=c.cap }
def qL1(k:Nat)(c:Cfg): Cfg:=match k with
 | 1=>{ zCb c with k:=c.k,window:=c.window }
 | 2=>{ zCb c with bits:=c.bits,window:=c.window }
 | 3=>{ zCb c with rows:=c.rows,width:=c.width,panes:=c.panes,window:=c.window }
 | 4=>{ zCb c with degree:=c.degree,half:=c.half,mark:=c.mark }
 | _=>{ zCb c with degree:=c.degree,half:=c.half,mark:=c.mark,size:=c.size }
def qVj(p:Nat)(d c:Cfg): Cfg:={ d with s00:=if 1<=p then c.s00 else 0,s01:=if 1<=p then c.s01 else 0,s10:=if 2<=p then c.s10 else 0,s11:=if 2<=p then c.s11 else 0,s20:=if 3<=p then c.s20 else 0,s21:=if 3<=p then c.s21 else 0 }
def qDd(k:Nat)(c:Cfg): Cfg:=qVj (qA1 k c).toNat (qL1 k c) c
theorem zBq(c:Cfg): qLj qKz.cells [0] [c.kind]=(zDd c).cells:=rfl
theorem qUn(c:Cfg): qLj (zDd c).cells [1,2,3] ([1,2,3].map c.num)=(zCb c).cells:=rfl
theorem qY3(k:Nat)(c:Cfg)(h1:1<=k)(h5:k<=5): qLj (zCb c).cells (qBz k) ((qBz k).map c.num)=(qL1 k c).cells:=by
 rcases five h1 h5 with e | e | e | e | e <;> subst e <;> rfl
theorem qXl(k p:Nat)(c:Cfg)(h1:1<=k)(h5:k<=5)(hp:p<=3): qLj (qL1 k c).cells (qBq p) ((qBq p).map c.num)=(qVj p (qL1 k c) c).cells:=by
 have hp':p=0\/p=1\/p=2\/p=3:=by omega
 rcases five h1 h5 with e | e | e | e | e <;> subst e <;> rcases hp' with e | e | e | e <;> subst e <;> rfl
theorem qUg(k:Nat)(c:Cfg)(h1:1<=k)(h5:k<=5): qA1 k (qL1 k c)=qA1 k c:=by
 rcases five h1 h5 with e | e | e | e | e <;> subst e <;> rfl
theorem zIb(c:Cfg): c.cells.toArray.all (·.oneCell')=true:=by simp[Cfg.cells,Value.oneCell']
theorem qEz{w:World}{b:Nat}{zs:List Value}(c:Cfg)(h:Blk w b zs 32)(hz:zs.length=20): (qDr 32 (.pointer (some ⟨b,0,none⟩)) (.agg c.cells.toArray)).run Tryz.prog w=.ok .skip (w.setCells b 0 c.cells):=by
 unfold qDr;have ht:w.there b 0 c.cells.toArray.size:=by
  intro j hj;have hj':j<20:=hj;rw[Nat.zero_add];exact⟨h.some (by omega),h.frozen j⟩
 rw[Sem.run_bind,run_storeAt_mid _ b 0 32 c.cells.toArray ht (by rw[qOk];rfl) (zIb c),List.toList_toArray];rfl
theorem zCf: (Tryz.prog.info? 83).map (·.size)=some 6:=by kernel_rfl
theorem qJa(cs:List Value): ∀zs:List Value,zs.length=cs.length->over zs 0 cs=cs:=λzs h=>by
 unfold over;rw[List.take_zero,List.nil_append,Nat.zero_add,List.drop_eq_nil_iff.2 (by omega),List.append_nil]
def qEd(q:Int)(k:Nat)(a b d:List Int): Cfg :=
 ⟨q,a.getD 0 0,a.getD 1 0,a.getD 2 0,if k=1 then b.getD 0 0 else 0,if k=3 then b.getD 3 0 else b.getD 1 0,if k=2 then b.getD 0 0 else 0,if k=3 then b.getD 0 0 else 0,if k=3 then b.getD 1 0 else 0,if k=3 then b.getD 2 0 else 0,if k=5 then b.getD 3 0 else 0,b.getD 0 0,b.getD 1 0,b.getD 2 0,d.getD 0 0,d.getD 1 0,d.getD 2 0,d.getD 3 0,d.getD 4 0,d.getD 5 0⟩
theorem zE2{q:Int}{k:Nat}{a b d:List Int}(h:a.length=3): [1,2,3].map (qEd q k a b d).num=a:=by
 match a,h with
 | [x,y,z],_=>rfl
theorem zEd{q:Int}{k:Nat}{a b d:List Int}(h1:1<=k)(h5:k<=5)(h:b.length=(qBz k).length): (qBz k).map (qEd q k a b d).num=b:=by
 rcases five h1 h5 with e | e | e | e | e <;> subst e
 ·match b,h with
  | [x,y],_=>rfl
 ·match b,h with
  | [x,y],_=>rfl
 ·match b,h with
  | [x,y,z,u],_=>rfl
 ·match b,h with
  | [x,y,z],_=>rfl
 ·match b,h with
  | [x,y,z,u],_=>rfl
theorem zDi{q:Int}{k p:Nat}{a b d:List Int}(hp:p<=3)(h:d.length=2*p): (qBq p).map (qEd q k a b d).num=d:=by
 have:p=0\/p=1\/p=2\/p=3:=by omega
 rcases this with e | e | e | e <;> subst e
 ·match d,h with
  | [],_=>rfl
 ·match d,h with
  | [x,y],_=>rfl
 ·match d,h with
  | [x,y,z,u],_=>rfl
 ·match d,h with
  | [x,y,z,u,v,t],_=>rfl
theorem qE2(p:Nat): (qBq p).length=2*p:=by unfold qBq;rw[List.length_map,List.length_range]
structure LCS (w:World) (r cb:Nat) (d:Cfg) (st:Option (List Nat)) (w':World):Prop where
 cfg:Blk w' cb d.cells 32
 rcf:Blk w' w.heap.size qKz.cells 32
 rkd:Blk w' (w.heap.size+1) [.nilFunc,.nilFunc,.nilFunc,.nilFunc,.nilFunc,.nilFunc] 83
 rd:RdS w' r st
 kp:Keeps (λi=>i=r) w w'
 cbe:cb=w.heap.size+1+1
 rl:r<w.heap.size
theorem LCS.still{w:World}{r cb:Nat}{d:Cfg}{st:Option (List Nat)}{w' w'':World}(h:LCS w r cb d st w')(hk:Keeps (λ_=>False) w' w''): LCS w r cb d st w'' :=
 ⟨h.cfg.keeps hk (λh=>h),h.rcf.keeps hk (λh=>h),h.rkd.keeps hk (λh=>h),h.rd.keeps hk (λh=>h),h.kp.trans hk (λ_ h _=>h.elim),h.cbe,h.rl⟩
theorem qHp{w:World}{r cb:Nat}{d d':Cfg}{os:List Nat}{st:Option (List Nat)}{w':World}{pv:Value}{base:Nat}(h:LCS w r cb d st w')(hp:w'.ownsRow base 170 1 pv (at' cb os).length (qC7 (at' cb os)))(hd:qLj d.cells os (qAy os.length st).1=d'.cells)(ho:∀o,o∈os->o<20)(hpv:∀i,pv.ownBlock=some i->w.heap.size+1+1<i)(hl:os.length<=1000):
  Calls Tryz.prog 139 #[.pointer (some ⟨r,0,none⟩),pv] w' λe w''=>e=.returned (.tuple #[])/\LCS w r cb d' (qAy os.length st).2 w''/\Keeps (λi=>i=r\/i=cb) w' w'':=by
 have h1:=h.rl;have h2:=h.cbe;refine(qMo r cb os d.cells 32 pv base st w' h.rd (by have:=hp;unfold at' at this ⊢;rw[List.length_map]at this;exact this) h.cfg (λo hm=>ho o hm) (by omega) (λi hi=>by have:=hpv i hi;omega) hl).mono ?_;rintro e w2 ⟨rfl,hr,hb,hk⟩;rw[hd]at hb;exact⟨rfl,⟨hb,h.rcf.keeps hk (by omega),h.rkd.keeps hk (by omega),hr,h.kp.trans hk (λi hi hlt=>by omega),h.cbe,h.rl⟩,hk⟩
structure CfgD where
 c:Cfg
 k:Nat
 st:Option (List Nat)
 good:Bool
def qO0(c:Cfg)(k:Nat): Nat:=if (3:Int)<qA1 k c then 3 else(qA1 k c).toNat
def qUc(q:Int)(k:Nat)(st:Option (List Nat)): CfgD :=
 let a:=qAy 3 st
 let b:=qAy (qBz k).length a.2
 let p:=qO0 (qEd q k a.1 b.1 []) k
 let d:=qAy (2*p) b.2
 let c:=qEd q k a.1 b.1 d.1
 ⟨qVj p (qL1 k c) c,k,d.2,qA5 (qVj p (qL1 k c) c)⟩
def qMl(st:Option (List Nat)): CfgD :=
 let q:=qAs 0 9223372036854775807 st
 if inB q.1 1 5 then qUc q.1 q.1.toNat q.2 else⟨zDd (qEd q.1 0 [] [] []),0,q.2,false⟩
end
end Go.Proofs.YtahnliehdjncdabGreatDoor
