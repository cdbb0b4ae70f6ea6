import Derived.Laws.MathBits
import Derived.Lib.Tables
import Derived.Test.YtahnliehdjncdabGreatDoorXAH
import Derived.Test.YtahnliehdjncdabGreatDoorXAY
import Derived.Test.YtahnliehdjncdabGreatDoorXAI
import Derived.Test.YtahnliehdjncdabGreatDoorXAN
import Derived.Test.YtahnliehdjncdabGreatDoorXAX
set_option maxRecDepth 100000
set_option maxHeartbeats 16000000
namespace Go.Proofs.YtahnliehdjncdabGreatDoor
section
open Go.RowKit
theorem qGs(i:Nat)(h:i<256): Lib.len8 (i:Int)=(bitLen i:Int):=by
 have:∀i:Fin 256,Lib.len8 ((i.val:Nat):Int)=(bitLen i.val:Int):=by decide +kernel
 exact this ⟨i,h⟩
theorem qHn(i:Nat)(h:i<256): 0<=Lib.len8 (i:Int)/\Lib.len8 (i:Int)<=8:=by
 rw[qGs i h];have:=bitLen_le8 i h;omega
theorem zAa(x:Nat)(w:World)(hx:x<9223372036854775808):
  Calls Tryz.prog 228 #[.int .u64 x] w λe w'=>e=.returned (.int .i64 (bitLen x))/\w'=w:=by
 by_cases h0:4294967296<=x
 ·have d0:decide ((4294967296:Int)<=(x:Int))=true:=by simp;omega
  have s0:=bitLen_shift x 32 (by omega);obtain⟨y,hy⟩:∃y,x/4294967296=y:=⟨_,rfl⟩;have e0:(x:Int)/4294967296=(y:Int):=by omega
  rw[show x/2 ^ 32=y from hy]at s0;have b0:y<2147483648:=by omega
  by_cases h1:65536<=y
  ·have d1:decide ((65536:Int)<=(y:Int))=true:=by simp;omega
   have s1:=bitLen_shift y 16 (by omega);obtain⟨z,hz⟩:∃z,y/65536=z:=⟨_,rfl⟩;have e1:(y:Int)/65536=(z:Int):=by omega
   rw[show y/2 ^ 16=z from hz]at s1;have b1:z<32768:=by omega
   by_cases h2:256<=z
   ·have d2:decide ((256:Int)<=(z:Int))=true:=by simp;omega
    have s2:=bitLen_shift z 8 (by omega);obtain⟨u,hu⟩:∃u,z/256=u:=⟨_,rfl⟩;have e2:(z:Int)/256=(u:Int):=by omega
    rw[show z/2 ^ 8=u from hu]at s2;have b2:u<128:=by omega
    have u0:(0:Int)<=(u:Int):=by omega
    have u1:(u:Int)<=255:=by omega
    have w8:IntKind.u8.wrap (u:Int)=(u:Int):=by rw[IntKind.wrap_u8'];omega
    obtain⟨l0,l8⟩:=qHn u (by omega);have HF:=hide (show(bitLen x:Int)=56+Lib.len8 (u:Int) by rw[s0,s1,s2,qGs u (by omega)];omega);go_enter Tryz.func228,Tryz.ntmps228
    go_wp2
    go_ret
    exact⟨qBa (by rw[uh HF];try omega),rfl⟩
   ·have d2:decide ((256:Int)<=(z:Int))=false:=by simp;omega
    have u0:(0:Int)<=(z:Int):=by omega
    have u1:(z:Int)<=255:=by omega
    have w8:IntKind.u8.wrap (z:Int)=(z:Int):=by rw[IntKind.wrap_u8'];omega
    obtain⟨l0,l8⟩:=qHn z (by omega);have HF:=hide (show(bitLen x:Int)=48+Lib.len8 (z:Int) by rw[s0,s1,qGs z (by omega)];omega);go_enter Tryz.func228,Tryz.ntmps228
    go_wp2
    go_ret
    exact⟨qBa (by rw[uh HF];try omega),rfl⟩
  ·have d1:decide ((65536:Int)<=(y:Int))=false:=by simp;omega
   by_cases h2:256<=y
   ·have d2:decide ((256:Int)<=(y:Int))=true:=by simp;omega
    have s2:=bitLen_shift y 8 (by omega);obtain⟨u,hu⟩:∃u,y/256=u:=⟨_,rfl⟩;have e2:(y:Int)/256=(u:Int):=by omega
    rw[show y/2 ^ 8=u from hu]at s2;have b2:u<18446744073709551616:=by omega
    have u0:(0:Int)<=(u:Int):=by omega
    have u1:(u:Int)<=255:=by omega
    have w8:IntKind.u8.wrap (u:Int)=(u:Int):=by rw[IntKind.wrap_u8'];omega
    obtain⟨l0,l8⟩:=qHn u (by omega);have HF:=hide (show(bitLen x:Int)=40+Lib.len8 (u:Int) by rw[s0,s2,qGs u (by omega)];omega);go_enter Tryz.func228,Tryz.ntmps228
    go_wp2
    go_ret
    exact⟨qBa (by rw[uh HF];try omega),rfl⟩
   ·have d2:decide ((256:Int)<=(y:Int))=false:=by simp;omega
    have u0:(0:Int)<=(y:Int):=by omega
    have u1:(y:Int)<=255:=by omega
    have w8:IntKind.u8.wrap (y:Int)=(y:Int):=by rw[IntKind.wrap_u8'];omega
    obtain⟨l0,l8⟩:=qHn y (by omega);have HF:=hide (show(bitLen x:Int)=32+Lib.len8 (y:Int) by rw[s0,qGs y (by omega)];omega);go_enter Tryz.func228,Tryz.ntmps228
    go_wp2
    go_ret
    exact⟨qBa (by rw[uh HF];try omega),rfl⟩
 ·have d0:decide ((4294967296:Int)<=(x:Int))=false:=by simp;omega
  by_cases h1:65536<=x
  ·have d1:decide ((65536:Int)<=(x:Int))=true:=by simp;omega
   have s1:=bitLen_shift x 16 (by omega);obtain⟨z,hz⟩:∃z,x/65536=z:=⟨_,rfl⟩;have e1:(x:Int)/65536=(z:Int):=by omega
   rw[show x/2 ^ 16=z from hz]at s1;have b1:z<18446744073709551616:=by omega
   by_cases h2:256<=z
   ·have d2:decide ((256:Int)<=(z:Int))=true:=by simp;omega
    have s2:=bitLen_shift z 8 (by omega);obtain⟨u,hu⟩:∃u,z/256=u:=⟨_,rfl⟩;have e2:(z:Int)/256=(u:Int):=by omega
    rw[show z/2 ^ 8=u from hu]at s2;have b2:u<18446744073709551616:=by omega
    have u0:(0:Int)<=(u:Int):=by omega
    have u1:(u:Int)<=255:=by omega
    have w8:IntKind.u8.wrap (u:Int)=(u:Int):=by rw[IntKind.wrap_u8'];omega
    obtain⟨l0,l8⟩:=qHn u (by omega);have HF:=hide (show(bitLen x:Int)=24+Lib.len8 (u:Int) by rw[s1,s2,qGs u (by omega)];omega);go_enter Tryz.func228,Tryz.ntmps228
    go_wp2
    go_ret
    exact⟨qBa (by rw[uh HF];try omega),rfl⟩
   ·have d2:decide ((256:Int)<=(z:Int))=false:=by simp;omega
    have u0:(0:Int)<=(z:Int):=by omega
    have u1:(z:Int)<=255:=by omega
    have w8:IntKind.u8.wrap (z:Int)=(z:Int):=by rw[IntKind.wrap_u8'];omega
    obtain⟨l0,l8⟩:=qHn z (by omega);have HF:=hide (show(bitLen x:Int)=16+Lib.len8 (z:Int) by rw[s1,qGs z (by omega)];omega);go_enter Tryz.func228,Tryz.ntmps228
    go_wp2
    go_ret
    exact⟨qBa (by rw[uh HF];try omega),rfl⟩
  ·have d1:decide ((65536:Int)<=(x:Int))=false:=by simp;omega
   by_cases h2:256<=x
   ·have d2:decide ((256:Int)<=(x:Int))=true:=by simp;omega
    have s2:=bitLen_shift x 8 (by omega);obtain⟨u,hu⟩:∃u,x/256=u:=⟨_,rfl⟩;have e2:(x:Int)/256=(u:Int):=by omega
    rw[show x/2 ^ 8=u from hu]at s2;have b2:u<18446744073709551616:=by omega
    have u0:(0:Int)<=(u:Int):=by omega
    have u1:(u:Int)<=255:=by omega
    have w8:IntKind.u8.wrap (u:Int)=(u:Int):=by rw[IntKind.wrap_u8'];omega
    obtain⟨l0,l8⟩:=qHn u (by omega);have HF:=hide (show(bitLen x:Int)=8+Lib.len8 (u:Int) by rw[s2,qGs u (by omega)];omega);go_enter Tryz.func228,Tryz.ntmps228
    go_wp2
    go_ret
    exact⟨qBa (by rw[uh HF];try omega),rfl⟩
   ·have d2:decide ((256:Int)<=(x:Int))=false:=by simp;omega
    have u0:(0:Int)<=(x:Int):=by omega
    have u1:(x:Int)<=255:=by omega
    have w8:IntKind.u8.wrap (x:Int)=(x:Int):=by rw[IntKind.wrap_u8'];omega
    obtain⟨l0,l8⟩:=qHn x (by omega);have HF:=hide (show(bitLen x:Int)=0+Lib.len8 (x:Int) by rw[qGs x (by omega)];omega);go_enter Tryz.func228,Tryz.ntmps228
    go_wp2
    go_ret
    exact⟨qBa (by rw[uh HF];try omega),rfl⟩
theorem qUa(x:Nat)(w:World)(hx:x<9223372036854775808):
  Calls Tryz.prog 188 #[.int .u64 x] w λe w'=>e=.returned (.int .i64 (bitLen x))/\w'=w:=by
 have HL:=hide (zAa x w hx);go_enter Tryz.func188,Tryz.ntmps188
 go_wp2_with fail
 refine(uh HL).mono ?_;rintro e w' ⟨rfl,rfl⟩;go_wp2
 go_ret
 exact⟨rfl,rfl⟩
theorem qX5(j:Nat): bitLen (2 ^ j)=j+1:=by
 have h:(2:Nat) ^ j≠0:=Nat.ne_of_gt (Nat.two_pow_pos j);unfold bitLen;rw[if_neg h,Nat.log2_two_pow]
end
section
open Go.RowKit
def zA6(v:Value): Sem Next:=do pure (.value (<-Instr.field 214 v 1))
theorem qNv(ρ:Operand->Value)(dst:Option Tmp)(x:Operand)(ty:TypeId)(pos:String)(after:Array Edge)(guard:Option (Nat×Bool)):
  execOp ρ { dst,op:=.field 214 x 1,type:=ty,pos,after,guard }=zA6 (ρ x):=rfl
theorem qTm(a b:Value)(w:World): (zA6 (.agg #[a,b])).run Tryz.prog w=.ok (.value b) w:=by kernel_rfl
attribute [local go_sem ↓] qEv qNv
attribute [local go_sem] qGv qTm
def qMn(l:List Bk)(sz:Int)(s:Nat): Nat:=s+((l.drop s).takeWhile (λb=>decide (b.sz=sz))).length
theorem zB8(l:List Bk)(sz:Int)(s:Nat)(h:s<=l.length): s<=qMn l sz s/\qMn l sz s<=l.length:=by
 unfold qMn;have:=(List.takeWhile_prefix (l:=l.drop s) (λb=>decide (b.sz=sz))).length_le;rw[List.length_drop]at this;omega
theorem qOt(l:List Bk)(i:Nat)(h:i<l.length): l.drop i=qCf l i::l.drop (i+1):=by
 rw[List.drop_eq_getElem_cons h];simp[qCf,List.getD_eq_getElem?_getD,List.getElem?_eq_getElem h]
theorem zC7(l:List Bk)(sz:Int)(s:Nat)(h:s<l.length)(he:(qCf l s).sz=sz): qMn l sz s=qMn l sz (s+1):=by
 unfold qMn;rw[qOt l s h,List.takeWhile_cons_of_pos (by simpa using he),List.length_cons];omega
theorem zF4(l:List Bk)(sz:Int)(s:Nat)(h:s<l.length)(he:(qCf l s).sz≠sz): qMn l sz s=s:=by
 unfold qMn;rw[qOt l s h,List.takeWhile_cons_of_neg (by simpa using he)];rfl
theorem zDk(l:List Bk)(sz:Int): qMn l sz l.length=l.length:=by
 unfold qMn;rw[List.drop_length];rfl
theorem qZe(d r:Nat)(og:Option Nat)(c:Cfg)(l:List Bk)(sz:Int)(s:Nat)(w:World)(h:CRep w d r og c l)(hl:l.length<=4398046511104)(hs:s<=l.length):
  Calls Tryz.prog 190 #[.pointer (some ⟨d,0,none⟩),.int .i64 sz,.int .i64 s] w λr w'=>r=.returned (.int .i64 (qMn l sz s))/\Keeps (λ_=>False) w w':=by
 have HR:=hide h;clear h;obtain⟨n,hn⟩:∃n,l.length=n:=⟨_,rfl⟩;rw[hn]at hl hs;have HN:=hide hn;clear hn;go_enter Tryz.func190,Tryz.ntmps190
 go_wp2
 go_loopw [7] (λx wr=>∃k:Nat,x=.int .i64 k/\k<=n/\Hid (Keeps (λ_=>False) w wr)/\Hid (qMn l sz s=qMn l sz k)) (λx _=>n-(intOf x).toNat)
 case atStart=>exact⟨s,rfl,hs,Keeps.refl _ _,rfl⟩
 case round =>
  obtain⟨k,rfl,hk,HK,HE⟩:=hrel;have HC:=hide ((uh HR).still (uh HK));have hc20:wr.cell? ⟨d,20,none⟩=some (.pointer (some ⟨r,0,none⟩)):=(uh HC).blk.cell rfl
  have HLen:=hide (show Calls Tryz.prog 187 #[.pointer (some ⟨r,0,none⟩)] wr λe w'=>e=.returned (.int .i64 n)/\w'=wr by
     have:=rowLen_any r og l wr (uh HC).row;rw[uh HN]at this
     exact this)
  by_cases hlk:k<n
  ·have hkl:k<l.length:=by rw[uh HN];exact hlk
   have hlt:(k:Int)<(n:Int):=by omega
   have HAt:=hide (qEe r og l k wr (uh HC).row hkl);have HY:=hide (zC7 l sz k hkl);have HNo:=hide (zF4 l sz k hkl);clear hkl;generalize qCf l k=x at *;unfold Bk.val at HAt;go_wp2_with fail
   refine(uh HLen).mono ?_;rintro e w1 ⟨rfl,hw1⟩;rw[hw1];clear hw1 w1;go_wp2_with fail
   refine(uh HAt).mono ?_;rintro e w2 ⟨rfl,hk2⟩;have HK2:=hide ((uh HK).then hk2);clear hk2
   by_cases hx:x.sz=sz
   ·have hx':(x.sz==sz)=true:=by simpa using hx
    have HX:=hide hx;clear hx;go_wp2
    go_roundw
    case rel=>exact⟨k+1,by go_num,by omega,HK2,by show _=_;rw[uh HE,uh HY (uh HX)]⟩
    case measure=>simp[intOf];omega
   ·have hx':(x.sz==sz)=false:=by simpa using hx
    have HX:=hide hx;clear hx;go_wp2
    go_ret
    exact⟨by rw[uh HE,uh HNo (uh HX)];rfl,uh HK2⟩
  ·have hkn:k=n:=by omega
   subst hkn;have hf:decide ((k:Int)<(k:Int))=false:=by simp
   go_wp2_with fail
   refine(uh HLen).mono ?_;rintro e w1 ⟨rfl,hw1⟩;rw[hw1];clear hw1 w1;go_wp2
   go_ret
   refine⟨?_,uh HK⟩;rw[uh HE,<-uh HN,zDk];rfl
def qX6(l:List Bk): Nat->Nat->List Int
 | 0,_=>[]
 | f+1,s=>((qMn l (2 ^ f) s-s:Nat):Int)::(((l.drop s).take (qMn l (2 ^ f) s-s)).map (·.t)++qX6 l f (qMn l (2 ^ f) s))
def qE1(l:List Bk): Nat:=if l.length=0 then 0 else bitLen (qCf l 0).sz.toNat
def zD0(l:List Bk): List Int:=(qE1 l:Int)::qX6 l (qE1 l) 0
theorem qYw(l:List Bk)(s j:Nat)(x:Bk)(h:s+j<l.length)(hx:qCf l (s+j)=x): ((l.drop s).take (j+1)).map (·.t)=((l.drop s).take j).map (·.t)++[x.t]:=by
 have hj:j<(l.drop s).length:=by rw[List.length_drop];omega
 rw[List.take_add_one,List.map_append,List.getElem?_eq_getElem hj];subst hx;simp[qCf,List.getD_eq_getElem?_getD,List.getElem?_eq_getElem h]
theorem qMa(l:List Bk)(f s:Nat): qX6 l (f+1) s=((qMn l (2 ^ f) s-s:Nat):Int)::(((l.drop s).take (qMn l (2 ^ f) s-s)).map (·.t)++qX6 l f (qMn l (2 ^ f) s)):=rfl
theorem qVa(d r:Nat)(og:Option Nat)(c:Cfg)(l:List Bk)(b:Nat)(v:Value)(bs:List Nat)(m:Int)(w:World)(h:CRep w d r og c l)(hw:WRep w b v bs)(hf:∀i,qCc b v i->i≠d/\i≠r/\og≠some i)(hl:l.length<=1000000000000)(hsz:∀x∈l,1<=x.sz/\x.sz<4611686018427387904)(ht:∀x∈l,0<=x.t/\x.t<=9223372036854775807)(hbl:bs.length+10*l.length<=140737488350000):
  Calls Tryz.prog 148 #[.pointer (some ⟨d,0,none⟩),.pointer (some ⟨b,0,none⟩),.int .i64 m] w λe w'=>e=.returned (.tuple #[])/\Wrote w b v (bs++qBv (zD0 l)) w':=by
 have HC:=hide (show ∀w',Keeps (qCc b v) w w'->CRep w' d r og c l from λw' hk=>h.keeps hk (λhi=>(hf d hi).1 rfl) (λhi=>(hf r hi).2.1 rfl) (λg hg hi=>(hf g hi).2.2 hg));have hc20:w.cell? ⟨d,20,none⟩=some (.pointer (some ⟨r,0,none⟩)):=h.blk.cell rfl;obtain⟨n,hn⟩:∃n,l.length=n:=⟨_,rfl⟩
 have HLen:=hide (show ∀w',Keeps (qCc b v) w w'->Calls Tryz.prog 187 #[.pointer (some ⟨r,0,none⟩)] w' λe w1=>e=.returned (.int .i64 n)/\w1=w' from λw' hk=>by
    have:=rowLen_any r og l w' (uh HC w' hk).row;rw[hn]at this
    exact this)
 have HW:=hide (Wrote.refl hw);have HT:=hide ht
 have HSZ:=hide (show qE1 l<=62 by
    unfold qE1
    split
    ·omega
    ·rename_i h0
     have hb:=hsz (qCf l 0) (qGk (by omega));have hs:=bitLen_spec (qCf l 0).sz.toNat;have h2:=hs.2 (by omega);rcases Nat.lt_or_ge (bitLen (qCf l 0).sz.toNat-1) 62 with h3 | h3
     ·omega
     ·have:=Nat.pow_le_pow_right (show 1<=2 by omega) h3
      have e:(2:Nat) ^ 62=4611686018427387904:=by decide
      omega)
 have HSC:=hide (show zD0 l=(qE1 l:Int)::qX6 l (qE1 l) 0 from rfl)
 have HB0:=hide (show n≠0->∃x:Bk,qCf l 0=x/\0<=x.sz/\x.sz<4611686018427387904/\(qE1 l:Int)=(bitLen x.sz.toNat:Int)/\0<l.length from λh0=>by
    have hb:=hsz (qCf l 0) (qGk (by omega))
    exact⟨_,rfl,by omega,by omega,by unfold qE1;rw[if_neg (by omega)],by omega⟩)
 have HB1:=hide (show n=0->qE1 l=0 from λh0=>by unfold qE1;rw[if_pos (by omega)]);have HN:=hide hn;rw[hn]at hl hbl;clear h hw hf hsz ht hn;generalize hS:qE1 l=S at *;clear hS;have hS62:S<=62:=uh HSZ;have HC20:=hide (show ∀w',Keeps (qCc b v) w w'->w'.cell? ⟨d,20,none⟩=some (.pointer (some ⟨r,0,none⟩)) from λw' hk=>(uh HC w' hk).blk.cell rfl)
 by_cases hn0:n=0
 ·have hS0:=uh HB1 hn0
  subst hS0;subst hn0;go_enter Tryz.func148,Tryz.ntmps148
  go_wp2_with fail
  refine(uh HLen w (Keeps.refl _ _)).mono ?_;rintro e w1 ⟨rfl,hw1⟩;rw[hw1];clear hw1 w1;go_wp2_with fail
  refine(qB5 b v bs 0 w w (uh HW) (by omega) (by omega) (by omega)).mono ?_;rintro e w1 ⟨rfl,hw1⟩;have HO:=hide hw1;clear hw1;go_wp2_with fail
  go_loopw [7,8] (λx y wr=>x=.int .i64 0/\y=.int .i64 (-1)/\Hid (Wrote w b v (bs++enc 0) wr)) (λ_ _ _=>0)
  case atStart=>exact⟨rfl,rfl,HO⟩
  case round =>
   obtain⟨rfl,rfl,HO2⟩:=hrel;go_wp2
   go_end0
   refine⟨rfl,?_⟩;have:=uh HO2;rw[uh HSC,qAz];simpa[qX6,qB7] using this
 ·obtain⟨x,hx,x0,x1,hSx,hl0⟩:=uh HB0 hn0
  have HAt:=hide (qEe r og l 0 w (uh HC w (Keeps.refl _ _)).row hl0);rw[hx]at HAt;unfold Bk.val at HAt;obtain⟨y,hy⟩:=Int.eq_ofNat_of_zero_le x0;rw[hy]at x1 hSx HAt;have wq:IntKind.u64.wrap (y:Int)=(y:Int):=by rw[IntKind.wrap_u64];omega
  have HLN:=hide (qUa y);rw[Int.toNat_natCast]at hSx;have hSy:bitLen y=S:=by omega
  rw[hSy]at HLN;have hn1:(0:Int)<(n:Int):=by omega
  have hn2:0<n:=by omega
  clear hx hSx hSy hy x0 hn0 hl0 hn1;go_enter Tryz.func148,Tryz.ntmps148
  go_wp2_with fail
  refine(uh HLen w (Keeps.refl _ _)).mono ?_;rintro e w1 ⟨rfl,hw1⟩;rw[hw1];clear hw1 w1;go_wp2_with fail
  refine(uh HAt).mono ?_;rintro e w1 ⟨rfl,hk1⟩;have HW1:=hide ((uh HW).still hk1);clear hk1 hc20;go_wp2_with fail
  refine(uh HLN w1 (by omega)).mono ?_;rintro e w2 ⟨rfl,hw2⟩;rw[hw2];clear hw2 w2;go_wp2_with fail
  refine(qB5 b v bs S w w1 (uh HW1) (by omega) (by omega) (by omega)).mono ?_;rintro e w2 ⟨rfl,hw2⟩;have HO:=hide hw2;clear hw2 HW1;have hwS:IntKind.i64.wrap ((S:Int)-1)=(S:Int)-1:=by rw[IntKind.wrap_i64];omega
  have hlS:(bs++enc (S:Int)).length+10*n<=140737488350010:=by have:=qBs (S:Int);rw[List.length_append];omega
  obtain⟨bs0,hbs0⟩:∃bs0,bs++enc (S:Int)=bs0:=⟨_,rfl⟩;rw[hbs0]at hlS HO;have HBS:=hide hbs0;clear hbs0 hn2 HAt HLN wq x1;go_wp2_with fail
  go_loopw [7,8] (λx y wr=>∃(f s:Nat) (pre:List Int),x=.int .i64 s/\y=.int .i64 ((f:Int)-1)/\f<=S/\s<=n/\pre.length+f<=S+s/\Hid (qX6 l S 0=pre++qX6 l f s)/\Hid (Wrote w b v (bs0++qBv pre) wr)) (λ_ y _=>(intOf y+1).toNat)
  case atStart=>exact⟨S,0,[],rfl,rfl,by omega,by omega,by simp,by show _=_;rfl,by show Wrote _ _ _ _ _;rw[qB7,List.append_nil];exact uh HO⟩
  case round =>
   obtain⟨f,s,pre,rfl,rfl,hf,hs,hpl,HEQ,HOr⟩:=hrel;cases f with
   | zero =>
    go_wp2
    go_end0
    refine⟨rfl,?_⟩;have:=uh HOr;rw[uh HSC,qAz,uh HEQ];simp only[qX6,List.append_nil];rw[<-List.append_assoc,uh HBS];exact this
   | succ f =>
    have e1:((f+1:Nat):Int)-1=(f:Int):=by omega
    rw[e1];have p2:=qJ6 f (by omega);obtain⟨P,hP⟩:∃P,(2:Int) ^ f=P:=⟨_,rfl⟩;have HE:=hide (qZe d r og c l P s wr (uh HC wr (uh HOr).kp) (by rw[uh HN];omega) (by rw[uh HN];exact hs));have HSB:=hide (qMa l f s);rw[hP]at p2 HSB;have hle:=zB8 l P s (by rw[uh HN];exact hs);obtain⟨e,he⟩:∃e,qMn l P s=e:=⟨_,rfl⟩;rw[he]at HE HSB hle;rw[uh HN]at hle;obtain⟨hle1,hle2⟩:=hle;obtain⟨p21,p22⟩:=p2;clear he;have hk0:(0:Int)<=(f:Int):=by omega
    have hf62:(f:Int)<=61:=by omega
    obtain⟨q,hq⟩:∃q:Nat,e-s=q:=⟨_,rfl⟩;rw[hq]at HSB;have hwq:IntKind.i64.wrap ((e:Int)-(s:Int))=(q:Int):=by rw[IntKind.wrap_i64];omega
    have hlp:(bs0++qBv pre).length<=140737488350010+10*62-10*n+10*s/\10*n<=140737488350010:=by
     have:=qA0 pre;rw[List.length_append];omega
    obtain⟨hlp1,hlp2⟩:=hlp;go_wp2_with fail
    refine(uh HE).mono ?_;rintro e' w3 ⟨rfl,hk3⟩;have HO3:=hide ((uh HOr).still hk3);clear hk3 HE;go_wp2_with fail
    refine(qB5 b v _ q w w3 (uh HO3) (by omega) (by omega) (by omega)).mono ?_;rintro e' w4 ⟨rfl,hw4⟩;have HO4:=hide hw4;clear hw4 HO3 hwq;go_wp2_with fail
    go_loopw [7] (λx wr=>∃j:Nat,x=.int .i64 ((s+j:Nat):Int)/\j<=q/\Hid (Wrote w b v (bs0++qBv pre++enc q++qBv (((l.drop s).take j).map (·.t))) wr)) (λx _=>e-(intOf x).toNat)
    case atStart=>exact⟨0,rfl,Nat.zero_le _,by show Wrote _ _ _ _ _;simp only[List.take_zero,List.map_nil,qB7,List.append_nil];exact uh HO4⟩
    case round =>
     obtain⟨j,rfl,hj,HOj⟩:=hrel;obtain⟨k,hk⟩:∃k,s+j=k:=⟨_,rfl⟩;rw[hk]
     by_cases hjq:j<q
     ·have hkl:k<l.length:=by rw[uh HN];omega
      have hke:(k:Int)<(e:Int):=by omega
      obtain⟨x,hx⟩:∃x,qCf l k=x:=⟨_,rfl⟩;have HAt:=hide (qEe r og l k wr (uh HC wr (uh HOj).kp).row hkl);have HNX:=hide (qYw l s j x (by rw[hk];exact hkl) (by rw[hk];exact hx));obtain⟨t0,t1⟩:=uh HT x (by rw[<-hx];exact qGk hkl);have hc2:wr.cell? ⟨d,20,none⟩=some (.pointer (some ⟨r,0,none⟩)):=uh HC20 wr (uh HOj).kp;rw[hx]at HAt;unfold Bk.val at HAt;have hlb:(bs0++qBv pre++enc q++qBv (((l.drop s).take j).map (·.t))).length<=140737488351000:=by
       have h1:=qA0 (((l.drop s).take j).map (·.t));have h2:=qBs q;rw[List.length_map,List.length_take,List.length_drop,uh HN]at h1;rw[List.length_append,List.length_append];omega
      clear hx hkl;go_wp2_with fail
      refine(uh HAt).mono ?_;rintro e' w5 ⟨rfl,hk5⟩;have HO5:=hide ((uh HOj).still hk5);clear hk5 HAt hc2;go_wp2_with fail
      refine(qB5 b v _ x.t w w5 (uh HO5) t0 t1 (by omega)).mono ?_;rintro e' w6 ⟨rfl,hw6⟩;have HO6:=hide hw6;clear hw6 HO5;go_wp2
      go_roundw
      case rel =>
       refine⟨j+1,by go_num,by omega,?_⟩;show Wrote _ _ _ _ _;have:=uh HO6;rw[uh HNX,qAo,qC3,<-List.append_assoc];exact this
      case measure=>simp[intOf];omega
     ·have hjE:j=q:=by omega
      have hkE:k=e:=by omega
      clear hk;subst hkE;have hf':decide ((k:Int)<(k:Int))=false:=by simp
      go_wp2
      go_roundw
      case rel =>
       refine⟨f,k,pre++((q:Int)::((l.drop s).take q).map (·.t)),rfl,by go_num,by omega,by omega,?_,?_,?_⟩
       ·have h1:(((l.drop s).take q).map (·.t)).length<=q:=by rw[List.length_map,List.length_take];omega
        rw[List.length_append,List.length_cons];omega
       ·show _=_
        rw[uh HEQ,uh HSB];simp
       ·show Wrote _ _ _ _ _
        have:=uh HOj;rw[hjE]at this;rw[qAo,qAz];simp only[List.append_assoc]at this ⊢;exact this
      case measure=>simp[intOf]
end
section
open Go.RowKit
def qG4(k:Nat)(c:Cfg)(nt:Note)(m:Int): List Int :=
 if k=4 then[nt.q,nt.r] else if k=1 then zD0 nt.bs else if k=2 then qOr nt.rg (qFx c) (m-c.window)
 else if k=3 then zFu c nt.op nt.cl (m-c.window) else if k=5 then qLg (Dr.allL (nt.tk.length+1) nt.tk) else[]
structure SavOk (k:Nat) (c:Cfg) (nt:Note):Prop where
 q0:0<=nt.q/\nt.q<=9223372036854775807
 r0:0<=nt.r/\nt.r<=9223372036854775807
 bn:nt.bs.length<=1000000000000
 bz:∀x∈nt.bs,1<=x.sz/\x.sz<4611686018427387904
 bt:∀x∈nt.bs,0<=x.t/\x.t<=9223372036854775807
 rl:∀i,(nt.rg i).length<=40
 rb:∀i,∀b∈nt.rg i,0<=b.sz/\b.sz<=4611686018427387904/\1<=b.t/\b.t<=40
 oc:k=3->nt.cl.length<=1000/\(∀p∈nt.cl,OkP c p)/\OkP c nt.op/\(∀x∈nt.op.cs,0<=x/\x<=4611686018427387904)/\(∀p∈nt.cl,∀x∈p.cs,0<=x/\x<=4611686018427387904)
 tl:k=5->nt.tk.length<=6
 tb:k=5->∀n∈qLg (Dr.allL (nt.tk.length+1) nt.tk),0<=n/\n<=9223372036854775807
theorem zHj(k:Nat)(nb:NB)(c:Cfg)(nt:Note)(b:Nat)(v:Value)(bs:List Nat)(m:Int)(args:Array Value)(w:World)(ha:args=qJt nb.d++#[.pointer (some ⟨b,0,none⟩),.int .i64 m])(h:NRep w k nb c nt)(hw:WRep w b v bs)(hf:∀i,qCc b v i->¬qEn k nb i)(hi:SavOk k c nt)(hv:qA5 c=true)(hk:c.kind=k)(k1:1<=k)(k5:k<=5)(m0:-100<=m)(m1:m<=4611686018427387904)(hbl:bs.length+10*nt.bs.length<=140737480000000):
  Calls Tryz.prog (zIf k) args w λe w'=>e=.returned (.tuple #[])/\Wrote w b v (bs++qBv (qG4 k c nt m)) w':=by
 subst ha;rcases five k1 k5 with e | e | e | e | e
 ·subst e
  exact qVa nb.d nb.r nb.g c nt.bs b v bs m w (h.cnt rfl) hw (λi hi'=>⟨λe=>hf i hi' (.inl ⟨rfl,.inl e⟩),λe=>hf i hi' (.inl ⟨rfl,.inr (.inl e)⟩),λe=>hf i hi' (.inl ⟨rfl,.inr (.inr e)⟩)⟩) hi.bn hi.bz hi.bt (by omega)
 ·subst e
  obtain⟨a1,a2,a3,a4,a5⟩:=qCa hv hk rfl;obtain⟨hd,hq⟩:=h.dis rfl;have hq2:nb.qs.length<=16:=by rw[hq];exact Nat.pow_le_pow_right (n:=2) (by omega) (show c.bits.toNat<=4 by omega)
  have:=qVs nb.d nb.r nb.qs c nt.rg b v bs m w hd hw (λi hi'=>⟨λe=>hf i hi' (.inr (.inr (.inl ⟨rfl,.inl e⟩))),λe=>hf i hi' (.inr (.inr (.inl ⟨rfl,.inr (.inl e)⟩))),λj hj hq=>hf i hi' (.inr (.inr (.inl ⟨rfl,.inr (.inr ⟨j,hj,hq⟩)⟩)))⟩) hq2 (by omega) a5 m0 m1 hi.rl hi.rb (by omega);rw[hq]at this;exact this
 ·subst e
  obtain⟨o1,o2,o3,o4,o5⟩:=hi.oc rfl;obtain⟨hc,hrw,_⟩:=qBr hv hk rfl;exact qVm nb.d nb.r nb.g c nt.op nt.cl b v bs m w (h.oft rfl) hw (λe=>hf _ e (.inr (.inr (.inr (.inl ⟨rfl,.inl rfl⟩))))) hc o1 o2 o3 o4 o5 (by have:=hrw.r0;omega) hrw.r1 (by have:=hrw.w0;omega) hrw.w1 m0 m1 (by omega)
 ·subst e
  exact qUk nb.d b c nt.q nt.r m v bs w (h.dec rfl) hw (λe=>hf _ e (.inr (.inl ⟨rfl,rfl⟩))) hi.q0.1 hi.q0.2 hi.r0.1 hi.r0.2 (by omega)
 ·subst e
  exact qVr nb.d nb.r nb.g c nt.tk b v bs m w (h.drw rfl) hw (hi.tl rfl) (hi.tb rfl) (by omega)
end
end Go.Proofs.YtahnliehdjncdabGreatDoor
