import Derived.Test.YtahnliehdjncdabGreatDoorXBL
import Derived.Test.YtahnliehdjncdabGreatDoorXBH
import Derived.Test.YtahnliehdjncdabGreatDoorXBJ
import Derived.Test.YtahnliehdjncdabGreatDoorXAR
import Derived.Test.YtahnliehdjncdabGreatDoorXBE
import Derived.Test.YtahnliehdjncdabGreatDoorXAY
set_option maxRecDepth 100000
set_option maxHeartbeats 16000000
namespace Go.Proofs.YtahnliehdjncdabGreatDoor
section
open Go.RowKit
theorem qNu(w:World)(ty:TypeId)(b:Nat): (Builtin.copy_ #[136,9] ty #[.slice (some ⟨b,0,none⟩) 8 8,.string qAa]).run Tryz.prog w=.ok (goInt 0) w:=by
 have:=qKo w ty b 8 8 qAa [] (by kernel_rfl) (λj hj=>by simp at hj) (λj hj=>by simp at hj)
 exact this
def qOt: List Value:=[.int .u8 0,.int .u8 0,.int .u8 0,.int .u8 0,.int .u8 0,.int .u8 0,.int .u8 0,.int .u8 0]
theorem qSf(w:World): Calls Tryz.prog 133 #[.string qAa] w λe w'=>e=.returned (.agg qOt.toArray)/\Keeps (λ_=>False) w w':=by
 have HW0:=hide (show Blk ((w.alloc (.cells #[.int .u8 0,.int .u8 0,.int .u8 0,.int .u8 0,.int .u8 0,.int .u8 0,.int .u8 0,.int .u8 0] 173)).alloc (.cells #[.int .u8 0,.int .u8 0,.int .u8 0,.int .u8 0,.int .u8 0,.int .u8 0,.int .u8 0,.int .u8 0] 173)) (w.heap.size+1) qOt 173 from Blk.newAt (by simp) qOt _)
 have HR0:=hide (show Blk ((w.alloc (.cells #[.int .u8 0,.int .u8 0,.int .u8 0,.int .u8 0,.int .u8 0,.int .u8 0,.int .u8 0,.int .u8 0] 173)).alloc (.cells #[.int .u8 0,.int .u8 0,.int .u8 0,.int .u8 0,.int .u8 0,.int .u8 0,.int .u8 0,.int .u8 0] 173)) w.heap.size qOt 173 from(Blk.new w qOt _).alloc _)
 have HK0:=hide (show Keeps (λ_=>False) w ((w.alloc (.cells #[.int .u8 0,.int .u8 0,.int .u8 0,.int .u8 0,.int .u8 0,.int .u8 0,.int .u8 0,.int .u8 0] 173)).alloc (.cells #[.int .u8 0,.int .u8 0,.int .u8 0,.int .u8 0,.int .u8 0,.int .u8 0,.int .u8 0,.int .u8 0] 173)) from((Keeps.refl _ _).alloc _).alloc _)
 have hcp:=qNu ((w.alloc (.cells #[.int .u8 0,.int .u8 0,.int .u8 0,.int .u8 0,.int .u8 0,.int .u8 0,.int .u8 0,.int .u8 0] 173)).alloc (.cells #[.int .u8 0,.int .u8 0,.int .u8 0,.int .u8 0,.int .u8 0,.int .u8 0,.int .u8 0,.int .u8 0] 173)) 3 (w.heap.size+1)
 obtain⟨nb,hnb⟩:∃nb,qAa=nb:=⟨_,rfl⟩
 rw[hnb]at hcp ⊢
 clear hnb
 go_enter Tryz.func133,Tryz.ntmps133
 go_wp2
 clear hcp
 generalize((w.alloc (.cells #[.int .u8 0,.int .u8 0,.int .u8 0,.int .u8 0,.int .u8 0,.int .u8 0,.int .u8 0,.int .u8 0] 173)).alloc (.cells #[.int .u8 0,.int .u8 0,.int .u8 0,.int .u8 0,.int .u8 0,.int .u8 0,.int .u8 0,.int .u8 0] 173))=W2 at *
 have HLV:=hide (show(loadVar 173 ⟨w.heap.size,0,none⟩).run Tryz.prog W2=.ok (.agg qOt.toArray) W2 from run_loadVar_mid W2 w.heap.size 0 173 qOt _ (λj v hv=>by rw[Nat.zero_add];exact(uh HR0).cell hv) Tryz.underlying173 rfl (by rw[qU5];rfl))
 refine bodyPost_ret (v:=.agg qOt.toArray) (by simp[results,Tryz.results133,asAddr,uh HLV]) rfl ?_
 exact⟨rfl,uh HK0⟩
theorem qQx(w:World): (Op.equalIn 10000 173 (.agg qOt.toArray) (.agg (qB5 qC0).toArray)).run Tryz.prog w=.ok false w:=by kernel_rfl
def qOs(w:World)(r:Nat): Prop:=Blk w r [.string qAa,.bool true] 176
theorem qLu(w:World): Calls Tryz.prog 87 #[.string qAa] w λe w'=>∃r,e=.returned (.pointer (some ⟨r,0,none⟩))/\w.heap.size<=r/\qOs w' r/\Keeps (λ_=>False) w w':=by
 have HH:=hide (qSf w)
 obtain⟨nb,hnb⟩:∃nb,qAa=nb:=⟨_,rfl⟩
 have HNB:=hide hnb
 rw[hnb]at HH ⊢
 clear hnb
 go_enter Tryz.func87,Tryz.ntmps87
 go_wp2_with fail
 refine(uh HH).mono ?_
 rintro e w1 ⟨rfl,hk1⟩
 have HK1:=hide hk1
 clear hk1
 go_wp2_with fail
 have hF:(Value.string ⟨#[115,107,101,116,99,104,32,49]⟩)=.string (qFk (qC0++[])):=by kernel_rfl
 rw[hF]
 refine(qIp [] w1).mono ?_
 rintro e w2 ⟨rfl,hk2⟩
 have HK2:=hide ((uh HK1).then hk2)
 have hs:=qQx w2
 clear hk2 HK1 hF
 have HRB:=hide (Blk.new w2 [.string qAa,.bool true] 176)
 have HK3:=hide ((uh HK2).alloc (.cells #[.string qAa,.bool true] 176))
 have hle:=(uh HK2).size
 go_wp2
 go_ret
 exact⟨_,rfl,hle,uh HRB,uh HK3⟩
theorem qW2(r:Nat)(w:World)(h:qOs w r): Calls Tryz.prog 134 #[.pointer (some ⟨r,0,none⟩)] w λe w'=>e=.returned (.tuple #[.int .i64 0,.bool false])/\w'=w:=by
 have c0:w.cell? ⟨r,0,none⟩=some (.string qAa):=h.cell rfl
 have hsz:qAa.size=0:=rfl
 clear h
 go_enter Tryz.func134,Tryz.ntmps134
 go_wp2
 go_loopw [13] (λiv wr=>iv=.int .i64 0/\wr=w) (λ_ _=>0)
 case atStart=>exact⟨rfl,rfl⟩
 case round =>
  obtain⟨rfl,rfl⟩:=hrel
  go_wp2
  refine bodyPost_ret (v:=.tuple #[.int .i64 0,.bool false]) (by simp[results,Tryz.results134,go_sem]) rfl ?_
  exact⟨rfl,rfl⟩
theorem zA6(r:Nat)(w:World)(h:qOs w r): Calls Tryz.prog 135 #[.pointer (some ⟨r,0,none⟩),.bool false] w λe w'=>e=.returned (.tuple #[])/\qOs w' r/\Keeps (λi=>i=r) w w':=by
 have c1:w.cell? ⟨r,1,none⟩=some (.bool true):=h.cell rfl
 have hf:=h.frozen
 have HB:=hide (show qOs (w.setCell ⟨r,1,none⟩ (.bool true)) r from h.setCell 1 (.bool true))
 have HK:=hide ((Keeps.refl (λi=>i=r) w).setCell (p:=⟨r,1,none⟩) (Or.inl rfl) (.bool true))
 clear h
 go_enter Tryz.func135,Tryz.ntmps135
 go_wp2
 go_end0
 exact⟨rfl,uh HB,uh HK⟩
theorem qN8(r:Nat)(lo hi:Int)(w:World)(h:qOs w r): Calls Tryz.prog 88 #[.pointer (some ⟨r,0,none⟩),.int .i64 lo,.int .i64 hi] w λe w'=>e=.returned (.int .i64 lo)/\qOs w' r/\Keeps (λi=>i=r) w w':=by
 have HR:=hide h
 clear h
 go_enter Tryz.func88,Tryz.ntmps88
 go_wp2_with fail
 refine(qW2 r w (uh HR)).mono ?_
 rintro e w1 ⟨rfl,hw1⟩
 rw[hw1]
 clear hw1 w1
 go_wp2_with fail
 refine(zA6 r w (uh HR)).mono ?_
 rintro e w1 ⟨rfl,hr1,hk1⟩
 have c1:w1.cell? ⟨r,1,none⟩=some (.bool true):=hr1.cell rfl
 have HR1:=hide hr1
 have HK1:=hide hk1
 clear hr1 hk1 HR
 go_wp2
 go_ret
 exact⟨rfl,uh HR1,uh HK1⟩
theorem qZu(r:Nat)(w:World)(h:qOs w r): Calls Tryz.prog 90 #[.pointer (some ⟨r,0,none⟩)] w λe w'=>e=.returned (.bool true)/\w'=w:=by
 have hc:w.cell? ⟨r,1,none⟩=some (.bool true):=h.cell rfl
 clear h
 go_enter Tryz.func90,Tryz.ntmps90
 go_wp2
 go_ret
 exact⟨rfl,rfl⟩
theorem qRt(w:World): Calls Tryz.prog 61 #[.string qAa] w λres w'=>res=.returned (.pointer none)/\Keeps (λ_=>False) w w':=by
 have HN:=hide (qLu w)
 obtain⟨nb,hnb⟩:∃nb,qAa=nb:=⟨_,rfl⟩
 rw[hnb]at HN ⊢
 clear hnb
 go_enter Tryz.func61,Tryz.ntmps61
 go_wp2_with fail
 refine(uh HN).mono ?_
 rintro res w1 ⟨r,rfl,hrw,hr1,hk1⟩
 have HK1:=hide hk1
 have HR1:=hide hr1
 clear hr1 hk1 HN
 go_wp2_with fail
 refine(qN8 r 0 4611686018427387904 w1 (uh HR1)).mono ?_
 rintro res w2 ⟨rfl,hr2,hk2⟩
 have HR2:=hide (show qOs (w2.alloc (.cells #[.int .i64 0,.slice none 0 0] 60)) r from Blk.alloc hr2 _)
 have HK2:=hide (show Keeps (λ_=>False) w (w2.alloc (.cells #[.int .i64 0,.slice none 0 0] 60)) from((uh HK1).trans hk2 (λi hi hlt=>by have h2:i=r:=hi;omega)).alloc _)
 clear hr2 hk2 HR1 HK1
 go_wp2_with fail
 generalize w2.alloc (.cells #[.int .i64 0,.slice none 0 0] 60)=w3 at *
 refine(qN8 r 0 6 w3 (uh HR2)).mono ?_
 rintro res w4 ⟨rfl,hr4,hk4⟩
 have HR4:=hide hr4
 have HK4:=hide (show Keeps (λ_=>False) w w4 from(uh HK2).trans hk4 (λi hi hlt=>by have h2:i=r:=hi;omega))
 clear hr4 hk4 HR2 HK2
 go_wp2_with fail
 go_loopw [14] (λiv wr=>iv=.int .i64 0/\wr=w4) (λ_ _=>0)
 case atStart=>exact⟨rfl,rfl⟩
 case round =>
  obtain⟨rfl,rfl⟩:=hrel
  go_wp2_with fail
  refine(qZu r wr (uh HR4)).mono ?_
  rintro res w5 ⟨rfl,hw5⟩
  rw[hw5]
  clear hw5 w5
  go_wp2
  go_ret
  exact⟨rfl,uh HK4⟩
end
section
open Go.RowKit
attribute [local go_sem ↓] qAd qAe qC7
attribute [local go_sem] qAg qAm qAb qAc qAn qAo qAi qAh
def stepG(ld:ByteArray->Option WS)(s:WS)(o:OpM): WS×Int×List Int :=
 if o.kind=7 then(match ld o.bytes with | none=>(s,14,[]) | some s'=>(s',0,[])) else qBq s o
def qMs(ld:ByteArray->Option WS)(n:Int)(o:OpM): Prop:=o.kind=7->∀s',ld o.bytes=some s'->EInv n s'.clock s'.xs
theorem qQ7(ld:ByteArray->Option WS){n:Int}{s:WS}(o:OpM)(h:EInv n s.clock s.xs)(hn:0<=n)(hL:qMs ld (n+1) o): EInv (n+1) (stepG ld s o).1.clock (stepG ld s o).1.xs:=by
 unfold stepG
 split
 ·rename_i h7
  split
  ·exact h.mono (by omega)
  ·rename_i s' hs'
   exact hL h7 s' hs'
 ·rename_i h7
  exact qHv o h hn (qFe h7)
def qN4(ld:ByteArray->Option WS): WS->List OpM->List (Int×List Int)
 | _,[]=>[]
 | s,o::r=>(stepG ld s o).2::qN4 ld (stepG ld s o).1 r
def qIw(ld:ByteArray->Option WS): WS->List OpM->WS
 | s,[]=>s
 | s,o::r=>qIw ld (stepG ld s o).1 r
theorem qYf(ld:ByteArray->Option WS)(s:WS)(l:List OpM)(o:OpM): qIw ld s (l++[o])=(stepG ld (qIw ld s l) o).1:=by
 induction l generalizing s with
 | nil=>rfl
 | cons a l ih=>exact ih _
theorem qYm(ld:ByteArray->Option WS)(s:WS)(l:List OpM)(o:OpM): qN4 ld s (l++[o])=qN4 ld s l++[(stepG ld (qIw ld s l) o).2]:=by
 induction l generalizing s with
 | nil=>rfl
 | cons a l ih=>simp only[List.cons_append,qN4,qIw,ih]
theorem qS9(ld:ByteArray->Option WS)(s:WS)(l:List OpM): (qN4 ld s l).length=l.length:=by
 induction l generalizing s with
 | nil=>rfl
 | cons a l ih=>simp[qN4,ih]
theorem qSy(ld:ByteArray->Option WS)(s:WS)(a b:List OpM): qN4 ld s (a++b)=qN4 ld s a++qN4 ld (qIw ld s a) b:=by
 induction a generalizing s with
 | nil=>rfl
 | cons x l ih=>simp[qN4,qIw,ih]
theorem zAz(ld:ByteArray->Option WS){n:Int}{s:WS}(l:List OpM)(h:EInv n s.clock s.xs)(hn:0<=n)(hL:∀(i:Nat) o,l[i]?=some o->qMs ld (n+i+1) o): EInv (n+l.length) (qIw ld s l).clock (qIw ld s l).xs:=by
 induction l generalizing s n with
 | nil=>simpa[qIw] using h
 | cons a l ih =>
  have:=ih (qQ7 ld a h hn (by have:=hL 0 a rfl;simpa using this)) (by omega) (λi o ho=>by
     have:=hL (i+1) o (by simpa using ho)
     rw[show n+1+(i:Int)+1=n+((i+1:Nat):Int)+1 by omega]
     exact this)
  rw[List.length_cons,show n+((l.length+1:Nat):Int)=n+1+(l.length:Int) by omega]
  exact this
def qH9(ld:ByteArray->Option WS): WS->List OpM->List ByteArray
 | _,[]=>[]
 | s,o::r=>qCu s o::qH9 ld (stepG ld s o).1 r
theorem qWy(ld:ByteArray->Option WS)(s:WS)(l:List OpM)(o:OpM): qH9 ld s (l++[o])=qH9 ld s l++[qCu (qIw ld s l) o]:=by
 induction l generalizing s with
 | nil=>rfl
 | cons a l ih=>simp only[List.cons_append,qH9,qIw,ih]
theorem qSg(ld:ByteArray->Option WS)(s:WS)(a b:List OpM): qH9 ld s (a++b)=qH9 ld s a++qH9 ld (qIw ld s a) b:=by
 induction a generalizing s with
 | nil=>rfl
 | cons x l ih=>simp[qH9,qIw,ih]
theorem qVo(ld:ByteArray->Option WS)(K:Nat)(sb so cap:Nat)(ops:List OpM)(w:World)(hsc:ScriptAt w sb so ops)(hlt:sb<w.heap.size)(hlen:ops.length+K<=651562446090)(hT:Tab w)(hL:∀(i:Nat) o,ops[i]?=some o->qMs ld ((K:Int)+i+1) o)(hstep:∀(i:Nat) (e:Nat) (v:Value) (clock:Int) (ps:List (SB×Ser)) (o:OpM) (w:World),ops[i]?=some o->(⟨clock,ps.map (·.2)⟩:WS)=qIw ld ws0 (ops.take i)->ERep w e v clock ps->EInv ((K:Int)+i) clock (ps.map (·.2))->(K:Int)+i<=651562446200->Tab w->¬EFoot e v ps 2 ->
     Calls Tryz.prog 23 #[.pointer (some ⟨e,0,none⟩),o.val] w λr w'=>qGd w e v ps (stepG ld ⟨clock,ps.map (·.2)⟩ o).1.clock (stepG ld ⟨clock,ps.map (·.2)⟩ o).1.xs (stepG ld ⟨clock,ps.map (·.2)⟩ o).2.1 (stepG ld ⟨clock,ps.map (·.2)⟩ o).2.2 (qCu ⟨clock,ps.map (·.2)⟩ o) r w'):
  Calls Tryz.prog 11 #[.slice (some ⟨sb,so,none⟩) ops.length cap] w λr w'=>∃v l,r=.returned v/\ARep w' w.heap.size v l/\l.map (λx=>(x.code,x.nums))=qN4 ld ws0 ops/\l.map (·.bs)=qH9 ld ws0 ops/\Keeps (λ_=>False) w w':=by
 have HSC:=hide hsc
 have HST:=hide hstep
 have HTW:=hide hT
 have HLO:=hide hL
 have hw0:=hT.lt
 clear hsc hstep hT hL
 obtain⟨i0,hi0,hz0,hz1,hz2⟩:=info_parts qYi
 go_enter Tryz.func11,Tryz.ntmps11
 generalize hn:ops.length=n at *
 have HN:=hide hn
 clear hn
 go_wp2_with (at_make;refine wpList_make_own _ rfl _ _ _ rfl w.heap.size 38 i0 _ 3 Tryz.underlying26 hi0 hz0 hz1 _ _ _ n rfl rfl rfl (by rw[hz2];omega) (by unfold maxLen;omega) (by simp) ?_;intro w1 ho1 hg1)
 rw[World.size_alloc]at ho1
 have hkw1:Keeps (λ_=>False) w w1:=((Keeps.refl (λ_=>False) w).alloc _).grown hg1 (λk hk=>by cases hk)
 have hbe:Blk w1 w.heap.size [.int .i64 0,.slice none 0 0] 60:=by
  unfold Blk
  rw[hg1.block w.heap.size (by simp) (by simp)]
  exact Blk.new w [.int .i64 0,.slice none 0 0] 60
 have HE1:=hide (show ERep w1 w.heap.size (.slice none 0 0) 0 [] from⟨hbe,World.ownsRow_nil _ _ _ _,λp hp=>by simp at hp,List.Pairwise.nil,by simp[Value.ownBlock],λp hp=>by simp at hp⟩)
 have HA1:=hide (show ARep w1 w.heap.size (.slice (some ⟨w.heap.size+1,0,none⟩) 0 n) [] from⟨ho1,λx hx=>by simp at hx,λx hx=>by simp at hx⟩)
 have HK1:=hide hkw1
 clear hg1 ho1 hkw1 hbe
 generalize hen:w.heap.size=e at *
 have HEN:=hide hen
 clear hen
 go_loopw [4,12] (λav i wr=>∃(k:Nat) (v:Value) (ps:List (SB×Ser)) (l:List Ans),k<=n/\i=.int .i64 k/\Hid (ERep wr e v (qIw ld ws0 (ops.take k)).clock ps)/\Hid (ps.map (·.2)=(qIw ld ws0 (ops.take k)).xs)/\Hid (ARep wr w.heap.size av l)/\Hid (l.map (λx=>(x.code,x.nums))=qN4 ld ws0 (ops.take k))/\Hid (l.map (·.bs)=qH9 ld ws0 (ops.take k))/\Hid (Keeps (λ_=>False) w wr)/\Hid (∀i,EFoot e v ps i->w.heap.size<=i)/\Hid (∀i,qW3 av l i->¬EFoot e v ps i)) (λ_ i _=>n-(intOf i).toNat)
 case atStart =>
  have hen:=uh HEN
  refine⟨0,.slice none 0 0,[],[],by omega,rfl,HE1,rfl,by show ARep _ _ _ _;rw[hen];exact uh HA1,rfl,rfl,HK1,λi hi=>?_,λi hi hf=>?_⟩
  ·rcases hi with hi | hi | ⟨p,hp,_⟩
   ·omega
   ·simp[Value.ownBlock]at hi
   ·simp at hp
  ·have hie:i=e:=by
    rcases hf with hf | hf | ⟨p,hp,_⟩
    ·exact hf
    ·simp[Value.ownBlock]at hf
    ·simp at hp
   rcases hi with hi | ⟨x,hx,_⟩
   ·have:e+1=i:=by simpa[Value.ownBlock] using hi
    omega
   ·simp at hx
 case round =>
  obtain⟨k,v,ps,l,hk,rfl,HEr,HXr,HAr,HMr,HBr,HKr,HLr,HDr⟩:=hrel
  generalize u4=av at *
  by_cases hkn:k<n
  ·obtain⟨o,ho⟩:∃o,ops[k]?=some o:=⟨ops[k]'(by rw[uh HN];exact hkn),List.getElem?_eq_getElem _⟩
   have HO:=hide ho
   have hsb:=qAp (uh HSC k o ho)
   have hkp:=qB0 (o:=so+k*26) (n:=26) (uh HKr) (λh=>h) (by rw[uh HEN];exact hlt)
   have hv0:qAv wr sb (so+k*26) 26=.agg o.cells.toArray:=by
    rw[hkp.1];unfold qAv
    have:=hsb.1
    rw[show o.cells.length=26 from rfl]at this
    rw[this]
   have hh0:qA3 wr sb (so+k*26) 26=true:=by rw[hkp.2];exact hsb.2
   have hst:∀zs:List Value,zs.length=26->(qDc 34 (.pointer (some ⟨wr.heap.size,0,none⟩)) (.agg o.cells.toArray)).run Tryz.prog (wr.alloc (.cells zs.toArray 34))=.ok .skip (wr.alloc (.cells o.cells.toArray 34)):=λzs hz=>qLi wr zs o.cells hz rfl (qJ6 o)
   have hv1:qAv (wr.alloc (.cells o.cells.toArray 34)) wr.heap.size 0 26=.agg o.cells.toArray:=qAf wr o.cells 34 26 rfl
   have hh1:qA3 (wr.alloc (.cells o.cells.toArray 34)) wr.heap.size 0 26=true:=qC8 wr o.cells 34 26 rfl
   have hk0:(0:Int)<=(k:Int):=by omega
   have hkn':(k:Int)<(n:Int):=by omega
   clear ho hsb hkp
   go_wp2_with fail
   have hkl:(ops.take k).length=k:=by rw[List.length_take,uh HN];omega
   have hinv:EInv ((K:Int)+k) (qIw ld ws0 (ops.take k)).clock (ps.map (·.2)):=by
    have:=zAz ld (ops.take k) (inv0.mono (show(0:Int)<=(K:Int) by omega)) (by omega) (λi o ho=>uh HLO i o (by rw[List.getElem?_take]at ho;split at ho;exact ho;cases ho))
    rw[hkl]at this
    rw[uh HXr]
    exact this
   have hws:(⟨(qIw ld ws0 (ops.take k)).clock,ps.map (·.2)⟩:WS)=qIw ld ws0 (ops.take k):=by rw[uh HXr]
   have hst2:=uh HST k e v (qIw ld ws0 (ops.take k)).clock ps o (wr.alloc (.cells o.cells.toArray 34)) (uh HO) hws ((uh HEr).still ((Keeps.refl (λ_=>False) wr).alloc _)) hinv (by omega) (((uh HTW).keeps (uh HKr) (λh=>h)).keeps ((Keeps.refl (λ_=>False) wr).alloc _) (λh=>h)) (λh=>by have h1:=uh HLr 2 h;have h2:=uh HEN;omega)
   rw[hws]at hst2
   refine hst2.mono ?_
   clear hst2 hinv hws
   have htk:ops.take (k+1)=ops.take k++[o]:=by
    have ho:=uh HO
    rw[List.take_add_one,ho];rfl
   have HSN:=hide (show qIw ld ws0 (ops.take (k+1))=(stepG ld (qIw ld ws0 (ops.take k)) o).1 by rw[htk,qYf ld])
   have HRN:=hide (show qN4 ld ws0 (ops.take (k+1))=qN4 ld ws0 (ops.take k)++[(stepG ld (qIw ld ws0 (ops.take k)) o).2] by rw[htk,qYm ld])
   have HBN:=hide (show qH9 ld ws0 (ops.take (k+1))=qH9 ld ws0 (ops.take k)++[qCu (qIw ld ws0 (ops.take k)) o] by rw[htk,qWy ld])
   clear htk hv0 hh0 hst hv1 hh1
   generalize hbm:qCu (qIw ld ws0 (ops.take k)) o=bm at *
   generalize hsm:stepG ld (qIw ld ws0 (ops.take k)) o=sm at *
   obtain⟨s',code,nums⟩:=sm
   rintro r w2 ⟨nv,v',ps',rfl,hE2,hx2,hn2,hk2,hf2,hd2⟩
   obtain⟨na,ncap,hnv⟩:=qFw hn2
   subst hnv
   unfold zGg
   have hlk:l.length=k:=by
    have:=congrArg List.length (uh HMr)
    rw[List.length_map,qS9 ld,hkl]at this
    exact this
   have HLK:=hide hlk
   have HOW:=hide (show w2.ownsRow w.heap.size 38 3 av k (qD9 l) by
      have h1:=(uh HAr).row
      rw[hlk]at h1
      exact qBd h1 (((Keeps.refl (EFoot e v ps) wr).alloc _).then hk2) (λi hi=>uh HDr i (.inl hi)))
   have HE2:=hide hE2
   have HX2:=hide hx2
   have HN2:=hide hn2
   have HK2:=hide hk2
   have HF2:=hide hf2
   have HD2:=hide hd2
   have hb2:w.heap.size<=w2.heap.size:=by have h1:=(uh HKr).size;have h2:=hk2.size;rw[World.size_alloc]at h2;omega
   clear hE2 hx2 hn2 hk2 hf2 hd2 hlk hkl hsm hbm
   go_wp2_with (at_builtin;refine wpList_append_lies _ rfl _ _ _ rfl w.heap.size 38 i0 _ 3 48 Tryz.underlying26 hi0 hz0 hz1 hz2 rfl (by omega) av k (qD9 l) rfl ((uh HOW).alloc _) ⟨w2.heap.size,0,none⟩ 1 1 [.int .i64 code,.slice na nums.length ncap,.string bm] rfl rfl (World.news_of_block (cs:=#[.int .i64 code,.slice na nums.length ncap,.string bm]) (t:=38) (fr:=(0,0)) (heap_alloc_new w2 _)) (by simp[Value.oneCell']) (by omega) (by unfold maxLen;omega) (by omega) (by simp;omega) (w2.heap.size+1) (by simp) ?_;intro gg cap' w3 hown3 hgrow hat hl3)
   go_roundw
   case rel =>
    have hlk:=uh HLK
    have hrr:=qRd (code:=code) (bs:=bm) (av':=.slice (some ⟨gg,0,none⟩) (k+1) cap') (uh HKr) (uh HAr) (uh HLr) (uh HDr) (uh HE2) (uh HN2) (uh HK2) (uh HF2) (uh HD2) (by rw[hlk]) (by rw[hlk];exact hown3) hgrow hat
    obtain⟨g1,g2,g3,g4,g5⟩:=hrr
    have hsn:=uh HSN
    have hrn:=uh HRN
    have hbn:=uh HBN
    refine⟨k+1,v',ps',l++[(⟨code,.slice na nums.length ncap,nums,bm⟩:Ans)],by omega,by go_num,?_,?_,hide g2,?_,?_,hide g3,hide g4,hide g5⟩
    ·show ERep _ _ _ _ _;rw[hsn];exact g1
    ·show _=_;rw[hsn];exact uh HX2
    ·show _=_;rw[hrn,List.map_append,uh HMr];rfl
    ·show _=_;rw[hbn,List.map_append,uh HBr];rfl
   case measure=>simp[intOf];omega
  ·have hkk:k=n:=by omega
   subst hkk
   go_wp2
   go_ret
   refine⟨av,l,rfl,uh HAr,?_,?_,uh HKr⟩
   ·have:=uh HMr
    rwa [List.take_of_length_le (by rw[uh HN];omega)]at this
   ·have:=uh HBr
    rwa [List.take_of_length_le (by rw[uh HN];omega)]at this
end
section
open Go.RowKit
theorem qYe(e:Nat)(v:Value)(clock:Int)(ps:List (SB×Ser))(o:OpM)(w:World)(h:ERep w e v clock ps)(hb:o.bytes=qAa):
  Calls Tryz.prog 37 #[.pointer (some ⟨e,0,none⟩),o.val] w λr w'=>StepPost w e v ps clock (ps.map (·.2)) 14 [] r w':=by
 have HE:=hide h
 have hk0:Keeps (λ_=>False) w ((w.alloc (.cells o.cells.toArray 34)).alloc (.cells #[.int .i64 0,.slice none 0 0,.string ⟨#[]⟩] 38)):=((Keeps.refl (λ_=>False) w).alloc _).alloc _
 have HO0:=hide (show Blk ((w.alloc (.cells o.cells.toArray 34)).alloc (.cells #[.int .i64 0,.slice none 0 0,.string ⟨#[]⟩] 38)) w.heap.size o.cells 34 from(Blk.new w o.cells 34).alloc _)
 have HR0:=hide (show Blk ((w.alloc (.cells o.cells.toArray 34)).alloc (.cells #[.int .i64 0,.slice none 0 0,.string ⟨#[]⟩] 38)) (w.heap.size+1) [.int .i64 0,.slice none 0 0,.string qAa] 38 from Blk.newAt (by simp) [_,_,_] 38)
 obtain⟨nb,hnb⟩:∃nb,qAa=nb:=⟨_,rfl⟩
 have h25:((w.alloc (.cells o.cells.toArray 34)).alloc (.cells #[.int .i64 0,.slice none 0 0,.string ⟨#[]⟩] 38)).cell? ⟨w.heap.size,25,none⟩=some (.string nb):=by rw[<-hnb,<-hb];exact(uh HO0).cell rfl
 have HLE:=hide (show ∀w0,Calls Tryz.prog 61 #[.string nb] w0 λres w'=>res=.returned (.pointer none)/\Keeps (λ_=>False) w0 w' by rw[<-hnb];exact qRt)
 have HK0:=hide hk0
 clear h hb hk0 hnb
 unfold OpM.val
 go_enter Tryz.func37,Tryz.ntmps37
 go_wp2_with fail
 generalize(w.alloc (.cells o.cells.toArray 34)).alloc (.cells #[.int .i64 0,.slice none 0 0,.string ⟨#[]⟩] 38)=w0 at *
 refine(uh HLE w0).mono ?_
 rintro r w1 ⟨rfl,hk1⟩
 have HR1:=hide ((uh HR0).keeps hk1 (λh=>h))
 have HK1:=hide ((uh HK0).then hk1)
 clear hk1 h25
 go_wp2_with fail
 refine(qF4 14 w1).mono ?_
 rintro r w2 ⟨rfl,hk2⟩
 have HR2:=hide ((uh HR1).keeps hk2 (λh=>h))
 have HK2:=hide ((uh HK1).then hk2)
 clear hk2
 unfold qC1
 have r0:=(uh HR2).cell (i:=0) rfl
 have r1:=(uh HR2).cell (i:=1) rfl
 have r2:=(uh HR2).cell (i:=2) rfl
 have rf:=(uh HR2).frozen
 have HF1:=hide ((((uh HR2).setCell 0 (.int .i64 14)).setCell 1 (.slice none 0 0)).setCell 2 (.string qAa))
 have HKF:=hide (show Keeps (λi=>i=w.heap.size+1) w2 _ from(((Keeps.refl (λi=>i=w.heap.size+1) w2).setCell (p:=⟨w.heap.size+1,0,none⟩) (Or.inl rfl) (.int .i64 14)).setCell (p:=⟨w.heap.size+1,1,none⟩) (Or.inl rfl) (.slice none 0 0)).setCell (p:=⟨w.heap.size+1,2,none⟩) (Or.inl rfl) (.string qAa))
 go_wp2
 clear r0 r1 r2 rf HR2
 generalize((w2.setCell ⟨w.heap.size+1,0,none⟩ (.int .i64 14)).setCell ⟨w.heap.size+1,1,none⟩ (.slice none 0 0)).setCell ⟨w.heap.size+1,2,none⟩ (.string qAa)=w9 at *
 have q0:w9.cell? ⟨w.heap.size+1,0,none⟩=some (.int .i64 14):=(uh HF1).cell rfl
 have q1:w9.cell? ⟨w.heap.size+1,1,none⟩=some (.slice none 0 0):=(uh HF1).cell rfl
 have q2:w9.cell? ⟨w.heap.size+1,2,none⟩=some (.string qAa):=(uh HF1).cell rfl
 refine bodyPost_ret (v:=qC1 14 (.slice none 0 0)) (by simp[results,Tryz.results37,go_sem,q0,q1,q2,qC1]) rfl ?_
 exact qB6 (uh HE) ((uh HK2).trans (uh HKF) (λi hi hlt=>by have h2:i=w.heap.size+1:=hi;omega)) (World.ownsRow_nil _ _ _ _)
def qTi(ld:ByteArray->Option WS)(b:ByteArray): Prop:=(ld b=none/\b=qAa)\/∃(xs:List Ser) (can:Ser->Ser) (clock':Int),ld b=some ⟨clock',xs.map can⟩/\b=qD1 clock' xs/\LdAll xs can clock'
theorem qRw(ld:ByteArray->Option WS)(n:Int)(e:Nat)(v:Value)(clock:Int)(ps:List (SB×Ser))(o:OpM)(w:World)(h:ERep w e v clock ps)(hi:EInv n clock (ps.map (·.2)))(hn:n<=651562446200)(hT:Tab w)(hT0:¬EFoot e v ps 2)(h6:o.kind=6->∀x,x∈ps.map (·.2)->SerOk x)(h7:o.kind=7->qTi ld o.bytes):
  Calls Tryz.prog 23 #[.pointer (some ⟨e,0,none⟩),o.val] w λr w' =>
   qGd w e v ps (stepG ld ⟨clock,ps.map (·.2)⟩ o).1.clock (stepG ld ⟨clock,ps.map (·.2)⟩ o).1.xs (stepG ld ⟨clock,ps.map (·.2)⟩ o).2.1 (stepG ld ⟨clock,ps.map (·.2)⟩ o).2.2 (qCu ⟨clock,ps.map (·.2)⟩ o) r w':=by
 by_cases h7':o.kind=7
 ·have hby:qCu ⟨clock,ps.map (·.2)⟩ o=qAa:=by unfold qCu;rw[if_neg (by omega)]
  rw[hby]
  rcases h7 h7' with ⟨h8,h9⟩ | ⟨xs,can,clock',h8,h9,h10⟩
  ·have hM:stepG ld ⟨clock,ps.map (·.2)⟩ o=(⟨clock,ps.map (·.2)⟩,14,[]):=by unfold stepG;rw[if_pos h7',h8]
   rw[hM]
   exact(zCv e v clock ps o w h h7' _ _ _ _ (λw0 h0=>qYe e v clock ps o w0 h0 h9)).mono (λ_ _ h=>h.b)
  ·have hM:stepG ld ⟨clock,ps.map (·.2)⟩ o=(⟨clock',xs.map can⟩,0,[]):=by unfold stepG;rw[if_pos h7',h8]
   rw[hM]
   exact(zCv e v clock ps o w h h7' _ _ _ _ (λw0 h0=>zAt e v clock clock' ps o xs can w0 h0 h9 h10)).mono (λ_ _ h=>h.b)
 ·have hM:stepG ld ⟨clock,ps.map (·.2)⟩ o=qBq ⟨clock,ps.map (·.2)⟩ o:=by unfold stepG;rw[if_neg h7']
  rw[hM]
  exact qVp n e v clock ps o w h hi hn hT hT0 h7' h6
def qH8: Ser:=qBk 7 c0 4
theorem qVd: qA7 c0=true:=by decide
theorem qVc: SInv 0 qH8:=qNx 7 c0 qVd (by omega)
theorem qUr: SerOk qH8 :=
 qJd (n:=0) ⟨by decide,by decide,λy hy=>by simp[qH8,qBk]at hy,λv hv=>by
    have:v=0:=by simpa[qH8,qBk] using hv
    omega,by
    have:=qLc (n:=0) (s:=ws0) o1 (λx hx=>by simp[ws0]at hx) inv0 (λe=>by cases e) qH8 (by
       have h:(qBq ws0 o1).1.xs=[qH8]:=by kernel_rfl
       rw[h];simp)
    exact this.note⟩ qVc (by decide)
theorem zEz: LdOk qH8 0 where
 id0:=by decide
 cfg:=λn hn=>qUr.cfg n hn
 p0:=by decide
 p3:=by decide
 kind:=rfl
 k1:=by decide
 k5:=by decide
 valid:=qVd
 ref:=λj=>by
  have h:∀v,v∈qH8.ref->0<=v/\v<=0:=λv hv=>by
   have:v=0:=by simpa[qH8,qBk] using hv
   omega
  unfold qAs
  rw[List.getD_eq_getElem?_getD]
  cases hj:qH8.ref[j]? with
  | none=>simp
  | some v=>have:=h v (List.mem_of_getElem? hj);simp;omega
 rel0:=by decide
 rel1:=by decide
 rel2:=by decide
 c0:=by decide
 c1:=by decide
 lag:=by decide
 cap:=by decide
theorem zBr: LdAll [qH8] id 0 where
 six:=by decide
 c0:=by decide
 c1:=by decide
 ids:=by simp
 cid:=λ_ _=>rfl
 nums:=λ_ _=>rfl
 ok:=λx hx=>by
  rw[List.mem_singleton]at hx;subst hx;exact qUr
 len:=by
  have h1:=qFx qUr 0
  have h2:=qAx (qCs 0 [qH8])
  have h3:=qBj (qLb (qF2 0 [qH8]))
  have h4:(qCs 0 [qH8]).length=2+(qCx 0 qH8).length:=by simp[qCs,qC5];omega
  have h5:qH8.nt.bs.length=0:=rfl
  have h6:qC0.length=8:=rfl
  unfold qHc
  rw[List.length_append]
  have h7:(qF2 0 [qH8]).length=8+(qBe (qCs 0 [qH8])).length:=by unfold qF2;rw[List.length_append,h6]
  omega
 sum:=by have:=qOm (qF2 0 [qH8]);omega
 ld:=λx hx r tl w hr=>by
  rw[List.mem_singleton]at hx;subst hx
  have hn:qCx 0 qH8=qE7 qH8++[0,0]:=rfl
  rw[hn,qAk,List.append_assoc]at hr
  refine(qQp r qH8 0 qFy (qBe [0,0]) tl w hr zEz rfl ?_).mono ?_
  ·intro nb kn w1 hN hR hK h1 h2 h3
   have hd:nb.d≠r:=λe=>h1 (.inr (.inl ⟨rfl,e.symm⟩))
   have hkd:kn≠nb.d:=λe=>h2 (.inr (.inl ⟨rfl,e⟩))
   refine(qMz nb.d r kn c0 0 0 _ _ 0 _ tl w1 (hN.dec rfl) hR hK hd h3 hkd (by omega) (by omega) (by omega) (by omega) (by omega) (.inr rfl) (.inr (by omega))).mono ?_
   rintro e w2 ⟨rfl,hb,hr2,hk2⟩
   exact⟨rfl,nb,rfl,⟨λ_=>hb,λe=>(by cases e),λe=>(by cases e),λe=>(by cases e),λe=>(by cases e)⟩,λi hi=>.inl hi,hr2,hk2.mono (λi _ h=>by
        rcases h with h | h
        ·exact .inl h
        ·exact .inr (.inr (.inr (.inl ⟨rfl,h⟩))))⟩
  ·rintro e w' ⟨sb,rfl,hs,hr2,hf,hk⟩
   exact⟨sb,rfl,hs,hr2,hf,hk⟩
def B7: ByteArray:=qD1 0 [qH8]
theorem zHf: (B7.toList==qAa.toList)=false:=by
 have h:B7.size≠0:=by
  unfold B7 qD1
  rw[qGe]
  unfold qHc qF2
  simp[qC0]
 cases hb:(B7.toList==qAa.toList) with
 | false=>rfl
 | true =>
  have h2:B7.toList=qAa.toList:=by simpa using hb
  rw[ByteArray.toList_eq,ByteArray.toList_eq]at h2
  exfalso
  apply h
  have h3:=congrArg List.length h2
  exact h3
theorem zFz: B7≠qAa:=λe=>by have:=zHf;rw[e]at this;simp at this
def ld7(b:ByteArray): Option WS:=if b=B7 then some ⟨0,[qH8]⟩ else none
theorem zAi: ld7 B7=some ⟨0,[qH8]⟩:=by unfold ld7;rw[if_pos rfl]
theorem zDc: ld7 qAa=none:=by unfold ld7;rw[if_neg (λe=>zFz e.symm)]
def l7(b:ByteArray): OpM:=⟨7,0,0,0,0,cz,b⟩
def o6: OpM:=⟨6,0,0,0,0,cz,qAa⟩
def qI9: List OpM:=[l7 B7,o5,l7 qAa]
theorem zD8: qG7 ws0 [o1,o6]=[(0,[]),(0,[])]:=by kernel_rfl
theorem two_bytes: qIo ws0 [o1,o6]=[qAa,B7]:=rfl
theorem qWl: qN4 ld7 ws0 qI9=[(0,[]),(0,[0,0,1]),(14,[])]:=by
 have h1:stepG ld7 ws0 (l7 B7)=(⟨0,[qH8]⟩,0,[]):=by unfold stepG;rw[if_pos (show(l7 B7).kind=7 from rfl),show ld7 (l7 B7).bytes=some ⟨0,[qH8]⟩ from zAi]
 have h2:stepG ld7 ⟨0,[qH8]⟩ o5=(⟨0,[qH8]⟩,0,[0,0,1]):=by unfold stepG;rw[if_neg (by decide)];kernel_rfl
 have h3:stepG ld7 ⟨0,[qH8]⟩ (l7 qAa)=(⟨0,[qH8]⟩,14,[]):=by unfold stepG;rw[if_pos (show(l7 qAa).kind=7 from rfl),show ld7 (l7 qAa).bytes=none from zDc]
 unfold qI9
 simp only[qN4,h1,h2,h3]
theorem qP2(b cap:Nat)(w:World)(hsc:ScriptAt w b 0 qI9)(hlt:b<w.heap.size)(hT:Tab w):
  Calls Tryz.prog 11 #[.slice (some ⟨b,0,none⟩) 3 cap] w λr w'=>∃v l,r=.returned v/\ARep w' w.heap.size v l/\l.map (λx=>(x.code,x.nums))=[(0,[]),(0,[0,0,1]),(14,[])]/\Keeps (λ_=>False) w w':=by
 have hkn:∀o,o∈qI9->o.kind=7->qTi ld7 o.bytes:=λo ho h7=>by
  simp[qI9]at ho
  rcases ho with e | e | e
  ·subst e;exact .inr ⟨[qH8],id,0,by rw[List.map_id];exact zAi,rfl,zBr⟩
  ·subst e;cases h7
  ·subst e;exact .inl ⟨zDc,rfl⟩
 have h6:∀o,o∈qI9->o.kind≠6:=λo ho=>by
  simp[qI9]at ho
  rcases ho with e | e | e <;> subst e <;> decide
 refine(qVo ld7 0 b 0 cap qI9 w hsc hlt (by decide) hT (λi o ho h7 s' hs'=>?_) (λi e v clock ps o w0 ho _ hE hi hn hT0 hT1=>qRw ld7 _ e v clock ps o w0 hE hi hn hT0 hT1 (λh=>absurd h (h6 o (List.mem_of_getElem? ho))) (hkn o (List.mem_of_getElem? ho)))).mono ?_
 ·have:s'=⟨0,[qH8]⟩:=by
   unfold ld7 at hs'
   split at hs'
   ·exact(Option.some.inj hs').symm
   ·cases hs'
  subst this
  refine⟨by decide,by decide,by decide,λx hx=>?_,λx hx=>?_⟩
  ·rw[List.mem_singleton]at hx;subst hx;exact qVc.mono (by omega)
  ·rw[List.mem_singleton]at hx;subst hx;exact .inl rfl
 ·rintro r w' ⟨v,l,rfl,hA,hl,_,hk⟩
  rw[qWl]at hl
  exact⟨v,l,rfl,hA,hl,hk⟩
end
section
open Go.RowKit
attribute [local go_sem ↓] qAd qAe qC7
attribute [local go_sem] qAg qAm qAb qAc qAn qAo qAi qAh
theorem zE2(B:ByteArray)(w:World): (qCr 34 #[(0,.int .i64 7),(6,.string B)]).run Tryz.prog w=.ok (.value (.agg (l7 B).cells.toArray)) w:=by kernel_rfl
theorem zDz(w:World): (qCr 34 #[(0,.int .i64 6)]).run Tryz.prog w=.ok (.value (.agg o6.cells.toArray)) w:=by kernel_rfl
theorem zEd(w:World)(a b:OpM): (qVz 22 2 #[(0,.agg a.cells.toArray),(1,.agg b.cells.toArray)]).run Tryz.prog w=.ok (.value (.slice (some ⟨w.heap.size,0,none⟩) 2 2)) (w.alloc (.cells (a.cells++b.cells).toArray 34)):=by kernel_rfl
theorem qTe{w:World}{g:Nat}{a b:OpM}(h:Blk w g (a.cells++b.cells) 34): ScriptW w (.slice (some ⟨g,0,none⟩) 2 2) [a,b]:=by
 refine .inr ⟨g,0,2,rfl,by simp,?_,h.lt⟩
 intro i x hx j u hu
 have hi:=(List.getElem?_eq_some_iff.1 hx).1
 have hj:j<26:=by have:=(List.getElem?_eq_some_iff.1 hu).1;exact this
 have hi':i=0\/i=1:=by simp at hi;omega
 rcases hi' with e | e
 ·subst e
  have:a=x:=by simpa using hx
  subst this
  have h1:(a.cells++b.cells)[j]?=some u:=by rw[List.getElem?_append_left (by exact hj)];exact hu
  have:=h.cell h1
  simpa using this
 ·subst e
  have:b=x:=by simpa using hx
  subst this
  have h1:(a.cells++b.cells)[26+j]?=some u:=by
   rw[List.getElem?_append_right (by show 26<=26+j;omega)]
   show b.cells[26+j-26]?=_
   rw[Nat.add_sub_cancel_left];exact hu
  have:=h.cell h1
  simpa using this
theorem zEr(W:World): (Instr.sliceAt 22 (.slice none 0 0) none (some (.int .i64 0)) none).run Tryz.prog W=.ok (.slice none 0 0) W:=by kernel_rfl
theorem zD0(W:World): (Instr.sliceAt 22 (.slice none 0 0) (some (.int .i64 0)) none none).run Tryz.prog W=.ok (.slice none 0 0) W:=by kernel_rfl
theorem qY6(g L cap k:Nat)(W:World)(h:k<=cap): (Instr.sliceAt 22 (.slice (some ⟨g,0,none⟩) L cap) none (some (.int .i64 k)) none).run Tryz.prog W=.ok (.slice (some ⟨g,0,none⟩) k cap) W:=by
 have h2:(k:Int)<=(cap:Int):=by omega
 simp[go_sem,h2]
theorem zDx(g L cap k:Nat)(W:World)(h:k<=L)(hc:k<cap): (Instr.sliceAt 22 (.slice (some ⟨g,0,none⟩) L cap) (some (.int .i64 k)) none none).run Tryz.prog W=.ok (.slice (some ⟨g,k*26,none⟩) (L-k) (cap-k)) W:=by
 have h2:(k:Int)<=(L:Int):=by omega
 have h3:cap≠k:=by omega
 simp[go_sem,h2,h3]
theorem zG4(g L:Nat)(W:World): (Instr.sliceAt 22 (.slice (some ⟨g,0,none⟩) L L) (some (.int .i64 L)) none none).run Tryz.prog W=.ok (.slice (some ⟨g,0,none⟩) 0 0) W:=by
 simp[go_sem]
theorem qSu{w:World}{sb so:Nat}{ops:List OpM}(h:ScriptAt w sb so ops)(k:Nat): ScriptAt w sb (so+k*26) (ops.drop k):=by
 intro i o ho
 rw[List.getElem?_drop]at ho
 have:=h (k+i) o ho
 rwa [show so+(k+i)*26=so+k*26+i*26 by omega]at this
theorem qT4{w:World}{sb so:Nat}{ops:List OpM}(h:ScriptAt w sb so ops)(k:Nat): ScriptAt w sb so (ops.take k):=by
 intro i o ho
 rw[List.getElem?_take]at ho
 split at ho
 ·exact h i o ho
 ·cases ho
theorem qXl{w:World}{base:Nat}{sv:Value}{s:List OpM}(h:qZ8 w base sv s)(k:Nat)(hk:k<=s.length):
  ∃sa sc ta tc da dc,sv=.slice sa s.length sc/\(∀W,(Instr.sliceAt 22 (.slice sa s.length sc) none (some (.int .i64 k)) none).run Tryz.prog W=.ok (.slice ta k tc) W)/\(∀W,(Instr.sliceAt 22 (.slice sa s.length sc) (some (.int .i64 k)) none none).run Tryz.prog W=.ok (.slice da (s.length-k) dc) W)/\ScriptW w (.slice ta k tc) (s.take k)/\ScriptW w (.slice da (s.length-k) dc) (s.drop k):=by
 rcases qNz h with ⟨e1,e2⟩ | ⟨g,cap,e1,hcap,hsc,hlt,_,_⟩
 ·subst e2
  have hk0:k=0:=by simpa using hk
  subst hk0
  exact⟨none,0,none,0,none,0,e1,zEr,zD0,.inl ⟨⟨_,_,rfl⟩,rfl⟩,.inl ⟨⟨_,_,rfl⟩,rfl⟩⟩
 ·have hkl:(s.take k).length=k:=by rw[List.length_take];omega
  have hT:ScriptW w (.slice (some ⟨g,0,none⟩) k cap) (s.take k):=.inr ⟨g,0,cap,by rw[hkl],by omega,qT4 hsc k,hlt⟩
  by_cases hck:k<cap
  ·refine⟨some ⟨g,0,none⟩,cap,some ⟨g,0,none⟩,cap,some ⟨g,k*26,none⟩,cap-k,e1,λW=>qY6 g _ cap k W (by omega),λW=>zDx g _ cap k W hk hck,hT,?_⟩
   have:=qSu hsc k
   rw[Nat.zero_add]at this
   exact .inr ⟨g,k*26,cap-k,by rw[List.length_drop],by rw[List.length_drop];omega,this,hlt⟩
  ·have e:s.length=k:=by omega
   have e2:cap=k:=by omega
   subst e2
   refine⟨some ⟨g,0,none⟩,cap,some ⟨g,0,none⟩,cap,some ⟨g,0,none⟩,0,e1,λW=>qY6 g _ cap cap W (by omega),λW=>?_,hT,.inl ⟨⟨_,_,by rw[e,Nat.sub_self]⟩,List.drop_eq_nil_of_le (by omega)⟩⟩
   rw[e,Nat.sub_self];exact zG4 g cap W
theorem zD3(b1 b2:Nat)(code:Int)(bs:ByteArray)(v1 v2:Value)(l:List Int)(w:World)(h1:w.ownsRow b1 3 1 v1 l.length (ints l))(h2:w.ownsRow b2 3 1 v2 l.length (ints l))(hl:l.length<=1000):
  Calls Tryz.prog 13 #[.agg #[.int .i64 code,v1,.string bs],.agg #[.int .i64 code,v2,.string bs]] w λe w'=>e=.returned (.bool true)/\Keeps (λ_=>False) w w':=by
 have HK:=hide (((Keeps.refl (λ_=>False) w).alloc (.cells #[.int .i64 code,v1,.string bs] 38)).alloc (.cells #[.int .i64 code,v2,.string bs] 38))
 have HA:=hide (show Blk ((w.alloc (.cells #[.int .i64 code,v1,.string bs] 38)).alloc (.cells #[.int .i64 code,v2,.string bs] 38)) w.heap.size [.int .i64 code,v1,.string bs] 38 from(Blk.new w [_,_,_] 38).alloc _)
 have HB:=hide (show Blk ((w.alloc (.cells #[.int .i64 code,v1,.string bs] 38)).alloc (.cells #[.int .i64 code,v2,.string bs] 38)) (w.heap.size+1) [.int .i64 code,v2,.string bs] 38 from Blk.newAt (by simp) [_,_,_] 38)
 have hcc:(code==code)=true:=by simp
 have hbb:(bs.toList==bs.toList)=true:=by simp
 obtain⟨a1,c1,e1⟩:=qFw h1
 obtain⟨a2,c2,e2⟩:=qFw h2
 subst e1 e2
 have H1:=hide h1
 have H2:=hide h2
 clear h1 h2
 go_enter Tryz.func13,Tryz.ntmps13
 go_wp2_with fail
 refine(qYq b1 b2 _ _ l _ (qBd (uh H1) (uh HK) (λ_ _ h=>h)) (qBd (uh H2) (uh HK) (λ_ _ h=>h)) hl).mono ?_
 rintro e w1 ⟨rfl,hk1⟩
 have hA:=(uh HA).keeps hk1 (λh=>h)
 have hB:=(uh HB).keeps hk1 (λh=>h)
 have a0:w1.cell? ⟨w.heap.size,0,none⟩=some (.int .i64 code):=hA.cell rfl
 have a2:w1.cell? ⟨w.heap.size,2,none⟩=some (.string bs):=hA.cell rfl
 have b0:w1.cell? ⟨w.heap.size+1,0,none⟩=some (.int .i64 code):=hB.cell rfl
 have b2':w1.cell? ⟨w.heap.size+1,2,none⟩=some (.string bs):=hB.cell rfl
 have HK1:=hide ((uh HK).then hk1)
 clear hk1 hA hB
 go_wp2
 go_ret
 exact⟨by simp,uh HK1⟩
theorem zBm(S:WS): (qFj S).toList.isEmpty=false:=by
 have h:(qFj S).size≠0:=by
  unfold qFj qD1
  rw[qGe]
  unfold qHc qF2
  simp[qC0]
 cases hb:(qFj S).toList.isEmpty with
 | false=>rfl
 | true =>
  have h2:=List.isEmpty_iff.1 hb
  rw[ByteArray.toList_eq]at h2
  exfalso
  apply h
  have h3:=congrArg List.length h2
  exact h3
end
section
open Go.RowKit
theorem qMa{w:World}{base:Nat}{v:Value}{l:List Int}(h:w.ownsRow base 3 1 v l.length (qAw l)): ∃a cap,v=.slice a l.length cap/\(0<l.length->∃g,a=some ⟨g,0,none⟩/\∀i,i<l.length->w.cell? ⟨g,i,none⟩=some (.int .i64 (l.getD i 0))):=by
 rcases qJy h with ⟨h1,h2⟩ | ⟨g,cap,h1,h2⟩
 ·exact⟨none,0,by rw[h2,h1],λh=>by omega⟩
 ·refine⟨_,cap,h1,λ_=>⟨g,rfl,λi hi=>h2 i _ ?_⟩⟩
  unfold qAw
  rw[List.getElem?_map,List.getElem?_eq_getElem hi,List.getD_eq_getElem?_getD,List.getElem?_eq_getElem hi]
  rfl
theorem zCl(v:Value)(base:Nat)(l:List Int)(n:Int)(w:World)(h:w.ownsRow base 3 1 v l.length (qAw l))(hl:l.length<=1000)(hn:n ∉ l):
  Calls Tryz.prog 222 #[v,.int .i64 n] w λe w'=>e=.returned (.int .i64 (-1))/\w'=w:=by
 obtain⟨a,cap,hv,hc⟩:=qMa h
 obtain⟨m,hm⟩:∃m,l.length=m:=⟨_,rfl⟩
 rw[hm]at hv hl
 subst hv
 have HC:=hide hc
 have HM:=hide hm
 have HN:=hide hn
 clear h hc hm hn
 go_enter Tryz.func222,Tryz.ntmps222
 go_wp2
 go_loopw [8] (λiv wr=>∃i:Nat,i<=m/\iv=.int .i64 i/\wr=w) (λiv _=>m-(intOf iv).toNat)
 case atStart=>exact⟨0,by omega,rfl,rfl⟩
 case round =>
  obtain⟨i,hi,rfl,rfl⟩:=hrel
  by_cases him:i<m
  ·obtain⟨g,hg,hcell⟩:=uh HC (by rw[uh HM];omega)
   subst hg
   have hil:i<l.length:=by rw[uh HM];exact him
   have hci:=hcell i hil
   have hne:(n==l.getD i 0)=false:=by
    have hmem:l.getD i 0∈l:=by rw[List.getD_eq_getElem?_getD,List.getElem?_eq_getElem hil];exact List.getElem_mem hil
    cases hb:(n==l.getD i 0) with
    | false=>rfl
    | true=>exact absurd (by rw[beq_iff_eq]at hb;rw[hb];exact hmem) (uh HN)
   generalize l.getD i 0=x at *
   have hi0:(0:Int)<=(i:Int):=by omega
   have hi1:(i:Int)<(m:Int):=by omega
   clear hcell hil
   go_wp2
   go_roundw
   case rel=>exact⟨i+1,by omega,by go_num,by trivial⟩
   case measure=>simp[intOf];omega
  ·have hie:i=m:=by omega
   subst hie
   have hf:decide ((i:Int)<(i:Int))=false:=by simp
   go_wp2
   go_ret
   exact⟨rfl,rfl⟩
theorem qT8(v:Value)(base:Nat)(l:List Int)(n:Int)(w:World)(h:w.ownsRow base 3 1 v l.length (qAw l))(hl:l.length<=1000)(hn:n ∉ l):
  Calls Tryz.prog 179 #[v,.int .i64 n] w λe w'=>e=.returned (.bool false)/\w'=w:=by
 have HI:=hide (zCl v base l n w h hl hn)
 clear h hn
 go_enter Tryz.func179,Tryz.ntmps179
 go_wp2_with fail
 refine(uh HI).mono ?_
 rintro e w1 ⟨rfl,hw1⟩
 rw[hw1]
 clear hw1 w1
 go_wp2
 go_ret
 exact⟨rfl,rfl⟩
structure KnRep (w:World) (kn:Nat) (m acc rel:Int) (nv:Value) (ns:List Int):Prop where
 blk:Blk w kn (qEl m acc rel nv) 184
 row:w.ownsRow (kn+1) 3 1 nv ns.length (qAw ns)
theorem KnRep.keeps{M:Nat->Prop}{w w':World}{kn:Nat}{m acc rel:Int}{nv:Value}{ns:List Int}(h:KnRep w kn m acc rel nv ns)(hk:Keeps M w w')(h1:¬M kn)(h2:∀i,nv.ownBlock=some i->¬M i): KnRep w' kn m acc rel nv ns :=
 ⟨h.blk.keeps hk h1,qNq h.row hk h2⟩
theorem qKv(r kn:Nat)(m acc rel n:Int)(nv:Value)(ns:List Int)(tl:List Nat)(w:World)(h:RdRep w r (enc n++tl))(hk:KnRep w kn m acc rel nv ns)(hkr:r<kn)(n1:1<=n)(n2:n<=acc)(a1:acc<=4611686018427387904)(hns:n ∉ ns)(hl:ns.length<=900):
  Calls Tryz.prog 138 #[.pointer (some ⟨kn,0,none⟩),.pointer (some ⟨r,0,none⟩)] w λe w'=>e=.returned (.int .i64 n)/\RdRep w' r tl/\(∃nv',KnRep w' kn m acc rel nv' (ns++[n])/\(∀i,nv'.ownBlock=some i->nv.ownBlock=some i\/w.heap.size<=i))/\Keeps (λi=>i=r\/i=kn\/nv.ownBlock=some i) w w':=by
 have HK:=hide hk
 have k1:w.cell? ⟨kn,1,none⟩=some (.int .i64 acc):=hk.blk.cell rfl
 have HN:=hide (qB3 r n 1 acc tl w h (by omega) (by omega) n1 n2)
 have HNS:=hide hns
 have hb:=λi hi=>(hk.row.lt i hi).1
 have HBN:=hide (show ∀i,nv.ownBlock=some i->kn+1<=i from hb)
 clear h hk hns hb
 go_enter Tryz.func138,Tryz.ntmps138
 go_wp2_with fail
 refine(uh HN).mono ?_
 rintro e w1 ⟨rfl,hr1,hk1⟩
 have HR1:=hide hr1
 have HK1:=hide hk1
 have HQ1:=hide ((uh HK).keeps hk1 (show ¬(kn=r) by omega) (λi hi=>show ¬(i=r) by have:=uh HBN i hi;omega))
 have k3:w1.cell? ⟨kn,3,none⟩=some nv:=(uh HQ1).blk.cell rfl
 clear hr1 hk1 k1 HN
 go_wp2_with fail
 refine(qT8 nv (kn+1) ns n w1 (uh HQ1).row (by omega) (uh HNS)).mono ?_
 rintro e w2 ⟨rfl,hw2⟩
 rw[hw2]
 clear hw2 w2
 go_wp2_with fail
 refine(qEr r _).mono ?_
 rintro e w2 ⟨rfl,hw2⟩
 rw[hw2]
 clear hw2 w2
 obtain⟨a,cap,hv,_⟩:=qMa (uh HQ1).row
 obtain⟨q,hq⟩:∃q,ns.length=q:=⟨_,rfl⟩
 rw[hq]at hv hl
 subst hv
 have hklt:=(uh HQ1).blk.lt
 have HROW:=hide (show w1.ownsRow (kn+1) 3 1 (.slice a q cap) q (qAw ns) by have:=(uh HQ1).row;rw[hq]at this;exact this)
 have HQL:=hide hq
 have HBA:=hide ((uh HQ1).blk.alloc (.cells #[.int .i64 n] 3))
 clear hq
 go_wp2_with (at_builtin;refine qBi rfl _ _ rfl (kn+1) (.slice a q cap) q ns rfl (by exact qCo (uh HROW) ((Keeps.refl (λ_=>False) w1).alloc _) (λ_ _ h=>h)) w1.heap.size 1 [n] rfl rfl (by exact Blk.new w1 [.int .i64 n] 3) (by omega) (by omega) (by simp;omega) ?_;intro g2 c2 w3 hown3 hk3 hat3;have hB3:=(uh HBA).keeps hk3 (λh=>by have:=uh HBN kn h;omega);have hc3:=hB3.cell (i:=3) rfl;have hf3:=hB3.frozen)
 have hgk:g2≠kn:=by
  rcases hat3 with h | h
  ·have:=uh HBN g2 h;omega
  ·simp at h;omega
 have hs1:=(uh HK1).size
 have hk4:Keeps (λi=>i=kn) w3 (w3.setCell ⟨kn,3,none⟩ (.slice (some ⟨g2,0,none⟩) (q+1) c2)):=(Keeps.refl (λi=>i=kn) w3).setCell (p:=⟨kn,3,none⟩) (Or.inl rfl) _
 have HB4:=hide (hB3.setCell 3 (.slice (some ⟨g2,0,none⟩) (q+1) c2))
 have HO4:=hide (qNq hown3 hk4 (λi hi=>show ¬(i=kn) by have h2:g2=i:=(by simpa[Value.ownBlock] using hi);omega))
 have hk13:Keeps (λi=>(Value.slice a q cap).ownBlock=some i) w1 w3:=((Keeps.refl _ w1).alloc _).then hk3
 have HR4:=hide (((uh HR1).keeps hk13 (λh=>by have:=uh HBN r h;omega)).keeps hk4 (show ¬(r=kn) by omega))
 have HK4:=hide (show Keeps (λi=>i=r\/i=kn\/(Value.slice a q cap).ownBlock=some i) w (w3.setCell ⟨kn,3,none⟩ (.slice (some ⟨g2,0,none⟩) (q+1) c2)) from(((uh HK1).mono (λ_ _ h=>.inl h)).trans hk13 (λi hi _=>.inr (.inr hi))).trans hk4 (λi hi _=>.inr (.inl hi)))
 have HAT:=hide (show ∀i,(Value.slice (some ⟨g2,0,none⟩) (q+1) c2).ownBlock=some i->(Value.slice a q cap).ownBlock=some i\/w.heap.size<=i from λi hi=>by
    have h2:g2=i:=by simpa[Value.ownBlock] using hi
    subst h2
    rcases hat3 with h | h
    ·exact .inl h
    ·simp at h;exact .inr (by omega))
 clear hB3 hown3 hk3 hat3 hk4 hk13
 go_wp2
 go_ret
 exact⟨rfl,uh HR4,⟨_,⟨uh HB4,by rw[List.length_append,List.length_singleton,uh HQL];exact uh HO4⟩,uh HAT⟩,uh HK4⟩
def rowFrom(cs:List Int)(k:Nat): Nat->Nat->List Int
 | 0,_=>[]
 | n+1,j=>cs.getD (k*16+j) 0::rowFrom cs k n (j+1)
def qDq(cs:List Int)(wd:Nat): Nat->Nat->List Int
 | 0,_=>[]
 | n+1,k=>rowFrom cs k wd 0++qDq cs wd n (k+1)
theorem qWp(cs:List Int)(k n j:Nat): (List.range' j n).map (λj=>cs.getD (k*16+j) 0)=rowFrom cs k n j:=by
 induction n generalizing j with
 | zero=>rfl
 | succ n ih=>rw[List.range'_succ,List.map_cons,rowFrom,ih]
theorem qXw(cs:List Int)(k wd:Nat): qM5 wd cs k=rowFrom cs k wd 0:=by rw[<-qWp,<-List.range_eq_range'];rfl
theorem qQ4(cs:List Int)(wd n k:Nat): (List.range' k n).flatMap (qM5 wd cs)=qDq cs wd n k:=by
 induction n generalizing k with
 | zero=>rfl
 | succ n ih=>rw[List.range'_succ,List.flatMap_cons,qDq,ih,qXw]
theorem qYj(cs:List Int)(wd n:Nat): qE5 n wd cs=qDq cs wd n 0:=by rw[<-qQ4,<-List.range_eq_range'];rfl
def qG0(l:List Int): Int:=l.foldr (λa b=>a+b) 0
structure LdF (R W:Nat) (most s:Int) (cs:List Int):Prop where
 nn:∀i,0<=cs.getD i 0
 ze:∀i,(R<=i/16\/W<=i%16)->cs.getD i 0=0
 row:∀j,j<R->qG0 (qM5 W cs j)=s
 s0:0<s
 s1:s<=most
theorem qTw{R W:Nat}{most s:Int}{cs:List Int}(h:LdF R W most s cs)(k n j:Nat): 0<=qG0 (rowFrom cs k n j):=by
 induction n generalizing j with
 | zero=>exact Int.le_refl _
 | succ n ih =>
  have h1:=ih (j+1)
  have h2:=h.nn (k*16+j)
  show 0<=cs.getD (k*16+j) 0+qG0 (rowFrom cs k n (j+1))
  omega
theorem zCa{w:World}{d q:Nat}{c:Cfg}{p p':Pa.Pn}(i:Nat)(x:Int)(hi:i<48)(h:Blk w d (qA2 c p q) 240)(hn:p'.no=p.no)(hu:p'.cs=p.cs.set i x):
  Blk (w.setCell ⟨d,21+i,none⟩ (.int .i64 x)) d (qA2 c p' q) 240:=by
 have h1:=h.setCell (21+i) (.int .i64 x)
 rw[show 21+i=20+(i+1) by omega,qVm c p q (i+1) _ (by omega)]at h1
 have e:p.cells.set (i+1) (.int .i64 x)=p'.cells:=by
  unfold Pa.Pn.cells
  rw[List.set_cons_succ,hn,hu,List.map_set]
 rw[e]at h1
 rw[show 21+i=20+(i+1) by omega]
 exact h1
theorem zA5{w:World}{d q:Nat}{c:Cfg}{p:Pa.Pn}(i:Nat)(hi:i<48)(h:Blk w d (qA2 c p q) 240): w.cell? ⟨d,21+i,none⟩=some (.int .i64 (p.cs.getD i 0)):=by
 rw[show 21+i=20+(i+1) by omega]
 refine h.cell ((qJf c _ q (i+1) (by omega)).trans ?_)
 show((.int .i64 p.no::p.cs.map (.int .i64 ·):List Value))[i+1]?=_
 rw[List.getElem?_cons_succ,List.getElem?_map,List.getD_eq_getElem?_getD,List.getElem?_eq_getElem (by rw[p.len];exact hi)]
 rfl
theorem qV7(l:List Int)(i j:Nat)(x:Int)(hi:i<l.length): (l.set i x).getD j 0=if j=i then x else l.getD j 0:=by
 simp only[List.getD_eq_getElem?_getD,List.getElem?_set]
 by_cases h:i=j
 ·subst h;simp[hi]
 ·simp[h,Ne.symm h]
theorem zCd(d q r R W:Nat)(c:Cfg)(no:Int)(cs:List Int)(hcs:cs.length=48)(most s:Int)(tl:List Nat)(w:World)(hb:Blk w d (qA2 c (qM3 no) q) 240)(hr:RdRep w r (qBe (qE5 R W cs)++tl))(hdr:d≠r)(hR:c.rows=(R:Int))(hW:c.width=(W:Int))(R1:1<=R)(R3:R<=3)(W16:W<=16)(hf:LdF R W most s cs)(hm:most<=4611686018427387904):
  Calls Tryz.prog 210 #[.pointer (some ⟨d,0,none⟩),.pointer (some ⟨r,0,none⟩),.int .i64 most] w λe w'=>e=.returned (.int .i64 s)/\Blk w' d (qA2 c ⟨no,cs,hcs⟩ q) 240/\RdRep w' r tl/\Keeps (λi=>i=r\/i=d) w w':=by
 have c7:w.cell? ⟨d,7,none⟩=some (.int .i64 (R:Int)):=hR ▸ hb.cell (qBu c _ q 7 (by omega))
 have HB:=hide hb
 have HR:=hide hr
 have HF:=hide hf
 have HW:=hide hW
 have s0:=hf.s0
 have s1:=hf.s1
 clear hb hr hf hR hW
 go_enter Tryz.func210,Tryz.ntmps210
 go_wp2_with fail
 clear c7
 go_loopw [7,17] (λa iv wr=>∃(it:Int) (k n:Nat) (p:Pa.Pn),a=.int .i64 it/\iv=.int .i64 (k:Int)/\k+n=R/\(k=0\/it=s)/\Hid (p.no=no)/\Hid (∀i,(i<k*16->p.cs.getD i 0=cs.getD i 0)/\(k*16<=i->p.cs.getD i 0=0))/\Hid (Blk wr d (qA2 c p q) 240)/\Hid (RdRep wr r (qBe (qDq cs W n k)++tl))/\Hid (Keeps (λi=>i=r\/i=d) w wr)) (λ_ iv _=>R-(intOf iv).toNat)
 case atStart =>
  refine⟨0,0,R,qM3 no,rfl,rfl,by omega,.inl rfl,rfl,λi=>⟨λh=>by omega,λ_=>?_⟩,HB,?_,Keeps.refl _ _⟩
  ·show(List.replicate 48 (0:Int)).getD i 0=0
   rw[List.getD_eq_getElem?_getD,List.getElem?_replicate]
   split <;> rfl
  ·have:=uh HR
   rw[qYj]at this
   exact this
 case round =>
  clear HR HB
  obtain⟨it,k,n,p,rfl,rfl,hkn,hit,HNO,HPC,HB,HR,HK⟩:=hrel
  cases n with
  | zero =>
   have hkR:k=R:=by omega
   subst hkR
   have hf':decide ((k:Int)<(k:Int))=false:=by simp
   have hits:it=s:=by rcases hit with h | h;omega;exact h
   subst hits
   have HZ:=hide (show Blk wr d (qA2 c ⟨no,cs,hcs⟩ q) 240 by
      have e:p=⟨no,cs,hcs⟩:=by
       have e1:p.cs=cs:=by
        apply List.ext_getElem?
        intro i
        by_cases h:i<48
        ·have h1:p.cs.getD i 0=cs.getD i 0:=by
          by_cases h2:i<k*16
          ·exact((uh HPC) i).1 h2
          ·rw[((uh HPC) i).2 (by omega),(uh HF).ze i (.inl (by omega))]
         simp only[List.getD_eq_getElem?_getD]at h1
         rw[List.getElem?_eq_getElem (by rw[p.len];exact h),List.getElem?_eq_getElem (by rw[hcs];exact h)]at h1 ⊢
         exact congrArg some h1
        ·rw[List.getElem?_eq_none (by rw[p.len];omega),List.getElem?_eq_none (by rw[hcs];omega)]
       have e2:=uh HNO
       cases p
       simp only at e1 e2
       subst e1 e2
       rfl
      rw[<-e]
      exact uh HB)
   go_wp2
   go_ret
   refine⟨rfl,uh HZ,?_,uh HK⟩
   have:=uh HR
   rw[qDq]at this
   exact this
  | succ n =>
   have hkR:k<R:=by omega
   have hkI:(k:Int)<(R:Int):=by omega
   have hk0:(0:Int)<=(k:Int):=by omega
   have hk3:(k:Int)<3:=by omega
   have c8:wr.cell? ⟨d,8,none⟩=some (.int .i64 (W:Int)):=(uh HW) ▸ (uh HB).cell (qBu c _ q 8 (by omega))
   have HRa:=hide (show RdRep wr r (qBe (rowFrom cs k W 0)++(qBe (qDq cs W n (k+1))++tl)) by
      have:=uh HR
      rw[qDq,qAk,List.append_assoc]at this
      exact this)
   have HSW:=hide (show qG0 (rowFrom cs k W 0)=s by rw[<-qXw];exact(uh HF).row k hkR)
   clear HR
   go_wp2_with fail
   clear c8
   go_loopw [9,25] (λa iv wr=>∃(sm:Int) (j n2:Nat) (p:Pa.Pn),a=.int .i64 sm/\iv=.int .i64 (j:Int)/\j+n2=W/\0<=sm/\sm<=s/\Hid (sm+qG0 (rowFrom cs k n2 j)=s)/\Hid (p.no=no)/\Hid (∀i,(i<k*16+j->p.cs.getD i 0=cs.getD i 0)/\(k*16+j<=i->p.cs.getD i 0=0))/\Hid (Blk wr d (qA2 c p q) 240)/\Hid (RdRep wr r (qBe (rowFrom cs k n2 j)++(qBe (qDq cs W n (k+1))++tl)))/\Hid (Keeps (λi=>i=r\/i=d) w wr)) (λ_ iv _=>W-(intOf iv).toNat)
   case atStart=>exact⟨0,0,W,p,rfl,rfl,by omega,by omega,by omega,by show _=_;rw[uh HSW];omega,HNO,HPC,HB,HRa,HK⟩
   case round =>
    clear HNO HPC HB HRa HK
    obtain⟨sm,j,n2,p,rfl,rfl,hjn,sm0,sm1,HSM,HNO,HPC,HB,HR,HK⟩:=hrel
    cases n2 with
    | zero =>
     have hjW:j=W:=by omega
     subst hjW
     have hf':decide ((j:Int)<(j:Int))=false:=by simp
     have hsm:sm=s:=by have:=uh HSM;rw[rowFrom]at this;simpa[qG0] using this
     subst hsm
     have HRb:=hide (show RdRep wr r (qBe (qDq cs j n (k+1))++tl) from uh HR)
     have HPD:=hide (show ∀i,(i<(k+1)*16->p.cs.getD i 0=cs.getD i 0)/\((k+1)*16<=i->p.cs.getD i 0=0) from λi=>⟨λh=>by
          by_cases h2:i<k*16+j
          ·exact((uh HPC) i).1 h2
          ·rw[((uh HPC) i).2 (by omega),(uh HF).ze i (.inr (by omega))],λh=>((uh HPC) i).2 (by omega)⟩)
     have hgt:decide (0<sm)=true:=by simpa using s0
     have hkc:((k:Int)==0)=true\/(((k:Int)==0)=false/\(sm==it)=true):=by
      rcases hit with h | h
      ·exact .inl (by simp[h])
      ·by_cases h2:k=0
       ·exact .inl (by simp[h2])
       ·exact .inr ⟨by simp;omega,by simp[h]⟩
     clear hit
     rcases hkc with g | ⟨g,g2⟩
     all_goals
      go_wp2_with fail
      refine(qEr r _).mono ?_
      rintro e w5 ⟨rfl,hw5⟩
      rw[hw5]
      clear hw5 w5
      go_wp2
      go_roundw
      case rel=>exact⟨sm,k+1,n,p,rfl,by go_num,by omega,.inr rfl,HNO,HPD,HB,HRb,HK⟩
      case measure=>simp[intOf];omega
    | succ n2 =>
     obtain⟨x,hx⟩:∃x,cs.getD (k*16+j) 0=x:=⟨_,rfl⟩
     have x0:0<=x:=by rw[<-hx];exact(uh HF).nn _
     have HS2:=hide (show(sm+x)+qG0 (rowFrom cs k n2 (j+1))=s by
        have h:=uh HSM
        rw[rowFrom,hx]at h
        have h2:qG0 (x::rowFrom cs k n2 (j+1))=x+qG0 (rowFrom cs k n2 (j+1)):=rfl
        omega)
     have xs:sm+x<=s:=by have h1:=uh HS2;have h2:=qTw (uh HF) k n2 (j+1);omega
     have HRa:=hide (show RdRep wr r (enc x++(qBe (rowFrom cs k n2 (j+1))++(qBe (qDq cs W n (k+1))++tl))) by
        have:=uh HR
        rw[rowFrom,qAy,hx,List.append_assoc]at this
        exact this)
     have hjI:(j:Int)<(W:Int):=by omega
     have hj0:(0:Int)<=(j:Int):=by omega
     have hj16:(j:Int)<16:=by omega
     have hij:k*16+j<48:=by omega
     have wm:IntKind.i64.wrap (most-sm)=most-sm:=by rw[IntKind.wrap_i64];omega
     have ws:IntKind.i64.wrap (sm+x)=sm+x:=by rw[IntKind.wrap_i64];omega
     have HXX:=hide hx
     clear HR hx
     go_wp2_with fail
     refine(qB3 r x 0 (most-sm) _ wr (uh HRa) x0 (by omega) x0 (by omega)).mono ?_
     rintro e w1 ⟨rfl,hr1,hk1⟩
     have HB1:=hide ((uh HB).keeps hk1 hdr)
     have cx:w1.cell? ⟨d,21+k*16+j,none⟩=some (.int .i64 (p.cs.getD (k*16+j) 0)):=by rw[show 21+k*16+j=21+(k*16+j) by omega];exact zA5 (k*16+j) hij (uh HB1)
     have cf:=(uh HB1).frozen
     have hkd:Keeps (λi=>i=d) w1 (w1.setCell ⟨d,21+k*16+j,none⟩ (.int .i64 x)):=(Keeps.refl (λi=>i=d) w1).setCell (p:=⟨d,21+k*16+j,none⟩) (Or.inl rfl) _
     have HR2:=hide (hr1.keeps hkd (λh=>hdr h.symm))
     have HK2:=hide (((uh HK).trans hk1 (λ_ h _=>.inl h)).trans hkd (λ_ h _=>.inr h))
     have HB2:=hide (show Blk (w1.setCell ⟨d,21+k*16+j,none⟩ (.int .i64 x)) d (qA2 c ⟨p.no,p.cs.set (k*16+j) x,by rw[List.length_set];exact p.len⟩ q) 240 by
        rw[show 21+k*16+j=21+(k*16+j) by omega]
        exact zCa (k*16+j) x hij (uh HB1) rfl rfl)
     have HPD:=hide (show ∀i,(i<k*16+(j+1)->(p.cs.set (k*16+j) x).getD i 0=cs.getD i 0)/\(k*16+(j+1)<=i->(p.cs.set (k*16+j) x).getD i 0=0) from λi=>by
        rw[qV7 _ _ _ _ (by rw[p.len];exact hij)]
        refine⟨λh=>?_,λh=>?_⟩
        ·by_cases e:i=k*16+j
         ·rw[if_pos e,e,uh HXX]
         ·rw[if_neg e];exact((uh HPC) i).1 (by omega)
        ·rw[if_neg (by omega)];exact((uh HPC) i).2 (by omega))
     clear hr1 hk1 hkd HRa HB HB1
     go_wp2
     go_roundw
     case rel=>exact⟨sm+x,j+1,n2,⟨p.no,p.cs.set (k*16+j) x,by rw[List.length_set];exact p.len⟩,rfl,by go_num,by omega,by omega,xs,HS2,HNO,HPD,HB2,HR2,HK2⟩
     case measure=>simp[intOf];omega
def sP(W:Nat)(p:Pa.Pn): Int:=qG0 (qM5 W p.cs 0)
structure LdO (c:Cfg) (R W:Nat) (m rel:Int) (ps:List Pa.Pn):Prop where
 len:(ps.length:Int)<=c.panes+1
 asc:ps.Pairwise (λa b=>a.no<b.no)
 rng:∀p,p∈ps->0<=p.no/\p.no<=m/qA6 c
 pan:∀p,p∈ps->LdF R W (sP W p) (sP W p) p.cs
 sum:qG0 (ps.map (sP W))<=rel
def qUf(s:Pa.Pn×List Pa.Pn)(p:Pa.Pn): Pa.Pn×List Pa.Pn:=(p,(qBz s.1 s.2 p.no).2)
def qSr(ps:List Pa.Pn): Pa.Pn×List Pa.Pn:=ps.foldl qUf (Pa.pn0,[])
structure OL (w:World) (d q r:Nat) (og:Option Nat) (c:Cfg) (s:Pa.Pn×List Pa.Pn) (tl:List Nat) (og2:Option Nat) (wr:World):Prop where
 orr:ORep wr d q og2 c s.1 s.2
 rd:RdRep wr r tl
 kp:Keeps (λi=>i=r\/i=d\/i=q\/og=some i) w wr
 fo:og2=og\/∃k,og2=some k/\w.heap.size<=k
 ap:d≠r/\q≠r/\og≠some r/\r<w.heap.size
theorem OL.g{w:World}{d q r:Nat}{og:Option Nat}{c:Cfg}{s:Pa.Pn×List Pa.Pn}{tl:List Nat}{og2:Option Nat}{wr:World}(h:OL w d q r og c s tl og2 wr)(g:Nat)(hg:og2=some g): g≠r:=λe=>by
 rcases h.fo with f | ⟨k,f,hz⟩
 ·exact h.ap.2.2.1 (by rw[<-f,hg,e])
 ·rw[hg]at f
  have:=Option.some.inj f
  have:=h.ap.2.2.2
  omega
theorem OL.still{w:World}{d q r:Nat}{og:Option Nat}{c:Cfg}{s:Pa.Pn×List Pa.Pn}{tl:List Nat}{og2:Option Nat}{wr w2:World}(h:OL w d q r og c s tl og2 wr)(hk:Keeps (λ_=>False) wr w2): OL w d q r og c s tl og2 w2 :=
 ⟨h.orr.still hk,h.rd.keeps hk (λh=>h),h.kp.trans hk (λ_ h _=>h.elim),h.fo,h.ap⟩
theorem OL.number{w:World}{d q r:Nat}{og:Option Nat}{c:Cfg}{s:Pa.Pn×List Pa.Pn}{n lo hi:Int}{tl:List Nat}{og2:Option Nat}{wr:World}(h:OL w d q r og c s (enc n++tl) og2 wr)(n0:0<=n)(n1:n<=9223372036854775807)(h1:lo<=n)(h2:n<=hi):
  Calls Tryz.prog 88 #[.pointer (some ⟨r,0,none⟩),.int .i64 lo,.int .i64 hi] wr λe w2=>e=.returned (.int .i64 n)/\OL w d q r og c s tl og2 w2/\Keeps (λi=>i=r) wr w2:=by
 refine(qB3 r n lo hi tl wr h.rd n0 n1 h1 h2).mono ?_
 rintro e w2 ⟨rfl,hr,hk⟩
 exact⟨rfl,⟨h.orr.keeps hk h.ap.1 h.ap.2.1 (λg hg=>h.g g hg),hr,h.kp.trans hk (λ_ h _=>.inl h),h.fo,h.ap⟩,hk⟩
theorem OL.turn{w:World}{d q r:Nat}{og:Option Nat}{c:Cfg}{s s2:Pa.Pn×List Pa.Pn}{tl:List Nat}{og2 og3:Option Nat}{wr w2:World}(h:OL w d q r og c s tl og2 wr)(hb:Blk w2 d (qA2 c s2.1 q) 240)(hr:Pa.RowRep w2 d q og3 s2.2)(hk:Keeps (λk=>k=d\/k=q\/og2=some k) wr w2)(hog:og3=og2\/∃k,og3=some k/\wr.heap.size<=k): OL w d q r og c s2 tl og3 w2:=by
 have hsz:=h.kp.size
 refine⟨⟨hb,hr,h.orr.dq,λg hg=>?_⟩,h.rd.keeps hk (λe=>?_),h.kp.trans hk (λi hi hlt=>?_),?_,h.ap⟩
 ·rcases hog with f | ⟨k,f,hz⟩
  ·exact h.orr.dg g (by rw[<-f,hg])
  ·rw[hg]at f
   have:=Option.some.inj f
   have:=h.orr.blk.lt
   omega
 ·rcases e with e | e | e
  ·exact h.ap.1 e.symm
  ·exact h.ap.2.1 e.symm
  ·exact h.g r e rfl
 ·rcases hi with e | e | e
  ·exact .inr (.inl e)
  ·exact .inr (.inr (.inl e))
  ·rcases h.fo with f | ⟨k,f,hz⟩
   ·exact .inr (.inr (.inr (by rw[<-f];exact e)))
   ·have e2:og2=some i:=e
    rw[f]at e2
    have:=Option.some.inj e2
    omega
 ·rcases hog with f | ⟨k,f,hz⟩
  ·rw[f];exact h.fo
  ·exact .inr ⟨k,f,by omega⟩
theorem OL.fill{w:World}{d q r:Nat}{og:Option Nat}{c:Cfg}{o p:Pa.Pn}{cl:List Pa.Pn}{tl tl2:List Nat}{og2:Option Nat}{wr w2:World}(h:OL w d q r og c (o,cl) tl og2 wr)(hb:Blk w2 d (qA2 c p q) 240)(hr:RdRep w2 r tl2)(hk:Keeps (λi=>i=r\/i=d) wr w2): OL w d q r og c (p,cl) tl2 og2 w2:=by
 refine⟨⟨hb,h.orr.row.keeps hk (λe=>e.elim h.ap.2.1 (λe=>h.orr.dq e.symm)) (λg hg e=>e.elim (h.g g hg) (λe=>h.orr.dg g hg e.symm)),h.orr.dq,h.orr.dg⟩,hr,h.kp.trans hk (λi hi hlt=>?_),h.fo,h.ap⟩
 rcases hi with e | e
 ·exact .inl e
 ·exact .inr (.inl e)
theorem LdF.up{R W:Nat}{a b s:Int}{cs:List Int}(h:LdF R W a s cs)(hs:s<=b): LdF R W b s cs:=⟨h.nn,h.ze,h.row,h.s0,hs⟩
theorem qXy{o p:Pa.Pn}{cl:List Pa.Pn}(h:o=Pa.pn0\/o.no<p.no): (qBz o cl p.no).1=qM3 p.no:=by
 unfold qBz
 split
 ·rename_i e
  rcases h with h | h
  ·rw[<-e,h];rfl
  ·omega
 ·rfl
theorem qEs(a:Int)(l:List Int): qG0 (a::l)=a+qG0 l:=rfl
theorem qUq(d q r kn R W:Nat)(og:Option Nat)(c:Cfg)(m acc rel:Int)(nv:Value)(ps:List Pa.Pn)(tl:List Nat)(w:World)(h:ORep w d q og c Pa.pn0 [])(hr:RdRep w r (qBe ((ps.length:Int)::qCy c ps)++tl))(hk:Blk w kn (qEl m acc rel nv) 184)(hap:d≠r/\q≠r/\og≠some r)(hkn:kn≠r/\kn≠d/\kn≠q/\og≠some kn)(hc:LdO c R W m rel ps)(hR:c.rows=(R:Int))(hW:c.width=(W:Int))(hpn:c.paned)(hrw:c.rowed)(hL:1<=qA6 c)(m0:0<=m\/ps=[])(m1:m<=4611686018427387904)(r1:rel<=4611686018427387904)(r0:0<=rel):
  Calls Tryz.prog 162 #[.pointer (some ⟨d,0,none⟩),.pointer (some ⟨r,0,none⟩),.pointer (some ⟨kn,0,none⟩)] w λe w'=>e=.returned (.tuple #[])/\∃og2,OL w d q r og c (qSr ps) tl og2 w':=by
 have hrl:=hr.blk.lt
 have HCK:=hide (show ∀w',Keeps (λi=>i=r\/i=d\/i=q\/og=some i) w w'->w'.cell? ⟨kn,0,none⟩=some (.int .i64 m)/\w'.cell? ⟨kn,2,none⟩=some (.int .i64 rel) from λw' hkp=>by
    have hn:¬(kn=r\/kn=d\/kn=q\/og=some kn):=λe=>e.elim hkn.1 (λe=>e.elim hkn.2.1 (λe=>e.elim hkn.2.2.1 hkn.2.2.2))
    exact⟨(hk.keeps hkp hn).cell rfl,(hk.keeps hkp hn).cell rfl⟩)
 have HKR:=hide hkn.1
 have HLEN:=hide (λW' h5' h9'=>qJ0 d c W' h5' h9' (by have:=hpn.w0;omega) hpn.w1 hpn.p0)
 have HOL:=hide (show OL w d q r og c (Pa.pn0,[]) (enc (ps.length:Int)++(qBe (qCy c ps)++tl)) og w by
    rw[qAy,List.append_assoc]at hr
    exact⟨h,hr,Keeps.refl _ _,.inl rfl,⟨hap.1,hap.2.1,hap.2.2,hrl⟩⟩)
 have HC:=hide hc
 obtain⟨N,hN⟩:∃N,ps.length=N:=⟨_,rfl⟩
 have hNp:=hc.len
 rw[hN]at hNp
 have HN:=hide hN
 have hp1:=hpn.p1
 have hp0:=hpn.p0
 have R1:1<=R:=by have:=hrw.r0;omega
 have R3:R<=3:=by have:=hrw.r1;omega
 have W16:W<=16:=by have:=hrw.w1;omega
 have HRR:=hide hR
 have HWW:=hide hW
 have HPN:=hide (show ∀p,qPe c p=p.no::qE5 R W p.cs from λp=>by unfold qPe;rw[hR,hW];rfl)
 obtain⟨k0,k2⟩:=uh HCK w (Keeps.refl _ _)
 have c9:w.cell? ⟨d,9,none⟩=some (.int .i64 c.panes):=h.blk.cell (qBu c _ q 9 (by omega))
 have wp:IntKind.i64.wrap (c.panes+1)=c.panes+1:=by rw[IntKind.wrap_i64];omega
 clear h hr hk hc hap hkn hR hW hpn hrw hN
 go_enter Tryz.func162,Tryz.ntmps162
 go_wp2_with fail
 refine((show OL w d q r og c (Pa.pn0,[]) (enc (N:Int)++(qBe (qCy c ps)++tl)) og w by rw[<-uh HN];exact uh HOL).number (by omega) (by omega) (by omega) (by omega)).mono ?_
 rintro e w1 ⟨rfl,hl1,_⟩
 have HO1:=hide hl1
 clear hl1 HOL k0 k2 c9 wp
 go_wp2_with fail
 go_loopw [6,7,21] (λa b iv wr=>∃(lf le:Int) (i:Nat) (s:Pa.Pn×List Pa.Pn) (og2:Option Nat),a=.int .i64 lf/\b=.int .i64 le/\iv=.int .i64 (i:Int)/\i<=N/\0<=lf/\lf<=rel/\0<=le/\Hid (qG0 ((ps.drop i).map (sP W))<=lf)/\Hid (∀p,p∈ps.drop i->le<=p.no/\(s.1=Pa.pn0\/s.1.no<p.no))/\Hid ((ps.take i).foldl qUf (Pa.pn0,[])=s)/\Hid (s.2.length<=i)/\Hid (OL w d q r og c s (qBe (qCy c (ps.drop i))++tl) og2 wr)) (λ_ _ iv _=>N-(intOf iv).toNat)
 case atStart=>exact⟨rel,0,0,(Pa.pn0,[]),og,rfl,rfl,rfl,Nat.zero_le _,r0,Int.le_refl _,Int.le_refl _,(uh HC).sum,λp hp=>⟨((uh HC).rng p hp).1,.inl rfl⟩,rfl,Nat.le_refl _,HO1⟩
 case round =>
  clear HO1
  obtain⟨lf,le,i,s,og2,rfl,rfl,rfl,hi,lf0,lf1,le0,HSM,HLE,HST,HSL,HL⟩:=hrel
  by_cases hiN:i<N
  ·obtain⟨p,hp⟩:∃p,ps[i]?=some p:=⟨_,List.getElem?_eq_getElem (by rw[uh HN];exact hiN)⟩
   have HDR:=hide (show ps.drop i=p::ps.drop (i+1) by
      have hlt:=List.getElem?_eq_some_iff.1 hp
      rw[List.drop_eq_getElem_cons hlt.1,hlt.2])
   have HTK:=hide (show(ps.take (i+1)).foldl qUf (Pa.pn0,[])=qUf s p by rw[List.take_add_one,hp,Option.toList_some,List.foldl_append,uh HST];rfl)
   have hpm:=List.mem_of_getElem? hp
   have hle:=uh HLE p (by rw[uh HDR];simp)
   have hrg:=(uh HC).rng p hpm
   have m0':0<=m:=by
    rcases m0 with h | h
    ·exact h
    ·rw[h]at hpm;simp at hpm
   have HFL:=hide ((uh HC).pan p hpm)
   have HSM2:=hide (show sP W p+qG0 ((ps.drop (i+1)).map (sP W))<=lf by
      have h:=uh HSM
      rw[uh HDR,List.map_cons,qEs]at h
      exact h)
   have HNN:=hide (show ∀l:List Pa.Pn,(∀x,x∈l->x∈ps)->0<=qG0 (l.map (sP W)) from λl=>by
      induction l with
      | nil=>intro _;exact Int.le_refl _
      | cons x l ih=>intro hx;rw[List.map_cons,qEs];have h1:=ih (λy hy=>hx y (by simp[hy]));have h2:=((uh HC).pan x (hx x (by simp))).s0;omega)
   have hsp:sP W p<=lf:=by have h1:=uh HSM2;have h2:=uh HNN (ps.drop (i+1)) (λx hx=>List.mem_of_mem_drop hx);omega
   have hsp0:=(uh HFL).s0
   have HLa:=hide (show OL w d q r og c s (enc p.no++(qBe (qE5 R W p.cs)++(qBe (qCy c (ps.drop (i+1)))++tl))) og2 wr by
      have h:=uh HL
      rw[uh HDR]at h
      simpa only[qCy,List.flatMap_cons,uh HPN p,qAy,qAk,List.append_assoc,List.cons_append] using h)
   have HNX:=hide (show ∀x,x∈ps.drop (i+1)->p.no+1<=x.no/\(p=Pa.pn0\/p.no<x.no) by
      have h1:=(uh HC).asc
      rw[<-List.take_append_drop i ps]at h1
      have h2:=(List.pairwise_append.1 h1).2.1
      rw[uh HDR]at h2
      intro x hx
      have:=(List.pairwise_cons.1 h2).1 x hx
      exact⟨by omega,.inr this⟩)
   clear HL hp hpm HSM HLE HST
   obtain⟨o,cl⟩:=s
   have hcl:cl.length<=i:=uh HSL
   have hiI:(i:Int)<(N:Int):=by omega
   obtain⟨ck0,ck2⟩:=uh HCK wr (uh HLa).kp
   have c5:wr.cell? ⟨d,5,none⟩=some (.int .i64 c.window):=(uh HLa).orr.blk.cell (qBu c _ q 5 (by omega))
   have c9:wr.cell? ⟨d,9,none⟩=some (.int .i64 c.panes):=(uh HLa).orr.blk.cell (qBu c _ q 9 (by omega))
   obtain⟨L,hLe⟩:∃L,qA6 c=L:=⟨_,rfl⟩
   rw[hLe]at hL hrg HLEN
   clear hLe
   obtain⟨no,hno⟩:∃no,p.no=no:=⟨_,rfl⟩
   rw[hno]at hle hrg HLa HNX
   obtain⟨hle1,hle2⟩:=hle
   obtain⟨hr0,hr1⟩:=hrg
   have htd:m.tdiv L=m/L:=Int.tdiv_eq_ediv_of_nonneg m0'
   have hq0:0<=m/L:=Int.ediv_nonneg m0' (by omega)
   have hq1:m/L<=m:=Int.ediv_le_self _ m0'
   have hwd:IntKind.i64.wrap (m.tdiv L)=m/L:=by rw[htd,IntKind.wrap_i64];omega
   have hwd2:IntKind.i64.wrap (m/L)=m/L:=by rw[IntKind.wrap_i64];omega
   have hLz:¬L=0:=by omega
   have hLz2:(L==0)=false:=by simp;exact hLz
   have HAP:=hide (show ¬(kn=r)/\¬(d=r) from⟨uh HKR,(uh HLa).ap.1⟩)
   go_wp2_with fail
   go_region_held3 (λw'=>w'.cell? ⟨kn,0,none⟩=some (.int .i64 m)/\w'.cell? ⟨d,5,none⟩=some (.int .i64 c.window)/\w'.cell? ⟨d,9,none⟩=some (.int .i64 c.panes))
    (first | (go_split_ands;exact⟨by assumption,by assumption,by assumption⟩) | (go_split_ands;exact⟨hka.cell (by assumption) (λh=>h),hka.cell (by assumption) (λh=>h),hka.cell (by assumption) (λh=>h)⟩) | (go_split_ands;exact⟨hkb.cell (by assumption) (uh HAP).1,hkb.cell (by assumption) (uh HAP).2,hkb.cell (by assumption) (uh HAP).2⟩))
    (first | (go_at_call 204;refine(uh HLEN _ (by first | assumption | simpa using c5) (by first | assumption | simpa using c9)).mono ?_;rintro e W1 ⟨rfl,hka⟩) | (go_at_call 88;refine(((uh HLa).still (((Keeps.refl (λ_=>False) wr).drew).then hka)).number (lo:=le) (hi:=m/L) hr0 (by omega) hle1 hr1).mono ?_;rintro e W2 ⟨rfl,hl2,hkb⟩))
   have HL2:=hide hl2
   clear hl2 hka hkb HLa ck0 ck2 c5 c9
   have HTN:=hide (qXy (o:=o) (cl:=cl) (p:=p) (by rw[hno];exact hle2))
   rw[hno]at HTN
   go_wp2_with fail
   refine(qVn d q og2 c o cl no W2 (uh HL2).orr.blk (uh HL2).orr.row (uh HL2).orr.dq (uh HL2).orr.dg (by omega)).mono ?_
   rintro e W3 ⟨rfl,og3,hb3,hr3,hk3,hog3⟩
   have HL3:=hide ((uh HL2).turn (s2:=qBz o cl no) hb3 hr3 hk3 hog3)
   have HB3:=hide (show Blk W3 d (qA2 c (qM3 no) q) 240 by rw[<-uh HTN];exact hb3)
   clear hb3 hr3 hk3 hog3 HL2
   have hws:IntKind.i64.wrap (lf-sP W p)=lf-sP W p:=by rw[IntKind.wrap_i64];omega
   have hwn:IntKind.i64.wrap (no+1)=no+1:=by rw[IntKind.wrap_i64];omega
   go_wp2_with fail
   refine(zCd d q r R W c no p.cs p.len lf (sP W p) _ W3 (uh HB3) (uh HL3).rd (uh HL3).ap.1 (uh HRR) (uh HWW) R1 R3 W16 ((uh HFL).up hsp) (by omega)).mono ?_
   rintro e W4 ⟨rfl,hb4,hr4,hk4⟩
   have HL4:=hide (show OL w d q r og c (qUf (o,cl) p) (qBe (qCy c (ps.drop (i+1)))++tl) og3 W4 by
      have e1:(⟨no,p.cs,p.len⟩:Pa.Pn)=p:=by rw[<-hno]
      rw[e1]at hb4
      show OL w d q r og c (p,(qBz o cl p.no).2) _ og3 W4
      rw[hno]
      exact OL.fill (o:=(qBz o cl no).1) (uh HL3) hb4 hr4 hk4)
   clear hb4 hr4 hk4 HL3 HB3
   have HCL:=hide (show(qUf (o,cl) p).2.length<=i+1 by have:=qQ1 o cl p.no;show(qBz o cl p.no).2.length<=i+1;omega)
   go_wp2
   go_roundw
   case rel=>exact⟨lf-sP W p,no+1,i+1,qUf (o,cl) p,og3,rfl,rfl,by go_num,by omega,by omega,by omega,by omega,by have:=uh HSM2;show _<=_;omega,(λx hx=>by have:=uh HNX x hx;exact⟨this.1,by show p=Pa.pn0\/p.no<x.no;rw[hno];exact this.2⟩),HTK,HCL,HL4⟩
   case measure=>simp[intOf];omega
  ·have hie:i=N:=by omega
   subst hie
   have hf':decide ((i:Int)<(i:Int))=false:=by simp
   have HZ:=hide (show OL w d q r og c (qSr ps) tl og2 wr by
      have h:=uh HL
      rw[<-uh HST,show ps.take i=ps from by rw[<-uh HN];exact List.take_length,show ps.drop i=[] from by rw[<-uh HN];exact List.drop_length]at h
      exact h)
   clear HL
   go_wp2
   go_end0
   exact⟨rfl,og2,uh HZ⟩
end
section
structure PB (q:List Bk):Prop where
 sorted:∀i j,i<=j->j<q.length->(qB7 q j).sz<=(qB7 q i).sz
 pow:∀i,i<q.length->∃k:Nat,(qB7 q i).sz=(2:Int) ^ k
theorem zCb(k:Nat): (1:Int)<=2 ^ k:=by
 induction k with
 | zero=>decide
 | succ k ih=>rw[Int.pow_succ];omega
def segB: List Bk->List Int->Prop
 | [],L=>L=[]
 | b::l,L=>∃s r,L=s++r/\(s.length:Int)=b.sz/\s.getLast?=some b.t/\segB l r
def HB(K:Int): List Bk->Prop
 | []=>True
 | b::l=>K*(b.sz-1)<=qDx l/\HB K l
end
end Go.Proofs.YtahnliehdjncdabGreatDoor
