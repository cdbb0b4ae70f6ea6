import Derived.Test.YtahnliehdjncdabGreatDoorXAM
import Derived.Deep.LoopGhost
import Derived.Deep.QuietTactic
import Derived.Deep.RegionHeld3
set_option maxRecDepth 100000
set_option maxHeartbeats 16000000
namespace Go.Proofs.YtahnliehdjncdabGreatDoor.Mk
open Go.RowKit
theorem qPu{w:World}{g cap n:Nat}{l:List Bk}{cur:List Value}(hn:l.length=n+1)(hb:Blk w g cur 225)(hl:cur.length=cap*2)(ht:cur.take (l.length*2)=qBr l)(hle:n+1<=cap)(hmax:cap<=maxLen):
  BRow (w.setCells g (n*2) (qCn 1)) g cap (l.take n):=by
 have hb1:=Blk.setCells (qCn 1) (n*2) w cur hb (by rw[qBl];omega)
 have hlen:(l.take n).length=n:=by simp[hn]
 refine⟨⟨_,hb1,by rw[qBh (by rw[qBl];omega),hl],?_⟩,by omega,hmax⟩
 rw[hlen,qMw (Nat.le_refl _) (by omega),qJv,<-ht,List.take_take,hn,Nat.min_eq_left (by omega)]
theorem qNi(g cap n:Nat)(l:List Bk)(w:World)(hn:l.length=n+1)(hr:BRow w g cap l):
  Calls Tryz.prog 229 #[.slice (some ⟨g,0,none⟩) (n+1) cap,.int .i64 n,.int .i64 ((n:Int)+1)] w λe w'=>e=.returned (.slice (some ⟨g,0,none⟩) n cap)/\BRow w' g cap (l.take n)/\Keeps (·=g) w w':=by
 obtain⟨cur,hb,hl,ht⟩:=hr.ex
 have hle:=hr.le
 rw[hn]at hle
 have hmax:=hr.max
 have hcap:cap<=9223372036854775807:=by unfold maxLen at hmax;omega
 have HFIN:=hide (qPu (w:=w.drew) hn (by exact hb.drew) hl ht hle hmax)
 obtain⟨A,hA⟩:∃A:Addr,(if cap=n+1 then some (⟨g,0,none⟩:Addr) else some ⟨g,(n+1)*2,none⟩)=some A:=by
  by_cases h:cap=n+1
  ·exact⟨⟨g,0,none⟩,by simp[h]⟩
  ·exact⟨⟨g,(n+1)*2,none⟩,by simp[h]⟩
 have hcl:∀ty,(Builtin.clear_ #[273] ty #[.slice (some ⟨g,n*2,none⟩) 1 (cap-n)]).run Tryz.prog (w.drew.setCells g (n*2) [])=.ok (.tuple #[]) (w.drew.setCells g (n*2) (qCn 1)) :=
  λty=>qCm w.drew ty g _ _ _ _ hb.drew (by omega) (by omega)
 obtain⟨i0,hi0,hz0,hz1,hz2⟩:=info_parts infoBk
 have hw1:IntKind.i64.wrap ((n:Int)+1)=(n:Int)+1:=by rw[IntKind.wrap_i64];omega
 have hne:((n:Int)==(n:Int)+1)=false:=by simp;omega
 have hn0:(0:Int)<=(n:Int):=by omega
 have hn1:(0:Int)<=(n:Int)+1:=by omega
 have hnc:n<=cap:=by omega
 have hcn:¬cap=n:=by omega
 clear hb ht hl hr hn hmax hz0 hz2
 go_enter Tryz.func229,Tryz.ntmps229
 go_wp2_with fail
 go_region_law (refine step_append_room rfl (.tmp 22) (.tmp 25) 273 rfl 225 i0 2 Tryz.underlying273 hi0 hz1 g 0 n cap (by simp[Act.eval,Act.put]) A 0 (cap-(n+1)) [] (by simp[Act.eval,Act.put]) rfl (by intro t u hu;simp at hu) (by simp) (by omega) (by intro t ht;simp at ht) ?_)
 go_wp2
 go_ret
 refine⟨by simp,?_,?_⟩
 ·exact uh HFIN
 ·exact Keeps.setCells (M:=λx=>x=g) (Or.inl rfl) _ _ _ (Keeps.refl _ _).drew
end Go.Proofs.YtahnliehdjncdabGreatDoor.Mk
namespace Go.Proofs.YtahnliehdjncdabGreatDoor
open Go.RowKit
def qCw(r:Int)(l:List Bk): List Bk:=(l.reverse.dropWhile (λb=>decide (b.t<=r))).reverse
theorem qF9(l:List Bk)(h:0<l.length): l=l.take (l.length-1)++[qB7 l (l.length-1)]:=by
 have h1:l.length-1<l.length:=by omega
 conv=>lhs;rw[<-List.take_append_drop (l.length-1) l]
 congr 1
 rw[List.drop_eq_getElem_cons h1,List.drop_eq_nil_of_le (by omega)]
 simp[qB7,List.getD_eq_getElem?_getD,List.getElem?_eq_getElem h1]
theorem qQt(r:Int): qCw r []=[]:=rfl
theorem qN5(r:Int)(l:List Bk)(b:Bk): qCw r (l++[b])=if b.t<=r then qCw r l else l++[b]:=by
 unfold qCw
 rw[List.reverse_append,List.reverse_singleton,List.singleton_append,List.dropWhile_cons]
 by_cases h:b.t<=r <;> simp[h]
theorem qJ4{r:Int}{l:List Bk}(h:0<l.length)(hb:(qB7 l (l.length-1)).t<=r): qCw r l=qCw r (l.take (l.length-1)):=by
 conv=>lhs;rw[qF9 l h]
 rw[qN5,if_pos hb]
theorem qJs{r:Int}{l:List Bk}(h:0<l.length)(hb:¬(qB7 l (l.length-1)).t<=r): qCw r l=l:=by
 conv=>lhs;rw[qF9 l h]
 rw[qN5,if_neg hb,<-qF9 l h]
theorem qJa(r:Int)(l:List Bk): ∃k,qCw r l=l.take k/\k<=l.length:=by
 have h:=List.dropWhile_suffix (l:=l.reverse) (λb:Bk=>decide (b.t<=r))
 have h2:qCw r l <+: l:=by
  have:=List.reverse_prefix.2 h
  rw[List.reverse_reverse]at this
  exact this
 exact⟨(qCw r l).length,(List.prefix_iff_eq_take.1 h2),h2.length_le⟩
def qG5(l:List Bk)(x:Bk): List Bk :=
 if 0<(qCw x.t l).length/\(qB7 (qCw x.t l) ((qCw x.t l).length-1)).sz=x.sz then qCw x.t l else qCw x.t l++[x]
theorem qL7{l:List Bk}{x b:Bk}(h:b∈qG5 l x): b∈l\/b=x:=by
 obtain⟨k,hk,_⟩:=qJa x.t l
 unfold qG5 at h
 rw[hk]at h
 split at h
 ·exact .inl (List.mem_of_mem_take h)
 ·rcases List.mem_append.1 h with h | h
  ·exact .inl (List.mem_of_mem_take h)
  ·rw[List.mem_singleton]at h;exact .inr h
theorem qSh(l:List Bk)(x:Bk): (qG5 l x).length<=l.length+1:=by
 obtain⟨k,hk,hl⟩:=qJa x.t l
 unfold qG5
 rw[hk]
 split
 ·simp;omega
 ·simp;omega
end Go.Proofs.YtahnliehdjncdabGreatDoor
namespace Go.Proofs.YtahnliehdjncdabGreatDoor.Mk
open Go.RowKit
def qTk(i:Nat)(v:Value): Sem Next:=do pure (.value (<-Instr.field 225 v i))
theorem execOp_fieldMk(ρ:Operand->Value)(dst:Option Tmp)(x:Operand)(i:Nat)(ty:TypeId)(pos:String)(after:Array Edge)(guard:Option (Nat×Bool)):
  execOp ρ { dst,op:=.field 225 x i,type:=ty,pos,after,guard }=qTk i (ρ x):=rfl
theorem run_fieldMk0(a b:Value)(w:World): (qTk 0 (.agg #[a,b])).run Tryz.prog w=.ok (.value a) w:=by kernel_rfl
theorem run_fieldMk1(a b:Value)(w:World): (qTk 1 (.agg #[a,b])).run Tryz.prog w=.ok (.value b) w:=by kernel_rfl
attribute [local go_sem ↓] execOp_fieldMk
attribute [local go_sem] run_fieldMk0 run_fieldMk1
theorem rowLen_int(q:Nat)(og:Option Nat)(l:List Bk)(n:Int)(w:World)(h:RowRep w q og l)(hn:(l.length:Int)=n):
  Calls Tryz.prog 198 #[.pointer (some ⟨q,0,none⟩)] w λe w'=>e=.returned (.int .i64 n)/\w'=w :=
 (rowLen_any q og l w h).mono λ_ _ ⟨he,hw⟩=>⟨by rw[he,hn],hw⟩
theorem rowAt_is(q:Nat)(og:Option Nat)(l:List Bk)(i:Nat)(x:Bk)(w:World)(h:RowRep w q og l)(hi:i<l.length)(hx:qB7 l i=x):
  Calls Tryz.prog 199 #[.pointer (some ⟨q,0,none⟩),.int .i64 i] w λe w'=>e=.returned (.agg #[.int .i64 x.sz,.int .i64 x.t])/\Keeps (λ_=>False) w w' :=
 (qEi q og l i w h hi).mono λ_ _ ⟨he,hw⟩=>⟨by rw[he,hx];rfl,hw⟩
theorem qH3(q:Nat)(og:Option Nat)(l:List Bk)(x:Bk)(w:World)(h:RowRep w q og l)(h0:0<l.length)(hl:l.length<=4398046511104)(hx:qB7 l (l.length-1)=x):
  Calls Tryz.prog 230 #[.pointer (some ⟨q,0,none⟩)] w λe w'=>e=.returned (.agg #[.int .i64 x.sz,.int .i64 x.t])/\Keeps (λ_=>False) w w':=by
 obtain⟨W,hW⟩:∃W,W=w.alloc (.cells #[.int .i64 0,.int .i64 0] 225):=⟨_,rfl⟩
 have HK0:=hide (show Keeps (λ_=>False) w W by rw[hW];exact(Keeps.refl (λ_=>False) w).alloc _)
 have HB0:=hide (show Blk W w.heap.size [.int .i64 0,.int .i64 0] 225 by rw[hW];exact Blk.new w _ _)
 have hr:=h.still (uh HK0)
 have HW:=hide hW
 obtain⟨n,hn⟩:∃n,l.length=n+1:=⟨l.length-1,by omega⟩
 have hw:IntKind.i64.wrap ((n:Int)+1-1)=(n:Int):=by rw[IntKind.wrap_i64];omega
 have hwn:IntKind.i64.wrap (n:Int)=(n:Int):=by rw[IntKind.wrap_i64];omega
 have hnb:n<=4398046511104:=by omega
 have HL:=hide (rowLen_int q og l ((n:Int)+1) W hr (by omega))
 have HA:=hide (rowAt_is q og l n x W hr (by omega) (by rw[<-hx,hn];rfl))
 clear h hr hW hn h0 hl hx
 go_enter Tryz.func230,Tryz.ntmps230
 go_wp2_with fail
 rw[show w.alloc (.cells #[.int .i64 0,.int .i64 0] 225)=W from(uh HW).symm]
 generalize hrb:w.heap.size=rb at *
 have HRB:=hide hrb
 clear hrb
 refine(uh HL).mono ?_
 rintro e w' ⟨rfl,hw'⟩
 rw[hw']
 clear hw' w'
 go_wp2_with fail
 refine(uh HA).mono ?_
 rintro e w1 ⟨rfl,hk⟩
 have HB1:=hide ((uh HB0).keeps hk (λh=>h))
 have HK:=hide ((uh HK0).then hk)
 clear hk HL HA
 have b0:w1.cell? ⟨rb,0,none⟩=some (.int .i64 0):=(uh HB1).cell rfl
 have b1:w1.cell? ⟨rb,1,none⟩=some (.int .i64 0):=(uh HB1).cell rfl
 have bf:=(uh HB1).frozen
 go_wp2
 have HB2:=hide (((uh HB1).setCell 0 (.int .i64 x.sz)).setCell 1 (.int .i64 x.t))
 have HKF:=hide (show Keeps (λk=>k=rb) w1 ((w1.setCell ⟨rb,0,none⟩ (.int .i64 x.sz)).setCell ⟨rb,1,none⟩ (.int .i64 x.t)) from((Keeps.refl (λk=>k=rb) w1).setCell (p:=⟨rb,0,none⟩) (Or.inl rfl) _).setCell (p:=⟨rb,1,none⟩) (Or.inl rfl) _)
 generalize((w1.setCell ⟨rb,0,none⟩ (.int .i64 x.sz)).setCell ⟨rb,1,none⟩ (.int .i64 x.t))=w2 at *
 have c0:w2.cell? ⟨rb,0,none⟩=some (.int .i64 x.sz):=(uh HB2).cell rfl
 have c1:w2.cell? ⟨rb,1,none⟩=some (.int .i64 x.t):=(uh HB2).cell rfl
 refine bodyPost_ret (v:=.agg #[.int .i64 x.sz,.int .i64 x.t]) (by simp[results,Tryz.results230,go_sem,c0,c1]) rfl ⟨rfl,?_⟩
 exact(uh HK).trans (uh HKF) (λi hi hlt=>by have:=uh HRB;omega)
def DropSays: Prop:=∀(q:Nat) (og:Option Nat) (l:List Bk) (w:World),RowRep w q og l->0<l.length->l.length<=4398046511104 ->
  Calls Tryz.prog 231 #[.pointer (some ⟨q,0,none⟩),.int .i64 1] w λe w'=>e=.returned (.tuple #[])/\RowRep w' q og (l.take (l.length-1))/\Keeps (λi=>i=q\/og=some i) w w'
theorem keep_of(HD:DropSays)(q:Nat)(og:Option Nat)(l:List Bk)(x:Bk)(w:World)(h:RowRep w q og l)(hl:l.length<=4398046511103):
  Calls Tryz.prog 195 #[.pointer (some ⟨q,0,none⟩),x.val] w λe w'=>e=.returned (.tuple #[])/\∃og',RowRep w' q og' (qG5 l x)/\Keeps (λk=>k=q\/og=some k) w w'/\(og'=og\/∃k,og'=some k/\w.heap.size<=k):=by
 obtain⟨hlq,hlg⟩:=h.lt
 have HR:=hide h
 have HLG:=hide hlg
 have HDD:=hide HD
 clear HD
 unfold Bk.val
 have HX0:=hide (Blk.new w [.int .i64 x.sz,.int .i64 x.t] 225)
 have HK0:=hide ((Keeps.refl (λ_=>False) w).alloc (.cells #[.int .i64 x.sz,.int .i64 x.t] 225))
 clear h hlg
 go_enter Tryz.func195,Tryz.ntmps195
 go_wp2_with fail
 generalize hW0:w.alloc (.cells #[.int .i64 x.sz,.int .i64 x.t] 225)=W0 at *
 have HX:Hid (Blk W0 w.heap.size [.int .i64 x.sz,.int .i64 x.t] 225):=HX0
 have HK:Hid (Keeps (λ_=>False) w W0):=HK0
 have HR0:=hide ((uh HR).still (uh HK))
 clear hW0 HX0 HK0
 generalize hxb:w.heap.size=xb at *
 have HXB:=hide hxb
 clear hxb
 have HXM:=hide (show ¬(xb=q\/og=some xb) from λh=>by
    rcases h with h | h
    ·omega
    ·have:=(uh HLG xb h).1;omega)
 go_loopg [] (l.length) (λg wr=>∃m:List Bk,m.length=g/\g<=4398046511103/\Hid (RowRep wr q og m)/\Hid (Keeps (λk=>k=q\/og=some k) W0 wr)/\Hid (qCw x.t l=qCw x.t m))
 case atStart=>exact⟨l,rfl,hl,HR0,Keeps.refl _ _,rfl⟩
 case round =>
  obtain⟨m,hm,hg,HRm,HKm,HE⟩:=hrel
  have HM:=hide hm
  clear hm
  have hxr:wr.cell? ⟨xb,1,none⟩=some (.int .i64 x.t):=(uh HKm).cell ((uh HX).cell rfl) (uh HXM)
  have hxz:wr.cell? ⟨xb,0,none⟩=some (.int .i64 x.sz):=(uh HKm).cell ((uh HX).cell rfl) (uh HXM)
  by_cases h0:gk=0
  ·have HL0:=hide (show(m.length:Int)=0 by have:=uh HM;omega)
   go_wp2_with fail
   go_quiet (first | (go_at_call 198;refine Calls.quiet_of_same (rowLen_int q og m 0 _ (by exact(uh HRm).still (Keeps.drewN _ _ _)) (uh HL0))))
   have HQ1:=hide (show Keeps (λ_=>False) wr (wr.drewN nq) from Keeps.drewN _ _ _)
   have hx1:(wr.drewN nq).cell? ⟨xb,1,none⟩=some (.int .i64 x.t):=hxr
   have hx0:(wr.drewN nq).cell? ⟨xb,0,none⟩=some (.int .i64 x.sz):=hxz
   generalize wr.drewN nq=W1 at *
   have HR1:=hide ((uh HRm).still (uh HQ1))
   go_wp2_with fail
   go_quiet (first | (go_at_call 198;refine Calls.quiet_of_same (rowLen_int q og m 0 _ (by exact(uh HR1).still (Keeps.drewN _ _ _)) (uh HL0))))
   have HKK:=hide (show Keeps (λ_=>False) wr (W1.drewN nq) from(uh HQ1).then (Keeps.drewN _ _ _))
   have HDM:=hide (show qCw x.t m=m by rw[List.length_eq_zero_iff.1 (show m.length=0 by have:=uh HL0;omega)];rfl)
   have HNO:=hide (show ¬(0<m.length/\(qB7 m (m.length-1)).sz=x.sz) from λh=>by have:=uh HL0;omega)
   go_wp2_with fail
   refine(rowPut_any q og m x _ ((uh HRm).still (uh HKK)) (by have:=uh HM;omega)).mono ?_
   rintro e W3 ⟨rfl,og',hr3,hk3,hog⟩
   have HF:=hide (((uh HKm).trans (uh HKK) (λ_ h=>h.elim)).then hk3)
   have HR3:=hide hr3
   have HSZ:=hide (Nat.le_trans (uh HK).size (Nat.le_trans (uh HKm).size (uh HKK).size))
   clear hr3 hk3
   go_wp2
   go_end0
   refine⟨rfl,og',?_,?_,?_⟩
   ·have:qG5 l x=m++[x]:=by unfold qG5;rw[uh HE,uh HDM];exact if_neg (uh HNO)
    rw[this];exact uh HR3
   ·exact((uh HK).mono (λ_ _ h=>h.elim)).then (uh HF)
   ·rcases hog with h | ⟨k,h,hk⟩
    ·exact .inl h
    ·exact .inr ⟨k,h,Nat.le_trans (uh HSZ) hk⟩
  ·have h1:0<m.length:=by have:=uh HM;omega
   have HL1:=hide (show(m.length:Int)=(gk:Int) by have:=uh HM;omega)
   have hgt:(0:Int)<(gk:Int):=by omega
   have hgtN:0<gk:=by omega
   obtain⟨y,hy⟩:∃y,qB7 m (m.length-1)=y:=⟨_,rfl⟩
   have HY:=hide hy
   clear hy
   have HLE:=hide (show m.length<=4398046511104 by have:=uh HM;omega)
   have HP:=hide h1
   clear h1
   by_cases hc:y.t<=x.t
   ·go_wp2_with fail
    go_region_held3 (λw'=>w'.cell? ⟨xb,1,none⟩=some (.int .i64 x.t)/\w'.cell? ⟨xb,0,none⟩=some (.int .i64 x.sz)) (first | (go_split_ands;exact⟨by assumption,by assumption⟩) | (go_split_ands;exact⟨hka.cell (by assumption) (λh=>h),hka.cell (by assumption) (λh=>h)⟩))
     (first | (go_at_call 198;refine(rowLen_int q og m gk _ (by exact(uh HRm).still (Keeps.refl _ _).drew) (uh HL1)).mono ?_;rintro e w' ⟨rfl,rfl⟩) | (go_at_call 230;refine(qH3 q og m y _ (by exact(uh HRm).still (Keeps.refl _ _).drew) (uh HP) (uh HLE) (uh HY)).mono ?_;rintro e W1 ⟨rfl,hka⟩))
    have HK1:=hide (((Keeps.refl (λ_=>False) wr).drew).then hka)
    clear hka
    go_wp2_with fail
    refine(uh HDD q og m W1 ((uh HRm).still (uh HK1)) (uh HP) (uh HLE)).mono ?_
    rintro e W2 ⟨rfl,hr2,hk2⟩
    have HR2:=hide hr2
    have HK2:=hide ((((uh HKm).trans (uh HK1) (λ_ h=>h.elim))).then hk2)
    clear hr2 hk2
    go_wp2
    go_roundg (gk-1)
    case measure=>omega
    case rel =>
     have hm:=uh HM
     refine⟨m.take (m.length-1),by simp;omega,by omega,HR2,HK2,?_⟩
     show _=_
     rw[uh HE,qJ4 (uh HP) (by rw[uh HY];exact hc)]
   ·go_wp2_with fail
    go_region_held3 (λw'=>w'.cell? ⟨xb,1,none⟩=some (.int .i64 x.t)/\w'.cell? ⟨xb,0,none⟩=some (.int .i64 x.sz)) (first | (go_split_ands;exact⟨by assumption,by assumption⟩) | (go_split_ands;exact⟨hka.cell (by assumption) (λh=>h),hka.cell (by assumption) (λh=>h)⟩))
     (first | (go_at_call 198;refine(rowLen_int q og m gk _ (by exact(uh HRm).still (Keeps.refl _ _).drew) (uh HL1)).mono ?_;rintro e w' ⟨rfl,rfl⟩) | (go_at_call 230;refine(qH3 q og m y _ (by exact(uh HRm).still (Keeps.refl _ _).drew) (uh HP) (uh HLE) (uh HY)).mono ?_;rintro e W1 ⟨rfl,hka⟩))
    have HK1:=hide (((Keeps.refl (λ_=>False) wr).drew).then hka)
    have hx1:=hka.cell (p:=⟨xb,1,none⟩) (v:=.int .i64 x.t) (by exact hxr) (λh=>h)
    have hx0:=hka.cell (p:=⟨xb,0,none⟩) (v:=.int .i64 x.sz) (by exact hxz) (λh=>h)
    clear hka
    have HDM:=hide (show qCw x.t m=m from qJs (uh HP) (by rw[uh HY];omega))
    go_wp2_with fail
    by_cases ht:y.sz=x.sz
    ·have htb:(y.sz==x.sz)=true:=by simp[ht]
     have HT:=hide ht
     clear ht
     go_region_held3 (λw'=>w'.cell? ⟨xb,1,none⟩=some (.int .i64 x.t)/\w'.cell? ⟨xb,0,none⟩=some (.int .i64 x.sz)) (first | (go_split_ands;exact⟨by assumption,by assumption⟩) | (go_split_ands;exact⟨hkb.cell (by assumption) (λh=>h),hkb.cell (by assumption) (λh=>h)⟩))
      (first | (go_at_call 198;refine(rowLen_int q og m gk _ (by exact((uh HRm).still (uh HK1)).still (Keeps.refl _ _).drew) (uh HL1)).mono ?_;rintro e w' ⟨rfl,rfl⟩) | (go_at_call 230;refine(qH3 q og m y _ (by exact((uh HRm).still (uh HK1)).still (Keeps.refl _ _).drew) (uh HP) (uh HLE) (uh HY)).mono ?_;rintro e W2 ⟨rfl,hkb⟩))
     have HK2:=hide (((uh HK1).drew).then hkb)
     clear hkb
     go_wp2
     refine bodyPost_ret (results_none rfl _ _ _) rfl ?_
     refine⟨rfl,og,?_,?_,.inl rfl⟩
     ·have:qG5 l x=m:=by unfold qG5;rw[uh HE,uh HDM];exact if_pos ⟨uh HP,by rw[uh HY];exact uh HT⟩
      rw[this];exact(uh HRm).still (uh HK2)
     ·exact(((uh HK).mono (λ_ _ h=>h.elim)).then (uh HKm)).trans (uh HK2) (λ_ h=>h.elim)
    ·have htb:(y.sz==x.sz)=false:=by simp[ht]
     have HT:=hide ht
     clear ht
     go_region_held3 (λw'=>w'.cell? ⟨xb,1,none⟩=some (.int .i64 x.t)/\w'.cell? ⟨xb,0,none⟩=some (.int .i64 x.sz)) (first | (go_split_ands;exact⟨by assumption,by assumption⟩) | (go_split_ands;exact⟨hkb.cell (by assumption) (λh=>h),hkb.cell (by assumption) (λh=>h)⟩))
      (first | (go_at_call 198;refine(rowLen_int q og m gk _ (by exact((uh HRm).still (uh HK1)).still (Keeps.refl _ _).drew) (uh HL1)).mono ?_;rintro e w' ⟨rfl,rfl⟩) | (go_at_call 230;refine(qH3 q og m y _ (by exact((uh HRm).still (uh HK1)).still (Keeps.refl _ _).drew) (uh HP) (uh HLE) (uh HY)).mono ?_;rintro e W2 ⟨rfl,hkb⟩))
     have HKK:=hide (((uh HK1).drew).then hkb)
     have hx3:=hkb.cell (p:=⟨xb,1,none⟩) (v:=.int .i64 x.t) (by exact hx1) (λh=>h)
     have hx4:=hkb.cell (p:=⟨xb,0,none⟩) (v:=.int .i64 x.sz) (by exact hx0) (λh=>h)
     have HNO:=hide (show ¬(0<m.length/\(qB7 m (m.length-1)).sz=x.sz) from λh=>uh HT (by rw[<-uh HY];exact h.2))
     clear hkb
     go_wp2_with fail
     refine(rowPut_any q og m x W2 ((uh HRm).still (uh HKK)) (by have:=uh HM;omega)).mono ?_
     rintro e W3 ⟨rfl,og',hr3,hk3,hog⟩
     have HF:=hide (((uh HKm).trans (uh HKK) (λ_ h=>h.elim)).then hk3)
     have HR3:=hide hr3
     have HSZ:=hide (Nat.le_trans (uh HK).size (Nat.le_trans (uh HKm).size (uh HKK).size))
     clear hr3 hk3
     go_wp2
     go_end0
     refine⟨rfl,og',?_,?_,?_⟩
     ·have:qG5 l x=m++[x]:=by unfold qG5;rw[uh HE,uh HDM];exact if_neg (uh HNO)
      rw[this];exact uh HR3
     ·exact((uh HK).mono (λ_ _ h=>h.elim)).then (uh HF)
     ·rcases hog with h | ⟨k,h,hk⟩
      ·exact .inl h
      ·exact .inr ⟨k,h,Nat.le_trans (uh HSZ) hk⟩
end Go.Proofs.YtahnliehdjncdabGreatDoor.Mk
