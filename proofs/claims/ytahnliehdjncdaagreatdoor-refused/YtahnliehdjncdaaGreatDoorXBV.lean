import Derived.BigQuiet
import Derived.Deep.DeepCutAuto
import Derived.Test.YtahnliehdjncdaaGreatDoorXBJ
import Derived.Test.YtahnliehdjncdaaGreatDoorXBU
set_option maxRecDepth 100000
set_option maxHeartbeats 16000000
namespace Go.Proofs.YtahnliehdjncdaaGreatDoor
section
open Go.RowKit
attribute [local go_sem ↓] qAd qAe qCx qHq
attribute [local go_sem] qAf qAl qAc qAb qAn qAm qAi qAj qXk
theorem qWh(l:List OpM): qK6 (l.filter OpM.noLoad):=λo ho=>by
 have:=(List.mem_filter.1 ho).2
 simpa[OpM.noLoad] using this
theorem qKi(s:List OpM)(k:Nat)(o:OpM)(hs:qK6 s)(hk:k<=s.length)(code:Int)(hB:((qJ5 qBq ws0 (s.take k++[o]++s.drop k))[k]?).map (·.1)=some code)(h:code≠0\/o.kind=4\/o.kind=5\/o.kind=6)(i:Nat)(hi:i<s.length)(x y:Int×List Int)(hx:(qF5 ws0 s)[i]?=some x)(hy:(qJ5 qBq ws0 (s.take k++[o]++s.drop k))[if k<=i then i+1 else i]?=some y): x.1=y.1/\((s.getD i o1).kind≠5->x.2=y.2):=by
 have ht:qK6 (s.take k):=λo ho=>hs o (List.mem_of_mem_take ho)
 have hd:qK6 (s.drop k):=λo ho=>hs o (List.mem_of_mem_drop ho)
 have hA:qF5 ws0 s=qF5 ws0 (s.take k)++qF5 (qF1 ws0 (s.take k)) (s.drop k):=by
  have:=qSz ws0 (s.take k) (s.drop k)
  rwa [List.take_append_drop]at this
 have hlk:(qF5 ws0 (s.take k)).length=k:=by rw[qHx,List.length_take];omega
 have hBB:qJ5 qBq ws0 (s.take k++[o]++s.drop k)=qF5 ws0 (s.take k)++((stepG qBq (qF1 ws0 (s.take k)) o).2::qF5 (stepG qBq (qF1 ws0 (s.take k)) o).1 (s.drop k)):=by
  rw[qS3,qQr,qQ1,List.append_assoc,(qTg qBq (s.take k) ws0 ht).1,(qTg qBq (s.take k) ws0 ht).2.2,(qTg qBq (s.drop k) _ hd).1];rfl
 rw[hBB]at hB hy
 rw[hA]at hx
 rw[List.getElem?_append_right (by omega),hlk,Nat.sub_self]at hB
 have hc:(stepG qBq (qF1 ws0 (s.take k)) o).2.1=code:=by simpa using hB
 have hb:(stepG qBq (qF1 ws0 (s.take k)) o).1.bare=(qF1 ws0 (s.take k)).bare:=by
  by_cases h7:o.kind=7
  ·unfold stepG at hc ⊢
   rw[if_pos h7]at hc ⊢
   cases hw:qBq o.bytes with
   | none=>rfl
   | some s'=>rw[hw]at hc;simp only at hc;omega
  ·have e:stepG qBq (qF1 ws0 (s.take k)) o=qBi (qF1 ws0 (s.take k)) o:=by unfold stepG;rw[if_neg h7]
   rw[e]at hc ⊢
   exact qYm (qF1 ws0 (s.take k)) o h7 (by rw[hc];exact h)
 by_cases hki:k<=i
 ·rw[if_pos hki,List.getElem?_append_right (by omega),hlk,show i+1-k=(i-k)+1 by omega,List.getElem?_cons_succ]at hy
  rw[List.getElem?_append_right (by omega),hlk]at hx
  obtain⟨r1,r2⟩:=zAq (s.drop k) hd _ _ hb (i-k) (by rw[List.length_drop];omega)
  rw[hx,hy]at r1 r2
  have hg:(s.drop k).getD (i-k) o1=s.getD i o1:=by
   rw[List.getD_eq_getElem?_getD,List.getElem?_drop,show k+(i-k)=i by omega,<-List.getD_eq_getElem?_getD]
  rw[hg]at r2
  refine⟨by simpa using r1.symm,λh5=>?_⟩
  have:=r2 h5
  simp at this
  rw[this]
 ·rw[if_neg hki,List.getElem?_append_left (by omega)]at hy
  rw[List.getElem?_append_left (by omega)]at hx
  rw[hx]at hy
  injection hy with hy
  subst hy
  exact⟨rfl,λ_=>rfl⟩
theorem zDg(v:Value)(ops:List OpM)(n:Int)(o:OpM)(w:World)(hv:ScriptW w v ops)(hlen:ops.length<=651562446088)(hb:o.bytes.size<=9223372036854775807)(hT:Tab w)(n0:-9223372036854775808<=n)(n1:n<=9223372036854775807):
  Calls Tryz.prog 6 #[v,.int .i64 n,o.val] w λr w'=>r=.returned (.bool true)/\Keeps (λ_=>False) w w':=by
 have HV:=hide hv
 have HTT:=hide hT
 have HBZ:=hide hb
 clear hv hT hb
 unfold OpM.val
 go_enter Tryz.func6,Tryz.ntmps6
 go_wp2_with fail
 have HK0:=hide (((Keeps.refl (λ_=>False) w).alloc (.cells o.cells.toArray 40)))
 have HB0:=hide (Blk.new w o.cells 40)
 refine(qXr _ ((uh HTT).keeps (uh HK0) (λh=>h))).mono ?_
 rintro r w1 ⟨rfl,hk1⟩
 have HK1:=hide ((uh HK0).then hk1)
 have HB1:=hide ((uh HB0).keeps hk1 (λh=>h))
 clear hk1 HK0 HB0
 generalize hwb:w.heap.size=wb at *
 have HWB:=hide hwb
 clear hwb
 go_wp2_with fail
 refine(qR6 v ops w1 ((uh HV).keeps (uh HK1)) (by omega)).mono ?_
 rintro r w2 ⟨sv,rfl,hO,hk2,_⟩
 have HO2:=hide hO
 have HK2:=hide ((uh HK1).then hk2)
 have HB2:=hide ((uh HB1).keeps hk2 (λh=>h))
 have hle:(ops.filter OpM.noLoad).length<=651562446088:=by have:=List.length_filter_le OpM.noLoad ops;omega
 have HOS:=hide (qWh ops)
 clear hk2 hO HK1 HB1 HV hlen
 generalize hs:ops.filter OpM.noLoad=s at *
 clear hs
 have HCUT:=hide (λk (hk:k<=s.length)=>qVl (uh HO2) k hk)
 have HKIND:=hide (show ∀i os,s[i]?=some os->∃g c,sv=.slice (some ⟨g,0,none⟩) s.length c/\w2.cell? ⟨g,i*26,none⟩=some (.int .i64 os.kind) from λi os hi=>by
    rcases qIw (uh HO2) with ⟨_,rfl⟩ | ⟨g,cap,e,_,hsc,_⟩
    ·simp at hi
    ·refine⟨g,cap,e,?_⟩
     have:=hsc i os hi 0 _ rfl
     simpa using this)
 obtain⟨sa,sc,esv⟩:=qCu (uh HO2)
 have HSW:=hide (qHr (uh HO2))
 rw[esv]at HCUT HSW HKIND
 clear HO2
 subst esv
 generalize hL:s.length=L at *
 have HL:=hide hL
 clear hL
 go_wp2_with fail
 refine(zA1 n ((L:Int)+1) w2 (by omega) (by omega) n0 n1).mono ?_
 rintro r w2' ⟨k,hk,rfl,hw⟩
 rw[hw]
 clear hw w2'
 have hkL:k<=L:=by omega
 obtain⟨sa2,sc2,ta,tc,da,dc,esv,hs1,hs2,hT1,hD1⟩:=uh HCUT k hkL
 injection esv with e1 _ e2
 subst e1 e2
 have HT:=hide hT1
 have HD:=hide hD1
 clear hT1 hD1 HCUT
 have HSL:=hide (qAo (w:=w2) (b:=wb) (o:=0) (cs:=o.cells) (λj u hu=>by rw[Nat.zero_add];exact(uh HB2).cell hu))
 have hv0:qAp w2 wb 0 26=.agg o.cells.toArray:=by
  unfold qAp
  have:=(uh HSL).1
  rw[show o.cells.length=26 from rfl]at this
  rw[this]
 have hh0:qAu w2 wb 0 26=true:=(uh HSL).2
 have hkl:(s.take k).length=k:=by rw[List.length_take,uh HL];omega
 have HKL:=hide hkl
 clear hkl
 go_wp2_with fail
 have hwbl:wb<w2.heap.size:=(uh HB2).lt
 go_region_held3 (λw'=>qAp w' wb 0 26=.agg o.cells.toArray/\qAu w' wb 0 26=true)
  (first
     | (simp[*,qAc,qAb,qAi,qAj];done)
     | (go_split_ands;exact⟨(qA2 hk4 (λh=>h) (by have:=hk3.size;simp at this;omega)).1.trans (by assumption),(qA2 hk4 (λh=>h) (by have:=hk3.size;simp at this;omega)).2.trans (by assumption)⟩)
     | (go_split_ands;exact⟨(qA2 hk3 (λh=>h) (by simp;omega)).1.trans (by assumption),(qA2 hk3 (λh=>h) (by simp;omega)).2.trans (by assumption)⟩))
  (first
     | (go_at_call 22;refine(qU4 _ _ (s.take k) [o] _ (by exact(uh HT).keeps (((Keeps.refl (λ_=>False) w2).drew).alloc _)) (by exact qMz (Blk.new _ o.cells 40)) (by rw[uh HKL,List.length_singleton];omega)).mono ?_;rintro r w3 ⟨v3,rfl,hO3,hk3⟩)
     | (go_at_call 22;refine(qU4 _ _ (s.take k++[o]) (s.drop k) _ (by exact qHr hO3) (by exact(uh HD).keeps ((((Keeps.refl (λ_=>False) w2).drew).alloc _).then hk3)) (by rw[List.length_append,List.length_drop,uh HKL,List.length_singleton,uh HL];omega)).mono ?_;rintro r w4 ⟨v4,rfl,hO4,hk4⟩))
 have hk24:Keeps (λ_=>False) w2 w4:=((((Keeps.refl (λ_=>False) w2).drew).alloc _).then hk3).then hk4
 have HK24:=hide hk24
 have HK4:=hide ((uh HK2).then hk24)
 have HB4:=hide ((uh HB2).keeps hk24 (λh=>h))
 have HTW:=hide (qHr hO4)
 obtain⟨ta4,tc4,e4⟩:=qCu hO4
 have hTl:(s.take k++[o]++s.drop k).length=L+1:=by rw[List.length_append,List.length_append,List.length_drop,uh HKL,List.length_singleton,uh HL];omega
 rw[hTl]at e4
 subst e4
 clear hO3 hk3 hO4 hk4 hk24 HT HD HK2 HB2 hwbl hs1 hs2 HSL hv0 hh0
 have HT7:=hide (show ∀o',o'∈s.take k++[o]++s.drop k->o'.kind=7->o'.bytes.size<=9223372036854775807 from λo' ho' h7=>by
    rcases List.mem_append.1 ho' with h | h
    ·rcases List.mem_append.1 h with h | h
     ·exact absurd h7 (uh HOS o' (List.mem_of_mem_take h))
     ·rw[List.mem_singleton]at h;rw[h];exact uh HBZ
    ·exact absurd h7 (uh HOS o' (List.mem_of_mem_drop h)))
 generalize hTE:s.take k++[o]++s.drop k=T at *
 have HTE:=hide hTE
 clear hTE
 rename_i hHeld
 clear hHeld
 go_wp2_with fail
 refine(qR5 _ s w4 ((uh HSW).keeps (uh HK24)) (by rw[uh HL];omega) ((uh HTT).keeps (uh HK4) (λh=>h)) (uh HOS)).mono ?_
 rintro r w5 ⟨va,la,rfl,hA,hMA,_,hk5⟩
 have HA5:=hide hA
 have HMA:=hide hMA
 have HLA:=hide (show la.length=L by
    have:=congrArg List.length hMA
    rwa [List.length_map,qHx,uh HL]at this)
 have HK5:=hide ((uh HK4).then hk5)
 have HK25:=hide ((uh HK24).then hk5)
 have HB5:=hide ((uh HB4).keeps hk5 (λh=>h))
 have HT5:=hide ((uh HTW).keeps hk5)
 clear hA hMA hk5 HK4 HB4 HTW HK24
 go_wp2_with fail
 refine(zA7 _ T w5 (uh HT5) (by omega) ((uh HTT).keeps (uh HK5) (λh=>h)) (uh HT7)).mono ?_
 rintro r w6 ⟨vb,lb,rfl,hB,hMB,_,hk6⟩
 have HLB:=hide (show lb.length=L+1 by
    have:=congrArg List.length hMB
    rwa [List.length_map,qKw,hTl]at this)
 have HMB:=hide hMB
 have HK6:=hide ((uh HK5).then hk6)
 have HK26:=hide ((uh HK25).then hk6)
 have hkind:w6.cell? ⟨wb,0,none⟩=some (.int .i64 o.kind):=((uh HB5).keeps hk6 (λh=>h)).cell rfl
 have hA6:=(uh HA5).keeps hk6 (λ_ _ h=>h)
 obtain⟨aa,ca,ea⟩:=qCu hA6.row
 obtain⟨ab,cb,eb⟩:=qCu hB.row
 rw[uh HLA]at ea
 rw[uh HLB]at eb
 subst ea eb
 have HA6:=hide hA6
 have HB6:=hide hB
 obtain⟨xk,hxk⟩:∃xk,lb[k]?=some xk:=⟨lb[k]'(by rw[uh HLB];omega),List.getElem?_eq_getElem _⟩
 obtain⟨gb,rfl,hcode,_,_⟩:=qGe hB k xk hxk
 have HXK:=hide hxk
 have hk00:(0:Int)<=(k:Int):=by omega
 have hkL1:(k:Int)<(L:Int)+1:=by omega
 clear hA6 hB hMB hk6 HK5 HB5 HT5 HA5 hxk hTl HT7 HK25 HSW
 by_cases hfree:xk.code=0/\o.kind≠4/\o.kind≠5/\o.kind≠6
 ·obtain⟨f0,f4,f5,f6⟩:=hfree
  rw[f0]at hcode
  have g4:(o.kind !=4)=true:=by simp[f4]
  have g5:(o.kind !=5)=true:=by simp[f5]
  have g6:(o.kind !=6)=true:=by simp[f6]
  go_wp2
  go_ret
  exact⟨rfl,uh HK6⟩
 have HID:=hide (show xk.code≠0\/o.kind=4\/o.kind=5\/o.kind=6 by omega)
 have hfour:(xk.code==0)=false\/(xk.code=0/\o.kind=4)\/(xk.code=0/\o.kind=5)\/(xk.code=0/\o.kind=6):=by
  by_cases h0:xk.code=0
  ·right;omega
  ·left;simp[h0]
 clear hfree
 rcases hfour with hz | ⟨hz,hk4⟩ | ⟨hz,hk4⟩ | ⟨hz,hk4⟩
 all_goals
  first
   | (rw[hz]at hcode;rw[hk4]at hkind;clear hz hk4)
   | skip
  go_wp2_with fail
  clear hcode hkind
  go_loopw [13] (λi wr=>∃j:Nat,j<=L/\i=.int .i64 j/\Hid (Keeps (λ_=>False) w6 wr)) (λi _=>L-(intOf i).toNat)
  case atStart=>exact⟨0,by omega,rfl,Keeps.refl _ _⟩
  obtain⟨i,hi,rfl,HK⟩:=hrel
  by_cases hiL:i<L
  ·obtain⟨xa,hxa⟩:∃xa,la[i]?=some xa:=⟨la[i]'(by rw[uh HLA];omega),List.getElem?_eq_getElem _⟩
   by_cases hki:k<=i
   ·have hki':(k:Int)<=(i:Int):=by omega
    have hif:(if k<=i then i+1 else i)=i+1:=by rw[if_pos hki]
    obtain⟨xb,hxb⟩:∃xb,lb[i+1]?=some xb:=⟨lb[i+1]'(by rw[uh HLB];omega),List.getElem?_eq_getElem _⟩
    have hra:=qKi s k o (uh HOS) (by rw[uh HL];omega) xk.code (by rw[uh HTE,<-uh HMB,List.getElem?_map,uh HXK];rfl) (uh HID) i (by rw[uh HL];omega) (xa.code,xa.nums) (xb.code,xb.nums) (by rw[<-uh HMA,List.getElem?_map,hxa];rfl) (by rw[hif,uh HTE,<-uh HMB,List.getElem?_map,hxb];rfl)
    have hAr:=(uh HA6).keeps (uh HK) (λ_ _ h=>h)
    have hBr:=(uh HB6).keeps (uh HK) (λ_ _ h=>h)
    obtain⟨ga,rfl,a0,a1,_⟩:=qGe hAr i xa hxa
    obtain⟨gb',egb,b0,b1,_⟩:=qGe hBr (i+1) xb hxb
    obtain rfl:gb=gb':=by injection egb with egb;injection egb
    clear egb
    have HNA:=hide (hAr.nums xa (List.mem_of_getElem? hxa))
    have HNB:=hide (hBr.nums xb (List.mem_of_getElem? hxb))
    have HN9:=hide (show xa.nums.length<=1000/\xb.nums.length<=1000 by
       have h1:(xa.code,xa.nums)∈qF5 ws0 s:=by rw[<-uh HMA];exact List.mem_map_of_mem (f:=λx:Ans=>(x.code,x.nums)) (List.mem_of_getElem? hxa)
       have h2:(xb.code,xb.nums)∈qJ5 qBq ws0 T:=by rw[<-uh HMB];exact List.mem_map_of_mem (f:=λx:Ans=>(x.code,x.nums)) (List.mem_of_getElem? hxb)
       have h3:=qMs _ (uh HOS) _ h1
       have h4:=qMj _ _ h2
       simp only at h3 h4;omega)
    obtain⟨os,hso⟩:∃os,s[i]?=some os:=⟨s[i]'(by rw[uh HL];omega),List.getElem?_eq_getElem _⟩
    obtain⟨g,gc,eg,hos2⟩:=uh HKIND i os hso
    injection eg with eg1 _ eg2
    subst eg1 eg2
    have hos:wr.cell? ⟨g,i*26,none⟩=some (.int .i64 os.kind):=((uh HK26).then (uh HK)).cell hos2 (λh=>h)
    have hgd:s.getD i o1=os:=by rw[List.getD_eq_getElem?_getD,hso];rfl
    rw[hgd]at hra
    have HNUM:=hide hra.2
    have hcode:=hra.1
    simp only at hcode
    rw[hcode]at a0
    obtain⟨na,nca,ena⟩:=qCu (uh HNA)
    obtain⟨nb,ncb,enb⟩:=qCu (uh HNB)
    rw[ena]at HNA a1
    rw[enb]at HNB b1
    clear ena enb hAr hBr hra hgd hso hxa hxb hcode hif hos2
    have hi0:(0:Int)<=(i:Int):=by omega
    have hiL':(i:Int)<(L:Int):=by omega
    have hiL1:(i:Int)<(L:Int)+1:=by omega
    have hiL2:(i:Int)<=(L:Int):=by omega
    have hiL3:(i:Int)+1<(L:Int)+1:=by omega
    have hiL4:(0:Int)<=(i:Int)+1:=by omega
    go_wp2_with fail
    go_region_held3 (λw'=>w'.cell? ⟨ga,i*3+1,none⟩=some (.slice na xa.nums.length nca)/\w'.cell? ⟨gb,(i+1)*3+1,none⟩=some (.slice nb xb.nums.length ncb))
     (first | (simp[*];done) | (go_split_ands;exact⟨hk7.cell (by assumption) (λh=>h),hk7.cell (by assumption) (λh=>h)⟩))
     (first | (go_at_call 23;refine(qMr _ _ _ _ xa.nums xb.nums _ (by exact qBc (uh HNA) ((Keeps.refl (λ_=>False) wr).drew) (λ_ _ h=>h)) (by exact qBc (uh HNB) ((Keeps.refl (λ_=>False) wr).drew) (λ_ _ h=>h)) (uh HN9).1 (uh HN9).2).mono ?_;rintro r w7 ⟨bx,rfl,hbx,hk7⟩))
    have hk67:Keeps (λ_=>False) wr w7:=((Keeps.refl (λ_=>False) wr).drew).then hk7
    have HK7:=hide ((uh HK).then hk67)
    have c0:w7.cell? ⟨ga,i*3,none⟩=some (.int .i64 xb.code):=hk67.cell a0 (λh=>h)
    have c1:w7.cell? ⟨gb,(i+1)*3,none⟩=some (.int .i64 xb.code):=hk67.cell b0 (λh=>h)
    have c2:w7.cell? ⟨g,i*26,none⟩=some (.int .i64 os.kind):=hk67.cell hos (λh=>h)
    have hcc:(xb.code !=xb.code)=false:=by simp
    clear hk7 hk67 a0 b0 hos a1 b1
    cases bx with
    | true =>
     go_wp2_with fail
     go_quiet (fail)
     go_wp2
     go_roundw
     case rel=>exact⟨i+1,by omega,by go_num,hide ((uh HK7).then (Keeps.drewN _ _ _))⟩
     case measure=>simp[intOf];omega
    | false =>
     have h5:os.kind=5:=by
      by_cases h5:os.kind=5
      ·exact h5
      ·exact absurd (hbx (uh HNUM h5)) (by simp)
     rw[h5]at c2
     go_wp2_with fail
     go_quiet (fail)
     go_wp2
     go_roundw
     case rel=>exact⟨i+1,by omega,by go_num,hide ((uh HK7).then (Keeps.drewN _ _ _))⟩
     case measure=>simp[intOf];omega
   ·have hki':¬(k:Int)<=(i:Int):=by omega
    have hif:(if k<=i then i+1 else i)=i:=by rw[if_neg hki]
    obtain⟨xb,hxb⟩:∃xb,lb[i]?=some xb:=⟨lb[i]'(by rw[uh HLB];omega),List.getElem?_eq_getElem _⟩
    have hra:=qKi s k o (uh HOS) (by rw[uh HL];omega) xk.code (by rw[uh HTE,<-uh HMB,List.getElem?_map,uh HXK];rfl) (uh HID) i (by rw[uh HL];omega) (xa.code,xa.nums) (xb.code,xb.nums) (by rw[<-uh HMA,List.getElem?_map,hxa];rfl) (by rw[hif,uh HTE,<-uh HMB,List.getElem?_map,hxb];rfl)
    have hAr:=(uh HA6).keeps (uh HK) (λ_ _ h=>h)
    have hBr:=(uh HB6).keeps (uh HK) (λ_ _ h=>h)
    obtain⟨ga,rfl,a0,a1,_⟩:=qGe hAr i xa hxa
    obtain⟨gb',egb,b0,b1,_⟩:=qGe hBr (i) xb hxb
    obtain rfl:gb=gb':=by injection egb with egb;injection egb
    clear egb
    have HNA:=hide (hAr.nums xa (List.mem_of_getElem? hxa))
    have HNB:=hide (hBr.nums xb (List.mem_of_getElem? hxb))
    have HN9:=hide (show xa.nums.length<=1000/\xb.nums.length<=1000 by
       have h1:(xa.code,xa.nums)∈qF5 ws0 s:=by rw[<-uh HMA];exact List.mem_map_of_mem (f:=λx:Ans=>(x.code,x.nums)) (List.mem_of_getElem? hxa)
       have h2:(xb.code,xb.nums)∈qJ5 qBq ws0 T:=by rw[<-uh HMB];exact List.mem_map_of_mem (f:=λx:Ans=>(x.code,x.nums)) (List.mem_of_getElem? hxb)
       have h3:=qMs _ (uh HOS) _ h1
       have h4:=qMj _ _ h2
       simp only at h3 h4;omega)
    obtain⟨os,hso⟩:∃os,s[i]?=some os:=⟨s[i]'(by rw[uh HL];omega),List.getElem?_eq_getElem _⟩
    obtain⟨g,gc,eg,hos2⟩:=uh HKIND i os hso
    injection eg with eg1 _ eg2
    subst eg1 eg2
    have hos:wr.cell? ⟨g,i*26,none⟩=some (.int .i64 os.kind):=((uh HK26).then (uh HK)).cell hos2 (λh=>h)
    have hgd:s.getD i o1=os:=by rw[List.getD_eq_getElem?_getD,hso];rfl
    rw[hgd]at hra
    have HNUM:=hide hra.2
    have hcode:=hra.1
    simp only at hcode
    rw[hcode]at a0
    obtain⟨na,nca,ena⟩:=qCu (uh HNA)
    obtain⟨nb,ncb,enb⟩:=qCu (uh HNB)
    rw[ena]at HNA a1
    rw[enb]at HNB b1
    clear ena enb hAr hBr hra hgd hso hxa hxb hcode hif hos2
    have hi0:(0:Int)<=(i:Int):=by omega
    have hiL':(i:Int)<(L:Int):=by omega
    have hiL1:(i:Int)<(L:Int)+1:=by omega
    have hiL2:(i:Int)<=(L:Int):=by omega
    have hiL3:(i:Int)+1<(L:Int)+1:=by omega
    have hiL4:(0:Int)<=(i:Int)+1:=by omega
    go_wp2_with fail
    go_region_held3 (λw'=>w'.cell? ⟨ga,i*3+1,none⟩=some (.slice na xa.nums.length nca)/\w'.cell? ⟨gb,(i)*3+1,none⟩=some (.slice nb xb.nums.length ncb))
     (first | (simp[*];done) | (go_split_ands;exact⟨hk7.cell (by assumption) (λh=>h),hk7.cell (by assumption) (λh=>h)⟩))
     (first | (go_at_call 23;refine(qMr _ _ _ _ xa.nums xb.nums _ (by exact qBc (uh HNA) ((Keeps.refl (λ_=>False) wr).drew) (λ_ _ h=>h)) (by exact qBc (uh HNB) ((Keeps.refl (λ_=>False) wr).drew) (λ_ _ h=>h)) (uh HN9).1 (uh HN9).2).mono ?_;rintro r w7 ⟨bx,rfl,hbx,hk7⟩))
    have hk67:Keeps (λ_=>False) wr w7:=((Keeps.refl (λ_=>False) wr).drew).then hk7
    have HK7:=hide ((uh HK).then hk67)
    have c0:w7.cell? ⟨ga,i*3,none⟩=some (.int .i64 xb.code):=hk67.cell a0 (λh=>h)
    have c1:w7.cell? ⟨gb,(i)*3,none⟩=some (.int .i64 xb.code):=hk67.cell b0 (λh=>h)
    have c2:w7.cell? ⟨g,i*26,none⟩=some (.int .i64 os.kind):=hk67.cell hos (λh=>h)
    have hcc:(xb.code !=xb.code)=false:=by simp
    clear hk7 hk67 a0 b0 hos a1 b1
    cases bx with
    | true =>
     go_wp2_with fail
     go_quiet (fail)
     go_wp2
     go_roundw
     case rel=>exact⟨i+1,by omega,by go_num,hide ((uh HK7).then (Keeps.drewN _ _ _))⟩
     case measure=>simp[intOf];omega
    | false =>
     have h5:os.kind=5:=by
      by_cases h5:os.kind=5
      ·exact h5
      ·exact absurd (hbx (uh HNUM h5)) (by simp)
     rw[h5]at c2
     go_wp2_with fail
     go_quiet (fail)
     go_wp2
     go_roundw
     case rel=>exact⟨i+1,by omega,by go_num,hide ((uh HK7).then (Keeps.drewN _ _ _))⟩
     case measure=>simp[intOf];omega
  ·go_wp2
   go_ret
   exact⟨rfl,(uh HK6).then (uh HK)⟩
end
end Go.Proofs.YtahnliehdjncdaaGreatDoor
