import Derived.Test.YtahnliehdjncdabGreatDoorXBJ
import Derived.Test.YtahnliehdjncdabGreatDoorXBM
import Derived.BigQuiet
import Derived.Deep.DeepCutAuto
import Derived.Test.YtahnliehdjncdabGreatDoorXBR
import Derived.Deep.Slices
import Derived.OpenShut
import Derived.ProofKit
import Derived.SizedLaws
import Derived.Test.YtahnliehdjncdabGreatDoorRows
set_option maxRecDepth 100000
set_option maxHeartbeats 16000000
namespace Go.Proofs.YtahnliehdjncdabGreatDoor
section
open Go.RowKit
attribute [local go_sem ↓] qAd qAe qId qFz qGq qC9
attribute [local go_sem] qAg qAm qAb qAc qAn qAo qAi qAh
def zG9: List Value:=o1.cells++o6.cells
def qMu(b:ByteArray): List Value:=(l7 b).cells++(o5.cells++(l7 qAa).cells)
theorem zFu(w:World): (qCr 34 #[(0,.int .i64 6)]).run Tryz.prog w=.ok (.value (.agg o6.cells.toArray)) w:=by kernel_rfl
theorem zF9(b:ByteArray)(w:World): (qCr 34 #[(0,.int .i64 7),(6,.string b)]).run Tryz.prog w=.ok (.value (.agg (l7 b).cells.toArray)) w:=by kernel_rfl
theorem zD9(w:World): (qCr 34 #[(0,.int .i64 7)]).run Tryz.prog w=.ok (.value (.agg (l7 qAa).cells.toArray)) w:=by kernel_rfl
theorem zFg(w:World): (qVz 22 2 #[(0,.agg o1.cells.toArray),(1,.agg o6.cells.toArray)]).run Tryz.prog w =
  .ok (.value (.slice (some ⟨w.heap.size,0,none⟩) 2 2)) (w.alloc (.cells zG9.toArray 34)):=by kernel_rfl
theorem zEv(b:ByteArray)(w:World): (qVz 22 3 #[(0,.agg (l7 b).cells.toArray),(1,.agg o5.cells.toArray),(2,.agg (l7 qAa).cells.toArray)]).run Tryz.prog w =
  .ok (.value (.slice (some ⟨w.heap.size,0,none⟩) 3 3)) (w.alloc (.cells (qMu b).toArray 34)):=by kernel_rfl
theorem qI7{w:World}{b:Nat}{L:List Value}{T:TypeId}(h:Blk w b L T)(off n:Nat)(cs:List Value)(hcs:(L.drop off).take n=cs): w.rangeAt b off cs:=by
 intro j v hv
 rw[<-hcs,List.getElem?_take]at hv
 split at hv
 ·exact h.cell (by simpa using hv)
 ·cases hv
theorem zHe(w:World)(b:Nat)(h:Blk w b zG9 34): ScriptAt w b 0 [o1,o6]:=by
 intro i o ho
 have hi:i<2:=(List.getElem?_eq_some_iff.1 ho).1
 have hi':i=0\/i=1:=by omega
 rcases hi' with h' | h'
 all_goals
  subst h'
  injection ho with ho
  subst ho
 ·exact qI7 h 0 26 _ rfl
 ·exact qI7 h 26 26 _ rfl
theorem qY0(w:World)(b:Nat)(h:Blk w b (qMu B7) 34): ScriptAt w b 0 qI9:=by
 intro i o ho
 have hi:i<3:=(List.getElem?_eq_some_iff.1 ho).1
 have hi':i=0\/i=1\/i=2:=by omega
 rcases hi' with h' | h' | h'
 all_goals
  subst h'
  injection ho with ho
  subst ho
 ·exact qI7 h 0 26 _ rfl
 ·exact qI7 h 26 26 _ rfl
 ·exact qI7 h 52 26 _ rfl
theorem zFv: qG8 [o1,o6]:=by
 intro o ho
 simp at ho
 rcases ho with h | h <;> subst h <;> decide
theorem zB0{α:Type _}(l:List α)(h:l.length=2): ∃a b,l=[a,b]:=by
 match l,h with
 | [a,b],_=>exact⟨a,b,rfl⟩
theorem qXj{α:Type _}(l:List α)(h:l.length=3): ∃a b c,l=[a,b,c]:=by
 match l,h with
 | [a,b,c],_=>exact⟨a,b,c,rfl⟩
attribute [local go_sem] qYu zC8 zC0 zFu zF9 zD9 zFg zEv
theorem qXg(w:World)(hT:Tab w): Calls Tryz.prog 8 #[] w λe w'=>e=.returned (.bool true)/\Keeps (λ_=>False) w w':=by
 have hst:∀zs:List Value,zs.length=20->(qDc 32 (.pointer (some ⟨w.heap.size,0,none⟩)) (.agg c0.cells.toArray)).run Tryz.prog (w.alloc (.cells zs.toArray 32))=.ok .skip (w.alloc (.cells c0.cells.toArray 32)):=λzs hz=>qLt w zs c0.cells hz rfl (by simp[Cfg.cells,Value.oneCell'])
 have hv1:qAv (w.alloc (.cells c0.cells.toArray 32)) w.heap.size 0 20=.agg c0.cells.toArray:=qAf w c0.cells 32 20 rfl
 have hh1:qA3 (w.alloc (.cells c0.cells.toArray 32)) w.heap.size 0 20=true:=qC8 w c0.cells 32 20 rfl
 have HK0:=hide (((Keeps.refl (λ_=>False) w).alloc (.cells c0.cells.toArray 32)).alloc (.cells zG9.toArray 34))
 have HB0:=hide (show Blk ((w.alloc (.cells c0.cells.toArray 32)).alloc (.cells zG9.toArray 34)) (w.heap.size+1) zG9 34 from Blk.newAt (by simp) _ _)
 have HTT:=hide hT
 clear hT
 go_enter Tryz.func8,Tryz.ntmps8
 go_wp2_with fail
 refine(qTz (w.heap.size+1) 0 2 [o1,o6] _ (zHe _ _ (uh HB0)) (uh HB0).lt (by decide) ((uh HTT).keeps (uh HK0) (λh=>h)) zFv).mono ?_
 rintro r w1 ⟨v,l,rfl,hA,hM,hBs,hk1⟩
 rw[zD8]at hM
 rw[two_bytes]at hBs
 obtain⟨x0,x1,hl2⟩:=zB0 l (by have:=congrArg List.length hM;simpa using this)
 subst hl2
 simp only[List.map_cons,List.map_nil,List.cons.injEq,Prod.mk.injEq,and_true]at hM hBs
 obtain⟨⟨k0,m0⟩,k1,m1⟩:=hM
 obtain⟨_,hb1⟩:=hBs
 obtain⟨g,cap,hv,hc⟩:=qOr hA (by simp)
 have hne:B7.toList.isEmpty=false:=by
  cases hb:B7.toList.isEmpty with
  | false=>rfl
  | true =>
   have h1:=List.isEmpty_iff.1 hb
   have h2:=zHf
   have h3:qAa.toList=[]:=by rw[ByteArray.toList_eq];rfl
   rw[h1,h3]at h2
   cases h2
 have HB7:=hide (show ∀(b:Nat) (w0:World),Blk w0 b (qMu B7) 34->Tab w0->Calls Tryz.prog 11 #[.slice (some ⟨b,0,none⟩) 3 3] w0 λr w'=>∃v l,r=.returned v/\ARep w' w0.heap.size v l/\l.map (λx=>(x.code,x.nums))=[(0,[]),(0,[0,0,1]),(14,[])]/\Keeps (λ_=>False) w0 w' from λb w0 hb hT=>qP2 b 3 w0 (qY0 w0 b hb) hb.lt hT)
 obtain⟨bb,hbb⟩:∃bb,B7=bb:=⟨_,rfl⟩
 rw[hbb]at hb1 hne HB7
 clear hbb
 have y1:w1.cell? ⟨g,3,none⟩=some (.int .i64 0):=(hc 3 _ rfl).trans (by rw[k1])
 have y2:w1.cell? ⟨g,5,none⟩=some (.string bb):=(hc 5 _ rfl).trans (by rw[hb1])
 have HK1:=hide ((uh HK0).then hk1)
 rw[hv]
 clear hA hk1 hc hv k0 k1 m0 m1 hst hv1 hh1 HK0 HB0 hb1
 have HB2:=hide (Blk.new w1 (qMu bb) 34)
 have HK2:=hide ((uh HK1).alloc (.cells (qMu bb).toArray 34))
 show _
 go_wp2_with fail
 refine(uh HB7 _ _ (uh HB2) ((uh HTT).keeps (uh HK2) (λh=>h))).mono ?_
 rintro r w3 ⟨v3,l3,rfl,hA3,hM3,hk3⟩
 obtain⟨z0,z1,z2,hl3⟩:=qXj l3 (by have:=congrArg List.length hM3;simpa using this)
 subst hl3
 simp only[List.map_cons,List.map_nil,List.cons.injEq,Prod.mk.injEq,and_true]at hM3
 obtain⟨⟨j0,_⟩,⟨j1,_⟩,j2,_⟩:=hM3
 obtain⟨g3,cap3,hv3,hc3⟩:=qOr hA3 (by simp)
 have u0:w3.cell? ⟨g3,0,none⟩=some (.int .i64 0):=(hc3 0 _ rfl).trans (by rw[j0])
 have u1:w3.cell? ⟨g3,3,none⟩=some (.int .i64 0):=(hc3 3 _ rfl).trans (by rw[j1])
 have u2:w3.cell? ⟨g3,6,none⟩=some (.int .i64 14):=(hc3 6 _ rfl).trans (by rw[j2])
 have HK3:=hide ((uh HK2).then hk3)
 rw[hv3]
 clear hA3 hk3 hc3 hv3 j0 j1 j2 y1 y2
 show _
 go_wp2
 go_ret
 exact⟨rfl,uh HK3⟩
end
section
open Go.RowKit
attribute [local go_sem ↓] qAd qAe qC7 qGq qFz
attribute [local go_sem] qAg qAm qAb qAc qAn qAo qAi qAh qYt zEd zE2 zDz
theorem qRj(l:List OpM): qG8 (l.filter OpM.noLoad):=λo ho=>by
 have:=(List.mem_filter.1 ho).2
 simpa[OpM.noLoad] using this
theorem zB8{s:List OpM}{k:Nat}(hk:k<=s.length)(hs:qG8 s)(hl:s.length<=1048576):
  qG7 ws0 (s.take k++[o6])=qG7 ws0 (s.take k)++[(0,[])]/\qIo ws0 (s.take k++[o6])=qIo ws0 (s.take k)++[qFj (qG4 ws0 (s.take k))]/\qG8 (s.take k++[o6])/\Fit (k:Int) (qG4 ws0 (s.take k))/\(qG7 ws0 s).drop k=qG7 (qG4 ws0 (s.take k)) (s.drop k)/\(qIo ws0 s).drop k=qIo (qG4 ws0 (s.take k)) (s.drop k):=by
 have hkl:(s.take k).length=k:=by rw[List.length_take];omega
 have hok:qG8 (s.take k):=λo ho=>hs o (List.mem_of_mem_take ho)
 refine⟨qL5 ws0 _ _,qL6 ws0 _ _,λo ho=>?_,?_,?_,?_⟩
 ·rcases List.mem_append.1 ho with ho | ho
  ·exact hok o ho
  ·rw[List.mem_singleton]at ho;subst ho;decide
 ·have:=Fit.end' (s.take k) Fit.zero (by omega) (by rw[hkl];omega) hok
  rw[hkl,Int.zero_add]at this
  exact this
 ·have h:=qL5 ws0 (s.take k) (s.drop k)
  rw[List.take_append_drop]at h
  rw[h,List.drop_left' (by rw[qCf,hkl])]
 ·have h:=qL6 ws0 (s.take k) (s.drop k)
  rw[List.take_append_drop]at h
  rw[h,List.drop_left' (by rw[qEm,hkl])]
theorem zDp(v1 v2:Value)(ops oth:List OpM)(n:Int)(w:World)(h1:ScriptW w v1 ops)(h2:ScriptW w v2 oth)(l1:ops.length<=1048576)(l2:oth.length<=1048576)(hT:Tab w)(n0:-9223372036854775808<=n)(n1:n<=9223372036854775807):
  Calls Tryz.prog 3 #[v1,.int .i64 n,v2] w λr w'=>r=.returned (.bool true)/\Keeps (λ_=>False) w w':=by
 have HV1:=hide h1
 have HV2:=hide h2
 have HTT:=hide hT
 clear h1 h2 hT
 go_enter Tryz.func3,Tryz.ntmps3
 go_wp2_with fail
 refine(qYw w (uh HTT)).mono ?_
 rintro r W1 ⟨rfl,hk1⟩
 have HK1:=hide hk1
 clear hk1
 go_wp2_with fail
 refine(qXg W1 ((uh HTT).keeps (uh HK1) (λh=>h))).mono ?_
 rintro r W2 ⟨rfl,hk2⟩
 have HK2:=hide ((uh HK1).then hk2)
 clear hk2 HK1
 go_wp2_with fail
 refine(qMk v1 ops W2 ((uh HV1).keeps (uh HK2)) (by omega)).mono ?_
 rintro r W3 ⟨sv,rfl,hO3,hk3,_⟩
 have HO3:=hide hO3
 have HK3:=hide ((uh HK2).then hk3)
 clear hk3 hO3 HK2
 go_wp2_with fail
 refine(qMk v2 oth W3 ((uh HV2).keeps (uh HK3)) (by omega)).mono ?_
 rintro r W4 ⟨zv,rfl,hOz,hk4,_⟩
 have HOZ:=hide hOz
 have HO4:=hide (qBd (uh HO3) hk4 (λ_ _ h=>h))
 have HK4:=hide ((uh HK3).then hk4)
 clear hk4 hOz HK3 HO3 HV1 HV2
 have HOS:=hide (qRj ops)
 have HOKZ:=hide (qRj oth)
 have hls:(ops.filter OpM.noLoad).length<=1048576:=by have:=List.length_filter_le OpM.noLoad ops;omega
 have hlz:(oth.filter OpM.noLoad).length<=1048576:=by have:=List.length_filter_le OpM.noLoad oth;omega
 generalize ops.filter OpM.noLoad=s at *
 generalize oth.filter OpM.noLoad=z at *
 have HCUT:=hide (λk (hk:k<=s.length)=>qXl (uh HO4) k hk)
 obtain⟨sa,sc,esv⟩:=qEj (uh HO4)
 obtain⟨za,zc,ezv⟩:=qEj (uh HOZ)
 have HSW:=hide (qFi (uh HO4))
 have HZW:=hide (qFi (uh HOZ))
 rw[esv]at HCUT HSW
 rw[ezv]at HZW
 clear HO4 HOZ
 subst esv ezv
 generalize hL:s.length=L at *
 have HL:=hide hL
 clear hL
 generalize hM:z.length=M at *
 have HM:=hide hM
 clear hM
 go_wp2_with fail
 refine(zBl n ((L:Int)+1) W4 (by omega) (by omega) n0 n1).mono ?_
 rintro r W4' ⟨k,hk,rfl,hw⟩
 rw[hw]
 clear hw W4'
 have hkL:k<=L:=by omega
 obtain⟨sa2,sc2,ta,tc,da,dc,esv,hs1,hs2,hT1,hD1⟩:=uh HCUT k hkL
 injection esv with e1 _ e2
 subst e1 e2
 have HT1:=hide hT1
 have HD1:=hide hD1
 clear hT1 hD1 HCUT
 have HDATA:=hide (zB8 (s:=s) (k:=k) (by rw[uh HL];exact hkL) (uh HOS) (by rw[uh HL];exact hls))
 have hkl:(s.take k).length=k:=by rw[List.length_take,uh HL];omega
 have HKL:=hide hkl
 clear hkl
 go_wp2_with fail
 refine(qQb _ _ (s.take k) [o6] _ ((uh HT1).keeps ((Keeps.refl (λ_=>False) W4).alloc _)) (qOb (Blk.new W4 o6.cells 34)) (by rw[uh HKL,List.length_singleton];omega)).mono ?_
 rintro r W5 ⟨tv,rfl,hO5,hk5⟩
 have HW5:=hide (qFi hO5)
 have HK45:=hide (((Keeps.refl (λ_=>False) W4).alloc (.cells o6.cells.toArray 34)).then hk5)
 clear hO5 hk5
 go_wp2_with fail
 refine(qLh tv (s.take k++[o6]) W5 (uh HW5) (by rw[List.length_append,uh HKL,List.length_singleton];omega) ((uh HTT).keeps ((uh HK4).then (uh HK45)) (λh=>h)) (uh HDATA).2.2.1).mono ?_
 rintro r W6 ⟨av,la,rfl,hA6,hMA,hBA,hk6⟩
 have HA6:=hide hA6
 have HK46:=hide ((uh HK45).then hk6)
 rw[(uh HDATA).1]at hMA
 rw[(uh HDATA).2.1]at hBA
 have HMA:=hide hMA
 have HBA:=hide hBA
 clear hA6 hk6 hMA hBA HK45 HW5
 go_wp2_with fail
 refine(qLh _ s W6 ((uh HSW).keeps (uh HK46)) (by rw[uh HL];omega) ((uh HTT).keeps ((uh HK4).then (uh HK46)) (λh=>h)) (uh HOS)).mono ?_
 rintro r W7 ⟨lv,ll,rfl,hL7,hML,hBL,hk7⟩
 have HL7:=hide hL7
 have HK47:=hide ((uh HK46).then hk7)
 have HML:=hide hML
 have HBL:=hide hBL
 have HA7:=hide ((uh HA6).keeps hk7 (λ_ _ h=>h))
 clear hL7 hk7 hML hBL HK46 HA6
 obtain⟨S,hS⟩:∃S,qG4 ws0 (s.take k)=S:=⟨_,rfl⟩
 obtain⟨B,hB⟩:∃B,qFj S=B:=⟨_,rfl⟩
 have HLA:=hide (show la.length=k+1 by
    have:=congrArg List.length (uh HMA)
    rw[List.length_map,List.length_append,qCf,uh HKL,List.length_singleton]at this
    exact this)
 have HLL:=hide (show ll.length=L by
    have:=congrArg List.length (uh HML)
    rw[List.length_map,qCf,uh HL]at this
    exact this)
 obtain⟨xk,hxk⟩:∃xk,la[k]?=some xk:=⟨la[k]'(by rw[uh HLA];omega),List.getElem?_eq_getElem _⟩
 have hxc:xk.code=0/\xk.bs=B:=by
  have e1:=congrArg (λl=>l[k]?) (uh HMA)
  have e2:=congrArg (λl=>l[k]?) (uh HBA)
  simp only[List.getElem?_map,hxk]at e1 e2
  rw[List.getElem?_append_right (by rw[qCf,uh HKL];omega),qCf,uh HKL,Nat.sub_self]at e1
  rw[List.getElem?_append_right (by rw[qEm,uh HKL];omega),qEm,uh HKL,Nat.sub_self,hS,hB]at e2
  have e3:(xk.code,xk.nums)=(0,[]):=by simpa using e1
  have e4:xk.bs=B:=by simpa using e2
  exact⟨(Prod.mk.inj e3).1,e4⟩
 obtain⟨aa,ca,ea⟩:=qEj (uh HA7).row
 obtain⟨ab,cb,eb⟩:=qEj (uh HL7).row
 rw[uh HLA]at ea
 rw[uh HLL]at eb
 subst ea eb
 obtain⟨ga,eaa,a0,a1,a2⟩:=qHr (uh HA7) k xk hxk
 rw[hxc.1]at a0
 rw[hxc.2]at a2
 subst eaa
 have hne:B.toList.isEmpty=false:=by rw[<-hB];exact zBm S
 have HS:=hide hS
 have HB:=hide hB
 clear hxk hxc hS hB a1
 go_wp2_with fail
 have hkLen:(z++[l7 B,o6]).length=M+2:=by rw[List.length_append,uh HM];rfl
 have HKL2:=hide hkLen
 clear hkLen
 have hix0:(0:Int)<=(k:Int):=by omega
 have hix1:(k:Int)<((k+1:Nat):Int):=by omega
 have hix2:(k:Int)<(k:Int)+1:=by omega
 go_region_held3 (λw'=>w'.cell? ⟨ga,k*3+2,none⟩=some (.string B))
  (first
     | (simp[*];done)
     | (exact(((Keeps.refl (λ_=>False) W7).drew).alloc _).cell a2 (λh=>h))
     | (exact hk10.cell (by assumption) (λh=>h))
     | (exact hk9.cell (by assumption) (λh=>h))
     | (exact hk8.cell (by assumption) (λh=>h)))
  (first
     | (go_at_call 11;refine(qTu _ S k z (s.drop k) _ (by have h9:=qFi hO9;rw[<-uh HB,List.append_assoc]at h9;exact h9) (by rw[<-uh HS];exact(uh HDATA).2.2.2.1) (uh HOKZ) (λo ho=>uh HOS o (List.mem_of_mem_drop ho)) (by show(z++(l7 (qFj S)::o6::s.drop k)).length+k<=_;rw[List.length_append,List.length_cons,List.length_cons,List.length_drop,uh HM,uh HL];omega) ((uh HTT).keeps ((((uh HK4).then (uh HK47)).then (((Keeps.refl (λ_=>False) W7).drew).alloc _)).then (hk8.then hk9)) (λh=>h))).mono ?_;rintro r W10 ⟨bv,lb,rfl,hB10,hMB,hBB,hk10⟩)
     | (go_at_call 12;refine(qQb _ _ (z++[l7 B,o6]) (s.drop k) _ (by exact qFi hO8) (by exact((uh HD1).keeps (uh HK47)).keeps (((((Keeps.refl (λ_=>False) W7).drew).alloc _).then hk8))) (by rw[uh HKL2,List.length_drop,uh HL];omega)).mono ?_;rintro r W9 ⟨v9,rfl,hO9,hk9⟩)
     | (go_at_call 12;refine(qQb _ _ z [l7 B,o6] _ (by exact((uh HZW).keeps (uh HK47)).keeps (((Keeps.refl (λ_=>False) W7).drew).alloc _)) (by exact qTe (Blk.new _ ((l7 B).cells++o6.cells) 34)) (by rw[uh HM];simp;omega)).mono ?_;rintro r W8 ⟨v8,rfl,hO8,hk8⟩))
 rename_i hHeld
 clear hHeld
 obtain⟨N,hN⟩:∃N,N=M+2+(L-k):=⟨_,rfl⟩
 have HK710:=hide (show Keeps (λ_=>False) W7 W10 from(((((Keeps.refl (λ_=>False) W7).drew).alloc _).then hk8).then hk9).then hk10)
 have HLB:=hide (show lb.length=N by
    have:=congrArg List.length hMB
    rw[List.length_map,List.length_append,qCf,List.length_cons,List.length_cons,qCf,List.length_drop,uh HM,uh HL]at this
    omega)
 obtain⟨xm,hxm⟩:∃x,lb[M]?=some x:=⟨lb[M]'(by rw[uh HLB];omega),List.getElem?_eq_getElem _⟩
 obtain⟨xn,hxn⟩:∃x,lb[M+1]?=some x:=⟨lb[M+1]'(by rw[uh HLB];omega),List.getElem?_eq_getElem _⟩
 have hm0:xm.code=0:=by
  have e1:=congrArg (λl=>l[M]?) hMB
  simp only[List.getElem?_map,hxm]at e1
  rw[List.getElem?_append_right (by rw[qCf,uh HM];omega),qCf,uh HM,Nat.sub_self]at e1
  have e3:(xm.code,xm.nums)=(0,[]):=by simpa using e1
  exact(Prod.mk.inj e3).1
 have hn2:xn.bs=B:=by
  have e2:=congrArg (λl=>l[M+1]?) hBB
  simp only[List.getElem?_map,hxn]at e2
  rw[List.getElem?_append_right (by rw[qEm,uh HM];omega),qEm,uh HM,Nat.add_sub_cancel_left,uh HB]at e2
  simpa using e2
 have HREST:=hide (show(lb.drop (M+2)).map (λx=>(x.code,x.nums))=(ll.drop k).map (λx=>(x.code,x.nums))/\(lb.drop (M+2)).map (·.bs)=(ll.drop k).map (·.bs) by
    rw[List.map_drop,List.map_drop,List.map_drop,List.map_drop,hMB,hBB,uh HML,uh HBL,(uh HDATA).2.2.2.2.1,(uh HDATA).2.2.2.2.2,uh HS]
    constructor
    ·rw[<-List.drop_drop,List.drop_left' (by rw[qCf,uh HM])];rfl
    ·rw[<-List.drop_drop,List.drop_left' (by rw[qEm,uh HM])];rfl)
 have HNUM:=hide (show ∀x,x∈ll->x.nums.length<=1000 from λx hx=>by
    have h1:(x.code,x.nums)∈qG7 ws0 s:=by rw[<-uh HML];exact List.mem_map_of_mem (f:=λx:Ans=>(x.code,x.nums)) hx
    have:=qWe s (uh HOS) _ h1
    simp only at this;omega)
 have HL10:=hide ((uh HL7).keeps (uh HK710) (λ_ _ h=>h))
 have HB10:=hide hB10
 have HKW:=hide (((uh HK4).then (uh HK47)).then (uh HK710))
 obtain⟨ba,bc,ebv⟩:=qEj hB10.row
 rw[uh HLB]at ebv
 subst ebv
 obtain⟨gb,eba,m0,_,_⟩:=qHr (uh HB10) M xm hxm
 obtain⟨gb2,eba2,_,_,m2⟩:=qHr (uh HB10) (M+1) xn hxn
 subst eba
 have egb:gb2=gb:=by injection eba2 with e;injection e with e1;exact e1.symm
 rw[egb]at m2
 rw[hm0]at m0
 rw[hn2]at m2
 have a3:W10.cell? ⟨ga,k*3+2,none⟩=some (.string B):=(uh HK710).cell a2 (λh=>h)
 clear hB10 hMB hBB hk8 hk9 hk10 hO8 hO9 egb eba2 hxm hxn hm0 hn2 a0 a2 HD1 HT1 HDATA HKL2 HZW HSW HK47 HK4 HA7 HL7 HML HBL HMA HBA
 have hi0:(0:Int)<=(M:Int):=by omega
 have hi1:(M:Int)<(N:Int):=by omega
 have hi2:(0:Int)<=(M:Int)+1:=by omega
 have hi3:(M:Int)+1<(N:Int):=by omega
 have hnn:((N:Int) !=(M:Int)+2+(L:Int)-(k:Int))=false:=by simp;omega
 have hbb:(B.toList==B.toList)=true:=by simp
 have hNB:N<=3000000:=by omega
 have HNN:=hide hN
 clear hN
 go_wp2_with fail
 go_quiet (fail)
 have HKN:=hide (Keeps.drewN (λ_=>False) W10 nq)
 have HL11:=hide ((uh HL10).keeps (uh HKN) (λ_ _ h=>h))
 have HB11:=hide ((uh HB10).keeps (uh HKN) (λ_ _ h=>h))
 have HKW11:=hide ((uh HKW).then (uh HKN))
 clear m0 m2 a3 hi0 hi1 hi2 hi3 hnn hbb hne hix0 hix1 hix2 HKN HL10 HB10 HKW HK710
 generalize W10.drewN nq=W11 at *
 go_wp2_with fail
 go_loopw [16,17] (λiv _ wr=>∃j:Nat,k<=j/\j<=L/\iv=.int .i64 j/\Hid (Keeps (λ_=>False) W11 wr)) (λiv _ _=>L-(intOf iv).toNat)
 case atStart=>exact⟨k,Nat.le_refl _,hkL,rfl,Keeps.refl _ _⟩
 case round =>
  obtain⟨j,hj0,hjL,rfl,HK⟩:=hrel
  by_cases hjk:j<L
  ·obtain⟨xa,hxa⟩:∃x,ll[j]?=some x:=⟨ll[j]'(by rw[uh HLL];exact hjk),List.getElem?_eq_getElem _⟩
   obtain⟨q,hq⟩:∃q,q=M+2+(j-k):=⟨_,rfl⟩
   obtain⟨xb,hxb⟩:∃x,lb[q]?=some x:=⟨lb[q]'(by have:=uh HNN;rw[uh HLB];omega),List.getElem?_eq_getElem _⟩
   have hsame:xb.code=xa.code/\xb.nums=xa.nums/\xb.bs=xa.bs:=by
    have e1:=congrArg (λl=>l[j-k]?) (uh HREST).1
    have e2:=congrArg (λl=>l[j-k]?) (uh HREST).2
    simp only[List.getElem?_map,List.getElem?_drop]at e1 e2
    rw[<-hq,hxb,show k+(j-k)=j by omega,hxa]at e1 e2
    have e3:(xb.code,xb.nums)=(xa.code,xa.nums):=by simpa using e1
    exact⟨(Prod.mk.inj e3).1,(Prod.mk.inj e3).2,by simpa using e2⟩
   have hAr:=(uh HL11).keeps (uh HK) (λ_ _ h=>h)
   have hBr:=(uh HB11).keeps (uh HK) (λ_ _ h=>h)
   obtain⟨gl,egl,a0,a1,a2⟩:=qHr hAr j xa hxa
   obtain⟨gb',egb,b0,b1,b2⟩:=qHr hBr q xb hxb
   subst egl
   have e9:gb'=gb:=by injection egb with e;injection e with e1;exact e1.symm
   rw[e9]at b0 b1 b2
   have HNA:=hide (hAr.nums xa (List.mem_of_getElem? hxa))
   have hnb:=hBr.nums xb (List.mem_of_getElem? hxb)
   rw[hsame.2.1]at hnb
   rw[hsame.1]at b0
   rw[hsame.2.2]at b2
   have HNB:=hide hnb
   have HN9:=hide (uh HNUM xa (List.mem_of_getElem? hxa))
   clear hAr hBr hnb hxa hxb hsame egb e9
   generalize xa.code=code at *
   generalize xa.bs=bs at *
   obtain⟨na,nca,ena⟩:=qEj (uh HNA)
   obtain⟨nb,ncb,enb⟩:=qEj (uh HNB)
   rw[ena]at HNA a1
   rw[enb]at HNB b1
   clear ena enb
   generalize xa.nums=nums at *
   have hj0':(0:Int)<=(j:Int):=by omega
   have hjL':(j:Int)<(L:Int):=by omega
   have hqi:(M:Int)+2+(j:Int)-(k:Int)=(q:Int):=by omega
   have hw1:IntKind.i64.wrap ((M:Int)+2)=(M:Int)+2:=by rw[IntKind.wrap_i64];omega
   have hw2:IntKind.i64.wrap ((M:Int)+2+(j:Int))=(M:Int)+2+(j:Int):=by rw[IntKind.wrap_i64];omega
   have hw3:IntKind.i64.wrap ((M:Int)+2+(j:Int)-(k:Int))=(q:Int):=by rw[IntKind.wrap_i64];omega
   clear hqi
   have hq0:(0:Int)<=(q:Int):=by omega
   have hqN:(q:Int)<(N:Int):=by have:=uh HNN;omega
   have HQ:=hide hq
   clear hq
   go_wp2_with fail
   go_region_held3 (λw'=>w'.cell? ⟨gl,j*3,none⟩=some (.int .i64 code)/\w'.cell? ⟨gl,j*3+1,none⟩=some (.slice na nums.length nca)/\w'.cell? ⟨gl,j*3+2,none⟩=some (.string bs) /\
       w'.cell? ⟨gb,q*3,none⟩=some (.int .i64 code)/\w'.cell? ⟨gb,q*3+1,none⟩=some (.slice nb nums.length ncb)/\w'.cell? ⟨gb,q*3+2,none⟩=some (.string bs))
    (first | (simp[*];done) | (go_split_ands;exact⟨hk12.cell (by assumption) (λh=>h),hk12.cell (by assumption) (λh=>h),hk12.cell (by assumption) (λh=>h),hk12.cell (by assumption) (λh=>h),hk12.cell (by assumption) (λh=>h),hk12.cell (by assumption) (λh=>h)⟩))
    (first | (go_at_call 13;refine(zD3 _ _ code bs _ _ nums _ (by exact qBd (uh HNA) ((Keeps.refl (λ_=>False) wr).drew) (λ_ _ h=>h)) (by exact qBd (uh HNB) ((Keeps.refl (λ_=>False) wr).drew) (λ_ _ h=>h)) (uh HN9)).mono ?_;rintro r W12 ⟨rfl,hk12⟩))
   have HK12:=hide ((uh HK).then (((Keeps.refl (λ_=>False) wr).drew).then hk12))
   clear hk12
   go_wp2
   go_roundw
   case rel=>exact⟨j+1,by omega,by omega,by go_num,HK12⟩
   case measure=>simp[intOf];omega
  ·have hje:j=L:=by omega
   subst hje
   go_wp2
   go_ret
   exact⟨rfl,(uh HKW11).then (uh HK)⟩
end
section
open Go.ChangeShapes Go.WideShapes Go.ChangeAt Go.RowKit Go.Deep
def opOf(V:Nat->Int)(b:ByteArray): OpM:=⟨V 0,V 1,V 2,V 3,V 4,⟨V 5,V 6,V 7,V 8,V 9,V 10,V 11,V 12,V 13,V 14,V 15,V 16,V 17,V 18,V 19,V 20,V 21,V 22,V 23,V 24⟩,b⟩
theorem qWx(V:Nat->Int)(b:ByteArray): (opOf V b).cells=(List.range 25).map (λj=>.int .i64 (V j))++[.string b]:=rfl
theorem cells3: Tryz.prog.cellsOf 3=1:=by kernel_rfl
theorem zEi: Tryz.prog.cellsOf 29=2:=by kernel_rfl
theorem qSs: Tryz.prog.cellsOf 34=26:=by kernel_rfl
section
variable {H:Type} {enc:TypeId×Value->H} {w:World} {base:Nat} {spare:Nat->Bool} {held:Bool}
def IntAt(cs:List Value)(i:Nat): Prop:=∃n,cs[i]?=some (.int .i64 n)/\(Lit.int .i64 n).wf=true
theorem zDd{cs:List Value}{off n i:Nat}{v:Value}(h:((cs.drop off).take n)[i]?=some v): cs[off+i]?=some v:=by
 rw[List.getElem?_take]at h
 split at h
 ·rw[List.getElem?_drop]at h;exact h
 ·cases h
theorem IntAt.sub{cs:List Value}{off n i:Nat}(h:IntAt ((cs.drop off).take n) i): IntAt cs (off+i):=by
 obtain⟨k,h1,h2⟩:=h
 exact⟨k,zDd h1,h2⟩
theorem zAa{m:Nat}{cs:List Value}{x:DataW H×List MemPlace}(h:DataW.trod enc Tryz.prog w base spare held m 3 cs=some x): IntAt cs 0:=by
 obtain⟨n,rfl,_,hw⟩:=DataW.trod_int Tryz.underlying3 h
 exact⟨n,rfl,hw⟩
theorem qIr{α:Type}{xs:List α}{n i:Nat}(h:xs.length=n)(hi:i<n): ∃x,xs[i]?=some x:=⟨xs[i],List.getElem?_eq_getElem (by omega)⟩
theorem zDk{m:Nat}{cs:List Value}{x:DataW H×List MemPlace}(h:DataW.trod enc Tryz.prog w base spare held m 29 cs=some x)(i:Nat)(hi:i<2): IntAt cs i:=by
 obtain⟨xs,k,_,_,_,hl,hx⟩:=DataW.trod_array Tryz.underlying29 h
 obtain⟨y,hy⟩:=qIr hl hi
 have h1:=hx i hi
 rw[hy,cells3,Nat.mul_one]at h1
 have:=(zAa h1).sub
 simpa using this
theorem zFf{m:Nat}{cs:List Value}{x:DataW H×List MemPlace}(h:DataW.trod enc Tryz.prog w base spare held m 30 cs=some x)(i:Nat)(hi:i<6): IntAt cs i:=by
 obtain⟨xs,k,_,_,_,hl,hx⟩:=DataW.trod_array Tryz.underlying30 h
 have hq:i/2<3:=by omega
 obtain⟨y,hy⟩:=qIr hl hq
 have h1:=hx (i/2) hq
 rw[hy,zEi]at h1
 have:=(zDk h1 (i%2) (by omega)).sub
 rwa [show i/2*2+i%2=i by omega]at this
theorem zGm{m:Nat}{cs:List Value}{x:DataW H×List MemPlace}(h:DataW.trod enc Tryz.prog w base spare held m 32 cs=some x)(i:Nat)(hi:i<20): IntAt cs i:=by
 obtain⟨xs,k,_,_,_,hl,hx⟩:=DataW.trod_struct Tryz.underlying32 h
 have hl15:xs.length=15:=hl
 have one:∀(j:Nat) (f:Field),(Option.map (λf:Field=>(f.type,f.offset)) (some f))=some (3,j)->j<14->DataW.trod enc Tryz.prog w base spare held k f.type ((cs.drop f.offset).take (Tryz.prog.cellsOf f.type))=xs[j]?->IntAt cs j:=by
  intro j f hf hj h1
  obtain⟨y,hy⟩:=qIr hl15 (show j<15 by omega)
  simp only[Option.map_some,Option.some.injEq,Prod.mk.injEq]at hf
  rw[hf.1,hf.2,hy]at h1
  have:=(zAa h1).sub
  simpa using this
 by_cases h14:i<14
 ·have hc:i=0\/i=1\/i=2\/i=3\/i=4\/i=5\/i=6\/i=7\/i=8\/i=9\/i=10\/i=11\/i=12\/i=13:=by omega
  rcases hc with rfl | rfl | rfl | rfl | rfl | rfl | rfl | rfl | rfl | rfl | rfl | rfl | rfl | rfl <;> exact one _ _ rfl h14 (hx _ _ rfl)
 ·obtain⟨y,hy⟩:=qIr hl15 (show 14<15 by omega)
  have h1:DataW.trod enc Tryz.prog w base spare held k 30 ((cs.drop 14).take (Tryz.prog.cellsOf 30))=xs[14]?:=hx 14 _ rfl
  rw[hy]at h1
  have:=(zFf h1 (i-14) (by omega)).sub
  rwa [show 14+(i-14)=i by omega]at this
theorem zE5{m:Nat}{cs:List Value}{x:DataW H×List MemPlace}(h:DataW.trod enc Tryz.prog w base spare held m 34 cs=some x):
  ∃(V:Nat->Int) (b:ByteArray),cs=(opOf V b).cells/\∀i,i<25->(Lit.int .i64 (V i)).wf=true:=by
 obtain⟨xs,k,_,_,hlen,hl,hx⟩:=DataW.trod_struct Tryz.underlying34 h
 rw[qSs]at hlen
 have hl7:xs.length=7:=hl
 have one:∀(j:Nat) (f:Field),(Option.map (λf:Field=>(f.type,f.offset)) (some f))=some (3,j)->j<5->DataW.trod enc Tryz.prog w base spare held k f.type ((cs.drop f.offset).take (Tryz.prog.cellsOf f.type))=xs[j]?->IntAt cs j:=by
  intro j f hf hj h1
  obtain⟨y,hy⟩:=qIr hl7 (show j<7 by omega)
  simp only[Option.map_some,Option.some.injEq,Prod.mk.injEq]at hf
  rw[hf.1,hf.2,hy]at h1
  have:=(zAa h1).sub
  simpa using this
 have hints:∀i,i<25->IntAt cs i:=by
  intro i hi
  by_cases h5:i<5
  ·have hc:i=0\/i=1\/i=2\/i=3\/i=4:=by omega
   rcases hc with rfl | rfl | rfl | rfl | rfl <;> exact one _ _ rfl h5 (hx _ _ rfl)
  ·obtain⟨y,hy⟩:=qIr hl7 (show 5<7 by omega)
   have h1:DataW.trod enc Tryz.prog w base spare held k 32 ((cs.drop 5).take (Tryz.prog.cellsOf 32))=xs[5]?:=hx 5 _ rfl
   rw[hy]at h1
   have:=(zGm h1 (i-5) (by omega)).sub
   rwa [show 5+(i-5)=i by omega]at this
 obtain⟨V,hV⟩:=choose_lt (α:=Int) hints
 obtain⟨y,hy⟩:=qIr hl7 (show 6<7 by omega)
 have h1:DataW.trod enc Tryz.prog w base spare held k 9 ((cs.drop 25).take (Tryz.prog.cellsOf 9))=xs[6]?:=hx 6 _ rfl
 rw[hy]at h1
 obtain⟨b,hb,_,_⟩:=DataW.trod_string Tryz.underlying9 h1
 have hb':cs[25]?=some (.string b):=zDd (off:=25) (i:=0) (by rw[hb];rfl)
 refine⟨V,b,?_,λi hi=>(hV i hi).2⟩
 rw[qWx]
 apply List.ext_getElem?
 intro j
 by_cases hj:j<25
 ·rw[(hV j hj).1,List.getElem?_append_left (by simpa using hj)]
  simp[hj]
 ·by_cases hj2:j=25
  ·subst hj2;rw[hb'];rfl
  ·rw[List.getElem?_eq_none (by omega),List.getElem?_eq_none (by simp;omega)]
end
end
end Go.Proofs.YtahnliehdjncdabGreatDoor
