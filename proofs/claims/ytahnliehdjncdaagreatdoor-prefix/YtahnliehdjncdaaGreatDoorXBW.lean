import Derived.Test.YtahnliehdjncdaaGreatDoorXBV
set_option maxRecDepth 100000
set_option maxHeartbeats 16000000
namespace Go.Proofs.YtahnliehdjncdaaGreatDoor
section
open Go.RowKit
attribute [local go_sem ↓] qAd qAe qDe
attribute [local go_sem] qAh qAl qAb qAc qAm qAn qAi qAj
theorem qXn(l:List OpM): ∀s:WS,EInv 4611686018427387904 s.clock s.xs->∀x,x∈qMp qCb s l->x.2.length<=17:=by
 induction l with
 | nil=>intro s _ x h;cases h
 | cons o l ih =>
  intro s hs x h
  rcases List.mem_cons.1 h with h | h
  ·subst h
   unfold stepG
   split
   ·split <;> simp
   ·exact qXm o hs
  ·exact ih _ (qOz o hs) x h
theorem qVu(l:List OpM)(x:Int×List Int)(h:x∈qMp qCb ws0 l): x.2.length<=17:=qXn l ws0 (inv0.mono (by omega)) x h
theorem qX3(ld:ByteArray->Option WS)(s:WS)(ops:List OpM)(k:Nat)(h:k<=ops.length): qMp ld s (ops.take k)=(qMp ld s ops).take k/\qF2 ld s (ops.take k)=(qF2 ld s ops).take k:=by
 have h1:=qRa ld s (ops.take k) (ops.drop k)
 have h2:=qPt ld s (ops.take k) (ops.drop k)
 have hl:(ops.take k).length=k:=by rw[List.length_take];omega
 rw[List.take_append_drop]at h1 h2
 rw[h1,h2,List.take_left' (by rw[qFu,hl]),List.take_left' (by rw[qQj,hl])]
 exact⟨rfl,rfl⟩
theorem qZ7(g o L cap k:Nat)(W:World)(h:k<=cap): (Instr.sliceAt 22 (.slice (some ⟨g,o,none⟩) L cap) none (some (.int .i64 k)) none).run Tryz.prog W=.ok (.slice (some ⟨g,o,none⟩) k cap) W:=by
 have h2:(k:Int)<=(cap:Int):=by omega
 simp[go_sem,h2]
theorem qZq(a:Option Addr)(cap:Nat)(W:World): (Instr.sliceAt 22 (.slice a 0 cap) none (some (.int .i64 0)) none).run Tryz.prog W=.ok (.slice a 0 cap) W:=by
 simp[go_sem]
theorem qTl{w:World}{v:Value}{s:List OpM}(h:ScriptW w v s)(k:Nat)(hk:k<=s.length):
  ∃sa sc ta tc,v=.slice sa s.length sc/\(∀W,(Instr.sliceAt 22 (.slice sa s.length sc) none (some (.int .i64 k)) none).run Tryz.prog W=.ok (.slice ta k tc) W)/\ScriptW w (.slice ta k tc) (s.take k):=by
 rcases h with ⟨⟨a,c,rfl⟩,rfl⟩ | ⟨sb,so,cap,rfl,hcap,hsc,hlt⟩
 ·have hk0:k=0:=by simpa using hk
  subst hk0
  exact⟨a,c,a,c,rfl,λW=>qZq a c W,.inl ⟨⟨_,_,rfl⟩,rfl⟩⟩
 ·have hkl:(s.take k).length=k:=by rw[List.length_take];omega
  exact⟨_,cap,some ⟨sb,so,none⟩,cap,rfl,λW=>qZ7 sb so _ cap k W (by omega),.inr ⟨sb,so,cap,by rw[hkl],by omega,qSe hsc k,hlt⟩⟩
theorem zC2(v:Value)(ops:List OpM)(n:Int)(w:World)(hv:ScriptW w v ops)(hlen:ops.length<=651562446088)(hb:∀o,o∈ops->o.bytes.size<=9223372036854775807)(hT:Tab w)(n0:-9223372036854775808<=n)(n1:n<=9223372036854775807):
  Calls Tryz.prog 5 #[v,.int .i64 n] w λr w'=>r=.returned (.bool true)/\Keeps (λ_=>False) w w':=by
 have HCUT:=hide (λk (hk:k<=ops.length)=>qTl hv k hk)
 obtain⟨sa,sc,_,_,ev,_,_⟩:=qTl hv 0 (by omega)
 have HV:=hide hv
 have HTT:=hide hT
 have HB:=hide hb
 rw[ev]at HCUT HV
 clear hv hT hb
 subst ev
 generalize hL:ops.length=L at *
 have HL:=hide hL
 clear hL
 go_enter Tryz.func5,Tryz.ntmps5
 go_wp2_with fail
 refine(qW8 w (uh HTT)).mono ?_
 rintro r w1 ⟨rfl,hk1⟩
 have HK1:=hide hk1
 clear hk1
 go_wp2_with fail
 refine(qZz n ((L:Int)+1) w1 (by omega) (by omega) n0 n1).mono ?_
 rintro r w1' ⟨k,hk,rfl,hw⟩
 rw[hw]
 clear hw w1'
 have hkL:k<=L:=by omega
 obtain⟨sa2,sc2,ta,tc,esv,hs1,hT1⟩:=uh HCUT k hkL
 injection esv with e1 _ e2
 subst e1 e2
 have HT1:=hide hT1
 clear hT1 HCUT
 go_wp2_with fail
 refine(qTs _ ops w1 ((uh HV).keeps (uh HK1)) (by rw[uh HL];omega) ((uh HTT).keeps (uh HK1) (λh=>h)) (λo ho _=>uh HB o ho)).mono ?_
 rintro r w2 ⟨va,la,rfl,hA,hMA,hBA,hk2⟩
 have HK2:=hide ((uh HK1).then hk2)
 have HA:=hide hA
 have HMA:=hide hMA
 have HBA:=hide hBA
 clear hA hMA hBA hk2
 go_wp2_with fail
 have hkl:(ops.take k).length=k:=by rw[List.length_take,uh HL];omega
 have HKL:=hide hkl
 clear hkl
 refine(qTs _ (ops.take k) w2 ((uh HT1).keeps (uh HK2)) (by rw[uh HKL];omega) ((uh HTT).keeps (uh HK2) (λh=>h)) (λo ho _=>uh HB o (List.mem_of_mem_take ho))).mono ?_
 rintro r w3 ⟨vb,lb,rfl,hB,hMB,hBB,hk3⟩
 have hA:=(uh HA).keeps hk3 (λ_ _ h=>h)
 have HK3:=hide ((uh HK2).then hk3)
 have HLA:=hide (show la.length=L by
    have:=congrArg List.length (uh HMA)
    rw[List.length_map,qFu,uh HL]at this
    exact this)
 have HLB:=hide (show lb.length=k by
    have:=congrArg List.length hMB
    rw[List.length_map,qFu,uh HKL]at this
    exact this)
 have hrt:=qX3 qCb ws0 ops k (by rw[uh HL];exact hkL)
 rw[hrt.1]at hMB
 rw[hrt.2]at hBB
 have HMB:=hide hMB
 have HBB:=hide hBB
 obtain⟨aa,ca,ea⟩:=qH7 hA.row
 obtain⟨ab,cb,eb⟩:=qH7 hB.row
 rw[uh HLA]at ea
 rw[uh HLB]at eb
 have HA3:=hide hA
 have HB3:=hide hB
 clear hA hB hk3 hMB hBB HA HK2 HK1 hrt
 subst ea eb
 go_wp2
 go_loopw [5,9] (λokv i wr=>∃j:Nat,j<=k/\i=.int .i64 j/\okv=.bool true/\Hid (Keeps (λ_=>False) w3 wr)) (λ_ i _=>k-(intOf i).toNat)
 case atStart=>exact⟨0,by omega,rfl,rfl,Keeps.refl _ _⟩
 case round =>
  obtain⟨j,hj,rfl,rfl,HK⟩:=hrel
  by_cases hjk:j<k
  ·obtain⟨xa,xb,hxa,hxb,hcode,hnums⟩:=zCb (uh HMA) (uh HMB) hjk (by rw[uh HLA];omega) (by rw[uh HLB];omega)
   have hbs:xb.bs=xa.bs:=by
    have e1:=congrArg (λl=>l[j]?) (uh HBA)
    have e2:=congrArg (λl=>l[j]?) (uh HBB)
    simp only[List.getElem?_map,hxa,hxb,List.getElem?_take,if_pos hjk]at e1 e2
    rw[<-e1]at e2
    simpa using e2
   have hAr:=(uh HA3).keeps (uh HK) (λ_ _ h=>h)
   have hBr:=(uh HB3).keeps (uh HK) (λ_ _ h=>h)
   obtain⟨ga,rfl,a0,a1,a2⟩:=qO5 hAr j xa hxa
   obtain⟨gb,rfl,b0,b1,b2⟩:=qO5 hBr j xb hxb
   have HNA:=hide (hAr.nums xa (List.mem_of_getElem? hxa))
   have hnb:=hBr.nums xb (List.mem_of_getElem? hxb)
   rw[<-hnums]at hnb
   have HNB:=hide hnb
   rw[<-hcode]at b0
   rw[hbs]at b2
   have HN9:=hide (show xa.nums.length<=1000 by
      have:(xa.code,xa.nums)∈qMp qCb ws0 ops:=by rw[<-uh HMA];exact List.mem_map_of_mem (f:=λx:Ans=>(x.code,x.nums)) (List.mem_of_getElem? hxa)
      have:=qVu _ _ this
      simp only at this;omega)
   clear hAr hBr hnb hxa hxb hcode hnums hbs
   generalize xa.code=code at *
   generalize xa.bs=bs at *
   obtain⟨na,nca,ena⟩:=qH7 (uh HNA)
   obtain⟨nb,ncb,enb⟩:=qH7 (uh HNB)
   rw[ena]at HNA a1
   rw[enb]at HNB b1
   clear ena enb
   generalize xa.nums=nums at *
   have hj0:(0:Int)<=(j:Int):=by omega
   have hjL:(j:Int)<(L:Int):=by omega
   have hjk':(j:Int)<(k:Int):=by omega
   go_wp2_with fail
   go_region_held3 (λw'=>w'.cell? ⟨ga,j*3,none⟩=some (.int .i64 code)/\w'.cell? ⟨ga,j*3+1,none⟩=some (.slice na nums.length nca)/\w'.cell? ⟨ga,j*3+2,none⟩=some (.string bs) /\
       w'.cell? ⟨gb,j*3,none⟩=some (.int .i64 code)/\w'.cell? ⟨gb,j*3+1,none⟩=some (.slice nb nums.length ncb)/\w'.cell? ⟨gb,j*3+2,none⟩=some (.string bs))
    (first | (simp[*];done) | (go_split_ands;exact⟨hk4.cell (by assumption) (λh=>h),hk4.cell (by assumption) (λh=>h),hk4.cell (by assumption) (λh=>h),hk4.cell (by assumption) (λh=>h),hk4.cell (by assumption) (λh=>h),hk4.cell (by assumption) (λh=>h)⟩))
    (first | (go_at_call 20;refine(zC5 _ _ code bs _ _ nums _ (by exact qBe (uh HNA) ((Keeps.refl (λ_=>False) wr).drew) (λ_ _ h=>h)) (by exact qBe (uh HNB) ((Keeps.refl (λ_=>False) wr).drew) (λ_ _ h=>h)) (uh HN9)).mono ?_;rintro r w4 ⟨rfl,hk4⟩))
   have HK4:=hide ((uh HK).then (((Keeps.refl (λ_=>False) wr).drew).then hk4))
   clear hk4
   go_wp2
   go_roundw
   case rel=>exact⟨j+1,by omega,by go_num,rfl,HK4⟩
   case measure=>simp[intOf];omega
  ·go_wp2
   go_ret
   exact⟨rfl,(uh HK3).then (uh HK)⟩
end
end Go.Proofs.YtahnliehdjncdaaGreatDoor
