import Derived.Test.YtahnliehdjncdaaGreatDoorXBR
import Derived.Test.YtahnliehdjncdaaGreatDoorXBA
import Derived.Test.YtahnliehdjncdaaGreatDoorXAZ
import Derived.Test.YtahnliehdjncdaaGreatDoorXBB
import Derived.Test.YtahnliehdjncdaaGreatDoorXAU
import Derived.Test.YtahnliehdjncdaaGreatDoorXBI
set_option maxRecDepth 100000
set_option maxHeartbeats 16000000
namespace Go.Proofs.YtahnliehdjncdaaGreatDoor
section
open Go.RowKit
attribute [local go_sem ↓] qAd qAe qBv qC6
attribute [local go_sem] qAi qAj qAc qAb qAm qAn qAg qAh qIj
theorem qYg(v:Value)(ops:List OpM)(w:World)(hs:ScriptW w v ops)(hlen:ops.length<=651562446080)(h67:∀o,o∈ops->o.kind≠6/\o.kind≠7)(hq:∀SS:List OpM,SS.length<=ops.length->(∀x,x∈SS->x∈ops/\chg x=true)->∀y,y∈(qEm rs0 SS).xs->KInv (qEm rs0 SS).clock y):
  Calls Tryz.prog 40 #[v] w λr w'=>∃v l,r=.returned v/\ARep w' w.heap.size v l/\l.map (λx=>(x.code,x.nums))=qV2 rs0 ops/\(∀x,x∈l->x.bs=qAa)/\Keeps (λ_=>False) w w':=by
 obtain⟨a,cap,rfl,hsv⟩:=qFo hs
 have HSV:=hide hsv
 have H67:=hide h67
 have HQ:=hide hq
 clear hs hsv h67 hq
 obtain⟨i0,hi0,hz0,hz1,hz2⟩:=info_parts qWs
 obtain⟨j0,hj0,hy0,hy1,hy2⟩:=info_parts zEg
 generalize hn:ops.length=n at *
 have HN:=hide hn
 clear hn
 go_enter Tryz.func40,Tryz.ntmps40
 go_wp2_with fail
 go_loopw [3,4,5,6] (λav sv tv i wr=>∃(k:Nat) (l:List Ans),k<=n/\i=.int .i64 k/\Hid (RR wr w.heap.size av l sv ((ops.take k).filter chg) tv k (.slice none 0 0) [])/\Hid (l.map (λx=>(x.code,x.nums))=qV2 rs0 (ops.take k))/\Hid (Keeps (λ_=>False) w wr)) (λ_ _ _ i _=>n-(intOf i).toNat)
 case atStart =>
  refine⟨0,[],by omega,rfl,⟨⟨World.ownsRow_nil _ _ _ _,λx hx=>by simp at hx,λx hx=>by simp at hx⟩,World.ownsRow_nil _ _ _ _,World.ownsRow_nil _ _ _ _,World.ownsRow_nil _ _ _ _,λi hi=>(by cases hi),λi hi=>(by cases hi),λi hi=>(by cases hi),λx hx=>by simp at hx⟩,rfl,Keeps.refl _ _⟩
 case round =>
  obtain⟨k,l,hk,rfl,HRR,HMr,HKr⟩:=hrel
  generalize u3=av at *
  generalize u4=sv at *
  generalize u5=tv at *
  by_cases hkn:k<n
  ·obtain⟨o,ho⟩:∃o,ops[k]?=some o:=⟨ops[k]'(by rw[uh HN];exact hkn),List.getElem?_eq_getElem _⟩
   have HO:=hide ho
   have hmo:o∈ops:=List.mem_of_getElem? ho
   obtain⟨n6,n7⟩:=uh H67 o hmo
   obtain⟨sb,so,ha,hlt,hra⟩:=uh HSV k o ho
   obtain⟨hv0,hh0⟩:=qHe hra hlt (uh HKr)
   have hsbl:sb<wr.heap.size:=by have:=(uh HKr).size;omega
   subst ha
   have hst:∀zs:List Value,zs.length=26->(qD4 40 (.pointer (some ⟨wr.heap.size,0,none⟩)) (.agg o.cells.toArray)).run Tryz.prog (wr.alloc (.cells zs.toArray 40))=.ok .skip (wr.alloc (.cells o.cells.toArray 40)):=λzs hz=>qFs wr zs o.cells hz rfl (qFi o)
   have h1c:o.cells[0]?=some (.int .i64 o.kind):=rfl
   have b6:(o.kind==6)=false:=by simpa using n6
   have b7:(o.kind==7)=false:=by simpa using n7
   have hk0:(0:Int)<=(k:Int):=by omega
   have hkn':(k:Int)<(n:Int):=by omega
   have htk:ops.take (k+1)=ops.take k++[o]:=by rw[List.take_add_one,ho];rfl
   have HRN:=hide (show qV2 rs0 (ops.take (k+1))=qV2 rs0 (ops.take k)++[qQs (qEm rs0 ((ops.take k).filter chg)) o] by rw[htk,qXg])
   have HFN:=hide (show(ops.take (k+1)).filter chg=(ops.take k).filter chg++[o].filter chg by rw[htk,List.filter_append])
   have hSl:((ops.take k).filter chg).length<=k:=by
    have h1:=List.length_filter_le chg (ops.take k)
    rw[List.length_take]at h1
    omega
   have HSG:=hide (show ∀x,x∈(ops.take k).filter chg->chg x=true from λx hx=>(List.mem_filter.1 hx).2)
   have HSL:=hide (show((ops.take k).filter chg).length<=n by
      have h1:=List.length_filter_le chg (ops.take k)
      rw[List.length_take]at h1
      have:=uh HN
      omega)
   have HSM:=hide (show ∀x,x∈(ops.take k).filter chg->x∈ops from λx hx=>List.mem_of_mem_take (List.mem_filter.1 hx).1)
   have hlk:l.length=k:=by
    have:=congrArg List.length (uh HMr)
    rw[List.length_map,qKt,List.length_take,uh HN]at this
    omega
   have HLK:=hide hlk
   generalize hSS:(ops.take k).filter chg=SS at *
   have HINV:=hide (show RWInv (k:Int) (qEm rs0 SS).clock (qEm rs0 SS).ticks (qEm rs0 SS).xs from by
      have h1:=qTb SS zEb (by omega)
      have h2:=h1.tn
      have hm:∀x,x∈(qEm rs0 SS).xs->RInv (k:Int) x:=λx hx=>(h1.sers x hx).mono (by omega)
      exact⟨h1.c0,h1.c1,h1.t0,by omega,h1.six,hm,h1.cnt⟩)
   clear hra htk ho hlk hSS hmo
   -- the two new blocks
   have hkb:Keeps (λ_=>False) wr ((wr.alloc (.cells o.cells.toArray 40)).alloc (.cells #[.int .i64 0,.slice none 0 0,.string ⟨#[]⟩] 33)):=((Keeps.refl (λ_=>False) wr).alloc _).alloc _
   have HOb:=hide (show Blk ((wr.alloc (.cells o.cells.toArray 40)).alloc (.cells #[.int .i64 0,.slice none 0 0,.string ⟨#[]⟩] 33)) wr.heap.size o.cells 40 from(Blk.new wr o.cells 40).alloc _)
   have HAb:=hide (show Blk ((wr.alloc (.cells o.cells.toArray 40)).alloc (.cells #[.int .i64 0,.slice none 0 0,.string ⟨#[]⟩] 33)) (wr.heap.size+1) [.int .i64 0,.slice none 0 0,.string qAa] 33 from Blk.newAt (by simp) [_,_,_] 33)
   have HKb:=hide hkb
   have HRb:=hide ((uh HRR).still hkb)
   have hszb:((wr.alloc (.cells o.cells.toArray 40)).alloc (.cells #[.int .i64 0,.slice none 0 0,.string ⟨#[]⟩] 33)).heap.size=wr.heap.size+2:=by simp
   have HSZB:=hide hszb
   clear hkb hszb
   have hcase:o.kind=4\/o.kind=5\/(o.kind≠4/\o.kind≠5):=by omega
   rcases hcase with hkd | hkd | ⟨hkd4,hkd5⟩
   ·have bk:(o.kind==4)=true:=by simpa using hkd
    have HAN:=hide (show qQs (qEm rs0 SS) o=qLk (qEm rs0 SS) o from zBn _ _ hkd)
    have HF1:=hide (show[o].filter chg=[] from by simp[chg,hkd])
    have HK4:=hide (show ∀y,y∈(qEm rs0 SS).xs->KInv (qEm rs0 SS).clock y from uh HQ SS (uh HSL) (λx hx=>⟨uh HSM x hx,uh HSG x hx⟩))
    clear hkd
    go_wp2_with fail
    clear hv0 hh0 hst h1c
    generalize(wr.alloc (.cells o.cells.toArray 40)).alloc (.cells #[.int .i64 0,.slice none 0 0,.string ⟨#[]⟩] 33)=wb at *
    generalize hob:wr.heap.size=ob at *
    have HOBB:=hide hob
    clear hob
    have hobl:ob<wb.heap.size:=(uh HOb).lt
    have habl:ob+1<wb.heap.size:=(uh HAb).lt
    obtain⟨hvb,hhb⟩:=qA4 (uh HOb) 26 rfl
    have HSW:=hide ((qEo (uh HRb).S).keeps ((Keeps.refl (λ_=>False) wb).drew))
    go_region_held3 (λw'=>qAv w' ob 0 26=.agg o.cells.toArray/\qA2 w' ob 0 26=true)
     (first
        | (go_split_ands;rw[(qAp (b:=ob) (o:=0) (n:=26) (zAr w2 (ob+1) _ _ _) (by omega) hw2b).1,(qAp (b:=ob) (o:=0) (n:=26) (zAr w2 (ob+1) _ _ _) (by omega) hw2b).2];exact⟨by assumption,by assumption⟩)
        | (go_split_ands;rw[(qAp (b:=ob) (o:=0) (n:=26) hk2 (by omega) (by have:=hk1.size;simp at this;omega)).1,(qAp (b:=ob) (o:=0) (n:=26) hk2 (by omega) (by have:=hk1.size;simp at this;omega)).2];exact⟨by assumption,by assumption⟩)
        | (go_split_ands;rw[(qAp (b:=ob) (o:=0) (n:=26) hk1 (λh=>h) (by simp;omega)).1,(qAp (b:=ob) (o:=0) (n:=26) hk1 (λh=>h) (by simp;omega)).2];first | exact⟨hvb,hhb⟩ | exact⟨by assumption,by assumption⟩)
        | (rw[qAc,qAb];exact⟨hvb,hhb⟩)
        | (go_split_ands;exact⟨by assumption,by assumption⟩))
     (first
        | (go_at_call 52;refine(qI9 sv SS _ (by exact uh HSW) (by omega)).mono ?_;rintro r w1 ⟨e,vv,ps,rfl,hE1,hx1,hk1,hf1⟩)
        | (go_at_call 53;refine(qUi wb.heap.size k e vv _ _ ps o _ hE1 (by rw[hx1];exact uh HINV) (by omega) (by rw[hx1];exact uh HK4)).mono ?_;rintro r w2 ⟨code,nums,nv,hcn,rfl,hn2,hk2⟩;have HCN:=hide hcn;clear hcn;obtain⟨na,ncap,hnv⟩:=qFk hn2;subst hnv;unfold qBu;have hkb2:Keeps (λ_=>False) wb w2:=(((Keeps.refl (λ_=>False) wb).drew).then hk1).trans hk2 (λi hi hlt=>by omega);have hw2b:ob<w2.heap.size:=(by have:=hkb2.size;omega);have HA2:=hide ((uh HAb).keeps hkb2 (λh=>h));have r0:w2.cell? ⟨ob+1,0,none⟩=some (.int .i64 0):=(uh HA2).cell rfl;have r1:w2.cell? ⟨ob+1,1,none⟩=some (.slice none 0 0):=(uh HA2).cell rfl;have r2:w2.cell? ⟨ob+1,2,none⟩=some (.string qAa):=(uh HA2).cell rfl;have rf:=(uh HA2).frozen))
    all_goals
     have hss:(⟨(qEm rs0 SS).clock,(qEm rs0 SS).ticks,ps.map (·.2)⟩:RWS)=qEm rs0 SS:=by rw[hx1]
     have HANS:=hide (show qQs (qEm rs0 SS) o=(code,nums) by rw[uh HAN,<-hss];exact uh HCN)
     have hw1:wb.heap.size<=w1.heap.size:=hk1.size
     have HP:=hide ((uh HRb).pend (by have:=(uh HKr).size;have:=uh HOBB;omega) hkb2 (qEy hn2 hw1))
     have hks:=zAr w2 (ob+1) (.int .i64 code) (.slice na nums.length ncap) (.string qAa)
     have HL3:=hide (show ∀i,qH0 av l i\/sv.ownBlock=some i\/tv.ownBlock=some i->i<ob from λi hi=>by rw[<-uh HOBB];exact((uh HRR).lt i hi).2)
     have HR3:=hide ((uh HP).keeps hks (λi hi hh=>by
          rcases hi with h | h | h | h
          ·have:=uh HL3 i (.inl h);omega
          ·have:=uh HL3 i (.inr (.inl h));omega
          ·have:=uh HL3 i (.inr (.inr h));omega
          ·have:=(hn2.lt i h).1;omega))
     have HA3:=hide ((((uh HA2).setCell 0 (.int .i64 code)).setCell 1 (.slice na nums.length ncap)).setCell 2 (.string qAa))
     have HO3:=hide (((uh HOb).keeps hkb2 (λh=>h)).keeps hks (λh=>by omega))
     have HKS:=hide (uh HOBB)
     have HK3:=hide ((((uh HKr).then (uh HKb)).then hkb2).trans hks (λi hi hlt=>by have:=uh HOBB;have:=(uh HKr).size;omega))
     have hb3:w.heap.size<=w2.heap.size:=(((uh HKr).then (uh HKb)).then hkb2).size
     have e9:(((w2.setCell ⟨ob+1,0,none⟩ (.int .i64 code)).setCell ⟨ob+1,1,none⟩ (.slice na nums.length ncap)).setCell ⟨ob+1,2,none⟩ (.string ⟨#[]⟩))=(((w2.setCell ⟨ob+1,0,none⟩ (.int .i64 code)).setCell ⟨ob+1,1,none⟩ (.slice na nums.length ncap)).setCell ⟨ob+1,2,none⟩ (.string qAa)):=rfl
     first | rw[e9] | skip
     have hb3:w.heap.size<=(((w2.setCell ⟨ob+1,0,none⟩ (.int .i64 code)).setCell ⟨ob+1,1,none⟩ (.slice na nums.length ncap)).setCell ⟨ob+1,2,none⟩ (.string qAa)).heap.size:=Nat.le_trans hb3 hks.size
     have hsz3:w2.heap.size<=(((w2.setCell ⟨ob+1,0,none⟩ (.int .i64 code)).setCell ⟨ob+1,1,none⟩ (.slice na nums.length ncap)).setCell ⟨ob+1,2,none⟩ (.string qAa)).heap.size:=hks.size
     clear e9 hks hn2 hk2 hk1 hE1 hx1 hf1 hss r0 r1 r2 rf hkb2 HP HA2 hvb hhb
     generalize(((w2.setCell ⟨ob+1,0,none⟩ (.int .i64 code)).setCell ⟨ob+1,1,none⟩ (.slice na nums.length ncap)).setCell ⟨ob+1,2,none⟩ (.string qAa))=w3 at *
     have HR4:=HR3
     have HA4:=HA3
     have HL4:=HL3
     have HK4:=HK3
     have hbW:=hb3
     go_wp2_with (at_builtin;first | (refine wpList_append_lies _ rfl _ _ _ rfl w.heap.size 22 j0 _ 1 24 Tryz.underlying68 hj0 hy0 hy1 hy2 rfl (by omega) tv k (List.replicate k (.slice none 0 0)) rfl ((uh HR4).T.alloc _) ⟨w3.heap.size,0,none⟩ 1 1 [.slice none 0 0] rfl rfl (World.news_of_block (cs:=#[.slice none 0 0]) (t:=22) (fr:=(0,0)) (heap_alloc_new w3 _)) (by simp[Value.oneCell']) (by omega) (by unfold maxLen;omega) (by omega) (by have:=hbW;simp;omega) (w3.heap.size+1) (by simp) ?_;intro g5 c5 w5 hown5 hgrow5 hat5 hl5;have hk5:=((Keeps.refl (λi=>tv.ownBlock=some i) w3).alloc _).then (qEj hgrow5);have HR5:=hide ((uh HR4).saved hk5 (by rw[<-qOv];exact hown5) (λi hi=>by rcases qMu hat5 i hi with h | h;exact .inl h;exact .inr (by omega)));have HA5:=hide ((uh HA4).keeps hk5 (λh=>by have:=(uh HL4 _ (.inr (.inr h)));omega));have HK5:=hide ((uh HK4).trans hk5 (λi hi hlt=>by have:=((uh HR4).T.lt i hi).1;have:=uh HKS;have:=(uh HKr).size;omega));have t0:w5.cell? ⟨ob+1,0,none⟩=some (.int .i64 code):=(uh HA5).cell rfl;have t1:w5.cell? ⟨ob+1,1,none⟩=some (.slice na nums.length ncap):=(uh HA5).cell rfl;have t2:w5.cell? ⟨ob+1,2,none⟩=some (.string qAa):=(uh HA5).cell rfl;have hb5:w.heap.size<=w5.heap.size:=(by have:=hk5.size;omega);clear hown5 hgrow5 hat5) | (refine wpList_append_lies _ rfl _ _ _ rfl w.heap.size 33 i0 _ 3 48 Tryz.underlying27 hi0 hz0 hz1 hz2 rfl (by omega) av k (qDm l) rfl (by have:=(uh HR5).A.row;rw[uh HLK]at this;exact this.alloc _) ⟨w5.heap.size,0,none⟩ 1 1 [.int .i64 code,.slice na nums.length ncap,.string qAa] rfl rfl (World.news_of_block (cs:=#[.int .i64 code,.slice na nums.length ncap,.string qAa]) (t:=33) (fr:=(0,0)) (heap_alloc_new w5 _)) (by simp[Value.oneCell']) (by omega) (by unfold maxLen;omega) (by omega) (by simp;omega) (w5.heap.size+1) (by simp) ?_;intro g6 c6 w6 hown6 hgrow6 hat6 hl6))
     go_roundw
     case rel =>
      have hk6:=((Keeps.refl (λi=>av.ownBlock=some i) w5).alloc (.cells #[.int .i64 code,.slice na nums.length ncap,.string qAa] 33)).then (qEj hgrow6)
      have hR6:=(uh HR5).out (code:=code) hk6 (by rw[uh HLK];exact hown6) (λi hi=>by
         rcases qMu hat6 i hi with h | h
         ·exact .inl h
         ·exact .inr (by omega))
      refine⟨k+1,l++[⟨code,.slice na nums.length ncap,nums,qAa⟩],by omega,by go_num,?_,?_,?_⟩
      ·show RR _ _ _ _ _ _ _ _ _ _
       rw[uh HFN,uh HF1]
       rw[List.append_nil];exact hR6
      ·show _=_
       rw[uh HRN,List.map_append,uh HMr,uh HANS];rfl
      ·exact(uh HK5).trans hk6 (λi hi hlt=>by have:=((uh HR5).A.lt i (.inl hi)).1;have:=uh HKS;have:=(uh HKr).size;omega)
     case measure=>simp[intOf];omega
   ·have bk:(o.kind==5)=true:=by simpa using hkd
    have b4:(o.kind==4)=false:=by simp[hkd]
    have HAN:=hide (show qQs (qEm rs0 SS) o=qLr (qEm rs0 SS) o from zEi _ _ hkd)
    have HF1:=hide (show[o].filter chg=[] from by simp[chg,hkd])
    clear hkd
    go_wp2_with fail
    clear hv0 hh0 hst h1c
    generalize(wr.alloc (.cells o.cells.toArray 40)).alloc (.cells #[.int .i64 0,.slice none 0 0,.string ⟨#[]⟩] 33)=wb at *
    generalize hob:wr.heap.size=ob at *
    have HOBB:=hide hob
    clear hob
    have hobl:ob<wb.heap.size:=(uh HOb).lt
    have habl:ob+1<wb.heap.size:=(uh HAb).lt
    obtain⟨hvb,hhb⟩:=qA4 (uh HOb) 26 rfl
    have HSW:=hide ((qEo (uh HRb).S).keeps ((Keeps.refl (λ_=>False) wb).drew))
    go_region_held3 (λw'=>qAv w' ob 0 26=.agg o.cells.toArray/\qA2 w' ob 0 26=true)
     (first
        | (go_split_ands;rw[(qAp (b:=ob) (o:=0) (n:=26) (zAr w2 (ob+1) _ _ _) (by omega) hw2b).1,(qAp (b:=ob) (o:=0) (n:=26) (zAr w2 (ob+1) _ _ _) (by omega) hw2b).2];exact⟨by assumption,by assumption⟩)
        | (go_split_ands;rw[(qAp (b:=ob) (o:=0) (n:=26) hk2 (by omega) (by have:=hk1.size;simp at this;omega)).1,(qAp (b:=ob) (o:=0) (n:=26) hk2 (by omega) (by have:=hk1.size;simp at this;omega)).2];exact⟨by assumption,by assumption⟩)
        | (go_split_ands;rw[(qAp (b:=ob) (o:=0) (n:=26) hk1 (λh=>h) (by simp;omega)).1,(qAp (b:=ob) (o:=0) (n:=26) hk1 (λh=>h) (by simp;omega)).2];first | exact⟨hvb,hhb⟩ | exact⟨by assumption,by assumption⟩)
        | (rw[qAc,qAb];exact⟨hvb,hhb⟩)
        | (go_split_ands;exact⟨by assumption,by assumption⟩))
     (first
        | (go_at_call 52;refine(qI9 sv SS _ (by exact uh HSW) (by omega)).mono ?_;rintro r w1 ⟨e,vv,ps,rfl,hE1,hx1,hk1,hf1⟩)
        | (go_at_call 54;refine(qWg wb.heap.size k e vv _ _ ps o _ hE1 (by rw[hx1];exact uh HINV) (by omega)).mono ?_;rintro r w2 ⟨code,nums,nv,hcn,rfl,hn2,hk2⟩;have HCN:=hide hcn;clear hcn;obtain⟨na,ncap,hnv⟩:=qFk hn2;subst hnv;unfold qBu;have hkb2:Keeps (λ_=>False) wb w2:=(((Keeps.refl (λ_=>False) wb).drew).then hk1).trans hk2 (λi hi hlt=>by omega);have hw2b:ob<w2.heap.size:=(by have:=hkb2.size;omega);have HA2:=hide ((uh HAb).keeps hkb2 (λh=>h));have r0:w2.cell? ⟨ob+1,0,none⟩=some (.int .i64 0):=(uh HA2).cell rfl;have r1:w2.cell? ⟨ob+1,1,none⟩=some (.slice none 0 0):=(uh HA2).cell rfl;have r2:w2.cell? ⟨ob+1,2,none⟩=some (.string qAa):=(uh HA2).cell rfl;have rf:=(uh HA2).frozen))
    all_goals
     have hss:(⟨(qEm rs0 SS).clock,(qEm rs0 SS).ticks,ps.map (·.2)⟩:RWS)=qEm rs0 SS:=by rw[hx1]
     have HANS:=hide (show qQs (qEm rs0 SS) o=(code,nums) by rw[uh HAN,<-hss];exact uh HCN)
     have hw1:wb.heap.size<=w1.heap.size:=hk1.size
     have HP:=hide ((uh HRb).pend (by have:=(uh HKr).size;have:=uh HOBB;omega) hkb2 (qEy hn2 hw1))
     have hks:=zAr w2 (ob+1) (.int .i64 code) (.slice na nums.length ncap) (.string qAa)
     have HL3:=hide (show ∀i,qH0 av l i\/sv.ownBlock=some i\/tv.ownBlock=some i->i<ob from λi hi=>by rw[<-uh HOBB];exact((uh HRR).lt i hi).2)
     have HR3:=hide ((uh HP).keeps hks (λi hi hh=>by
          rcases hi with h | h | h | h
          ·have:=uh HL3 i (.inl h);omega
          ·have:=uh HL3 i (.inr (.inl h));omega
          ·have:=uh HL3 i (.inr (.inr h));omega
          ·have:=(hn2.lt i h).1;omega))
     have HA3:=hide ((((uh HA2).setCell 0 (.int .i64 code)).setCell 1 (.slice na nums.length ncap)).setCell 2 (.string qAa))
     have HO3:=hide (((uh HOb).keeps hkb2 (λh=>h)).keeps hks (λh=>by omega))
     have HKS:=hide (uh HOBB)
     have HK3:=hide ((((uh HKr).then (uh HKb)).then hkb2).trans hks (λi hi hlt=>by have:=uh HOBB;have:=(uh HKr).size;omega))
     have hb3:w.heap.size<=w2.heap.size:=(((uh HKr).then (uh HKb)).then hkb2).size
     have e9:(((w2.setCell ⟨ob+1,0,none⟩ (.int .i64 code)).setCell ⟨ob+1,1,none⟩ (.slice na nums.length ncap)).setCell ⟨ob+1,2,none⟩ (.string ⟨#[]⟩))=(((w2.setCell ⟨ob+1,0,none⟩ (.int .i64 code)).setCell ⟨ob+1,1,none⟩ (.slice na nums.length ncap)).setCell ⟨ob+1,2,none⟩ (.string qAa)):=rfl
     first | rw[e9] | skip
     have hb3:w.heap.size<=(((w2.setCell ⟨ob+1,0,none⟩ (.int .i64 code)).setCell ⟨ob+1,1,none⟩ (.slice na nums.length ncap)).setCell ⟨ob+1,2,none⟩ (.string qAa)).heap.size:=Nat.le_trans hb3 hks.size
     have hsz3:w2.heap.size<=(((w2.setCell ⟨ob+1,0,none⟩ (.int .i64 code)).setCell ⟨ob+1,1,none⟩ (.slice na nums.length ncap)).setCell ⟨ob+1,2,none⟩ (.string qAa)).heap.size:=hks.size
     clear e9 hks hn2 hk2 hk1 hE1 hx1 hf1 hss r0 r1 r2 rf hkb2 HP HA2 hvb hhb
     generalize(((w2.setCell ⟨ob+1,0,none⟩ (.int .i64 code)).setCell ⟨ob+1,1,none⟩ (.slice na nums.length ncap)).setCell ⟨ob+1,2,none⟩ (.string qAa))=w3 at *
     have HR4:=HR3
     have HA4:=HA3
     have HL4:=HL3
     have HK4:=HK3
     have hbW:=hb3
     go_wp2_with (at_builtin;first | (refine wpList_append_lies _ rfl _ _ _ rfl w.heap.size 22 j0 _ 1 24 Tryz.underlying68 hj0 hy0 hy1 hy2 rfl (by omega) tv k (List.replicate k (.slice none 0 0)) rfl ((uh HR4).T.alloc _) ⟨w3.heap.size,0,none⟩ 1 1 [.slice none 0 0] rfl rfl (World.news_of_block (cs:=#[.slice none 0 0]) (t:=22) (fr:=(0,0)) (heap_alloc_new w3 _)) (by simp[Value.oneCell']) (by omega) (by unfold maxLen;omega) (by omega) (by have:=hbW;simp;omega) (w3.heap.size+1) (by simp) ?_;intro g5 c5 w5 hown5 hgrow5 hat5 hl5;have hk5:=((Keeps.refl (λi=>tv.ownBlock=some i) w3).alloc _).then (qEj hgrow5);have HR5:=hide ((uh HR4).saved hk5 (by rw[<-qOv];exact hown5) (λi hi=>by rcases qMu hat5 i hi with h | h;exact .inl h;exact .inr (by omega)));have HA5:=hide ((uh HA4).keeps hk5 (λh=>by have:=(uh HL4 _ (.inr (.inr h)));omega));have HK5:=hide ((uh HK4).trans hk5 (λi hi hlt=>by have:=((uh HR4).T.lt i hi).1;have:=uh HKS;have:=(uh HKr).size;omega));have t0:w5.cell? ⟨ob+1,0,none⟩=some (.int .i64 code):=(uh HA5).cell rfl;have t1:w5.cell? ⟨ob+1,1,none⟩=some (.slice na nums.length ncap):=(uh HA5).cell rfl;have t2:w5.cell? ⟨ob+1,2,none⟩=some (.string qAa):=(uh HA5).cell rfl;have hb5:w.heap.size<=w5.heap.size:=(by have:=hk5.size;omega);clear hown5 hgrow5 hat5) | (refine wpList_append_lies _ rfl _ _ _ rfl w.heap.size 33 i0 _ 3 48 Tryz.underlying27 hi0 hz0 hz1 hz2 rfl (by omega) av k (qDm l) rfl (by have:=(uh HR5).A.row;rw[uh HLK]at this;exact this.alloc _) ⟨w5.heap.size,0,none⟩ 1 1 [.int .i64 code,.slice na nums.length ncap,.string qAa] rfl rfl (World.news_of_block (cs:=#[.int .i64 code,.slice na nums.length ncap,.string qAa]) (t:=33) (fr:=(0,0)) (heap_alloc_new w5 _)) (by simp[Value.oneCell']) (by omega) (by unfold maxLen;omega) (by omega) (by simp;omega) (w5.heap.size+1) (by simp) ?_;intro g6 c6 w6 hown6 hgrow6 hat6 hl6))
     go_roundw
     case rel =>
      have hk6:=((Keeps.refl (λi=>av.ownBlock=some i) w5).alloc (.cells #[.int .i64 code,.slice na nums.length ncap,.string qAa] 33)).then (qEj hgrow6)
      have hR6:=(uh HR5).out (code:=code) hk6 (by rw[uh HLK];exact hown6) (λi hi=>by
         rcases qMu hat6 i hi with h | h
         ·exact .inl h
         ·exact .inr (by omega))
      refine⟨k+1,l++[⟨code,.slice na nums.length ncap,nums,qAa⟩],by omega,by go_num,?_,?_,?_⟩
      ·show RR _ _ _ _ _ _ _ _ _ _
       rw[uh HFN,uh HF1]
       rw[List.append_nil];exact hR6
      ·show _=_
       rw[uh HRN,List.map_append,uh HMr,uh HANS];rfl
      ·exact(uh HK5).trans hk6 (λi hi hlt=>by have:=((uh HR5).A.lt i (.inl hi)).1;have:=uh HKS;have:=(uh HKr).size;omega)
     case measure=>simp[intOf];omega
   ·have b4:(o.kind==4)=false:=by simpa using hkd4
    have b5:(o.kind==5)=false:=by simpa using hkd5
    have HAN:=hide (show qQs (qEm rs0 SS) o=(qEk (qEm rs0 SS) o).2 from zEs _ _ hkd4 hkd5)
    have HF1:=hide (show[o].filter chg=[o] from by simp[chg,hkd4,hkd5])
    go_wp2_with fail
    clear hv0 hh0 hst h1c
    generalize(wr.alloc (.cells o.cells.toArray 40)).alloc (.cells #[.int .i64 0,.slice none 0 0,.string ⟨#[]⟩] 33)=wb at *
    generalize hob:wr.heap.size=ob at *
    have HOBB:=hide hob
    clear hob
    have hobl:ob<wb.heap.size:=(uh HOb).lt
    have habl:ob+1<wb.heap.size:=(uh HAb).lt
    obtain⟨hvb,hhb⟩:=qA4 (uh HOb) 26 rfl
    have HSW:=hide ((qEo (uh HRb).S).keeps ((Keeps.refl (λ_=>False) wb).drew))
    go_region_held3 (λw'=>qAv w' ob 0 26=.agg o.cells.toArray/\qA2 w' ob 0 26=true)
     (first
        | (go_split_ands;rw[(qAp (b:=ob) (o:=0) (n:=26) (zAr w2 (ob+1) _ _ _) (by omega) hw2b).1,(qAp (b:=ob) (o:=0) (n:=26) (zAr w2 (ob+1) _ _ _) (by omega) hw2b).2];exact⟨by assumption,by assumption⟩)
        | (go_split_ands;rw[(qAp (b:=ob) (o:=0) (n:=26) hk2 (by omega) (by have:=hk1.size;simp at this;omega)).1,(qAp (b:=ob) (o:=0) (n:=26) hk2 (by omega) (by have:=hk1.size;simp at this;omega)).2];exact⟨by assumption,by assumption⟩)
        | (go_split_ands;rw[(qAp (b:=ob) (o:=0) (n:=26) hk1 (λh=>h) (by simp;omega)).1,(qAp (b:=ob) (o:=0) (n:=26) hk1 (λh=>h) (by simp;omega)).2];first | exact⟨hvb,hhb⟩ | exact⟨by assumption,by assumption⟩)
        | (rw[qAc,qAb];exact⟨hvb,hhb⟩)
        | (go_split_ands;exact⟨by assumption,by assumption⟩))
     (first
        | (go_at_call 52;refine(qI9 sv SS _ (by exact uh HSW) (by omega)).mono ?_;rintro r w1 ⟨e,vv,ps,rfl,hE1,hx1,hk1,hf1⟩)
        | (go_at_call 55;refine(qZs wb.heap.size k e vv _ _ ps o _ hE1 (by rw[hx1];exact uh HINV) (by omega) (by exact hf1)).mono ?_;rintro r w2 ⟨code,nums,nv,hcn,rfl,hn2,hk2⟩;have HCN:=hide hcn;clear hcn;obtain⟨na,ncap,hnv⟩:=qFk hn2;subst hnv;unfold qBu;have hkb2:Keeps (λ_=>False) wb w2:=(((Keeps.refl (λ_=>False) wb).drew).then hk1).trans hk2 (λi hi hlt=>by omega);have hw2b:ob<w2.heap.size:=(by have:=hkb2.size;omega);have HA2:=hide ((uh HAb).keeps hkb2 (λh=>h));have r0:w2.cell? ⟨ob+1,0,none⟩=some (.int .i64 0):=(uh HA2).cell rfl;have r1:w2.cell? ⟨ob+1,1,none⟩=some (.slice none 0 0):=(uh HA2).cell rfl;have r2:w2.cell? ⟨ob+1,2,none⟩=some (.string qAa):=(uh HA2).cell rfl;have rf:=(uh HA2).frozen))
    all_goals
     have hss:(⟨(qEm rs0 SS).clock,(qEm rs0 SS).ticks,ps.map (·.2)⟩:RWS)=qEm rs0 SS:=by rw[hx1]
     have HANS:=hide (show qQs (qEm rs0 SS) o=(code,nums) by rw[uh HAN,<-hss];exact uh HCN)
     have hw1:wb.heap.size<=w1.heap.size:=hk1.size
     have HP:=hide ((uh HRb).pend (by have:=(uh HKr).size;have:=uh HOBB;omega) hkb2 (qEy hn2 hw1))
     have hks:=zAr w2 (ob+1) (.int .i64 code) (.slice na nums.length ncap) (.string qAa)
     have HL3:=hide (show ∀i,qH0 av l i\/sv.ownBlock=some i\/tv.ownBlock=some i->i<ob from λi hi=>by rw[<-uh HOBB];exact((uh HRR).lt i hi).2)
     have HR3:=hide ((uh HP).keeps hks (λi hi hh=>by
          rcases hi with h | h | h | h
          ·have:=uh HL3 i (.inl h);omega
          ·have:=uh HL3 i (.inr (.inl h));omega
          ·have:=uh HL3 i (.inr (.inr h));omega
          ·have:=(hn2.lt i h).1;omega))
     have HA3:=hide ((((uh HA2).setCell 0 (.int .i64 code)).setCell 1 (.slice na nums.length ncap)).setCell 2 (.string qAa))
     have HO3:=hide (((uh HOb).keeps hkb2 (λh=>h)).keeps hks (λh=>by omega))
     have HKS:=hide (uh HOBB)
     have HK3:=hide ((((uh HKr).then (uh HKb)).then hkb2).trans hks (λi hi hlt=>by have:=uh HOBB;have:=(uh HKr).size;omega))
     have hb3:w.heap.size<=w2.heap.size:=(((uh HKr).then (uh HKb)).then hkb2).size
     have e9:(((w2.setCell ⟨ob+1,0,none⟩ (.int .i64 code)).setCell ⟨ob+1,1,none⟩ (.slice na nums.length ncap)).setCell ⟨ob+1,2,none⟩ (.string ⟨#[]⟩))=(((w2.setCell ⟨ob+1,0,none⟩ (.int .i64 code)).setCell ⟨ob+1,1,none⟩ (.slice na nums.length ncap)).setCell ⟨ob+1,2,none⟩ (.string qAa)):=rfl
     first | rw[e9] | skip
     have hb3:w.heap.size<=(((w2.setCell ⟨ob+1,0,none⟩ (.int .i64 code)).setCell ⟨ob+1,1,none⟩ (.slice na nums.length ncap)).setCell ⟨ob+1,2,none⟩ (.string qAa)).heap.size:=Nat.le_trans hb3 hks.size
     have hsz3:w2.heap.size<=(((w2.setCell ⟨ob+1,0,none⟩ (.int .i64 code)).setCell ⟨ob+1,1,none⟩ (.slice na nums.length ncap)).setCell ⟨ob+1,2,none⟩ (.string qAa)).heap.size:=hks.size
     clear e9 hks hn2 hk2 hk1 hE1 hx1 hf1 hss r0 r1 r2 rf hkb2 HP HA2 hvb hhb
     generalize(((w2.setCell ⟨ob+1,0,none⟩ (.int .i64 code)).setCell ⟨ob+1,1,none⟩ (.slice na nums.length ncap)).setCell ⟨ob+1,2,none⟩ (.string qAa))=w3 at *
     obtain⟨hv3,hh3⟩:=qA4 (uh HO3) 26 rfl
     go_wp2_with (at_builtin;first | (refine qBg rfl _ _ rfl w.heap.size sv SS rfl (by exact qAf (uh HR3).S ((Keeps.refl (λ_=>False) w3).alloc _) (λ_ _ h=>h)) _ [o] rfl (by exact qDf (Blk.new w3 o.cells 40)) (by simp;omega) (by have:=hb3;simp;omega) ?_;intro ad4 c4 w4 hown4 hk4' hat4;have hk4:=((Keeps.refl (λi=>sv.ownBlock=some i) w3).alloc _).then hk4';have HR4:=hide ((uh HR3).steps hk4 hown4 (λi hi=>by rcases hat4 i hi with h | h;exact .inl h;exact .inr (by simp at h;omega)));have HA4:=hide ((uh HA3).keeps hk4 (λh=>by have:=(uh HL3 _ (.inr (.inl h)));omega));have HL4:=hide (show ∀i,qH0 av l i\/(Value.slice none 0 0).ownBlock=some i\/tv.ownBlock=some i->i<ob from λi hi=>by rcases hi with h | h | h;exact uh HL3 i (.inl h);cases h;exact uh HL3 i (.inr (.inr h)));have HK4:=hide ((uh HK3).trans hk4 (λi hi hlt=>by have:=((uh HR3).S.lt i hi).1;have:=uh HKS;have:=(uh HKr).size;omega));have hbW:w.heap.size<=w4.heap.size:=(by have:=hk4.size;omega);clear hown4 hk4' hat4) | (refine wpList_append_lies _ rfl _ _ _ rfl w.heap.size 22 j0 _ 1 24 Tryz.underlying68 hj0 hy0 hy1 hy2 rfl (by omega) tv k (List.replicate k (.slice none 0 0)) rfl ((uh HR4).T.alloc _) ⟨w4.heap.size,0,none⟩ 1 1 [.slice none 0 0] rfl rfl (World.news_of_block (cs:=#[.slice none 0 0]) (t:=22) (fr:=(0,0)) (heap_alloc_new w4 _)) (by simp[Value.oneCell']) (by omega) (by unfold maxLen;omega) (by omega) (by have:=hbW;simp;omega) (w4.heap.size+1) (by simp) ?_;intro g5 c5 w5 hown5 hgrow5 hat5 hl5;have hk5:=((Keeps.refl (λi=>tv.ownBlock=some i) w4).alloc _).then (qEj hgrow5);have HR5:=hide ((uh HR4).saved hk5 (by rw[<-qOv];exact hown5) (λi hi=>by rcases qMu hat5 i hi with h | h;exact .inl h;exact .inr (by omega)));have HA5:=hide ((uh HA4).keeps hk5 (λh=>by have:=(uh HL4 _ (.inr (.inr h)));omega));have HK5:=hide ((uh HK4).trans hk5 (λi hi hlt=>by have:=((uh HR4).T.lt i hi).1;have:=uh HKS;have:=(uh HKr).size;omega));have t0:w5.cell? ⟨ob+1,0,none⟩=some (.int .i64 code):=(uh HA5).cell rfl;have t1:w5.cell? ⟨ob+1,1,none⟩=some (.slice na nums.length ncap):=(uh HA5).cell rfl;have t2:w5.cell? ⟨ob+1,2,none⟩=some (.string qAa):=(uh HA5).cell rfl;have hb5:w.heap.size<=w5.heap.size:=(by have:=hk5.size;omega);clear hown5 hgrow5 hat5) | (refine wpList_append_lies _ rfl _ _ _ rfl w.heap.size 33 i0 _ 3 48 Tryz.underlying27 hi0 hz0 hz1 hz2 rfl (by omega) av k (qDm l) rfl (by have:=(uh HR5).A.row;rw[uh HLK]at this;exact this.alloc _) ⟨w5.heap.size,0,none⟩ 1 1 [.int .i64 code,.slice na nums.length ncap,.string qAa] rfl rfl (World.news_of_block (cs:=#[.int .i64 code,.slice na nums.length ncap,.string qAa]) (t:=33) (fr:=(0,0)) (heap_alloc_new w5 _)) (by simp[Value.oneCell']) (by omega) (by unfold maxLen;omega) (by omega) (by simp;omega) (w5.heap.size+1) (by simp) ?_;intro g6 c6 w6 hown6 hgrow6 hat6 hl6))
     go_roundw
     case rel =>
      have hk6:=((Keeps.refl (λi=>av.ownBlock=some i) w5).alloc (.cells #[.int .i64 code,.slice na nums.length ncap,.string qAa] 33)).then (qEj hgrow6)
      have hR6:=(uh HR5).out (code:=code) hk6 (by rw[uh HLK];exact hown6) (λi hi=>by
         rcases qMu hat6 i hi with h | h
         ·exact .inl h
         ·exact .inr (by omega))
      refine⟨k+1,l++[⟨code,.slice na nums.length ncap,nums,qAa⟩],by omega,by go_num,?_,?_,?_⟩
      ·show RR _ _ _ _ _ _ _ _ _ _
       rw[uh HFN,uh HF1]
       exact hR6
      ·show _=_
       rw[uh HRN,List.map_append,uh HMr,uh HANS];rfl
      ·exact(uh HK5).trans hk6 (λi hi hlt=>by have:=((uh HR5).A.lt i (.inl hi)).1;have:=uh HKS;have:=(uh HKr).size;omega)
     case measure=>simp[intOf];omega
  ·have hkk:k=n:=by omega
   subst hkk
   go_wp2
   go_ret
   refine⟨av,l,rfl,(uh HRR).A,?_,(uh HRR).nb,uh HKr⟩
   have:=uh HMr
   rwa [List.take_of_length_le (by rw[uh HN];omega)]at this
end
section
open Go.RowKit
theorem qVf(n:Int)(e:Nat)(v:Value)(clock:Int)(ps:List (SB×Ser))(o:OpM)(w:World)(h:ERep w e v clock ps)(hi:EInv n clock (ps.map (·.2)))(hn:n<=651562446200)(hT:Tab w)(hT0:¬EFoot e v ps 2)(h67:o.kind≠6/\o.kind≠7):
  Calls Tryz.prog 35 #[.pointer (some ⟨e,0,none⟩),o.val] w λr w' =>
   qLc w e v ps (qCb ⟨clock,ps.map (·.2)⟩ o).1.clock (qCb ⟨clock,ps.map (·.2)⟩ o).1.xs (qCb ⟨clock,ps.map (·.2)⟩ o).2.1 (qCb ⟨clock,ps.map (·.2)⟩ o).2.2 (qIv ⟨clock,ps.map (·.2)⟩ o) r w':=by
 have hby:qIv ⟨clock,ps.map (·.2)⟩ o=qAa:=by unfold qIv;rw[if_neg h67.1]
 rw[hby]
 have hfind:=qSt ps o.id
 by_cases h1:o.kind=1
 ·have hM:qCb ⟨clock,ps.map (·.2)⟩ o=qDu ⟨clock,ps.map (·.2)⟩ o:=by unfold qCb;rw[if_pos h1]
  rw[hM]
  refine(zD6 e v clock ps o w h h1 _ _ _ _ (λw0 h0=>?_)).mono (λ_ _ h=>h.b)
  cases hid:inB o.id 0 99
  ·have:qDu ⟨clock,ps.map (·.2)⟩ o=(⟨clock,ps.map (·.2)⟩,2,[]):=by unfold qDu;rw[if_neg (by rw[hid];simp)]
   rw[this]
   exact qYs n e v clock ps o w0 h0 hi hid
  ·cases hf:qEp ps o.id with
   | some p =>
    have:qDu ⟨clock,ps.map (·.2)⟩ o=(⟨clock,ps.map (·.2)⟩,2,[]):=by unfold qDu;rw[if_neg (by simp only;rw[hfind,hf];simp)]
    rw[this]
    exact qPi n e v clock ps o w0 h0 hi hid p hf
   | none =>
    have hc:(inB o.id 0 99=true/\(qH9 (⟨clock,ps.map (·.2)⟩:WS).xs o.id).isNone=true):=⟨hid,by simp only;rw[hfind,hf];rfl⟩
    cases hv:qA0 o.cfg
    ·have:qDu ⟨clock,ps.map (·.2)⟩ o=(⟨clock,ps.map (·.2)⟩,3,[]):=by unfold qDu;rw[if_pos hc,if_neg (by rw[hv];simp)]
     rw[this]
     exact qOs n e v clock ps o w0 h0 hi hid hf hv
    ·by_cases h6:ps.length<6
     ·have:qDu ⟨clock,ps.map (·.2)⟩ o=(⟨clock,ps.map (·.2)++[qCx o.id o.cfg o.cfg.kind.toNat]⟩,0,[]):=by unfold qDu;rw[if_pos hc,if_pos hv,if_pos (by simpa using h6)]
      rw[this]
      exact qU1 n e v clock ps o w0 h0 hi hid hf hv h6
     ·have:qDu ⟨clock,ps.map (·.2)⟩ o=(⟨clock,ps.map (·.2)⟩,4,[]):=by unfold qDu;rw[if_pos hc,if_pos hv,if_neg (by simpa using h6)]
      rw[this]
      have h6':ps.length=6:=by have:=hi.six;rw[List.length_map]at this;omega
      exact qRp n e v clock ps o w0 h0 hi hid hf hv h6'
 by_cases h2:o.kind=2
 ·have hM:qCb ⟨clock,ps.map (·.2)⟩ o=qPa ⟨clock,ps.map (·.2)⟩ o:=by unfold qCb;rw[if_neg h1,if_pos h2]
  rw[hM]
  refine(zEh e v clock ps o w h h2 _ _ _ _ (λw0 h0=>?_)).mono (λ_ _ h=>h.b)
  cases hf:qEp ps o.id with
  | none =>
   have:qPa ⟨clock,ps.map (·.2)⟩ o=(⟨clock,ps.map (·.2)⟩,2,[]):=by unfold qPa;simp only;rw[hfind,hf];rfl
   rw[this]
   exact zAq n e v clock ps o w0 h0 hi hf
  | some p =>
   by_cases hr:qKb p.2 clock o.item=0
   ·have:qPa ⟨clock,ps.map (·.2)⟩ o=(⟨clock,qIm (ps.map (·.2)) o.id (qTg p.2 o.item)⟩,0,[p.2.acc+1]):=by unfold qPa;simp only;rw[hfind,hf];simp only[Option.map_some];rw[if_pos hr]
    rw[this]
    exact zC7 n e v clock ps o w0 h0 hi p hf hr (by omega)
   ·have:qPa ⟨clock,ps.map (·.2)⟩ o=(⟨clock,qIm (ps.map (·.2)) o.id (qS9 p.2 (qKb p.2 clock o.item).toNat)⟩,qKb p.2 clock o.item,[]):=by unfold qPa;simp only;rw[hfind,hf];simp only[Option.map_some];rw[if_neg hr]
    rw[this]
    have hrr:=qF6 p.2 clock o.item
    obtain⟨cd,hcd⟩:=Int.eq_ofNat_of_zero_le hrr.1
    rw[hcd,Int.toNat_natCast]
    exact zE9 n e v clock ps o w0 h0 hi p cd hf hcd (by omega) (by omega)
 by_cases h3:o.kind=3
 ·have hM:qCb ⟨clock,ps.map (·.2)⟩ o=qJ9 ⟨clock,ps.map (·.2)⟩ o:=by unfold qCb;rw[if_neg h1,if_neg h2,if_pos h3]
  rw[hM]
  refine(zE0 e v clock ps o w h h3 _ _ _ _ (λw0 h0 hk0=>?_)).mono (λ_ _ h=>h.b)
  cases ha:inB o.a 0 4611686018427387904
  ·have:qJ9 ⟨clock,ps.map (·.2)⟩ o=(⟨clock,ps.map (·.2)⟩,5,[]):=by unfold qJ9;rw[if_neg (by rw[ha];simp)]
   rw[this]
   exact qWd n e v clock ps o w0 h0 hi ha
  ·cases hb:inB o.b 0 100
   ·have:qJ9 ⟨clock,ps.map (·.2)⟩ o=(⟨clock,ps.map (·.2)⟩,12,[]):=by unfold qJ9;rw[if_pos ha,if_neg (by rw[hb];simp)]
    rw[this]
    exact qSp n e v clock ps o w0 h0 hi ha hb
   ·have:qJ9 ⟨clock,ps.map (·.2)⟩ o=(⟨qDw clock o.a,(qCk (qDw clock o.a) o.b ((ps.map (·.2)).map (qBj (qDw clock o.a)))).1⟩,0,[(qCk (qDw clock o.a) o.b ((ps.map (·.2)).map (qBj (qDw clock o.a)))).2]):=by unfold qJ9;rw[if_pos ha,if_pos hb]
    rw[this]
    exact qZe n e v clock ps o w0 h0 hi ha hb hn (hT.keeps hk0 (λh=>h)) hT0
 by_cases h4:o.kind=4
 ·have hM:qCb ⟨clock,ps.map (·.2)⟩ o=qGh ⟨clock,ps.map (·.2)⟩ o:=by unfold qCb;rw[if_neg h1,if_neg h2,if_neg h3,if_pos h4]
  rw[hM]
  refine(zEk e v clock ps o w h h4 _ _ _ _ (λw0 h0=>?_)).mono (λ_ _ h=>h.b)
  cases hf:qEp ps o.id with
  | none =>
   have:qGh ⟨clock,ps.map (·.2)⟩ o=(⟨clock,ps.map (·.2)⟩,2,[]):=by unfold qGh;simp only;rw[hfind,hf];rfl
   rw[this]
   exact qU6 n e v clock ps o w0 h0 hi hf
  | some p =>
   have:qGh ⟨clock,ps.map (·.2)⟩ o=(⟨clock,ps.map (·.2)⟩,qG4 p.2.k p.2.c p.2.nt o.a (clock-p.2.c.lag)):=by unfold qGh;simp only;rw[hfind,hf];rfl
   rw[this]
   exact qUm n e v clock ps o w0 h0 hi hn p hf
 by_cases h5:o.kind=5
 ·have hM:qCb ⟨clock,ps.map (·.2)⟩ o=qH2 ⟨clock,ps.map (·.2)⟩ o:=by unfold qCb;rw[if_neg h1,if_neg h2,if_neg h3,if_neg h4,if_pos h5]
  rw[hM]
  refine(zD8 e v clock ps o w h h5 _ _ _ _ (λw0 h0=>?_)).mono (λ_ _ h=>h.b)
  cases hf:qEp ps o.id with
  | none =>
   have:qH2 ⟨clock,ps.map (·.2)⟩ o=(⟨clock,ps.map (·.2)⟩,2,[]):=by unfold qH2;simp only;rw[hfind,hf];rfl
   rw[this]
   exact zAw n e v clock ps o w0 h0 hi hf
  | some p =>
   have:qH2 ⟨clock,ps.map (·.2)⟩ o=(⟨clock,ps.map (·.2)⟩,0,qCu p.2):=by unfold qH2;simp only;rw[hfind,hf];rfl
   rw[this]
   exact qYr n e v clock ps o w0 h0 hi p hf
 have hM:qCb ⟨clock,ps.map (·.2)⟩ o=(⟨clock,ps.map (·.2)⟩,1,[]):=by unfold qCb;rw[if_neg h1,if_neg h2,if_neg h3,if_neg h4,if_neg h5,if_neg h67.1,if_neg h67.2]
 rw[hM]
 exact(zDa e v clock ps o w h (by omega)).mono (λ_ _ h=>h.b)
theorem qWm(v:Value)(ops:List OpM)(w:World)(h:ScriptW w v ops)(hlen:ops.length<=651562446090)(hT:Tab w)(hok:∀o,o∈ops->o.kind≠6/\o.kind≠7):
  Calls Tryz.prog 19 #[v] w λr w'=>∃v l,r=.returned v/\ARep w' w.heap.size v l/\l.map (λx=>(x.code,x.nums))=qN6 ws0 ops/\l.map (·.bs)=qVu ws0 ops/\Keeps (λ_=>False) w w':=by
 rcases h with ⟨⟨a,c,rfl⟩,rfl⟩ | ⟨sb,so,cap,rfl,h2,h3,h4⟩
 ·exact zB5 a c w
 ·exact zB6 sb so cap ops w h3 h4 hlen hT (λ_ o ho=>qIh (hok o (List.mem_of_getElem? ho)).2) (λi e v clock ps o w ho _ h hi hn hT hT0=>qVf i e v clock ps o w h hi hn hT hT0 (hok o (List.mem_of_getElem? ho)))
end
section
def HB(K:Int): List Bk->Prop
 | []=>True
 | b::l=>K*(b.sz-1)<=qD3 l/\HB K l
theorem qX3(m:Int)(f:Nat): ∀x:Ser,x.l.length<f->HeapL x.l->HeapL (qFh f x m).l/\(qFh f x m).c=x.c/\(qFh f x m).k=x.k/\(qFh f x m).id=x.id:=by
 induction f with
 | zero=>intro x h;omega
 | succ f ih =>
  intro x hf hh
  unfold qFh
  split
  ·exact⟨hh,rfl,rfl,rfl⟩
  ·rename_i he
   have hne:x.l≠[]:=λh=>he (by rw[h];rfl)
   split
   ·exact⟨hh,rfl,rfl,rfl⟩
   ·obtain⟨th,tp⟩:=take_heap x.l hh hne
    have hlen:(qDa x m).l.length=x.l.length-1:=takeL_length _
    have hpos:0<x.l.length:=List.length_pos_iff.2 hne
    obtain⟨h1,h2,h3,h4⟩:=ih (qDa x m) (by omega) th
    exact⟨h1,h2,h3,h4⟩
theorem qSx{c:Int}(xs:List Ser): ∀(b:Int) (z:Ser),z∈(qCk c b xs).1->∃y,y∈xs/\∃b',z=qTe c b' y:=by
 induction xs with
 | nil=>intro b z hz;simp[qCk]at hz
 | cons x xs ih =>
  intro b z hz
  simp only[qCk]at hz
  rcases List.mem_cons.1 hz with hz | hz
  ·exact⟨x,by simp,b,hz⟩
  ·obtain⟨y,hy,h⟩:=ih _ z hz
   exact⟨y,by simp[hy],h⟩
theorem qVw(c:Int)(xs:List Ser): ∀b,(qCk c b xs).1.map (·.id)=xs.map (·.id):=by
 induction xs with
 | nil=>intro b;rfl
 | cons x xs ih=>intro b;simp only[qCk,List.map_cons,ih];rfl
theorem qJd{xs:List Ser}{id:Int}{x:Ser}(h:qH9 xs id=some x): ∃l1 l2,xs=l1++x::l2/\x.id=id/\∀y:Ser,qIm xs id y=l1++y::l2:=by
 obtain⟨hp,l1,l2,he,hn⟩:=List.find?_eq_some_iff_append.1 h
 refine⟨l1,l2,he,by simpa using hp,λy=>?_⟩
 subst he
 clear h
 induction l1 with
 | nil=>simp[qIm];intro h0;exact absurd (by simpa using hp) h0
 | cons a l1 ih =>
  have ha:=hn a (by simp)
  simp only[List.cons_append,qIm]
  rw[if_neg (by simpa using ha),ih (λz hz=>hn z (by simp[hz]))]
theorem qYd{x:Ser}{clock:Int}{y:It}(h:qKb x clock y=0): clock-x.c.lag<y.t:=by
 unfold qKb at h
 split at h
 ·split at h
  ·omega
  ·omega
 ·omega
structure OkI (c:Cfg) (k:Nat) (y:It):Prop where
 t0:0<=y.t
 t1:y.t<=4611686018427387904
 fit:qFr c k ⟨y.t,y.k,y.d,0⟩=0
structure NLaw (k:Nat) (P:Cfg->Int->Note->List It->Prop):Prop where
 zero:∀c m,qA0 c=true->c.kind=k->P c m qSa []
 later:∀c m m' nt R,qA0 c=true->c.kind=k->m<=m'->P c m nt R->P c m' nt R
 rel:∀c m nt R y,qA0 c=true->c.kind=k->P c m nt R->(∀r∈R,OkI c k r/\leP r y/\r.n≠y.n)->OkI c k y->y.t<=m->P c m (qRb k c nt y m) (R++[y])
 swp:∀c m nt R b,qA0 c=true->c.kind=k->P c m nt R->P c m (qLz k c nt m b).1 R
structure GS (P:Cfg->Int->Note->List It->Prop) (clock:Int) (x:Ser) (A:List It):Prop where
 heap:HeapL x.l
 wait:∀y∈x.l,clock-x.c.lag<y.t
 okA:∀y∈A,OkI x.c x.k y
 num:∀(i:Nat) (y:It),A[i]?=some y->y.n=(i:Int)+1
 acc:x.acc=(A.length:Int)
 whole:∃R,P x.c (clock-x.c.lag) x.nt R/\R.Pairwise leP/\(∀r∈R,r.t<=clock-x.c.lag)/\(R++x.l).Perm A
theorem qMz{A:List It}(h:∀(i:Nat) (y:It),A[i]?=some y->y.n=(i:Int)+1): (A.map (·.n)).Nodup:=by
 refine List.pairwise_iff_getElem.2 (λi j hi hj hij=>?_)
 rw[List.length_map]at hi hj
 rw[List.getElem_map,List.getElem_map]
 have h1:=h i _ (List.getElem?_eq_getElem hi)
 have h2:=h j _ (List.getElem?_eq_getElem hj)
 omega
theorem HeapL.first_leP{l:List It}(h:HeapL l){y:It}(hy:y∈l): leP (itAt l 0) y:=by
 obtain⟨j,hj,rfl⟩:=List.mem_iff_getElem.1 hy
 have:=h.first j hj
 rw[show itAt l j=l[j] by simp[itAt,List.getD_eq_getElem?_getD,List.getElem?_eq_getElem hj]]at this
 exact this
theorem zAd(f:Nat): ∀(x:Ser) (m:Int),(qFh f x m).acc=x.acc:=by
 induction f with
 | zero=>intro x m;rfl
 | succ f ih =>
  intro x m
  unfold qFh
  split
  ·rfl
  ·split
   ·rfl
   ·exact ih _ _
theorem zCv{k:Nat}{P:Cfg->Int->Note->List It->Prop}(hP:NLaw k P)(m:Int)(f:Nat): ∀(x:Ser) (R:List It),x.l.length<f->HeapL x.l->qA0 x.c=true->x.c.kind=k->x.k=k ->
  (∀y∈R++x.l,OkI x.c k y)->((R++x.l).map (·.n)).Nodup->P x.c m x.nt R->R.Pairwise leP->(∀r∈R,r.t<=m)->(∀r∈R,∀y∈x.l,leP r y) ->
  ∃R',P x.c m (qFh f x m).nt R'/\R'.Pairwise leP/\(∀r∈R',r.t<=m)/\(R'++(qFh f x m).l).Perm (R++x.l)/\(∀y∈(qFh f x m).l,m<y.t):=by
 induction f with
 | zero=>intro x R h;omega
 | succ f ih =>
  intro x R hf hh hv hck hk hok hnd hp hs hr hx
  unfold qFh
  split
  ·rename_i he
   have hnil:x.l=[]:=List.isEmpty_iff.1 he
   exact⟨R,hp,hs,hr,List.Perm.refl _,by rw[hnil];simp⟩
  ·rename_i he
   have hne:x.l≠[]:=λh=>he (by rw[h];rfl)
   split
   ·rename_i hm
    refine⟨R,hp,hs,hr,List.Perm.refl _,λy hy=>?_⟩
    have:=hh.first_mem hy
    omega
   ·rename_i hm
    obtain⟨th,tp⟩:=take_heap x.l hh hne
    have hlen:(qDa x m).l.length=x.l.length-1:=takeL_length _
    have hpos:0<x.l.length:=List.length_pos_iff.2 hne
    have hperm:((R++[itAt x.l 0])++takeL x.l).Perm (R++x.l):=by
     rw[List.append_assoc];exact List.Perm.append_left R tp
    have hy0:itAt x.l 0∈x.l:=tp.mem_iff.1 (by simp)
    have hnd2:(((R++[itAt x.l 0])++takeL x.l).map (·.n)).Nodup:=(hperm.map (·.n)).nodup_iff.2 hnd
    have hfirst:∀y∈takeL x.l,leP (itAt x.l 0) y:=λy hy=>hh.first_leP (tp.mem_iff.1 (by simp[hy]))
    have hnew:=hP.rel x.c m x.nt R (itAt x.l 0) hv hck hp (λr hrm=>⟨hok r (by simp[hrm]),hx r hrm _ hy0,λe=>by
         have h1:(((R++[itAt x.l 0])).map (·.n)).Nodup:=by
          rw[List.map_append]at hnd2
          exact(List.nodup_append.1 hnd2).1
         rw[List.map_append]at h1
         exact(List.nodup_append.1 h1).2.2 r.n (List.mem_map_of_mem hrm) (itAt x.l 0).n (by simp) e⟩) (hok _ (by simp[hy0])) (by omega)
    obtain⟨R',p1,p2,p3,p4,p5⟩:=ih (qDa x m) (R++[itAt x.l 0]) (by omega) th hv hck hk
     (λy hy=>hok y (hperm.mem_iff.1 hy)) hnd2 (by
        show P x.c m (qRb x.k x.c x.nt (itAt x.l 0) m) _
        rw[hk];exact hnew)
     (List.pairwise_append.2 ⟨hs,by simp,λa ha b hb=>by rw[List.mem_singleton]at hb;rw[hb];exact hx a ha _ hy0⟩)
     (λr hrm=>by
        rcases List.mem_append.1 hrm with h | h
        ·exact hr r h
        ·rw[List.mem_singleton]at h;rw[h];omega)
     (λr hrm y hy=>by
        rcases List.mem_append.1 hrm with h | h
        ·exact hx r h y (tp.mem_iff.1 (by simp[show y∈takeL x.l from hy]))
        ·rw[List.mem_singleton]at h;rw[h];exact hfirst y hy)
    exact⟨R',p1,p2,p3,p4.trans hperm,p5⟩
theorem zBz{k:Nat}{P:Cfg->Int->Note->List It->Prop}(hP:NLaw k P){clock nc:Int}{x:Ser}{A:List It}(h:GS P clock x A)(hk:x.k=k)(hck:x.c.kind=k)(hv:qA0 x.c=true)(hcn:clock<=nc): GS P nc (qBj nc x) A:=by
 obtain⟨R,hw,hs,hr,hp⟩:=h.whole
 have hkk:=qX3 (nc-x.c.lag) (x.l.length+1) x (by omega) h.heap
 have hacc:(qFh (x.l.length+1) x (nc-x.c.lag)).acc=x.acc:=zAd _ _ _
 obtain⟨R',p1,p2,p3,p4,p5⟩:=zCv hP (nc-x.c.lag) (x.l.length+1) x R (by omega) h.heap hv hck hk
  (λy hy=>by rw[<-hk];exact h.okA y (hp.mem_iff.1 hy)) ((hp.map (·.n)).nodup_iff.2 (qMz h.num)) (hP.later _ _ _ _ _ hv hck (by omega) hw) hs (λr hrm=>by have:=hr r hrm;omega)
  (λr hrm y hy=>.inl (by have h1:=hr r hrm;have h2:=h.wait y hy;omega))
 unfold qBj
 refine⟨hkk.1,λy hy=>?_,λy hy=>?_,h.num,?_,R',?_,p2,λr hrm=>?_,p4.trans hp⟩
 ·rw[hkk.2.1];exact p5 y hy
 ·rw[hkk.2.1,hkk.2.2.1];exact h.okA y hy
 ·rw[hacc];exact h.acc
 ·rw[hkk.2.1];exact p1
 ·rw[hkk.2.1];exact p3 r hrm
theorem qZw{k:Nat}{P:Cfg->Int->Note->List It->Prop}(hP:NLaw k P){nc b:Int}{x:Ser}{A:List It}(h:GS P nc x A)(hk:x.k=k)(hck:x.c.kind=k)(hv:qA0 x.c=true): GS P nc (qTe nc b x) A:=by
 obtain⟨R,hw,hs,hr,hp⟩:=h.whole
 refine⟨h.heap,h.wait,h.okA,h.num,h.acc,R,?_,hs,hr,hp⟩
 show P x.c (nc-x.c.lag) (qLz x.k x.c x.nt (nc-x.c.lag) b).1 R
 rw[hk];exact hP.swp _ _ _ _ _ hv hck hw
theorem zEa{P:Cfg->Int->Note->List It->Prop}{clock:Int}{x:Ser}{A:List It}(h:GS P clock x A)(y:It)(hy:clock-x.c.lag<y.t)(hok:OkI x.c x.k (numbered y (x.acc+1))): GS P clock (qTg x y) (A++[numbered y (x.acc+1)]):=by
 obtain⟨R,hw,hs,hr,hp⟩:=h.whole
 obtain⟨h1,h2⟩:=put_heap x.l (numbered y (x.acc+1)) h.heap
 refine⟨h1,λz hz=>?_,λz hz=>?_,λi z hz=>?_,?_,R,hw,hs,hr,?_⟩
 ·rcases List.mem_cons.1 (h2.mem_iff.1 hz) with e | e
  ·rw[e];exact hy
  ·exact h.wait z e
 ·rcases List.mem_append.1 hz with e | e
  ·exact h.okA z e
  ·rw[List.mem_singleton]at e;rw[e];exact hok
 ·by_cases hi:i<A.length
  ·rw[List.getElem?_append_left hi]at hz;exact h.num i z hz
  ·rw[List.getElem?_append_right (by omega)]at hz
   have hi2:i-A.length=0:=by
    have:=(List.getElem?_eq_some_iff.1 hz).1
    simp at this;omega
   rw[hi2]at hz
   simp at hz
   rw[<-hz]
   show x.acc+1=_
   rw[h.acc];omega
 ·show x.acc+1=_
  rw[h.acc,List.length_append];simp
 ·refine(List.Perm.append_left R h2).trans (List.perm_middle.trans ?_)
  exact(List.Perm.cons _ hp).trans (List.perm_append_singleton _ _).symm
theorem zD9{k:Nat}{P:Cfg->Int->Note->List It->Prop}(hP:NLaw k P)(clock id:Int)(c:Cfg)(hv:qA0 c=true)(hck:c.kind=k)(j:Nat): GS P clock (qCx id c j) [] :=
 ⟨λi _ hi=>by simp[qCx]at hi,λt ht=>by simp[qCx]at ht,λy hy=>by simp at hy,λi y hy=>by simp at hy,rfl,[],hP.zero _ _ hv hck,List.Pairwise.nil,λr hr=>by simp at hr,List.Perm.refl _⟩
def qPr(s:WS)(o:OpM)(id:Int): List It:=if o.kind=2/\o.id=id/\(qCb s o).2.1=0 then[numbered o.item ((qCb s o).2.2.headD 0)] else[]
structure GW (k:Nat) (P:Cfg->Int->Note->List It->Prop) (s:WS) (A:Int->List It):Prop where
 ids:(s.xs.map (·.id)).Nodup
 none:∀id,id ∉ s.xs.map (·.id)->A id=[]
 cnt:∀x,x∈s.xs->x.k=k->GS P s.clock x (A x.id)
theorem qDx{s:WS}{o:OpM}(h:o.kind≠2\/(qCb s o).2.1≠0)(id:Int): qPr s o id=[]:=by
 unfold qPr
 rw[if_neg]
 rintro ⟨h1,_,h3⟩
 rcases h with h | h
 ·exact h h1
 ·exact h h3
theorem zBs{k:Nat}{P:Cfg->Int->Note->List It->Prop}{s:WS}{A B:Int->List It}(h:GW k P s A){id:Int}{x y:Ser}(hf:qH9 s.xs id=some x)(hid:y.id=x.id)(hb:∀i,i≠id->B i=A i)(hk:y.k=x.k)(hy:x.k=k->GS P s.clock x (A x.id)->GS P s.clock y (B id)): GW k P ⟨s.clock,qIm s.xs id y⟩ B:=by
 obtain⟨l1,l2,he,hx,hu⟩:=qJd hf
 have hm:(qIm s.xs id y).map (·.id)=s.xs.map (·.id):=by
  rw[hu,he];simp[hid]
 have hxm:x∈s.xs:=by rw[he];simp
 refine⟨by show((qIm s.xs id y).map _).Nodup;rw[hm];exact h.ids,λi hi=>?_,λz hz hzk=>?_⟩
 ·have hi':i ∉ s.xs.map (·.id):=by rw[<-hm];exact hi
  have hne:i≠id:=λh0=>hi' (by rw[h0,<-hx];exact List.mem_map_of_mem hxm)
  rw[hb i hne];exact h.none i hi'
 ·have hz':z∈l1++y::l2:=by rw[<-hu];exact hz
  have hnd:=h.ids
  rw[he,List.map_append,List.map_cons]at hnd
  obtain⟨_,n2,n3⟩:=List.nodup_append.1 hnd
  have n4:=(List.nodup_cons.1 n2).1
  rcases List.mem_append.1 hz' with hz1 | hz1
  ·have hne:z.id≠id:=λh0=>n3 z.id (List.mem_map_of_mem hz1) x.id (by simp) (by rw[h0,hx])
   show GS P s.clock z (B z.id)
   rw[hb _ hne];exact h.cnt z (by rw[he];simp[hz1]) hzk
  ·rcases List.mem_cons.1 hz1 with hz1 | hz1
   ·subst hz1
    show GS P s.clock z (B z.id)
    rw[hid,hx]
    exact hy (by rw[<-hk];exact hzk) (h.cnt x hxm (by rw[<-hk];exact hzk))
   ·have hne:z.id≠id:=λh0=>n4 (by rw[hx,<-h0];exact List.mem_map_of_mem hz1)
    show GS P s.clock z (B z.id)
    rw[hb _ hne];exact h.cnt z (by rw[he];simp[hz1]) hzk
theorem qRu{k:Nat}{P:Cfg->Int->Note->List It->Prop}(hP:NLaw k P){n:Int}{s:WS}{A:Int->List It}(hi:EInv n s.clock s.xs)(h:GW k P s A)(o:OpM)(h7:o.kind≠7): GW k P (qCb s o).1 (λid=>A id++qPr s o id):=by
 by_cases h1:o.kind=1
 ·have ha:=qDx (s:=s) (o:=o) (.inl (by omega))
  simp only[ha,List.append_nil]
  unfold qCb
  rw[if_pos h1]
  unfold qDu
  split
  ·rename_i hc
   split
   ·rename_i hv
    split
    ·have hnew:o.id ∉ s.xs.map (·.id):=λhm=>by
      obtain⟨x,hx,hxi⟩:=List.mem_map.1 hm
      have:=hc.2
      unfold qH9 at this
      rw[Option.isNone_iff_eq_none,List.find?_eq_none]at this
      exact this x hx (by simpa using hxi)
     refine⟨?_,λid hid=>?_,λx hx hk=>?_⟩
     ·show((s.xs++[qCx o.id o.cfg o.cfg.kind.toNat]).map (·.id)).Nodup
      rw[List.map_append]
      refine List.nodup_append.2 ⟨h.ids,by simp,λa ha b hb=>?_⟩
      simp[qCx]at hb
      subst hb
      exact λh0=>hnew (by rw[<-h0];exact ha)
     ·exact h.none id (λh0=>hid (by show id∈(s.xs++[qCx o.id o.cfg o.cfg.kind.toNat]).map (·.id);rw[List.map_append];exact List.mem_append.2 (.inl h0)))
     ·rcases List.mem_append.1 hx with hx | hx
      ·exact h.cnt x hx hk
      ·rw[List.mem_singleton]at hx;subst hx
       show GS P s.clock _ (A o.id)
       have hkd:=(qM4 (n:=0) o.id o.cfg hv (by omega)).kind
       have hkk:(qCx o.id o.cfg o.cfg.kind.toNat).k=k:=hk
       rw[hkk]at hkd
       rw[h.none o.id hnew];exact zD9 hP _ _ _ hv hkd _
    ·exact h
   ·exact h
  ·exact h
 by_cases h2:o.kind=2
 ·have hs:qCb s o=qPa s o:=by unfold qCb;rw[if_neg h1,if_pos h2]
  cases hf:qH9 s.xs o.id with
  | none =>
   have e:qPa s o=(s,2,[]):=by unfold qPa;rw[hf]
   have ha:=qDx (s:=s) (o:=o) (.inr (by rw[hs,e];simp))
   simp only[ha,List.append_nil]
   rw[hs,e];exact h
  | some x =>
   by_cases hr:qKb x s.clock o.item=0
   ·have e:qPa s o=(⟨s.clock,qIm s.xs o.id (qTg x o.item)⟩,0,[x.acc+1]):=by unfold qPa;rw[hf];simp only;rw[if_pos hr]
    have he2:=e
    rw[hs,e]
    refine zBs h hf rfl (λi hne=>?_) rfl (λ_ hb=>?_)
    ·show A i++qPr s o i=A i
     have:qPr s o i=[]:=by unfold qPr;rw[if_neg (λhh=>hne hh.2.1.symm)]
     rw[this,List.append_nil]
    ·show GS P s.clock (qTg x o.item) (A o.id++qPr s o o.id)
     have:qPr s o o.id=[numbered o.item (x.acc+1)]:=by unfold qPr;rw[if_pos ⟨h2,rfl,by rw[hs,e]⟩,hs,e];rfl
     rw[this]
     obtain⟨_,_,_,hx,_⟩:=qJd hf
     rw[hx]at hb
     obtain⟨z1,z2,_,_,_,z6,_⟩:=qQi hr
     exact zEa hb o.item (qYd hr) ⟨z1,z2,z6⟩
   ·have e:qPa s o=(⟨s.clock,qIm s.xs o.id (qS9 x (qKb x s.clock o.item).toNat)⟩,qKb x s.clock o.item,[]):=by unfold qPa;rw[hf];simp only;rw[if_neg hr]
    have ha:=qDx (s:=s) (o:=o) (.inr (by rw[hs,e];exact hr))
    simp only[ha,List.append_nil]
    rw[hs,e]
    refine zBs h hf rfl (λi _=>rfl) rfl (λ_ hb=>?_)
    obtain⟨_,_,_,hx,_⟩:=qJd hf
    rw[hx]at hb
    exact⟨hb.heap,hb.wait,hb.okA,hb.num,hb.acc,hb.whole⟩
 have ha:=qDx (s:=s) (o:=o) (.inl h2)
 simp only[ha,List.append_nil]
 unfold qCb
 rw[if_neg h1,if_neg h2]
 split
 ·unfold qJ9
  split
  ·split
   ·have hcn:s.clock<=qDw s.clock o.a:=by unfold qDw;split <;> omega
    have hids:((qCk (qDw s.clock o.a) o.b (s.xs.map (qBj (qDw s.clock o.a)))).1.map (·.id))=s.xs.map (·.id):=by
     rw[qVw,List.map_map]
     refine List.map_congr_left λx _=>?_
     exact(qI3 _ _ _).2.2
    refine⟨by show List.Nodup _;rw[hids];exact h.ids,λid hid=>h.none id (by rw[<-hids];exact hid),λz hz hk=>?_⟩
    obtain⟨y,hy,b',rfl⟩:=qSx _ _ _ hz
    obtain⟨x,hx,rfl⟩:=List.mem_map.1 hy
    have htk:(qBj (qDw s.clock o.a) x).k=x.k:=(qI3 _ _ _).1
    have htc:(qBj (qDw s.clock o.a) x).c=x.c:=(qI3 _ _ _).2.1
    have hkx:x.k=k:=by rw[<-htk];exact hk
    have hv:=hi.sers x hx
    have hck:x.c.kind=k:=by rw[hv.kind,hkx]
    have hid:(qTe (qDw s.clock o.a) b' (qBj (qDw s.clock o.a) x)).id=x.id:=(qI3 _ _ _).2.2
    rw[hid]
    exact qZw hP (zBz hP (h.cnt x hx hkx) hkx hck hv.valid hcn) (htk.trans hkx) (by rw[htc];exact hck) (by rw[htc];exact hv.valid)
   ·exact h
  ·exact h
 ·split
  ·unfold qGh;split <;> exact h
  ·split
   ·unfold qH2;split <;> exact h
   ·split <;> exact h
def qPc(cs:List Int)(j pl:Nat): Int:=cs.getD (j*16+pl) 0
def qOf(f:It->Bool)(R:List It): Int:=((R.filter f).length:Int)
theorem qW1(f:It->Bool)(R:List It)(y:It): qOf f (R++[y])=qOf f R+if f y=true then 1 else 0:=by
 unfold qOf
 rw[List.filter_append,List.length_append]
 by_cases h:f y=true
 ·rw[if_pos h,List.filter_cons_of_pos h];simp
 ·rw[if_neg h,List.filter_cons_of_neg h];simp
theorem qPz{f:It->Bool}{R:List It}(h:∀r∈R,f r=false): qOf f R=0:=by
 unfold qOf
 rw[List.filter_eq_nil_iff.2 (λr hr=>by rw[h r hr];simp)];rfl
theorem qXe{f:It->Bool}{R:List It}(h:qOf f R=0): ∀r∈R,f r=false:=by
 intro r hr
 unfold qOf at h
 have:R.filter f=[]:=List.eq_nil_of_length_eq_zero (by omega)
 have:=List.filter_eq_nil_iff.1 this r hr
 simpa using this
theorem qVr{f g:It->Bool}{R:List It}(h:∀r∈R,f r=g r): qOf f R=qOf g R:=by
 unfold qOf;rw[List.filter_congr h]
theorem zCk{f g e:It->Bool}{R:List It}(h:∀r∈R,e r=(f r||g r))(hd:∀r∈R,¬(f r=true/\g r=true)): qOf e R=qOf f R+qOf g R:=by
 induction R with
 | nil=>rfl
 | cons r R ih =>
  have ih:=ih (λa ha=>h a (by simp[ha])) (λa ha=>hd a (by simp[ha]))
  have h1:=h r (by simp)
  have h2:=hd r (by simp)
  unfold qOf at *
  rw[List.filter_cons,List.filter_cons,List.filter_cons]
  cases hf:f r <;> cases hg:g r <;> simp_all <;> omega
def qQy(c:Cfg)(r:It): Int:=r.t/qA8 c
def qP2(c:Cfg)(j pl:Nat)(r:It): Bool:=decide (qBw c r.k j=(pl:Int))
def cnt1(c:Cfg)(R:List It)(no:Int)(j pl:Nat): Int:=qOf (λr=>decide (qQy c r=no)&&qP2 c j pl r) R
structure OG (c:Cfg) (m:Int) (o:Pa.Pn) (cl:List Pa.Pn) (R:List It):Prop where
 asc:cl.Pairwise (λa b=>a.no<b.no)
 lt:∀p∈cl,p.no<o.no
 ex:∀p,p∈cl\/p=o->∀(j pl:Nat),(j:Int)<c.rows->pl<16->qPc p.cs j pl=cnt1 c R p.no j pl
 inn:∀r∈R,(∃p,(p∈cl\/p=o)/\p.no=qQy c r)\/(qQy c r+1)*qA8 c-1<=m-c.window
 top:∀r∈R,qQy c r<=o.no
 cur:o.no=0\/∃r∈R,qQy c r=o.no
theorem qF7(j pl:Nat): qPc qBr j pl=0:=by
 unfold qPc qBr
 rw[List.getD_eq_getElem?_getD,List.getElem?_replicate]
 split <;> rfl
theorem OG.zero(c:Cfg)(m:Int): OG c m Pa.pn0 [] []:=by
 refine⟨List.Pairwise.nil,λp hp=>by simp at hp,λp hp j pl _ _=>?_,λr hr=>by simp at hr,λr hr=>by simp at hr,.inl rfl⟩
 rcases hp with hp | hp
 ·simp at hp
 ·rw[hp];exact qF7 j pl
theorem OG.later{c:Cfg}{m m':Int}{o:Pa.Pn}{cl:List Pa.Pn}{R:List It}(h:OG c m o cl R)(hm:m<=m'): OG c m' o cl R :=
 ⟨h.asc,h.lt,h.ex,λr hr=>(h.inn r hr).imp id (λh=>by omega),h.top,h.cur⟩
theorem zCy(cs:List Int)(hl:cs.length=48)(j pl a b:Nat)(hpl:pl<16)(ha:a<3)(hb:b<16): qPc (zAv cs (a*16+b)) j pl=qPc cs j pl+if j=a/\pl=b then 1 else 0:=by
 unfold qPc zAv
 rw[List.getD_eq_getElem?_getD,List.getElem?_set]
 by_cases h:j=a/\pl=b
 ·rw[if_pos h,h.1,h.2,if_pos rfl,if_pos (by omega)];rfl
 ·rw[if_neg h,if_neg (by omega),Int.add_zero,List.getD_eq_getElem?_getD]
theorem qWi(c:Cfg)(hc:c.rowed)(key:Int)(cs:List Int)(hl:cs.length=48)(j pl:Nat)(hpl:pl<16): ∀n:Nat,n<=3->qPc (qIe c key n cs) j pl=qPc cs j pl+if j<n/\qBw c key j=(pl:Int) then 1 else 0:=by
 intro n
 induction n with
 | zero=>intro _;simp[qIe]
 | succ n ih =>
  intro hn
  have hb:=qHd c hc key n
  rw[show qIe c key (n+1) cs=zAv (qIe c key n cs) (n*16+(qBw c key n).toNat) from rfl,zCy _ (by rw[qFz,hl]) j pl n _ hpl (by omega) (by omega),ih (by omega)]
  by_cases h1:j=n
  ·subst h1
   rw[if_neg (by omega)]
   by_cases h2:qBw c key j=(pl:Int)
   ·rw[if_pos ⟨rfl,by omega⟩,if_pos ⟨by omega,h2⟩];omega
   ·rw[if_neg (λh=>h2 (by omega)),if_neg (λh=>h2 h.2)];omega
  ·have e1:(if j=n/\pl=(qBw c key n).toNat then(1:Int) else 0)=0:=if_neg (λh=>h1 h.1)
   rw[e1]
   by_cases h2:j<n/\qBw c key j=(pl:Int)
   ·rw[if_pos h2,if_pos ⟨by omega,h2.2⟩];omega
   ·rw[if_neg h2,if_neg (λh=>h2 ⟨by omega,h.2⟩)];omega
theorem qJo(c:Cfg)(t:Int): ∀l:List Pa.Pn,∀p∈l,p∈l.drop (qE3 c l t)\/qGq c p<=t
 | [],p,hp=>by simp at hp
 | q::l,p,hp=>by
  unfold qE3
  rw[List.takeWhile_cons]
  split
  ·rename_i hq
   rw[List.length_cons,List.drop_succ_cons]
   rcases List.mem_cons.1 hp with e | e
   ·right;rw[e];simpa using hq
   ·exact qJo c t l p e
  ·left;rw[List.length_nil,List.drop_zero];exact hp
theorem OG.rel{c:Cfg}{m:Int}{o:Pa.Pn}{cl:List Pa.Pn}{R:List It}(h:OG c m o cl R)(hL:1<=qA8 c)(hrw:c.rowed)(hr1:1<=c.rows)(hr3:c.rows<=3)(y:It)(y0:0<=y.t)(hy:∀r∈R,r.t<=y.t):
  OG c m (qVl c o cl y m).1 (qVl c o cl y m).2 (R++[y]):=by
 obtain⟨n,hn⟩:∃n,n=qQy c y:=⟨_,rfl⟩
 have hn0:0<=n:=by rw[hn];exact Int.ediv_nonneg y0 (by omega)
 have hle:∀r∈R,qQy c r<=n:=λr hr=>by rw[hn];exact Int.ediv_le_ediv (by omega) (hy r hr)
 have hon:o.no<=n:=by
  rcases h.cur with h0 | ⟨r,hr,h0⟩
  ·omega
  ·rw[<-h0];exact hle r hr
 -- behind the turn
 have ht:∃o2 l2,qE5 o cl n=(o2,l2)/\o2.no=n/\l2.Pairwise (λa b=>a.no<b.no)/\(∀p∈l2,p.no<n) /\
   (∀p,p∈l2\/p=o2->∀(j pl:Nat),(j:Int)<c.rows->pl<16->qPc p.cs j pl=cnt1 c R p.no j pl)/\(∀r∈R,(∃p,(p∈l2\/p=o2)/\p.no=qQy c r)\/(qQy c r+1)*qA8 c-1<=m-c.window):=by
  unfold qE5
  by_cases h1:o.no=n
  ·rw[if_pos h1]
   exact⟨o,cl,rfl,h1,h.asc,λp hp=>by rw[<-h1];exact h.lt p hp,h.ex,h.inn⟩
  ·rw[if_neg h1]
   have hnew:∀j pl,cnt1 c R n j pl=0:=λj pl=>qPz (λr hr=>by
      have h2:=h.top r hr
      rw[decide_eq_false (by omega)];rfl)
   by_cases h2:o.cs=qBr
   ·rw[if_pos h2]
    refine⟨qUj n,cl,rfl,rfl,h.asc,λp hp=>by have:=h.lt p hp;omega,λp hp j pl hj hpl=>?_,λr hr=>?_⟩
    ·rcases hp with hp | hp
     ·exact h.ex p (.inl hp) j pl hj hpl
     ·rw[hp];exact(qF7 j pl).trans (hnew j pl).symm
    ·rcases h.inn r hr with ⟨p,hp,hpn⟩ | h3
     ·rcases hp with hp | hp
      ·exact .inl ⟨p,.inl hp,hpn⟩
      ·exfalso
       have hb:=qHd c hrw r.k 0
       have h3:=h.ex o (.inr rfl) 0 (qBw c r.k 0).toNat (by omega) (by omega)
       rw[h2,qF7]at h3
       have h4:=qXe h3.symm r hr
       rw[hp]at hpn
       rw[decide_eq_true hpn.symm]at h4
       unfold qP2 at h4
       rw[decide_eq_true (by omega)]at h4
       simp at h4
     ·exact .inr h3
   ·rw[if_neg h2]
    refine⟨qUj n,cl++[o],rfl,rfl,?_,λp hp=>?_,λp hp j pl hj hpl=>?_,λr hr=>?_⟩
    ·exact List.pairwise_append.2 ⟨h.asc,by simp,λa ha b hb=>by rw[List.mem_singleton]at hb;rw[hb];exact h.lt a ha⟩
    ·rcases List.mem_append.1 hp with hp | hp
     ·have:=h.lt p hp;omega
     ·rw[List.mem_singleton]at hp;rw[hp];omega
    ·rcases hp with hp | hp
     ·rcases List.mem_append.1 hp with hp | hp
      ·exact h.ex p (.inl hp) j pl hj hpl
      ·rw[List.mem_singleton]at hp;exact h.ex p (.inr hp) j pl hj hpl
     ·rw[hp];exact(qF7 j pl).trans (hnew j pl).symm
    ·rcases h.inn r hr with ⟨p,hp,hpn⟩ | h3
     ·refine .inl ⟨p,.inl ?_,hpn⟩
      rcases hp with hp | hp
      ·simp[hp]
      ·simp[hp]
     ·exact .inr h3
 obtain⟨o2,l2,e,e1,e2,e3,e4,e5⟩:=ht
 have er:qVl c o cl y m=(qMg c y.k c.rows.toNat o2,l2.drop (qE3 c l2 (m-c.window))):=by
  unfold qVl
  show(qMg c y.k c.rows.toNat (qE5 o cl (y.t/qA8 c)).1,_)=_
  rw[show y.t/qA8 c=n from hn.symm,e]
 rw[er]
 have hsub:∀p,p∈l2.drop (qE3 c l2 (m-c.window))->p∈l2:=λp hp=>List.mem_of_mem_drop hp
 have hbn:(qMg c y.k c.rows.toNat o2).no=n:=e1
 refine⟨e2.sublist (List.drop_sublist _ _),λp hp=>?_,λp hp j pl hj hpl=>?_,λr hr=>?_,λr hr=>?_,.inr ⟨y,by simp,by rw[hbn,hn]⟩⟩
 ·show p.no<(qMg c y.k c.rows.toNat o2).no
  rw[hbn];exact e3 p (hsub p hp)
 ·unfold cnt1
  rw[qW1]
  rcases hp with hp | hp
  ·have hne:qQy c y≠p.no:=by have:=e3 p (hsub p hp);omega
   rw[decide_eq_false hne,if_neg (by simp)]
   rw[e4 p (.inl (hsub p hp)) j pl hj hpl];unfold cnt1;omega
  ·subst hp
   show qPc (qIe c y.k c.rows.toNat o2.cs) j pl=_
   rw[qWi c hrw y.k o2.cs o2.len j pl hpl _ (by omega),e4 o2 (.inr rfl) j pl hj hpl]
   unfold cnt1
   rw[show(qMg c y.k c.rows.toNat o2).no=o2.no from rfl,decide_eq_true (show qQy c y=o2.no by omega)]
   unfold qP2
   by_cases h1:qBw c y.k j=(pl:Int)
   ·rw[if_pos ⟨by omega,h1⟩,if_pos (by simp[h1])]
   ·rw[if_neg (λh=>h1 h.2),if_neg (by simp[h1])]
 ·rcases List.mem_append.1 hr with hr | hr
  ·rcases e5 r hr with ⟨p,hp,hpn⟩ | h3
   ·rcases hp with hp | hp
    ·rcases qJo c (m-c.window) l2 p hp with h3 | h3
     ·exact .inl ⟨p,.inl h3,hpn⟩
     ·right;rw[<-hpn];exact h3
    ·exact .inl ⟨_,.inr rfl,by rw[hbn,<-e1,<-hpn,hp]⟩
   ·exact .inr h3
  ·rw[List.mem_singleton]at hr
   exact .inl ⟨_,.inr rfl,by rw[hbn,hn,hr]⟩
 ·rw[hbn]
  rcases List.mem_append.1 hr with hr | hr
  ·exact hle r hr
  ·rw[List.mem_singleton]at hr;rw[hr,hn];exact Int.le_refl _
def PO(c:Cfg)(m:Int)(nt:Note)(R:List It): Prop:=OG c m nt.op nt.cl R
theorem zEx: NLaw 3 PO where
 zero:=λc m _ _=>OG.zero c m
 later:=λc m m' nt R _ _ hm h=>OG.later h hm
 rel:=λc m nt R y hv hk h hr hy _=>by
  obtain⟨_,hrw,hL,_,_⟩:=qD6 (k:=3) hv hk rfl
  exact OG.rel h hL hrw hrw.r0 hrw.r1 y hy.t0 (λr hrm=>by have:=(hr r hrm).2.1;unfold leP at this;omega)
 swp:=λc m nt R b _ _ h=>h
theorem qWb(a b:List Int)(ha:a.length=48)(hb:b.length=48)(j pl:Nat)(hj:j<3)(hpl:pl<16): qPc (List.zipWith (·+·) a b) j pl=qPc a j pl+qPc b j pl:=by
 unfold qPc
 have h1:j*16+pl<a.length:=by omega
 have h2:j*16+pl<b.length:=by omega
 have h3:j*16+pl<(List.zipWith (·+·) a b).length:=by rw[List.length_zipWith];omega
 simp[List.getD_eq_getElem?_getD,List.getElem?_eq_getElem h1,List.getElem?_eq_getElem h2,List.getElem?_eq_getElem h3]
theorem zC5{c:Cfg}{R:List It}{j pl:Nat}(hj:(j:Int)<c.rows)(hr3:c.rows<=3)(hpl:pl<16): ∀(l:List Pa.Pn),l.Pairwise (λa b=>a.no<b.no)->(∀p∈l,qPc p.cs j pl=cnt1 c R p.no j pl)->∀a:List Int,a.length=48 ->
  qPc (l.foldl qId a) j pl=qPc a j pl+qOf (λr=>decide (qQy c r∈l.map (·.no))&&qP2 c j pl r) R:=by
 intro l
 induction l with
 | nil=>intro _ _ a _;simp[qPz]
 | cons p l ih =>
  intro hp he a ha
  have hp2:=List.pairwise_cons.1 hp
  rw[List.foldl_cons,ih hp2.2 (λq hq=>he q (by simp[hq])) _ (qHf ha)]
  unfold qId
  rw[qWb _ _ ha p.len j pl (by omega) hpl,he p (by simp),Int.add_assoc]
  congr 1
  refine(zCk (λr _=>?_) (λr _ hh=>?_)).symm
  ·cases qP2 c j pl r <;> simp
   try by_cases h1:qQy c r=p.no <;> simp[h1]
  ·have h1:qQy c r=p.no:=by have:=hh.1;simp at this;exact this.1
   have h2:=hh.2
   simp only[Bool.and_eq_true,decide_eq_true_eq,List.mem_map]at h2
   obtain⟨⟨q,hq,hqn⟩,_⟩:=h2
   have:=hp2.1 q hq
   omega
theorem OG.counted{c:Cfg}{m:Int}{o:Pa.Pn}{cl:List Pa.Pn}{R:List It}(h:OG c m o cl R)(hL:1<=qA8 c)(hr3:c.rows<=3)(T:Int)(hT:m-c.window<=T)(j pl:Nat)(hj:(j:Int)<c.rows)(hpl:pl<16):
  qPc (qCz c o cl T) j pl=qOf (λr=>decide (T<(qQy c r+1)*qA8 c-1)&&qP2 c j pl r) R:=by
 obtain⟨l,hl⟩:∃l,l=cl.drop (qE3 c cl T)++(if T<qGq c o then[o] else[]):=⟨_,rfl⟩
 have e:qCz c o cl T=l.foldl qId qBr:=by
  unfold qCz qTk
  rw[hl]
  by_cases h1:T<qGq c o
  ·rw[if_pos h1,if_pos h1,List.foldl_append];rfl
  ·rw[if_neg h1,if_neg h1,List.append_nil]
 have hmem:∀p,p∈l->p∈cl\/p=o:=λp hp=>by
  rw[hl]at hp
  rcases List.mem_append.1 hp with hp | hp
  ·exact .inl (List.mem_of_mem_drop hp)
  ·split at hp
   ·rw[List.mem_singleton]at hp;exact .inr hp
   ·simp at hp
 have hpw:l.Pairwise (λa b=>a.no<b.no):=by
  rw[hl]
  refine List.pairwise_append.2 ⟨h.asc.sublist (List.drop_sublist _ _),by split <;> simp,λa ha b hb=>?_⟩
  split at hb
  ·rw[List.mem_singleton]at hb;rw[hb];exact h.lt a (List.mem_of_mem_drop ha)
  ·simp at hb
 have hlast:∀p,p∈l->T<qGq c p:=λp hp=>by
  rw[hl]at hp
  rcases List.mem_append.1 hp with hp | hp
  ·exact qJl c (by omega) T cl h.asc p hp
  ·split at hp
   ·rename_i h1;rw[List.mem_singleton]at hp;rw[hp];exact h1
   ·simp at hp
 have hin:∀p,p∈cl\/p=o->T<qGq c p->p∈l:=λp hp h1=>by
  rw[hl]
  rcases hp with hp | hp
  ·rcases qJo c T cl p hp with h2 | h2
   ·exact List.mem_append.2 (.inl h2)
   ·omega
  ·rw[hp]at h1;rw[if_pos h1,hp];simp
 rw[e,zC5 hj hr3 hpl l hpw (λp hp=>h.ex p (hmem p hp) j pl hj hpl) _ qBb,qF7,Int.zero_add]
 refine qVr (λr hr=>?_)
 congr 1
 refine decide_eq_decide.2 ⟨λh1=>?_,λh1=>?_⟩
 ·obtain⟨p,hp,hpn⟩:=List.mem_map.1 h1
  rw[<-hpn];exact hlast p hp
 ·rcases h.inn r hr with ⟨p,hp,hpn⟩ | h2
  ·exact List.mem_map.2 ⟨p,hin p hp (by unfold qGq;rw[hpn];exact h1),hpn⟩
  ·omega
theorem qYn{R L A:List It}{fr mk:Int}(hp:(R++L).Perm A)(hR:∀r∈R,r.t<=mk)(hL:∀y∈L,mk<y.t): (A.filter (λy=>decide (fr<y.t/\y.t<=mk))).Perm (R.filter (λy=>decide (fr<y.t))):=by
 refine(hp.filter _).symm.trans ?_
 rw[List.filter_append]
 have h1:L.filter (λy=>decide (fr<y.t/\y.t<=mk))=[]:=List.filter_eq_nil_iff.2 (λy hy=>by have:=hL y hy;simp;omega)
 have h2:R.filter (λy=>decide (fr<y.t/\y.t<=mk))=R.filter (λy=>decide (fr<y.t)):=List.filter_congr (λy hy=>by have:=hR y hy;simp;omega)
 rw[h1,h2,List.append_nil]
def isM(v:Int)(p:Int->Prop): Prop:=(v=0/\∀k,¬p k)\/(p v/\∀k,p k->k<=v)
theorem isM.to{v:Int}{p q:Int->Prop}(h:isM v p)(h1:∀k,p k->q k)(h2:∀k,q k->∃k',p k'/\k<=k'): isM v q:=by
 rcases h with ⟨h,hn⟩ | ⟨h,hm⟩
 ·left
  refine⟨h,λk hk=>?_⟩
  obtain⟨k',hp,_⟩:=h2 k hk
  exact hn k' hp
 ·right
  refine⟨h1 v h,λk hk=>?_⟩
  obtain⟨k',hp,hle⟩:=h2 k hk
  have:=hm k' hp
  omega
def rkI(c:Cfg)(n:Nat)(r:It): Int:=qEv (qC0 c.s00 c.s01 r.k/n)
def hasK(c:Cfg)(n:Nat)(R:List It)(T:Int)(j:Nat)(k:Int): Prop:=∃r∈R,T<r.t/\qI8 c n r.k=j/\rkI c n r=k
def qQr(l:List Bk): Prop:=l.Pairwise (λa b=>a.sz<b.sz/\b.t<a.t)
theorem qNc(l:List Bk)(T:Int): (∀b∈l.take (Mk.pastN l T),b.sz<=T)/\(qQr l->∀b∈l.drop (Mk.pastN l T),T<b.sz):=by
 induction l with
 | nil=>exact⟨λb hb=>by simp at hb,λ_ b hb=>by simp at hb⟩
 | cons a l ih =>
  unfold Mk.pastN at *
  rw[List.takeWhile_cons]
  split
  ·rename_i ha
   have ha':a.sz<=T:=by simpa using ha
   rw[List.length_cons,List.take_succ_cons,List.drop_succ_cons]
   refine⟨λb hb=>?_,λhs=>ih.2 (List.pairwise_cons.1 hs).2⟩
   rcases List.mem_cons.1 hb with e | e
   ·rw[e];exact ha'
   ·exact ih.1 b e
  ·rename_i ha
   have ha':T<a.sz:=by simpa using ha
   refine⟨λb hb=>by simp at hb,λhs b hb=>?_⟩
   rw[List.length_nil,List.drop_zero]at hb
   rcases List.mem_cons.1 hb with e | e
   ·rw[e];exact ha'
   ·have:=(List.pairwise_cons.1 hs).1 b e;omega
theorem qS1(l:List Bk)(hs:qQr l)(T:Int): isM (qFm l T) (λk=>∃b∈l,T<b.sz/\b.t=k):=by
 obtain⟨h1,h2⟩:=qNc l T
 have h2:=h2 hs
 unfold qFm
 have hle:=Mk.pastN_le l T
 by_cases h:Mk.pastN l T=l.length
 ·rw[if_pos h]
  left
  refine⟨rfl,λk hk=>?_⟩
  obtain⟨b,hb,hT,_⟩:=hk
  rw[h,List.take_length]at h1
  have:=h1 b hb
  omega
 ·rw[if_neg h]
  right
  have hlt:Mk.pastN l T<l.length:=by omega
  have hd:l.drop (Mk.pastN l T)=qBn l (Mk.pastN l T)::l.drop (Mk.pastN l T+1):=by
   rw[List.drop_eq_getElem_cons hlt]
   congr 1
   simp[qBn,List.getD_eq_getElem?_getD,List.getElem?_eq_getElem hlt]
  have hm:qBn l (Mk.pastN l T)∈l.drop (Mk.pastN l T):=by rw[hd];simp
  refine⟨⟨_,List.mem_of_mem_drop hm,h2 _ hm,rfl⟩,λk hk=>?_⟩
  obtain⟨b,hb,hT,rfl⟩:=hk
  have hb':b∈l.drop (Mk.pastN l T):=by
   rw[<-List.take_append_drop (Mk.pastN l T) l]at hb
   rcases List.mem_append.1 hb with e | e
   ·have:=h1 b e;omega
   ·exact e
  have hs2:qQr (l.drop (Mk.pastN l T)):=List.Pairwise.sublist (List.drop_sublist _ _) hs
  rw[hd]at hs2 hb'
  rcases List.mem_cons.1 hb' with e | e
  ·rw[e];exact Int.le_refl _
  ·have:=(List.pairwise_cons.1 hs2).1 b e;omega
theorem qS7(r:Int)(l:List Bk): ∀b∈l,b∈qCh r l\/b.t<=r:=by
 intro b hb
 unfold qCh
 have hb':b∈l.reverse:=List.mem_reverse.2 hb
 rw[<-List.takeWhile_append_dropWhile (p:=λb:Bk=>decide (b.t<=r)) (l:=l.reverse)]at hb'
 rcases List.mem_append.1 hb' with e | e
 ·right
  have:∀(l:List Bk),b∈l.takeWhile (λb:Bk=>decide (b.t<=r))->b.t<=r:=by
   intro l
   induction l with
   | nil=>intro h;simp at h
   | cons a l ih =>
    intro h
    rw[List.takeWhile_cons]at h
    split at h
    ·rename_i ha
     rcases List.mem_cons.1 h with e | e
     ·rw[e];simpa using ha
     ·exact ih e
    ·simp at h
  exact this _ e
 ·exact .inl (List.mem_reverse.2 e)
theorem qJt(r:Int)(l:List Bk)(h:0<(qCh r l).length): r<(qBn (qCh r l) ((qCh r l).length-1)).t:=by
 by_cases hl:0<l.length
 ·by_cases hb:(qBn l (l.length-1)).t<=r
  ·have e:=qNe hl hb
   rw[e]at h ⊢
   have:(l.take (l.length-1)).length<l.length:=by rw[List.length_take];omega
   exact qJt r (l.take (l.length-1)) h
  ·rw[qNi hl hb];omega
 ·have:l=[]:=List.eq_nil_of_length_eq_zero (by omega)
  rw[this]at h;simp[qYp]at h
 termination_by l.length
theorem qZj{l:List Bk}{x:Bk}(hle:∀b∈l,b.sz<=x.sz)(b:Bk)(hb:b∈l\/b=x): ∃b'∈qGr l x,b.t<=b'.t/\b.sz<=b'.sz:=by
 unfold qGr
 by_cases h:0<(qCh x.t l).length/\(qBn (qCh x.t l) ((qCh x.t l).length-1)).sz=x.sz
 ·rw[if_pos h]
  have hm:qBn (qCh x.t l) ((qCh x.t l).length-1)∈qCh x.t l:=by
   have h1:(qCh x.t l).length-1<(qCh x.t l).length:=by omega
   simp[qBn,List.getD_eq_getElem?_getD,List.getElem?_eq_getElem h1]
  have hlast:=qJt x.t l h.1
  rcases hb with hb | hb
  ·rcases qS7 x.t l b hb with e | e
   ·exact⟨b,e,Int.le_refl _,Int.le_refl _⟩
   ·exact⟨_,hm,by omega,by rw[h.2];exact hle b hb⟩
  ·exact⟨_,hm,by rw[hb];omega,by rw[hb,h.2];exact Int.le_refl _⟩
 ·rw[if_neg h]
  rcases hb with hb | hb
  ·rcases qS7 x.t l b hb with e | e
   ·exact⟨b,by simp[e],Int.le_refl _,Int.le_refl _⟩
   ·exact⟨x,by simp,e,hle b hb⟩
  ·exact⟨x,by simp,by rw[hb];exact Int.le_refl _,by rw[hb];exact Int.le_refl _⟩
theorem qQm{l:List Bk}{x:Bk}(hs:qQr l)(hle:∀b∈l,b.sz<=x.sz): qQr (qGr l x):=by
 obtain⟨k,hk,_⟩:=qLj x.t l
 have hs2:qQr (qCh x.t l):=by rw[hk];exact List.Pairwise.sublist (List.take_sublist _ _) hs
 have hsub:∀b∈qCh x.t l,b∈l:=λb hb=>by rw[hk]at hb;exact List.mem_of_mem_take hb
 unfold qGr
 by_cases h:0<(qCh x.t l).length/\(qBn (qCh x.t l) ((qCh x.t l).length-1)).sz=x.sz
 ·rw[if_pos h];exact hs2
 ·rw[if_neg h]
  refine List.pairwise_append.2 ⟨hs2,by simp,λa ha b hb=>?_⟩
  rw[List.mem_singleton]at hb
  subst hb
  have hpos:0<(qCh b.t l).length:=List.length_pos_of_mem ha
  have hlast:=qJt b.t l hpos
  have hne:(qBn (qCh b.t l) ((qCh b.t l).length-1)).sz≠b.sz:=λe=>h ⟨hpos,e⟩
  have hm:qBn (qCh b.t l) ((qCh b.t l).length-1)∈qCh b.t l:=by
   have h1:(qCh b.t l).length-1<(qCh b.t l).length:=by omega
   simp[qBn,List.getD_eq_getElem?_getD,List.getElem?_eq_getElem h1]
  have hlz:=hle _ (hsub _ hm)
  have hsp:=qHk (qCh b.t l) hpos
  generalize qBn (qCh b.t l) ((qCh b.t l).length-1)=z at *
  generalize(qCh b.t l).take ((qCh b.t l).length-1)=fr at *
  rw[hsp]at ha hs2
  rcases List.mem_append.1 ha with e | e
  ·have:=(List.pairwise_append.1 hs2).2.2 a e z (by simp);omega
  ·rw[List.mem_singleton]at e;rw[e];omega
structure DG (c:Cfg) (n:Nat) (m:Int) (ls:Nat->List Bk) (R:List It):Prop where
 srt:∀j,qQr (ls j)
 src:∀j,∀b∈ls j,∃r∈R,r.t=b.sz/\qI8 c n r.k=j/\rkI c n r=b.t
 ex:∀j T,m-c.window<=T->isM (qFm (ls j) T) (hasK c n R T j)
theorem DG.rel{c:Cfg}{n:Nat}{m:Int}{ls:Nat->List Bk}{R:List It}(h:DG c n m ls R)(y:It)(hy:∀r∈R,r.t<=y.t): DG c n m (qRi c n ls y m) (R++[y]):=by
 have hsub:∀j T k,hasK c n R T j k->hasK c n (R++[y]) T j k:=λj T k ⟨r,hr,h1⟩=>⟨r,by simp[hr],h1⟩
 have hl1:∀b∈(ls (qI8 c n y.k)).drop (Mk.pastN (ls (qI8 c n y.k)) (m-c.window)),b.sz<=y.t:=λb hb=>by
  obtain⟨r,hr,h1,_⟩:=h.src _ b (List.mem_of_mem_drop hb)
  rw[<-h1];exact hy r hr
 have hs1:qQr ((ls (qI8 c n y.k)).drop (Mk.pastN (ls (qI8 c n y.k)) (m-c.window))):=List.Pairwise.sublist (List.drop_sublist _ _) (h.srt _)
 refine⟨λj=>?_,λj b hb=>?_,λj T hT=>?_⟩
 ·unfold qRi
  split
  ·rename_i hj
   rw[hj]
   exact qQm hs1 hl1
  ·exact h.srt j
 ·unfold qRi at hb
  split at hb
  ·rename_i hj
   rcases qLl hb with e | e
   ·obtain⟨r,hr,h1⟩:=h.src j b (List.mem_of_mem_drop e)
    exact⟨r,by simp[hr],h1⟩
   ·rw[e];exact⟨y,by simp,rfl,hj.symm,rfl⟩
  ·obtain⟨r,hr,h1⟩:=h.src j b hb
   exact⟨r,by simp[hr],h1⟩
 ·by_cases hj:j=qI8 c n y.k
  ·subst hj
   have e:qRi c n ls y m (qI8 c n y.k)=qGr ((ls (qI8 c n y.k)).drop (Mk.pastN (ls (qI8 c n y.k)) (m-c.window))) ⟨y.t,rkI c n y⟩:=by unfold qRi;rw[if_pos rfl];rfl
   rw[e]
   refine(qS1 _ (qQm hs1 hl1) T).to (λk ⟨b,hb,hbT,hbk⟩=>?_) (λk ⟨r,hr,hrT,hrj,hrk⟩=>?_)
   ·rcases qLl hb with e2 | e2
    ·obtain⟨r,hr,h1,h2,h3⟩:=h.src _ b (List.mem_of_mem_drop e2)
     exact⟨r,by simp[hr],by rw[h1];exact hbT,h2,h3.trans hbk⟩
    ·subst e2;exact⟨y,by simp,hbT,rfl,hbk⟩
   ·have key:∃b,(b∈(ls (qI8 c n y.k)).drop (Mk.pastN (ls (qI8 c n y.k)) (m-c.window))\/b=⟨y.t,rkI c n y⟩)/\T<b.sz/\k<=b.t:=by
     rcases List.mem_append.1 hr with hr | hr
     ·have hk0:=(qKh (qC0 c.s00 c.s01 r.k/n)).1
      have hk1:1<=k:=by rw[<-hrk];exact hk0
      have hold:hasK c n R T (qI8 c n y.k) k:=⟨r,hr,hrT,hrj,hrk⟩
      have hv:k<=qFm (ls (qI8 c n y.k)) T:=by
       rcases h.ex (qI8 c n y.k) T hT with ⟨_,hn⟩ | ⟨_,hm⟩
       ·exact absurd hold (hn k)
       ·exact hm k hold
      rcases qS1 (ls (qI8 c n y.k)) (h.srt _) T with ⟨h0,_⟩ | ⟨⟨b,hb,hbT,hbk⟩,_⟩
      ·omega
      ·refine⟨b,.inl ?_,hbT,by omega⟩
       rw[<-List.take_append_drop (Mk.pastN (ls (qI8 c n y.k)) (m-c.window)) (ls (qI8 c n y.k))]at hb
       rcases List.mem_append.1 hb with e2 | e2
       ·have:=(qNc (ls (qI8 c n y.k)) (m-c.window)).1 b e2;omega
       ·exact e2
     ·rw[List.mem_singleton]at hr
      subst hr
      exact⟨_,.inr rfl,hrT,by show k<=rkI c n r;omega⟩
    obtain⟨b,hb,hbT,hbk⟩:=key
    obtain⟨b',hb',h1,h2⟩:=qZj hl1 b hb
    exact⟨b'.t,⟨b',hb',by omega,rfl⟩,by omega⟩
  ·have e:qRi c n ls y m j=ls j:=by unfold qRi;rw[if_neg hj]
   rw[e]
   refine(h.ex j T hT).to (λk hk=>hsub _ _ _ hk) (λk ⟨r,hr,hrT,hrj,hrk⟩=>⟨k,⟨r,?_,hrT,hrj,hrk⟩,Int.le_refl _⟩)
   rcases List.mem_append.1 hr with hr | hr
   ·exact hr
   ·rw[List.mem_singleton]at hr;rw[hr]at hrj;exact absurd hrj.symm hj
def PD(c:Cfg)(m:Int)(nt:Note)(R:List It): Prop:=DG c (zA7 c) m nt.rg R
theorem zFa: NLaw 2 PD where
 zero:=λc m _ _=>⟨λj=>List.Pairwise.nil,λj b hb=>by simp[qSa]at hb,λj T _=>.inl ⟨rfl,λk hk=>by obtain⟨r,hr,_⟩:=hk;simp at hr⟩⟩
 later:=λc m m' nt R _ _ hm h=>⟨h.srt,h.src,λj T hT=>h.ex j T (by omega)⟩
 rel:=λc m nt R y hv hk h hr hy _=>DG.rel h y (λr hrm=>by have:=(hr r hrm).2.1;unfold leP at this;omega)
 swp:=λc m nt R b _ _ h=>h
end
end Go.Proofs.YtahnliehdjncdaaGreatDoor
namespace Go.Proofs.YtahnliehdjncdaaGreatDoor.Dr
open Go.Proofs.YtahnliehdjncdaaGreatDoor
def dv(a:It): Int:=a.v%18446744073709551616
def dd(a:It): Int:=a.d%18446744073709551616
def dpos(a:It): Prop:=0<dd a
def leT(a b:It): Prop:=dv a*dd b<dv b*dd a\/(dv a*dd b=dv b*dd a/\b.n<=a.n)
theorem leT.refl(a:It): leT a a:=.inr ⟨rfl,Int.le_refl _⟩
theorem dd0(a:It): 0<=dd a:=by unfold dd;omega
theorem qZn{a b c d e f:Int}(hd:0<d)(hb:0<=b)(hf:0<=f)(h1:a*d<=c*b)(h2:c*f<=e*d): a*f<=e*b/\((a*d<c*b/\0<f)\/(c*f<e*d/\0<b)->a*f<e*b):=by
 have k1:a*d*f<=c*b*f:=Int.mul_le_mul_of_nonneg_right h1 hf
 have k2:c*f*b<=e*d*b:=Int.mul_le_mul_of_nonneg_right h2 hb
 have e1:a*d*f=a*f*d:=by rw[Int.mul_right_comm]
 have e2:c*b*f=c*f*b:=by rw[Int.mul_right_comm]
 have e3:e*d*b=e*b*d:=by rw[Int.mul_right_comm]
 refine⟨Int.le_of_mul_le_mul_right (by omega:a*f*d<=e*b*d) hd,λh=>?_⟩
 refine Int.lt_of_mul_lt_mul_right (a:=d) ?_ (by omega)
 rcases h with ⟨h,hp⟩ | ⟨h,hp⟩
 ·have:a*d*f<c*b*f:=Int.mul_lt_mul_of_pos_right h hp
  omega
 ·have:c*f*b<e*d*b:=Int.mul_lt_mul_of_pos_right h hp
  omega
theorem leT.trans{a b c:It}(hb:dpos b)(ha:dpos a)(hc:dpos c)(h:leT a b)(k:leT b c): leT a c:=by
 unfold leT dpos at *
 have ha0:=dd0 a
 have hc0:=dd0 c
 have h1:dv a*dd b<=dv b*dd a:=by omega
 have h2:dv b*dd c<=dv c*dd b:=by omega
 obtain⟨k1,k2⟩:=qZn hb ha0 hc0 h1 h2
 rcases h with h | ⟨h,hn⟩
 ·left;exact k2 (.inl ⟨h,hc⟩)
 ·rcases k with k | ⟨k,kn⟩
  ·left;exact k2 (.inr ⟨k,ha⟩)
  ·by_cases he:dv a*dd c=dv c*dd a
   ·right;exact⟨he,by omega⟩
   ·left;omega
theorem ahead_leT{a b:It}(h:qCp a b=true): leT a b:=by
 unfold qCp aheadT at h;unfold leT dv dd
 split at h
 ·rename_i he;simp at h;right;exact⟨he.symm,by omega⟩
 ·simp at h;left;exact h
theorem not_ahead_leT{a b:It}(h:qCp a b=false): leT b a:=by
 unfold qCp aheadT at h;unfold leT dv dd
 split at h
 ·rename_i he;simp at h;right;exact⟨he,by omega⟩
 ·rename_i he;simp at h;left;omega
structure HeapT (l:List It):Prop where
 ok:∀j,j<l.length->dpos (itAt l j)
 up:∀i,0<i->i<l.length->leT (itAt l ((i-1)/2)) (itAt l i)
theorem qXa{l:List It}{i j:Nat}(h:∀t,t<l.length->dpos (itAt l t))(hi:i<l.length)(hj:j<l.length): ∀t,t<(qDp l i j).length->dpos (itAt (qDp l i j) t):=by
 intro t ht
 rw[qAw]at ht
 rw[qB3 l i j t hi hj]
 split
 ·exact h i hi
 ·split
  ·exact h j hj
  ·exact h t ht
structure RiseAt (l:List It) (i:Nat):Prop where
 ok:∀j,j<l.length->dpos (itAt l j)
 up:∀j,0<j->j<l.length->j≠i->leT (itAt l ((j-1)/2)) (itAt l j)
 over:∀c,0<i->c<l.length->0<c->(c-1)/2=i->leT (itAt l ((i-1)/2)) (itAt l c)
theorem qJn(f:Nat): ∀(l:List It) (i:Nat),i<l.length->i<f->RiseAt l i->HeapT (riseL f l i):=by
 induction f with
 | zero=>intro l i _ h;omega
 | succ f ih =>
  intro l i hl hf h
  unfold riseL
  split
  ·rename_i h0
   refine⟨h.ok,λj hj hjl=>?_⟩
   exact h.up j hj hjl (by omega)
  ·rename_i h0
   split
   ·rename_i ha
    have hle:=ahead_leT ha
    have hp:(i-1)/2<i:=by omega
    generalize hpp:(i-1)/2=p at *
    refine ih _ p (by rw[qAw];omega) (by omega) ⟨qXa h.ok hl (by omega),?_,?_⟩
    ·intro j hj hjl hjp
     rw[qAw]at hjl
     rw[qB3 l i p _ hl (by omega),qB3 l i p j hl (by omega)]
     rw[if_neg hjp]
     by_cases hji:j=i
     ·subst hji
      rw[if_pos hpp,if_pos rfl];exact hle
     ·rw[if_neg hji]
      by_cases h1:(j-1)/2=p
      ·rw[if_pos h1]
       have:=h.up j hj hjl hji
       rw[h1]at this
       exact leT.trans (h.ok p (by omega)) (h.ok i hl) (h.ok j hjl) hle this
      ·rw[if_neg h1]
       by_cases h2:(j-1)/2=i
       ·rw[if_pos h2]
        have:=h.over j (by omega) hjl hj h2
        rw[hpp]at this
        exact this
       ·rw[if_neg h2]
        exact h.up j hj hjl hji
    ·intro c hp0 hcl hc0 hcp
     rw[qAw]at hcl
     rw[qB3 l i p _ hl (by omega),qB3 l i p c hl (by omega)]
     rw[if_neg (show(p-1)/2≠p by omega),if_neg (show(p-1)/2≠i by omega),if_neg (show c≠p by omega)]
     have hpp':=h.up p hp0 (by omega) (by omega)
     by_cases hci:c=i
     ·rw[if_pos hci];exact hpp'
     ·rw[if_neg hci]
      have:=h.up c hc0 hcl hci
      rw[hcp]at this
      exact leT.trans (h.ok p (by omega)) (h.ok _ (by omega)) (h.ok c hcl) hpp' this
   ·rename_i ha
    have hle:=not_ahead_leT (by simpa using ha)
    refine⟨h.ok,λj hj hjl=>?_⟩
    by_cases hji:j=i
    ·subst hji;exact hle
    ·exact h.up j hj hjl hji
structure SinkAt (l:List It) (i:Nat):Prop where
 ok:∀j,j<l.length->dpos (itAt l j)
 up:∀j,0<j->j<l.length->(j-1)/2≠i->leT (itAt l ((j-1)/2)) (itAt l j)
 over:∀c,0<i->c<l.length->0<c->(c-1)/2=i->leT (itAt l ((i-1)/2)) (itAt l c)
theorem qG9(l:List It)(i c:Nat)(h:qB5 l i=c): 0<c/\(c-1)/2=i/\∀d,d<l.length->0<d->(d-1)/2=i->leT (itAt l c) (itAt l d):=by
 unfold qB5 at h
 split at h
 ·split at h
  ·split at h
   ·rename_i h1 h2 h3
    have hc:c=2*i+2:=by omega
    subst hc
    refine⟨by omega,by omega,λd hd h0 hp=>?_⟩
    have:d=2*i+1\/d=2*i+2:=by omega
    rcases this with rfl | rfl
    ·exact ahead_leT h3
    ·exact leT.refl _
   ·rename_i h1 h2 h3
    have hc:c=2*i+1:=by omega
    subst hc
    refine⟨by omega,by omega,λd hd h0 hp=>?_⟩
    have:d=2*i+1\/d=2*i+2:=by omega
    rcases this with rfl | rfl
    ·exact leT.refl _
    ·exact not_ahead_leT (by simpa using h3)
  ·rename_i h1 h2
   have hc:c=2*i+1:=by omega
   subst hc
   refine⟨by omega,by omega,λd hd h0 hp=>?_⟩
   have:d=2*i+1:=by omega
   subst this
   exact leT.refl _
 ·omega
theorem qH7(l:List It)(i:Nat)(h:qB5 l i<0): ∀d,d<l.length->0<d->(d-1)/2≠i:=by
 intro d hd h0 hp
 unfold qB5 at h
 split at h
 ·split at h
  ·split at h <;> omega
  ·omega
 ·omega
theorem qJf(f:Nat): ∀(l:List It) (i:Nat),i<l.length->l.length<=f+i->SinkAt l i->HeapT (qDv f l i):=by
 induction f with
 | zero=>intro l i _ h;omega
 | succ f ih =>
  intro l i hl hf h
  unfold qDv
  split
  ·rename_i h0
   refine⟨h.ok,λj hj hjl=>?_⟩
   exact h.up j hj hjl (qH7 l i h0 j hjl hj)
  ·rename_i h0
   rcases qDj l i with hc | ⟨c,hc,hic,hcl⟩
   ·omega
   ·rw[hc,Int.toNat_natCast]
    obtain⟨hc0,hcp,hcm⟩:=qG9 l i c hc
    split
    ·rename_i ha
     have hle:=ahead_leT ha
     refine ih _ c (by rw[qAw];omega) (by rw[qAw];omega) ⟨qXa h.ok hl hcl,?_,?_⟩
     ·intro j hj hjl hjp
      rw[qAw]at hjl
      rw[qB3 l i c _ hl hcl,qB3 l i c j hl hcl,if_neg hjp]
      by_cases hjc:j=c
      ·subst hjc
       rw[if_pos hcp,if_pos rfl];exact hle
      ·rw[if_neg hjc]
       by_cases hji:j=i
       ·subst hji
        rw[if_neg (show(j-1)/2≠j by omega),if_pos rfl]
        exact h.over c hj hcl hc0 hcp
       ·rw[if_neg hji]
        by_cases h2:(j-1)/2=i
        ·rw[if_pos h2];exact hcm j hjl hj h2
        ·rw[if_neg h2];exact h.up j hj hjl h2
     ·intro d hc' hdl hd0 hdp
      rw[qAw]at hdl
      rw[qB3 l i c _ hl hcl,qB3 l i c d hl hcl]
      rw[if_neg (show(c-1)/2≠c by omega),if_pos hcp,if_neg (show d≠c by omega),if_neg (show d≠i by omega)]
      have:=h.up d hd0 hdl (by omega)
      rw[hdp]at this
      exact this
    ·rename_i ha
     have hle:=not_ahead_leT (by simpa using ha)
     refine⟨h.ok,λj hj hjl=>?_⟩
     by_cases h2:(j-1)/2=i
     ·rw[h2];exact leT.trans (h.ok c hcl) (h.ok i hl) (h.ok j hjl) hle (hcm j hjl hj h2)
     ·exact h.up j hj hjl h2
theorem HeapT.first{l:List It}(h:HeapT l)(j:Nat)(hj:j<l.length): leT (itAt l 0) (itAt l j):=by
 induction j using Nat.strongRecOn with
 | _ j ih =>
  by_cases h0:j=0
  ·subst h0;exact leT.refl _
  ·exact leT.trans (h.ok ((j-1)/2) (by omega)) (h.ok 0 (by omega)) (h.ok j hj) (ih ((j-1)/2) (by omega) (by omega)) (h.up j (by omega) hj)
theorem itAt_get(l:List It)(j:Nat)(hj:j<l.length): itAt l j=l[j]:=by
 unfold itAt;rw[List.getD_eq_getElem?_getD,List.getElem?_eq_getElem hj];rfl
theorem qGd(l:List It)(i j:Nat)(hi:i<l.length)(hj:j<l.length): (qDp l i j).Perm l:=by
 unfold qDp
 rw[itAt_get l i hi,itAt_get l j hj]
 exact List.set_set_perm hi hj
theorem qJs(f:Nat): ∀(l:List It) (i:Nat),i<l.length->(riseL f l i).Perm l:=by
 induction f with
 | zero=>intro l i _;exact List.Perm.refl _
 | succ f ih =>
  intro l i hl
  unfold riseL
  split
  ·exact List.Perm.refl _
  ·split
   ·exact(ih _ _ (by rw[qAw];omega)).trans (qGd l _ _ hl (by omega))
   ·exact List.Perm.refl _
theorem qJb(f:Nat): ∀(l:List It) (i:Nat),i<l.length->(qDv f l i).Perm l:=by
 induction f with
 | zero=>intro l i _;exact List.Perm.refl _
 | succ f ih =>
  intro l i hl
  unfold qDv
  split
  ·exact List.Perm.refl _
  ·rename_i h0
   rcases qDj l i with hc | ⟨c,hc,hic,hcl⟩
   ·omega
   ·rw[hc,Int.toNat_natCast]
    split
    ·exact(ih _ _ (by rw[qAw];omega)).trans (qGd l _ _ hl hcl)
    ·exact List.Perm.refl _
theorem put_heap(l:List It)(x:It)(h:HeapT l)(hx:dpos x): HeapT (riseL (l.length+1) (l++[x]) l.length)/\(riseL (l.length+1) (l++[x]) l.length).Perm (x::l):=by
 have hat:∀j,j<l.length->itAt (l++[x]) j=itAt l j:=by
  intro j hj
  unfold itAt
  rw[List.getD_eq_getElem?_getD,List.getD_eq_getElem?_getD,List.getElem?_append_left hj]
 refine⟨qJn _ _ _ (by simp) (by omega) ⟨?_,?_,?_⟩,(qJs _ _ _ (by simp)).trans (List.perm_append_singleton x l)⟩
 ·intro j hj
  rw[List.length_append,List.length_singleton]at hj
  by_cases hjl:j<l.length
  ·rw[hat j hjl];exact h.ok j hjl
  ·have:j=l.length:=by omega
   subst this
   rw[itAt_get _ _ (by simp)]
   simpa using hx
 ·intro j hj hjl hne
  rw[List.length_append,List.length_singleton]at hjl
  rw[hat _ (by omega),hat j (by omega)]
  exact h.up j hj (by omega)
 ·intro c h0 hcl hc0 hcp
  rw[List.length_append,List.length_singleton]at hcl
  omega
theorem take_heap(l:List It)(h:HeapT l)(hl:l≠[]): HeapT (takeL l)/\(itAt l 0::takeL l).Perm l:=by
 have hpos:0<l.length:=List.length_pos_iff.2 hl
 unfold takeL
 by_cases h1:l.length=1
 ·obtain⟨a,rfl⟩:=List.length_eq_one_iff.1 h1
  refine⟨?_,?_⟩
  ·have hn:(qDv [a].length (([a].set 0 (itAt [a] ([a].length-1))).take ([a].length-1)) 0).length=0:=rfl
   exact⟨λi hi=>by omega,λi _ hi=>by omega⟩
  ·exact List.Perm.refl _
 ·obtain⟨a,m,rfl⟩:∃a m,l=a::m:=by cases l with | nil=>exact absurd rfl hl | cons a m=>exact⟨a,m,rfl⟩
  obtain⟨m',z,rfl⟩:∃m' z,m=m'++[z]:=by
   refine⟨m.dropLast,m.getLast (by intro e;subst e;simp at h1),?_⟩
   rw[List.dropLast_concat_getLast]
  have hz:itAt (a::(m'++[z])) ((a::(m'++[z])).length-1)=z:=by
   rw[itAt_get _ _ (by simp)]
   simp
  have he:((a::(m'++[z])).set 0 (itAt (a::(m'++[z])) ((a::(m'++[z])).length-1))).take ((a::(m'++[z])).length-1)=z::m':=by
   rw[hz];simp
  rw[he]
  have hat:∀j,0<j->j<(z::m').length->itAt (z::m') j=itAt (a::(m'++[z])) j:=by
   intro j h0 hj
   simp only[List.length_cons]at hj
   rw[itAt_get _ _ (by simpa using hj),itAt_get _ _ (by simp;omega)]
   obtain⟨j,rfl⟩:∃k,j=k+1:=⟨j-1,by omega⟩
   simp only[List.getElem_cons_succ]
   rw[List.getElem_append_left (by omega)]
  refine⟨qJf _ _ 0 (by simp) (by simp) ⟨?_,?_,?_⟩,?_⟩
  ·intro j hj
   by_cases h0:j=0
   ·subst h0
    have:=h.ok ((a::(m'++[z])).length-1) (by simp)
    rw[hz]at this
    exact this
   ·rw[hat j (by omega) hj];exact h.ok j (by simp at hj ⊢;omega)
  ·intro j hj hjl hne
   rw[hat _ (by omega) (by omega),hat j hj hjl]
   exact h.up j hj (by simp at hjl ⊢;omega)
  ·intro c h0;omega
  ·refine(List.Perm.cons _ (qJb _ _ 0 (by simp))).trans ?_
   show(a::z::m').Perm (a::(m'++[z]))
   exact List.Perm.cons a (List.perm_append_singleton z m').symm
end Go.Proofs.YtahnliehdjncdaaGreatDoor.Dr
namespace Go.Proofs.YtahnliehdjncdaaGreatDoor
section
theorem Dr.HeapT.okm{l:List Dr.It}(h:Dr.HeapT l){y:Dr.It}(hy:y∈l): Dr.dpos y:=by
 obtain⟨j,hj,rfl⟩:=List.mem_iff_getElem.1 hy
 have:=h.ok j hj
 rw[Dr.itAt_get l j hj]at this
 exact this
theorem Dr.HeapT.firstm{l:List Dr.It}(h:Dr.HeapT l){y:Dr.It}(hy:y∈l): Dr.leT (Dr.itAt l 0) y:=by
 obtain⟨j,hj,rfl⟩:=List.mem_iff_getElem.1 hy
 have:=h.first j hj
 rw[Dr.itAt_get l j hj]at this
 exact this
theorem Dr.allL_spec(f:Nat): ∀l:List Dr.It,l.length<f->Dr.HeapT l->(Dr.allL f l).Perm l/\(Dr.allL f l).Pairwise Dr.leT:=by
 induction f with
 | zero=>intro l h;omega
 | succ f ih =>
  intro l hl hh
  unfold Dr.allL
  by_cases h0:l.length=0
  ·rw[if_pos h0,List.eq_nil_of_length_eq_zero h0]
   exact⟨List.Perm.refl _,List.Pairwise.nil⟩
  ·rw[if_neg h0]
   have hne:l≠[]:=λe=>h0 (by rw[e];rfl)
   obtain⟨h1,h2⟩:=Dr.take_heap l hh hne
   have h3:=Dr.takeL_length l
   obtain⟨p,q⟩:=ih (Dr.takeL l) (by omega) h1
   refine⟨(List.Perm.cons _ p).trans h2,List.pairwise_cons.2 ⟨λy hy=>?_,q⟩⟩
   exact hh.firstm (h2.mem_iff.1 (by simp[p.mem_iff.1 hy]))
structure TG (c:Cfg) (tk:List Dr.It) (R:List It):Prop where
 heap:Dr.HeapT tk
 len:(tk.length:Int)<=c.size+1
 ex:∃D:List Dr.It,(tk++D).Perm (R.map (tick c))/\(∀d∈D,Dr.dpos d/\∀y∈tk,Dr.leT d y)/\(D≠[]->(tk.length:Int)=c.size+1)
theorem TG.rel{c:Cfg}{tk:List Dr.It}{R:List It}(h:TG c tk R)(hs:1<=c.size)(y:It)(hy:Dr.dpos (tick c y)): TG c (zBo c tk y) (R++[y]):=by
 obtain⟨D,hp,hD,hDl⟩:=h.ex
 obtain⟨hh,hpm⟩:=Dr.put_heap tk (tick c y) h.heap hy
 have hlen:(Dr.riseL (tk.length+1) (tk++[tick c y]) tk.length).length=tk.length+1:=by rw[hpm.length_eq];rfl
 unfold zBo
 generalize Dr.riseL (tk.length+1) (tk++[tick c y]) tk.length=l1 at *
 have hl0:=h.len
 have hR:(R++[y]).map (tick c)=R.map (tick c)++[tick c y]:=by simp
 have hall:(tick c y::(tk++D)).Perm ((R++[y]).map (tick c)):=by
  rw[hR];exact(List.Perm.cons _ hp).trans (List.perm_append_singleton _ _).symm
 by_cases hgt:c.size+1<((tk.length+1:Nat):Int)
 ·rw[if_pos hgt]
  have hne:l1≠[]:=λe=>by rw[e]at hlen;simp at hlen
  obtain⟨t1,t2⟩:=Dr.take_heap l1 hh hne
  have t3:=Dr.takeL_length l1
  have hz:=fun {x:Dr.It} (hx:x∈l1)=>hh.firstm hx
  have hzm:Dr.itAt l1 0∈l1:=t2.mem_iff.1 (by simp)
  have hzp:=hh.okm hzm
  refine⟨t1,by omega,Dr.itAt l1 0::D,?_,λd hd=>?_,λ_=>by omega⟩
  ·refine List.Perm.trans ?_ hall
   refine List.perm_middle.trans ?_
   rw[<-List.cons_append]
   exact(t2.trans hpm).append_right D
  ·rcases List.mem_cons.1 hd with e | e
   ·rw[e];exact⟨hzp,λx hx=>hz (t2.mem_iff.1 (by simp[hx]))⟩
   ·refine⟨(hD d e).1,λx hx=>?_⟩
    rcases List.mem_cons.1 (hpm.mem_iff.1 hzm) with ez | ez
    ·
     have:(Dr.takeL l1).Perm tk:=by
      have h1:=t2.trans hpm
      rw[ez]at h1
      exact(List.perm_cons _).1 h1
     exact(hD d e).2 x (this.mem_iff.1 hx)
    ·have hxl:x∈l1:=t2.mem_iff.1 (by simp[hx])
     exact Dr.leT.trans hzp (hD d e).1 (hh.okm hxl) ((hD d e).2 _ ez) (hz hxl)
 ·rw[if_neg hgt]
  refine⟨hh,by omega,D,?_,λd hd=>?_,λhne=>?_⟩
  ·refine List.Perm.trans ?_ hall
   rw[<-List.cons_append]
   exact hpm.append_right D
  ·have:=hDl (List.ne_nil_of_mem hd)
   omega
  ·have:=hDl hne
   omega
theorem qN1{c:Cfg}{y:It}(h:OkI c 5 y): 1<=y.d/\y.d<=2147483648:=by
 have:=h.fit
 unfold qFr qJv at this
 simp only at this
 revert this
 repeat' split
 all_goals intro this
 all_goals first | omega | (simp_all [inB];done) | (simp_all [inB];omega)
theorem qZg{c:Cfg}{y:It}(h:OkI c 5 y): Dr.dpos (tick c y):=by
 have:=qN1 h
 unfold Dr.dpos Dr.dd tick
 show 0<y.d%18446744073709551616
 omega
def PT(c:Cfg)(_:Int)(nt:Note)(R:List It): Prop:=TG c nt.tk R
theorem zFh: NLaw 5 PT where
 zero:=λc m hv hk=>⟨⟨λj hj=>by simp[qSa]at hj,λi _ hi=>by simp[qSa]at hi⟩,by have:=qC9 (k:=5) hv hk rfl;show((0:Nat):Int)<=_;omega,[],List.Perm.refl _,λd hd=>by simp at hd,λh=>absurd rfl h⟩
 later:=λc m m' nt R _ _ hm h=>h
 rel:=λc m nt R y hv hk h hr hy _=>TG.rel h (qC9 (k:=5) hv hk rfl).1 y (qZg hy)
 swp:=λc m nt R b _ _ h=>h
def itR(z:RIt): It:=⟨z.t,z.k,z.d,z.n⟩
structure YI (clock:Int) (y:RSer) (A:List It):Prop where
 its:y.items.map itR=A
 tk:∀z,z∈y.items->0<=z.tick/\(0<z.tick↔z.t<=clock-y.c.lag)
theorem qNd{l:List RIt}{i:Nat}{t:Int}{z:RIt}(h:z∈qB0 l i t): z∈l\/z={ rAt l i with tick:=t }:=by
 unfold qB0 at h
 rcases List.mem_or_eq_of_mem_set h with e | e
 ·exact .inl e
 ·exact .inr e
theorem qV0(l:List RIt)(i:Nat)(t:Int)(hi:i<l.length): (qB0 l i t).map itR=l.map itR:=by
 unfold qB0
 rw[List.map_set]
 have:itR { rAt l i with tick:=t }=(l.map itR)[i]'(by rw[List.length_map];exact hi):=by
  rw[List.getElem_map,<-qCc l i hi];rfl
 rw[this,List.set_getElem_self]
theorem qXp(mark ticks:Int)(ht:0<ticks)(f:Nat): ∀y:RSer,(qA7 y.items).length<f->(∀z,z∈y.items->0<=z.tick) ->
  (qBf f y mark ticks).items.map itR=y.items.map itR/\(∀z,z∈(qBf f y mark ticks).items->0<=z.tick/\(z.tick=0->mark<z.t)/\(0<z.tick->z.t<=mark\/z∈y.items)):=by
 induction f with
 | zero=>intro y h;omega
 | succ f ih =>
  intro y hf hk
  unfold qBf
  rcases qFe y.items mark with ⟨h,hb⟩ | ⟨h1,h2,h3,h4⟩
  ·rw[if_pos (by omega)]
   exact⟨rfl,λz hz=>⟨hk z hz,hb z hz,λ_=>.inr hz⟩⟩
  ·rw[if_neg (by omega)]
   have hi:(qE8 y.items mark).toNat<y.items.length:=h2
   have hw:=qHw ticks (by omega) y.items (qE8 y.items mark).toNat hi h3
   obtain⟨i1,i2⟩:=ih { y with items:=qB0 y.items (qE8 y.items mark).toNat ticks,events:=y.events++[⟨(rAt y.items (qE8 y.items mark).toNat).t,mark,false,0⟩] } (by show(qA7 (qB0 _ _ _)).length<f;omega) (λz hz=>by
      rcases qNd hz with e | e
      ·exact hk z e
      ·rw[e];show 0<=ticks;omega)
   refine⟨i1.trans (qV0 _ _ _ hi),λz hz=>?_⟩
   obtain⟨j1,j2,j3⟩:=i2 z hz
   refine⟨j1,j2,λhp=>?_⟩
   rcases j3 hp with e | e
   ·exact .inl e
   ·rcases qNd e with e | e
    ·exact .inr e
    ·left;rw[e];exact h4
theorem zBy{clock nc ticks:Int}{y:RSer}{A:List It}(h:YI clock y A)(ht:0<ticks)(hc:clock<=nc): YI nc (qA6 nc ticks y) A:=by
 obtain⟨h1,h2⟩:=qXp (nc-y.c.lag) ticks ht (y.items.length+1) y (by have:=qCo y.items;omega) (λz hz=>(h.tk z hz).1)
 have hcc:(qA6 nc ticks y).c=y.c:=qHr _ _ _ _
 refine⟨h1.trans h.its,λz hz=>?_⟩
 obtain⟨j1,j2,j3⟩:=h2 z hz
 rw[hcc]
 refine⟨j1,λhp=>?_,λhle=>?_⟩
 ·rcases j3 hp with e | e
  ·exact e
  ·have:=(h.tk z e).2.1 hp;omega
 ·rcases Int.lt_or_eq_of_le j1 with e | e
  ·exact e
  ·have:=j2 e.symm;omega
theorem qYm{clock:Int}{y:RSer}{A:List It}(h:YI clock y A)(fr:Int): (qA5 y.items fr (clock-y.c.lag)).map itR=A.filter (λz=>decide (fr<z.t/\z.t<=clock-y.c.lag)):=by
 rw[<-h.its,List.filter_map]
 congr 1
 unfold qA5
 refine List.filter_congr (λz hz=>?_)
 have h2:=(h.tk z hz).2
 show _=decide (fr<z.t/\z.t<=clock-y.c.lag)
 by_cases h3:z.t<=clock-y.c.lag
 ·have:=h2.2 h3
  simp[h3,this]
 ·simp[h3]
theorem isM.uniq{v v':Int}{p:Int->Prop}(h:isM v p)(h':isM v' p): v=v':=by
 rcases h with ⟨h1,h2⟩ | ⟨h1,h2⟩
 ·rcases h' with ⟨k1,_⟩ | ⟨k1,_⟩
  ·rw[h1,k1]
  ·exact absurd k1 (h2 v')
 ·rcases h' with ⟨_,k2⟩ | ⟨k1,k2⟩
  ·exact absurd h1 (k2 v)
  ·have a:=h2 v' k1
   have b:=k2 v h1
   omega
theorem isM.congr{v:Int}{p q:Int->Prop}(h:isM v p)(hq:∀k,p k↔q k): isM v q:=by
 rcases h with ⟨h1,h2⟩ | ⟨h1,h2⟩
 ·exact .inl ⟨h1,λk hk=>h2 k ((hq k).2 hk)⟩
 ·exact .inr ⟨(hq v).1 h1,λk hk=>h2 k ((hq k).2 hk)⟩
theorem zC0{c:Cfg}{n:Nat}{G:List Int}{q:Nat->Int->Prop}(hl:G.length=n)(h:∀j,j<n->isM (G.getD j 0) (q j))(key:Int):
  ∀j,j<n->isM ((qV3 c n G key).getD j 0) (λk=>q j k\/(qI8 c n key=j/\qEv (qC0 c.s00 c.s01 key/n)=k)):=by
 intro j hj
 have hr:=(qKh (qC0 c.s00 c.s01 key/n)).1
 unfold qV3
 generalize qEv (qC0 c.s00 c.s01 key/n)=rk at *
 have hG:=h j hj
 by_cases hjr:qI8 c n key=j
 ·rw[hjr]
  by_cases hlt:G.getD j 0<rk
  ·rw[if_pos hlt]
   have e:(G.set j rk).getD j 0=rk:=by
    rw[List.getD_eq_getElem?_getD,List.getElem?_set];simp[show j<G.length by omega]
   rw[e]
   refine .inr ⟨.inr ⟨rfl,rfl⟩,λk hk=>?_⟩
   rcases hk with hk | hk
   ·rcases hG with ⟨_,h2⟩ | ⟨_,h2⟩
    ·exact absurd hk (h2 k)
    ·have:=h2 k hk;omega
   ·omega
  ·rw[if_neg hlt]
   rcases hG with ⟨h1,_⟩ | ⟨h1,h2⟩
   ·omega
   ·refine .inr ⟨.inl h1,λk hk=>?_⟩
    rcases hk with hk | hk
    ·exact h2 k hk
    ·omega
 ·have e:(if G.getD (qI8 c n key) 0<rk then G.set (qI8 c n key) rk else G).getD j 0=G.getD j 0:=by
   split
   ·rw[List.getD_eq_getElem?_getD,List.getElem?_set,if_neg hjr,List.getD_eq_getElem?_getD]
   ·rfl
  rw[e]
  exact hG.congr (λk=>⟨λhk=>.inl hk,λhk=>hk.elim id (λh=>absurd h.1 hjr)⟩)
theorem zAf(c:Cfg)(n:Nat)(l:List RIt): ∀(G:List Int) (q:Nat->Int->Prop),G.length=n->(∀j,j<n->isM (G.getD j 0) (q j)) ->
  ∀j,j<n->isM ((l.foldl (λG z=>qV3 c n G z.k) G).getD j 0) (λk=>q j k\/∃z,z∈l/\qI8 c n z.k=j/\qEv (qC0 c.s00 c.s01 z.k/n)=k):=by
 induction l with
 | nil=>intro G q _ h j hj;exact(h j hj).congr (λk=>⟨λhk=>.inl hk,λhk=>hk.elim id (λ⟨z,hz,_⟩=>by simp at hz)⟩)
 | cons z l ih =>
  intro G q hl h j hj
  rw[List.foldl_cons]
  refine(ih (qV3 c n G z.k) _ (by rw[qKy,hl]) (zC0 hl h z.k) j hj).congr (λk=>⟨λhk=>?_,λhk=>?_⟩)
  ·rcases hk with (hk | hk) | ⟨u,hu,hk⟩
   ·exact .inl hk
   ·exact .inr ⟨z,by simp,hk⟩
   ·exact .inr ⟨u,by simp[hu],hk⟩
  ·rcases hk with hk | ⟨u,hu,hk⟩
   ·exact .inl (.inl hk)
   ·rcases List.mem_cons.1 hu with e | e
    ·rw[e]at hk;exact .inl (.inr hk)
    ·exact .inr ⟨u,e,hk⟩
theorem zAx{c:Cfg}{n:Nat}{m T:Int}{rg:Nat->List Bk}{R:List It}{l:List RIt}(h:DG c n m rg R)(hT:m-c.window<=T)(hp:(l.map itR).Perm (R.filter (λy=>decide (T<y.t)))): qDr rg n T=qFj c n l:=by
 have hlen:(qDr rg n T).length=(qFj c n l).length:=by rw[qEd,qF1]
 refine List.ext_getElem hlen (λj h1 h2=>?_)
 have hj:j<n:=by rw[qEd]at h1;exact h1
 have e1:(qDr rg n T)[j]=qFm (rg j) T:=by simp[qDr]
 have e2:(qFj c n l)[j]=(qFj c n l).getD j 0:=by rw[List.getD_eq_getElem?_getD,List.getElem?_eq_getElem h2];rfl
 rw[e1,e2]
 refine(h.ex j T hT).uniq ?_
 have:=zAf c n l (List.replicate n 0) (λ_ _=>False) (by simp) (λj hj=>.inl ⟨by rw[List.getD_eq_getElem?_getD,List.getElem?_replicate,if_pos hj];rfl,λk hk=>hk⟩) j hj
 refine this.congr (λk=>⟨λhk=>?_,λhk=>?_⟩)
 ·rcases hk with hk | ⟨z,hz,h3,h4⟩
  ·exact hk.elim
  ·have hm:itR z∈R.filter (λy=>decide (T<y.t)):=hp.mem_iff.1 (List.mem_map_of_mem hz)
   obtain⟨m1,m2⟩:=List.mem_filter.1 hm
   exact⟨itR z,m1,by simpa using m2,h3,h4⟩
 ·obtain⟨r,hr,hrT,h3,h4⟩:=hk
  have hm:r∈l.map itR:=hp.mem_iff.2 (List.mem_filter.2 ⟨hr,by simpa using hrT⟩)
  obtain⟨z,hz,hzr⟩:=List.mem_map.1 hm
  exact .inr ⟨z,hz,by rw[<-hzr]at h3;exact h3,by rw[<-hzr]at h4;exact h4⟩
theorem qW7(c:Cfg)(m t:Int)(hL:1<=qA8 c): (m-c.window<(t/qA8 c+1)*qA8 c-1)↔(qJj c m-1<t):=by
 unfold qJj
 have a:=Int.emod_add_mul_ediv t (qA8 c)
 have a1:=Int.emod_nonneg t (show qA8 c≠0 by omega)
 have a2:=Int.emod_lt_of_pos t (show 0<qA8 c by omega)
 have b:=Int.emod_add_mul_ediv (m-c.window+1) (qA8 c)
 have b1:=Int.emod_nonneg (m-c.window+1) (show qA8 c≠0 by omega)
 have b2:=Int.emod_lt_of_pos (m-c.window+1) (show 0<qA8 c by omega)
 generalize t/qA8 c=x at *
 generalize(m-c.window+1)/qA8 c=y at *
 generalize qA8 c=L at *
 rw[Int.mul_comm y L,Int.mul_comm (x+1) L,Int.mul_add,Int.mul_one]
 constructor
 ·intro h
  rcases Int.lt_or_le x y with k | k
  ·have:=Int.mul_le_mul_of_nonneg_left (show x+1<=y by omega) (show 0<=L by omega)
   rw[Int.mul_add,Int.mul_one]at this
   omega
  ·have:=Int.mul_le_mul_of_nonneg_left k (show 0<=L by omega)
   omega
 ·intro h
  rcases Int.lt_or_le x y with k | k
  ·have:=Int.mul_le_mul_of_nonneg_left (show x+1<=y by omega) (show 0<=L by omega)
   rw[Int.mul_add,Int.mul_one]at this
   omega
  ·have:=Int.mul_le_mul_of_nonneg_left k (show 0<=L by omega)
   omega
theorem zC4{c:Cfg}{m key:Int}{o:Pa.Pn}{cl:List Pa.Pn}{R:List It}{l:List RIt}(h:OG c m o cl R)(hL:1<=qA8 c)(hrw:c.rowed)(hp:(l.map itR).Perm (R.filter (λy=>decide (qJj c m-1<y.t))))(j:Nat)(hj:(j:Int)<c.rows):
  qIc c (qCz c o cl (m-c.window)) key j=(qP4 c l key j:Int):=by
 have hb:=qHd c hrw key j
 have h1:qIc c (qCz c o cl (m-c.window)) key j=qOf (λr=>decide (m-c.window<(qQy c r+1)*qA8 c-1)&&qP2 c j (qBw c key j).toNat r) R:=h.counted hL hrw.r1 _ (Int.le_refl _) j _ hj (by omega)
 rw[h1]
 unfold qP4 qOf
 have e1:(l.filter (zCp c key j)).length=((l.map itR).filter (λr=>qBw c r.k j==qBw c key j)).length:=by
  rw[List.filter_map,List.length_map];rfl
 rw[e1,(hp.filter _).length_eq,List.filter_filter]
 congr 1
 refine congrArg List.length (List.filter_congr (λr _=>?_))
 have h2:=qW7 c m r.t hL
 unfold qQy qP2
 rw[Bool.eq_iff_iff]
 simp only[Bool.and_eq_true,decide_eq_true_eq,beq_iff_eq]
 constructor
 ·rintro ⟨k1,k2⟩;exact⟨by omega,h2.1 k1⟩
 ·rintro ⟨k1,k2⟩;exact⟨h2.2 k2,by omega⟩
theorem qZq{c:Cfg}{m key:Int}{o:Pa.Pn}{cl:List Pa.Pn}{R:List It}{l:List RIt}(h:OG c m o cl R)(hL:1<=qA8 c)(hrw:c.rowed)(hp:(l.map itR).Perm (R.filter (λy=>decide (qJj c m-1<y.t)))):
  zDt c o cl key m=qDy c l key c.rows.toNat:=by
 have hc:=λj hj=>zC4 (key:=key) h hL hrw hp j hj
 have key1:∀k:Nat,((k:Int)+1<=c.rows)->qH3 c (qCz c o cl (m-c.window)) key (k+1)=qDy c l key (k+1):=by
  intro k
  induction k with
  | zero =>
   intro hk
   have h0:=hc 0 (by omega)
   have h1:=qRz c l key 0
   show min (qIc c _ key 0) (qIc c _ key 0)=if (qP4 c l key 0:Int)<(l.length:Int) then(qP4 c l key 0:Int) else(l.length:Int)
   rw[h0]
   split <;> omega
  | succ k ih =>
   intro hk
   have h0:=hc (k+1) (by omega)
   show min (qH3 c _ key (k+1)) (qIc c _ key (k+1))=if (qP4 c l key (k+1):Int)<qDy c l key (k+1) then(qP4 c l key (k+1):Int) else qDy c l key (k+1)
   rw[ih (by omega),h0]
   split <;> omega
 unfold zDt
 have hr0:=hrw.r0
 obtain⟨k,hk⟩:∃k:Nat,c.rows.toNat=k+1:=⟨c.rows.toNat-1,by omega⟩
 rw[hk]
 exact key1 k (by omega)
theorem zE4{u v:Dr.It}(h1:Dr.leT u v)(h2:Dr.leT v u): u.n=v.n:=by
 unfold Dr.leT at h1 h2
 omega
theorem qPo{u v:Dr.It}(h:Dr.leT v u)(hn:u.n≠v.n): Dr.aheadT u v=true:=by
 cases hb:Dr.aheadT u v with
 | true=>rfl
 | false=>exact absurd (zE4 (Dr.not_ahead_leT (a:=v) (b:=u) hb) h) hn
theorem qRa{u v:Dr.It}(h:Dr.leT u v)(hn:u.n≠v.n): Dr.aheadT u v=false:=by
 cases hb:Dr.aheadT u v with
 | false=>rfl
 | true=>exact absurd (zE4 h (Dr.ahead_leT (a:=v) (b:=u) hb)) hn
theorem qT4(u:Dr.It): Dr.aheadT u u=false:=by
 unfold Dr.aheadT;rw[if_pos rfl];simp
def tkR(c:Cfg)(z:RIt): Dr.It:=tick c (itR z)
theorem qUw(c:Cfg)(x z:RIt)(xd:0<=x.d/\x.d<=2147483648)(zd:0<=z.d/\z.d<=2147483648): qNq c x z=Dr.aheadT (tkR c x) (tkR c z):=by
 have wx:=qFw c x.t
 have wz:=qFw c z.t
 unfold qNq Dr.aheadT tkR tick itR wtR
 simp only
 generalize qA3 (qAr c x.t)=a at *
 generalize qA3 (qAr c z.t)=b at *
 rw[Int.emod_eq_of_lt wx.1 (by omega),Int.emod_eq_of_lt wz.1 (by omega),Int.emod_eq_of_lt xd.1 (by omega),Int.emod_eq_of_lt zd.1 (by omega)]
 generalize a*z.d=p at *
 generalize b*x.d=q at *
 by_cases h:p=q
 ·rw[if_pos h];subst h;simp
 ·rw[if_neg h];simp[h]
theorem qR5(r:List Dr.It)(h:r.Pairwise (λa b=>Dr.aheadT a b=true/\Dr.aheadT b a=false))(p:Nat)(hp:p<r.length): r.filter (λu=>Dr.aheadT u r[p])=r.take p:=by
 have e:r=r.take p++r[p]::r.drop (p+1):=by
  rw[List.getElem_cons_drop,List.take_append_drop]
 conv=>lhs;arg 2;rw[e]
 rw[List.filter_append,List.filter_cons]
 have h2:=h
 rw[e]at h2
 have h3:=List.pairwise_append.1 h2
 have a1:(r.take p).filter (λu=>Dr.aheadT u r[p])=r.take p:=List.filter_eq_self.2 (λu hu=>(h3.2.2 u hu r[p] List.mem_cons_self).1)
 have a2:(r.drop (p+1)).filter (λu=>Dr.aheadT u r[p])=[]:=List.filter_eq_nil_iff.2 (λu hu=>by rw[((List.pairwise_cons.1 h3.2.1).1 u hu).2];simp)
 rw[a1,a2,qT4]
 simp
theorem qJ0(c:Cfg)(l l':List RIt)(p:Nat): ∀st,l'.foldl (qF4 c l p) st=(l'.filter (λz=>decide (qCn c l z=p))).foldl (qF4 c l p) st:=by
 induction l' with
 | nil=>intro st;rfl
 | cons z l' ih =>
  intro st
  rw[List.foldl_cons,List.filter_cons]
  by_cases h:qCn c l z=p
  ·rw[if_pos (by simpa using h),List.foldl_cons,ih]
  ·rw[if_neg (by simpa using h),ih]
   unfold qF4;rw[if_neg h]
structure Top (c:Cfg) (l:List RIt) (r D:List Dr.It):Prop where
 perm:(r++D).Perm (l.map (tkR c))
 num:((l.map (tkR c)).map (·.n)).Nodup
 fall:r.Pairwise (λa b=>Dr.aheadT a b=true/\Dr.aheadT b a=false)
 rest:∀d,d∈D->∀u,u∈r->Dr.aheadT u d=true/\Dr.aheadT d u=false
 size:D≠[]->(r.length:Int)=c.size+1
 len:(r.length:Int)<=c.size+1
 ds:∀z,z∈l->0<=z.d/\z.d<=2147483648
theorem Top.place{c:Cfg}{l:List RIt}{r D:List Dr.It}(h:Top c l r D)(z:RIt)(hz:z∈l): qCn c l z=((r++D).filter (λu=>Dr.aheadT u (tkR c z))).length:=by
 unfold qCn
 rw[(h.perm.filter _).length_eq,List.filter_map,List.length_map]
 refine congrArg List.length (List.filter_congr (λx hx=>qUw c x z (h.ds x hx) (h.ds z hz)))
theorem Top.at_r{c:Cfg}{l:List RIt}{r D:List Dr.It}(h:Top c l r D)(z:RIt)(hz:z∈l)(p:Nat)(hp:p<r.length)(he:tkR c z=r[p]): qCn c l z=p:=by
 rw[h.place z hz,he,List.filter_append,qR5 r h.fall p hp]
 have a2:D.filter (λu=>Dr.aheadT u r[p])=[]:=List.filter_eq_nil_iff.2 (λu hu=>by rw[(h.rest u hu r[p] (List.getElem_mem hp)).2];simp)
 rw[a2,List.append_nil,List.length_take];omega
theorem Top.at_D{c:Cfg}{l:List RIt}{r D:List Dr.It}(h:Top c l r D)(z:RIt)(hz:z∈l)(he:tkR c z∈D): (c.size+1:Int)<=(qCn c l z:Int):=by
 rw[h.place z hz,List.filter_append,List.length_append]
 have a1:r.filter (λu=>Dr.aheadT u (tkR c z))=r:=List.filter_eq_self.2 (λu hu=>(h.rest _ he u hu).1)
 rw[a1]
 have:=h.size (List.ne_nil_of_mem he)
 omega
theorem Top.only{c:Cfg}{l:List RIt}{r D:List Dr.It}(h:Top c l r D)(p:Nat)(hps:(p:Int)<=c.size):
  (∃hp:p<r.length,∃z,l.filter (λz=>decide (qCn c l z=p))=[z]/\tkR c z=r[p])\/(r.length<=p/\l.filter (λz=>decide (qCn c l z=p))=[]):=by
 have hmem:∀z,z∈l->qCn c l z=p->∃hp:p<r.length,tkR c z=r[p]:=by
  intro z hz hpl
  have hm:tkR c z∈r++D:=h.perm.mem_iff.2 (List.mem_map_of_mem hz)
  rcases List.mem_append.1 hm with e | e
  ·obtain⟨j,hj,hje⟩:=List.mem_iff_getElem.1 e
   have:=h.at_r z hz j hj hje.symm
   have hjp:j=p:=by omega
   subst hjp
   exact⟨hj,hje.symm⟩
  ·have:=h.at_D z hz e
   omega
 by_cases hp:p<r.length
 ·left
  refine⟨hp,?_⟩
  have hm:r[p]∈l.map (tkR c):=h.perm.mem_iff.1 (by simp[List.getElem_mem hp])
  obtain⟨z,hz,hze⟩:=List.mem_map.1 hm
  have hzp:=h.at_r z hz p hp hze
  have hnd:(l.filter (λz=>decide (qCn c l z=p))).map (λz=>(tkR c z).n) |>.Nodup:=by
   have h1:(l.map (λz=>(tkR c z).n)).Nodup:=by have:=h.num;rw[List.map_map]at this;exact this
   exact List.Nodup.sublist (List.filter_sublist.map _) h1
  have hall:∀u,u∈l.filter (λz=>decide (qCn c l z=p))->tkR c u=r[p]:=λu hu=>by
   obtain⟨m1,m2⟩:=List.mem_filter.1 hu
   obtain⟨_,e⟩:=hmem u m1 (by simpa using m2)
   exact e
  have hin:z∈l.filter (λz=>decide (qCn c l z=p)):=List.mem_filter.2 ⟨hz,by simpa using hzp⟩
  generalize l.filter (λz=>decide (qCn c l z=p))=fl at *
  cases fl with
  | nil=>simp at hin
  | cons a t =>
   cases t with
   | nil=>exact⟨a,rfl,hall a (by simp)⟩
   | cons b t =>
    exfalso
    rw[List.map_cons,List.map_cons]at hnd
    have:=(List.nodup_cons.1 hnd).1
    rw[hall a (by simp),hall b (by simp)]at this
    simp at this
 ·right
  refine⟨by omega,List.filter_eq_nil_iff.2 (λz hz hd=>?_)⟩
  obtain⟨hp',_⟩:=hmem z hz (by simpa using hd)
  exact hp hp'
theorem qUt(r:List Dr.It)(p:Nat)(hp:p<r.length): three (r.take (p+1))=three (r.take p)++[r[p].t,r[p].k,r[p].d]:=by
 rw[List.take_succ_eq_append_getElem hp,qFy];rfl
theorem Top.places{c:Cfg}{l:List RIt}{r D:List Dr.It}(h:Top c l r D): ∀p:Nat,(p:Int)<=c.size->qCi c l p=(three (r.take p),0,0):=by
 intro p
 induction p with
 | zero=>intro _;rfl
 | succ p ih =>
  intro hp
  have h1:=ih (by omega)
  show l.foldl (qF4 c l p) (qCi c l p)=_
  rw[h1,qJ0]
  rcases h.only p (by omega) with ⟨hpr,z,hz,hze⟩ | ⟨hpr,hz⟩
  ·rw[hz]
   have hpl:qCn c l z=p:=by
    have:z∈l.filter (λz=>decide (qCn c l z=p)):=by rw[hz];simp
    simpa using(List.mem_filter.1 this).2
   rw[qUt r p hpr,<-hze]
   show qF4 c l p _ z=_
   unfold qF4
   rw[if_pos hpl,if_pos (by omega)]
   rfl
  ·rw[hz,List.take_of_length_le hpr,List.take_of_length_le (by omega)];rfl
theorem Top.drawn{c:Cfg}{l:List RIt}{r D:List Dr.It}(h:Top c l r D)(hs:0<=c.size): qFv c l=three (r.take (min c.size.toNat r.length))++[(qKa c.size.toNat r).v,(qKa c.size.toNat r).d]:=by
 have hS:(c.size.toNat:Int)=c.size:=by omega
 have hpl:=h.places c.size.toNat (by omega)
 have e:qCi c l (c.size.toNat+1)=(three (r.take c.size.toNat),(qKa c.size.toNat r).v,(qKa c.size.toNat r).d):=by
  show l.foldl (qF4 c l c.size.toNat) (qCi c l c.size.toNat)=_
  rw[hpl,qJ0]
  unfold qKa
  rcases h.only c.size.toNat (by omega) with ⟨hpr,z,hz,hze⟩ | ⟨hpr,hz⟩
  ·rw[hz,if_pos hpr]
   have hpz:qCn c l z=c.size.toNat:=by
    have:z∈l.filter (λz=>decide (qCn c l z=c.size.toNat)):=by rw[hz];simp
    simpa using(List.mem_filter.1 this).2
   rw[Dr.itAt_get r _ hpr,<-hze]
   show qF4 c l c.size.toNat _ z=_
   unfold qF4
   rw[if_pos hpz,if_neg (by omega),if_pos hS]
   rfl
  ·rw[hz,if_neg (by omega)];rfl
 unfold qFv
 rw[e]
 simp only
 congr 2
 by_cases hle:c.size.toNat<=r.length
 ·rw[Nat.min_eq_left hle]
 ·rw[Nat.min_eq_right (by omega),List.take_of_length_le (by omega),List.take_of_length_le (Nat.le_refl _)]
theorem RelL.ids{xs:List Ser}{ys:List RSer}(h:RelL xs ys): xs.map (·.id)=ys.map (·.id):=by
 induction xs generalizing ys with
 | nil=>cases ys with | nil=>rfl | cons y ys=>exact h.elim
 | cons x xs ih=>cases ys with | nil=>exact h.elim | cons y ys=>rw[List.map_cons,List.map_cons,ih h.2,h.1.id]
theorem qPu{xs:List RSer}{id:Int}{y z:RSer}(hn:(xs.map (·.id)).Nodup)(h:z∈qL0 xs id y): z=y\/(z∈xs/\z.id≠id):=by
 induction xs with
 | nil=>simp[qL0]at h
 | cons a xs ih =>
  rw[List.map_cons]at hn
  have hn2:=List.nodup_cons.1 hn
  unfold qL0 at h
  by_cases ha:a.id=id
  ·rw[if_pos (by simpa using ha)]at h
   rcases List.mem_cons.1 h with e | e
   ·exact .inl e
   ·refine .inr ⟨by simp[e],λhz=>hn2.1 ?_⟩
    rw[ha,<-hz];exact List.mem_map_of_mem e
  ·rw[if_neg (by simpa using ha)]at h
   rcases List.mem_cons.1 h with e | e
   ·exact .inr ⟨by simp[e],by rw[e];exact ha⟩
   ·rcases ih hn2.2 e with k | ⟨k1,k2⟩
    ·exact .inl k
    ·exact .inr ⟨by simp[k1],k2⟩
theorem qLm(f:Nat): ∀(y:RSer) (mark ticks:Int),(qBf f y mark ticks).id=y.id:=by
 induction f with
 | zero=>intro y mark ticks;rfl
 | succ f ih =>
  intro y mark ticks
  unfold qBf
  split
  ·rfl
  ·exact ih _ _ _
theorem qNu(nc tk:Int): ∀(ys:List RSer) (b:Int) (y:RSer),y∈(qBa nc tk b ys).1->∃y0,y0∈ys/\y.id=y0.id/\y.c=y0.c/\y.items=(qA6 nc tk y0).items:=by
 intro ys
 induction ys with
 | nil=>intro b y hy;simp[qBa]at hy
 | cons a ys ih =>
  intro b y hy
  unfold qBa at hy
  split at hy
  ·rcases List.mem_cons.1 hy with e | e
   ·exact⟨a,by simp,by rw[e];exact qLm _ _ _ _,by rw[e];exact qHr _ _ _ _,by rw[e];rfl⟩
   ·obtain⟨y0,h1,h2⟩:=ih _ y e
    exact⟨y0,by simp[h1],h2⟩
  ·rcases List.mem_cons.1 hy with e | e
   ·exact⟨a,by simp,by rw[e];exact qLm _ _ _ _,by rw[e];exact qHr _ _ _ _,by rw[e]⟩
   ·obtain⟨y0,h1,h2⟩:=ih _ y e
    exact⟨y0,by simp[h1],h2⟩
structure JW (s:WS) (r:RWS) (A:Int->List It):Prop where
 rel:RelW false s r
 its:∀y,y∈r.xs->YI r.clock y (A y.id)
theorem zEq{n:Int}{s:WS}{r:RWS}{A:Int->List It}(hi:EInv n s.clock s.xs)(hn:n<4611686018427387904)(hg:GW 2 PD s A)(h:JW s r A)(o:OpM)(ho:okOp false o): JW (qCb s o).1 (goR r o) (λid=>A id++qPr s o id):=by
 obtain⟨s1,s2⟩:=qPl false s r o h.rel ho hi hn
 have hids:(r.xs.map (·.id)).Nodup:=by rw[<-h.rel.xs.ids];exact hg.ids
 refine⟨s2,λy hy=>?_⟩
 by_cases h4:o.kind=4\/o.kind=5
 ·have e:goR r o=r:=by unfold goR;rw[if_pos h4]
  rw[e]at hy ⊢
  rw[qDx (.inl (by omega)),List.append_nil]
  exact h.its y hy
 have e:goR r o=(qEk r o).1:=by unfold goR;rw[if_neg h4]
 have e2:zE5 r o=(qEk r o).2:=by unfold zE5;rw[if_neg (by omega),if_neg (by omega)]
 rw[e2]at s1
 rw[e]at hy ⊢
 by_cases h1:o.kind=1
 ·have hs:qEk r o=qC3 r o:=by unfold qEk;rw[if_pos h1]
  rw[hs]at hy ⊢
  show YI _ y (A y.id++qPr s o y.id)
  rw[qDx (.inl (by omega)),List.append_nil]
  unfold qC3 at hy ⊢
  by_cases c1:inB o.id 0 99=true/\(qI2 r.xs o.id).isNone=true
  ·rw[if_pos c1]at hy ⊢
   by_cases c2:qA0 o.cfg=true
   ·rw[if_pos c2]at hy ⊢
    by_cases c3:r.xs.length=6
    ·rw[if_pos c3]at hy ⊢;exact h.its y hy
    ·rw[if_neg c3]at hy ⊢
     rcases List.mem_append.1 hy with k | k
     ·exact h.its y k
     ·rw[List.mem_singleton]at k
      subst k
      have hA:A o.id=[]:=hg.none o.id (λhm=>by
         rw[h.rel.xs.ids]at hm
         obtain⟨u,hu,hui⟩:=List.mem_map.1 hm
         have:=c1.2
         unfold qI2 at this
         rw[Option.isNone_iff_eq_none,List.find?_eq_none]at this
         exact this u hu (by simpa using hui))
      exact⟨by show[]=A o.id;rw[hA],λz hz=>by simp[qLx]at hz⟩
   ·rw[if_neg c2]at hy ⊢;exact h.its y hy
  ·rw[if_neg c1]at hy ⊢;exact h.its y hy
 by_cases h2:o.kind=2
 ·have hs:qEk r o=zDs r o:=by unfold qEk;rw[if_neg h1,if_pos h2]
  rw[hs]at hy s1 ⊢
  show YI _ y (A y.id++qPr s o y.id)
  unfold zDs at hy s1 ⊢
  cases hf:qI2 r.xs o.id with
  | none =>
   rw[hf]at hy s1
   simp only at hy s1 ⊢
   rw[qDx (.inr (by rw[s1];simp)),List.append_nil]
   exact h.its y hy
  | some x =>
   rw[hf]at hy s1
   simp only at hy s1 ⊢
   have hxm:x∈r.xs:=List.mem_of_find?_eq_some hf
   have hxi:x.id=o.id:=by have:=List.find?_some hf;simpa using this
   by_cases hr:qB6 x r.clock o=0
   ·rw[if_pos hr]at hy s1 ⊢
    rcases qPu hids hy with k | ⟨k1,k2⟩
    ·subst k
     have hx:=h.its x hxm
     have ha:qPr s o (qUa x o).id=[⟨o.a,o.b,o.c,(x.items.length:Int)+1⟩]:=by
      unfold qPr
      rw[if_pos ⟨h2,hxi.symm,by rw[s1]⟩,s1]
      rfl
     rw[ha]
     have hlate:¬o.a<=r.clock-x.c.lag:=by
      intro hl
      unfold qB6 at hr
      rw[if_pos hl]at hr
      split at hr <;> omega
     refine⟨?_,λz hz=>?_⟩
     ·show(x.items++[_]).map itR=A x.id++_
      rw[List.map_append,hx.its];rfl
     ·rcases List.mem_append.1 hz with e | e
      ·exact hx.tk z e
      ·rw[List.mem_singleton]at e
       subst e
       exact⟨Int.le_refl _,λhp=>absurd hp (by show ¬(0:Int)<0;omega),λhl=>absurd hl hlate⟩
    ·have ha:qPr s o y.id=[]:=by unfold qPr;rw[if_neg (λhh=>k2 hh.2.1.symm)]
     rw[ha,List.append_nil];exact h.its y k1
   ·rw[if_neg hr]at hy s1 ⊢
    rw[qDx (.inr (by rw[s1];exact hr)),List.append_nil]
    rcases qPu hids hy with k | ⟨k1,_⟩
    ·subst k
     have hx:=h.its x hxm
     exact⟨hx.its,hx.tk⟩
    ·exact h.its y k1
 rw[qDx (.inl h2),List.append_nil]
 by_cases h3:o.kind=3
 ·have hs:qEk r o=qT0 r o:=by unfold qEk;rw[if_neg h1,if_neg h2,if_pos h3]
  rw[hs]at hy ⊢
  unfold qT0 at hy ⊢
  split at hy
  ·rename_i c1
   rw[if_pos c1]
   split at hy
   ·rename_i c2
    rw[if_pos c2]
    obtain⟨y0,k1,k2,k3,k4⟩:=qNu _ _ _ _ _ hy
    have hcn:r.clock<=qDw r.clock o.a:=by unfold qDw;split <;> omega
    have ht:=zBy (ticks:=r.ticks+1) (h.its y0 k1) (by have:=h.rel.ticks;omega) hcn
    refine⟨by rw[k4,k2];exact ht.its,λz hz=>?_⟩
    rw[k4]at hz
    have:=ht.tk z hz
    rw[show(qA6 (qDw r.clock o.a) (r.ticks+1) y0).c=y0.c from qHr _ _ _ _]at this
    rw[k3];exact this
   ·rename_i c2
    rw[if_neg c2];exact h.its y hy
  ·rename_i c1
   rw[if_neg c1];exact h.its y hy
 ·have hs:qEk r o=(r,1,[]):=by unfold qEk;rw[if_neg h1,if_neg h2,if_neg h3]
  rw[hs]at hy ⊢
  exact h.its y hy
end
end Go.Proofs.YtahnliehdjncdaaGreatDoor
