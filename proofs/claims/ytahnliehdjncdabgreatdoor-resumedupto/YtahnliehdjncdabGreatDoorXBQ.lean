import Derived.Test.YtahnliehdjncdabGreatDoorXBO
set_option maxRecDepth 100000
set_option maxHeartbeats 16000000
namespace Go.Proofs.YtahnliehdjncdabGreatDoor
section
open Go.RowKit
attribute [local go_sem ↓] Mk.execOp_fieldMk
attribute [local go_sem] Mk.run_fieldMk0 Mk.run_fieldMk1
theorem qTj(d rg r kn n:Nat)(qs0:List (Nat×Option Nat))(c:Cfg)(m acc rel:Int)(nv:Value)(lv:Nat->List Bk)(tl:List Nat)(w:World)(h:DRep w d rg qs0 c (λ_=>[]))(hn:qs0.length=n)(hr:RdRep w r (qBe (qKi lv n 0)++tl))(hk:Blk w kn (qEl m acc rel nv) 184)(hap:d≠r/\rg≠r/\(∀j,j<qs0.length->¬qf (qAt qs0 j) r))(hkn:kn≠r/\(∀j,j<qs0.length->¬qf (qAt qs0 j) kn))(hc:LdD m rel n lv)(n16:n<=16)(m1:m<=4611686018427387904):
  Calls Tryz.prog 157 #[.pointer (some ⟨d,0,none⟩),.pointer (some ⟨r,0,none⟩),.pointer (some ⟨kn,0,none⟩)] w λe w'=>e=.returned (.tuple #[])/\∃ls qs,(∀j,j<n->ls j=lv j)/\DL w d rg r qs0 c ls tl qs w':=by
 have hrl:=hr.blk.lt
 have HCK:=hide (show ∀w',Keeps (λa=>a=r\/∃j,j<qs0.length/\qf (qAt qs0 j) a) w w'->w'.cell? ⟨kn,0,none⟩=some (.int .i64 m)/\w'.cell? ⟨kn,2,none⟩=some (.int .i64 rel) from λw' hkp=>by
    have hn:¬(kn=r\/∃j,j<qs0.length/\qf (qAt qs0 j) kn):=λe=>e.elim hkn.1 (λ⟨j,hj,e⟩=>hkn.2 j hj e)
    exact⟨(hk.keeps hkp hn).cell rfl,(hk.keeps hkp hn).cell rfl⟩)
 have HKL:=hide (show kn<w.heap.size from hk.lt)
 have HDL:=hide (show DL w d rg r qs0 c (λ_=>[]) (qBe (qKi lv n 0)++tl) qs0 w from⟨h,hr,rfl,λi a hi hf=>.inl ⟨i,hi,hf⟩,Keeps.refl _ _,⟨hap.1,hap.2.1,hap.2.2,hrl⟩⟩)
 have HC:=hide hc
 have c20:w.cell? ⟨d,20,none⟩=some (.slice (some ⟨rg,0,none⟩) n n):=by rw[<-hn];exact h.blk.cell rfl
 have HN:=hide hn
 clear h hr hk hc hap hkn hn
 go_enter Tryz.func157,Tryz.ntmps157
 go_wp2_with fail
 clear c20
 go_loopw [6,15] (λa iv wr=>∃(it i k:Nat) (ls:Nat->List Bk) (qs:List (Nat×Option Nat)),a=.int .i64 (it:Int)/\iv=.int .i64 (i:Int)/\i+k=n/\it<=40*i/\Hid (it+qO8 lv k i=qO8 lv n 0)/\Hid (∀j,(j<i->ls j=lv j)/\(i<=j->ls j=[]))/\Hid (DL w d rg r qs0 c ls (qBe (qKi lv k i)++tl) qs wr)) (λ_ iv _=>n-(intOf iv).toNat)
 case atStart=>exact⟨0,0,n,λ_=>[],qs0,rfl,rfl,by omega,by omega,by show _=_;omega,λj=>⟨λh=>by omega,λ_=>rfl⟩,HDL⟩
 case round =>
  clear HDL
  obtain⟨it,i,k,ls,qs,rfl,rfl,hik,hit,HLN,HLS,HL⟩:=hrel
  cases k with
  | zero =>
   have hin:i=n:=by omega
   subst hin
   have hf':decide ((i:Int)<(i:Int))=false:=by simp
   obtain⟨ck0,ck2⟩:=uh HCK wr (uh HL).kp
   have hle:decide ((it:Int)<=rel)=true:=by
    have h1:=(uh HC).sum
    have h2:=uh HLN
    rw[qO8]at h2
    simp only[decide_eq_true_eq]
    omega
   go_wp2_with fail
   refine(qEr r _).mono ?_
   rintro e w5 ⟨rfl,hw5⟩
   rw[hw5]
   clear hw5 w5
   go_wp2
   go_end0
   exact⟨rfl,ls,qs,λj hj=>((uh HLS) j).1 hj,uh HL⟩
  | succ k =>
   have hin:i<n:=by omega
   have hiI:(i:Int)<(n:Int):=by omega
   have hi0:(0:Int)<=(i:Int):=by omega
   have HIQ:=hide (show i<qs.length by rw[(uh HL).ln,uh HN];exact hin)
   obtain⟨q,hq⟩:∃q,(qAt qs i).1=q:=⟨_,rfl⟩
   have cr:wr.cell? ⟨rg,i,none⟩=some (.pointer (some ⟨q,0,none⟩)):=by rw[<-hq];exact(uh HL).dr.reg.cell (qGk (uh HIQ))
   obtain⟨L,hL⟩:∃L,(lv i).length=L:=⟨_,rfl⟩
   have hL40:L<=40:=by rw[<-hL];exact(uh HC).len i
   have HLL:=hide hL
   have HQ:=hide hq
   have HLa:=hide (show DL w d rg r qs0 c ls (enc (L:Int)++(qBe (qDm (lv i))++(qBe (qKi lv k (i+1))++tl))) qs wr by
      have:=uh HL
      rw[qKi,qAy,qAk,hL]at this
      simpa only[List.append_assoc] using this)
   clear hL hq HL
   go_wp2_with fail
   have HBX:=hide (show Blk (wr.alloc (.cells #[.int .i64 (-1),.int .i64 41] 225)) wr.heap.size [.int .i64 (-1),.int .i64 41] 225 from Blk.new wr [_,_] _)
   have HLb:=hide ((uh HLa).still ((Keeps.refl (λ_=>False) wr).alloc (.cells #[.int .i64 (-1),.int .i64 41] 225)))
   have HZX:=hide (show wr.heap.size≠d/\wr.heap.size≠rg/\wr.heap.size≠r/\w.heap.size<=wr.heap.size/\(∀j,j<qs.length->¬qf (qAt qs j) wr.heap.size) by
      have h1:=(uh HLa).dr
      refine⟨by have:=h1.blk.lt;omega,by have:=h1.reg.lt;omega,by have:=(uh HLa).rd.blk.lt;omega,(uh HLa).kp.size,λj hj f=>?_⟩
      rcases f with f | f
      ·have:=(h1.row j hj).lt.1;omega
      ·have:=((h1.row j hj).lt.2 _ f).1;omega)
   clear HLa cr
   generalize(wr.alloc (.cells #[.int .i64 (-1),.int .i64 41] 225))=w2 at *
   generalize wr.heap.size=bx at *
   refine((uh HLb).number (by omega) (by omega) (by omega) (by omega)).mono ?_
   rintro e w3 ⟨rfl,hl3,hk3⟩
   have HL3:=hide hl3
   have HB3:=hide ((uh HBX).keeps hk3 (uh HZX).2.2.1)
   clear hl3 hk3 HLb HBX
   go_wp2_with fail
   go_loopw [6,22] (λa iv wr=>∃(it2 j:Nat) (lt lr:Int) (ls2:Nat->List Bk) (qs2:List (Nat×Option Nat)),a=.int .i64 (it2:Int)/\iv=.int .i64 (j:Int)/\j<=L/\it2=it+j/\-1<=lt/\lt<=4611686018427387904/\1<=lr/\lr<=41/\Hid (∀b,b∈(lv i).drop j->lt<b.sz/\b.t<lr)/\Hid (∀p,(p<i->ls2 p=lv p)/\(p=i->ls2 p=(lv i).take j)/\(i<p->ls2 p=[]))/\Hid ((qAt qs2 i).1=q)/\Hid (∀j,j<qs2.length->¬qf (qAt qs2 j) bx)/\Hid (Blk wr bx [.int .i64 lt,.int .i64 lr] 225)/\Hid (DL w d rg r qs0 c ls2 (qBe (qDm ((lv i).drop j))++(qBe (qKi lv k (i+1))++tl)) qs2 wr)) (λ_ iv _=>L-(intOf iv).toNat)
   case atStart =>
    exact⟨it,0,-1,41,ls,qs,rfl,rfl,Nat.zero_le _,rfl,by omega,by omega,by omega,by omega,λb hb=>by have:=(uh HC).tm i b hb;omega,λp=>⟨((uh HLS) p).1,λe=>by rw[((uh HLS) p).2 (by omega),List.take_zero],λe=>((uh HLS) p).2 (by omega)⟩,HQ,(uh HZX).2.2.2.2,HB3,HL3⟩
   case round =>
    clear HL3 HB3 HLS HQ
    obtain⟨it2,j,lt,lr,ls2,qs2,rfl,rfl,hj,hit2,lt0,lt1,lr0,lr1,HBD,HLS,HQ,HQB,HB,HL⟩:=hrel
    by_cases hjL:j<L
    ·obtain⟨b,hb⟩:∃b,(lv i)[j]?=some b:=⟨_,List.getElem?_eq_getElem (by rw[uh HLL];exact hjL)⟩
     have HDR:=hide (show(lv i).drop j=b::(lv i).drop (j+1) by
        have hlt:=List.getElem?_eq_some_iff.1 hb
        rw[List.drop_eq_getElem_cons hlt.1,hlt.2])
     have HTK:=hide (show(lv i).take (j+1)=(lv i).take j++[b] by rw[List.take_add_one,hb];rfl)
     have hbl:=uh HBD b (by rw[uh HDR];simp)
     have hbt:=(uh HC).tm i b (List.mem_of_getElem? hb)
     have HBN:=hide (show ∀x,x∈(lv i).drop (j+1)->b.sz<x.sz/\x.t<b.t by
        have h1:=(uh HC).srt i
        rw[<-List.take_append_drop j (lv i)]at h1
        have h2:=(List.pairwise_append.1 h1).2.1
        rw[uh HDR]at h2
        exact(List.pairwise_cons.1 h2).1)
     have HLa:=hide (show DL w d rg r qs0 c ls2 (enc b.sz++(enc b.t++(qBe (qDm ((lv i).drop (j+1)))++(qBe (qKi lv k (i+1))++tl)))) qs2 wr by
        have h:=uh HL
        rw[uh HDR]at h
        simpa only[qDm,List.flatMap_cons,qAy,qAk,qB8,List.nil_append,List.append_assoc,List.cons_append] using h)
     have HIQ2:=hide (show i<qs2.length by rw[(uh HL).ln,uh HN];exact hin)
     have HBLT:=hide (uh HB).lt
     obtain⟨bs,hbs⟩:∃s,b.sz=s:=⟨_,rfl⟩
     obtain⟨bt,hbt2⟩:∃s,b.t=s:=⟨_,rfl⟩
     rw[hbs,hbt2]at hbl hbt HBN HLa
     obtain⟨hb1,hb2⟩:=hbl
     obtain⟨hb3,hb4,hb5,hb6⟩:=hbt
     have hbv:b.val=.agg #[.int .i64 bs,.int .i64 bt]:=by rw[<-hbs,<-hbt2];rfl
     obtain⟨ck0,ck2⟩:=uh HCK wr (uh HL).kp
     have x0:wr.cell? ⟨bx,0,none⟩=some (.int .i64 lt):=(uh HB).cell rfl
     have x1:wr.cell? ⟨bx,1,none⟩=some (.int .i64 lr):=(uh HB).cell rfl
     have xf:=(uh HB).frozen
     have hjI:(j:Int)<(L:Int):=by omega
     have wl:IntKind.i64.wrap (lt+1)=lt+1:=by rw[IntKind.wrap_i64];omega
     have wr1:IntKind.i64.wrap (lr-1)=lr-1:=by rw[IntKind.wrap_i64];omega
     have HXR:=hide (show bx≠r from(uh HZX).2.2.1)
     clear HL hbs hbt2 hb
     go_wp2_with fail
     go_region_with (first | (go_at_call 88;refine(hl5.number (lo:=1) (hi:=lr-1) (by omega) (by omega) hb5 (by omega)).mono ?_;rintro e w6 ⟨rfl,hl6,hk6⟩;have hB6:=hB5.keeps hk6 (uh HXR);have z0:=hB6.cell (i:=0) rfl;have z1:=hB6.cell (i:=1) rfl;have zf:=hB6.frozen) | (go_at_call 88;refine(((uh HLa).still ((Keeps.refl (λ_=>False) wr).drew)).number (lo:=lt+1) (hi:=m) hb3 (by omega) (by omega) hb4).mono ?_;rintro e w5 ⟨rfl,hl5,hk5⟩;have hB5:=((uh HB).drew).keeps hk5 (uh HXR);have y1:=hB5.cell (i:=1) rfl))
     all_goals
      have HLc:=hide (hl6.new (bx:=bx) (((Keeps.refl (λi=>i=bx) w6).setCell (p:=⟨bx,0,none⟩) (Or.inl rfl) (.int .i64 bs)).setCell (p:=⟨bx,1,none⟩) (Or.inl rfl) (.int .i64 bt)) ⟨(uh HZX).1,(uh HZX).2.1,(uh HZX).2.2.1,(uh HZX).2.2.2.1⟩ (uh HQB))
      have HBc:=hide (show Blk _ bx [.int .i64 bs,.int .i64 bt] 225 from(hB6.setCell 0 (.int .i64 bs)).setCell 1 (.int .i64 bt))
      clear hl6 hk6 hB6 z0 z1 zf hl5 hk5 hB5 y1 ck0 ck2 x0 x1 xf HLa HB
      generalize((w6.setCell ⟨bx,0,none⟩ (.int .i64 bs)).setCell ⟨bx,1,none⟩ (.int .i64 bt))=w7 at *
      have v0:w7.cell? ⟨bx,0,none⟩=some (.int .i64 bs):=(uh HBc).cell rfl
      have v1:w7.cell? ⟨bx,1,none⟩=some (.int .i64 bt):=(uh HBc).cell rfl
      have HPT:=hide (Mk.rowPut_any q (qAt qs2 i).2 (ls2 i) b w7 (by rw[<-uh HQ];exact(uh HLc).dr.row i (uh HIQ2)) (by rw[((uh HLS) i).2.1 rfl,List.length_take];omega))
      rw[hbv]at HPT
      have wi:IntKind.i64.wrap ((it2:Int)+1)=(it2:Int)+1:=by rw[IntKind.wrap_i64];omega
      go_wp2_with fail
      refine(uh HPT).mono ?_
      rintro e w8 ⟨rfl,og,hr8,hk8,hog⟩
      have HLd:=hide ((uh HLc).put (x:=b) (uh HIQ2) (by rw[uh HQ];exact hr8) (by rw[uh HQ];exact hk8) hog)
      have HQd:=hide (show ∀j,j<(qs2.set i ((qAt qs2 i).1,og)).length->¬qf (qAt (qs2.set i ((qAt qs2 i).1,og)) j) bx from zHb hog (uh HBc).lt (uh HQB))
      have HBd:=hide ((uh HBc).keeps hk8 (λf=>uh HQB i (uh HIQ2) (by rw[<-uh HQ]at f;exact f)))
      have HQe:=hide (show(qAt (qs2.set i ((qAt qs2 i).1,og)) i).1=q by
         rw[<-uh HQ]
         unfold qAt
         simp[List.getD_eq_getElem?_getD,uh HIQ2])
      clear hr8 hk8 hog HPT HLc HBc v0 v1
      go_wp2
      go_roundw
      case rel=>exact⟨it2+1,j+1,bs,bt,_,_,by go_num,by go_num,by omega,by omega,by omega,by omega,by omega,by omega,HBN,λp=>⟨λe=>by unfold zGt;rw[if_neg (by omega)];exact((uh HLS) p).1 e,λe=>by unfold zGt;rw[if_pos e,uh HTK,((uh HLS) i).2.1 rfl],λe=>by unfold zGt;rw[if_neg (by omega)];exact((uh HLS) p).2.2 e⟩,HQe,HQd,HBd,HLd⟩
      case measure=>simp[intOf];omega
    ·have hjE:j=L:=by omega
     subst hjE
     have hf':decide ((j:Int)<(j:Int))=false:=by simp
     have HE:=hide (show(lv i).drop j=[] by rw[<-uh HLL];exact List.drop_length)
     have HT:=hide (show(lv i).take j=lv i by rw[<-uh HLL];exact List.take_length)
     have HLz:=hide (show DL w d rg r qs0 c ls2 (qBe (qKi lv k (i+1))++tl) qs2 wr by
        have h:=uh HL
        rw[uh HE]at h
        simpa only[qDm,List.flatMap_nil,qB8,List.nil_append] using h)
     clear HL
     go_wp2
     go_roundw
     case rel=>exact⟨it2,i+1,k,ls2,qs2,rfl,by go_num,by omega,by omega,by have h1:=uh HLN;rw[qO8,uh HLL]at h1;show _=_;omega,λp=>⟨λe=>(Nat.lt_or_ge p i).elim (λhp=>((uh HLS) p).1 hp) (λhp=>by rw[((uh HLS) p).2.1 (by omega),uh HT,show p=i by omega]),λe=>((uh HLS) p).2.2 (by omega)⟩,HLz⟩
     case measure=>simp[intOf];omega
end
end Go.Proofs.YtahnliehdjncdabGreatDoor
