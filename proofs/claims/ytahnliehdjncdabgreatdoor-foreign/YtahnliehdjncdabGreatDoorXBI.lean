import Derived.Test.YtahnliehdjncdabGreatDoorXBH
set_option maxRecDepth 100000
set_option maxHeartbeats 16000000
namespace Go.Proofs.YtahnliehdjncdabGreatDoor
section
open Go.RowKit
attribute [local go_sem ↓] Mk.execOp_fieldMk
attribute [local go_sem] Mk.run_fieldMk0 Mk.run_fieldMk1
theorem qUb(d rg r kn n:Nat)(qs0:List (Nat×Option Nat))(c:Cfg)(m acc rel:Int)(nv:Value)(st:Option (List Nat))(w:World)(h:DRep w d rg qs0 c (λ_=>[]))(hn:qs0.length=n)(hr:RdS w r st)(hk:Blk w kn (qGb m acc rel nv) 184)(hap:d≠r/\rg≠r/\(∀j,j<qs0.length->¬qf (qAt qs0 j) r))(hkn:kn≠r/\(∀j,j<qs0.length->¬qf (qAt qs0 j) kn))(n16:n<=16)(m1:m<=4611686018427387904):
  Calls Tryz.prog 157 #[.pointer (some ⟨d,0,none⟩),.pointer (some ⟨r,0,none⟩),.pointer (some ⟨kn,0,none⟩)] w λe w'=>e=.returned (.tuple #[])/\∃qs,DLg w d rg r qs0 c (qYe m rel n st).1 (qYe m rel n st).2 qs w':=by
 have hrl:=hr.lt
 have HCK:=hide (show ∀w',Keeps (λa=>a=r\/∃j,j<qs0.length/\qf (qAt qs0 j) a) w w'->w'.cell? ⟨kn,0,none⟩=some (.int .i64 m)/\w'.cell? ⟨kn,2,none⟩=some (.int .i64 rel) from λw' hkp=>by
    have hn:¬(kn=r\/∃j,j<qs0.length/\qf (qAt qs0 j) kn):=λe=>e.elim hkn.1 (λ⟨j,hj,e⟩=>hkn.2 j hj e)
    exact⟨(hk.keeps hkp hn).cell rfl,(hk.keeps hkp hn).cell rfl⟩)
 have HDL:=hide (show DLg w d rg r qs0 c (λ_=>[]) st qs0 w from⟨h,hr,rfl,λi a hi hf=>.inl ⟨i,hi,hf⟩,Keeps.refl _ _,⟨hap.1,hap.2.1,hap.2.2,hrl⟩⟩);have c20:w.cell? ⟨d,20,none⟩=some (.slice (some ⟨rg,0,none⟩) n n):=by rw[<-hn];exact h.blk.cell rfl
 have HN:=hide hn;unfold qYe;obtain⟨s1,hs1⟩:∃s1,qTb m n 0 ⟨0,λ_=>[],st⟩=s1:=⟨_,rfl⟩;rw[hs1];have HR:=hide hs1;simp only;obtain⟨stE,hstE⟩:∃stE,qEm (decide ((s1.it:Int)<=rel)) s1.st=stE:=⟨_,rfl⟩;rw[hstE];have HSE:=hide hstE;clear h hr hk hap hkn hn hs1 hstE;go_enter Tryz.func157,Tryz.ntmps157
 go_wp2_with fail
 clear c20;go_loopw [6,15] (λa iv wr=>∃(s:RR) (i k:Nat) (qs:List (Nat×Option Nat)),a=.int .i64 (s.it:Int)/\iv=.int .i64 (i:Int)/\i+k=n/\s.it<=40*i/\Hid (qTb m k i s=s1)/\Hid (∀j,i<=j->s.ls j=[])/\Hid (DLg w d rg r qs0 c s.ls s.st qs wr)) (λ_ iv _=>n-(intOf iv).toNat)
 case atStart=>exact⟨⟨0,λ_=>[],st⟩,0,n,qs0,rfl,rfl,by omega,by simp only;omega,HR,λj _=>rfl,HDL⟩
 case round =>
  clear HDL;obtain⟨s,i,k,qs,rfl,rfl,hik,hit,HRG,HLS,HL⟩:=hrel;cases k with
  | zero =>
   have hin:i=n:=by omega
   subst hin;have hf':decide ((i:Int)<(i:Int))=false:=by simp
   obtain⟨ck0,ck2⟩:=uh HCK wr (uh HL).kp;have HE:=hide (show s=s1 from uh HRG);obtain⟨B,hB⟩:∃B,decide ((s.it:Int)<=rel)=B:=⟨_,rfl⟩;have HB:=hide (show qEm B s.st=stE by rw[<-hB,<-uh HSE,uh HE]);have HCC:=hide (λw (h:RdS w r s.st)=>qDi r B s.st w h);go_wp2_with fail
   refine(uh HCC _ (uh HL).rd).mono ?_;rintro e w5 ⟨rfl,hr5,hk5⟩;have HL5:=hide ((uh HL).reads hr5 hk5);clear hr5 hk5 HL;go_wp2
   go_end0
   refine⟨rfl,qs,?_⟩;have:=uh HL5;rw[uh HB]at this;rw[<-uh HE];exact this
  | succ k =>
   obtain⟨it,ls,sg⟩:=s;simp only at hit HRG HLS HL;have hb:=qB4 0 40 sg;have HRG2:=hide (show qTb m k (i+1) ⟨it+(qAs 0 40 sg).1.toNat,qQf ls i (mkR m (qAs 0 40 sg).1.toNat (-1) 41 [] (qAs 0 40 sg).2).1,(mkR m (qAs 0 40 sg).1.toNat (-1) 41 [] (qAs 0 40 sg).2).2⟩=s1 from uh HRG);obtain⟨q0,hq0⟩:∃q0,qAs 0 40 sg=q0:=⟨_,rfl⟩;obtain⟨L0,st2⟩:=q0;rw[hq0]at hb HRG2;have HNL:=hide hq0;simp only at hb HRG2;obtain⟨hL0,hL1⟩:0<=L0/\L0<=40:=by omega
   clear hb hq0;obtain⟨L,rfl⟩:∃L:Nat,L0=(L:Int):=⟨L0.toNat,by omega⟩;rw[Int.toNat_natCast]at HRG2;have hL40:L<=40:=by omega
   obtain⟨x2,hx2⟩:∃x2,mkR m L (-1) 41 [] st2=x2:=⟨_,rfl⟩;rw[hx2]at HRG2;have HMK:=hide hx2;clear HRG hx2;have hin:i<n:=by omega
   have hiI:(i:Int)<(n:Int):=by omega
   have hi0:(0:Int)<=(i:Int):=by omega
   have HIQ:=hide (show i<qs.length by rw[(uh HL).ln,uh HN];exact hin);obtain⟨q,hq⟩:∃q,(qAt qs i).1=q:=⟨_,rfl⟩;have cr:wr.cell? ⟨rg,i,none⟩=some (.pointer (some ⟨q,0,none⟩)):=by rw[<-hq];exact(uh HL).dr.reg.cell (qF3 (uh HIQ))
   have HQ:=hide hq;clear hq;go_wp2_with fail
   have HBX:=hide (show Blk (wr.alloc (.cells #[.int .i64 (-1),.int .i64 41] 225)) wr.heap.size [.int .i64 (-1),.int .i64 41] 225 from Blk.new wr [_,_] _);have HLb:=hide ((uh HL).still ((Keeps.refl (λ_=>False) wr).alloc (.cells #[.int .i64 (-1),.int .i64 41] 225)))
   have HZX:=hide (show wr.heap.size≠d/\wr.heap.size≠rg/\wr.heap.size≠r/\w.heap.size<=wr.heap.size/\(∀j,j<qs.length->¬qf (qAt qs j) wr.heap.size) by
      have h1:=(uh HL).dr;refine⟨by have:=h1.blk.lt;omega,by have:=h1.reg.lt;omega,by have:=(uh HL).rd.lt;omega,(uh HL).kp.size,λj hj f=>?_⟩;rcases f with f | f
      ·have:=(h1.row j hj).lt.1;omega
      ·have:=((h1.row j hj).lt.2 _ f).1;omega)
   clear HL cr;generalize(wr.alloc (.cells #[.int .i64 (-1),.int .i64 41] 225))=w2 at *;generalize wr.heap.size=bx at *;refine((uh HLb).number 0 40 _ _ (uh HNL)).mono ?_;rintro e w3 ⟨rfl,hl3,hk3⟩;have HL3:=hide hl3;have HB3:=hide ((uh HBX).keeps hk3 (uh HZX).2.2.1);clear hl3 hk3 HLb HBX HNL;go_wp2_with fail
   go_loopw [6,22] (λa iv wr=>∃(it2 j:Nat) (lt lr:Int) (l:List Bk) (sj:Option (List Nat)) (qs2:List (Nat×Option Nat)),a=.int .i64 (it2:Int)/\iv=.int .i64 (j:Int)/\j<=L/\it2=it+j/\-1<=lt/\lt<=4611686018427387904+j/\1<=lr/\lr<=41/\l.length=j/\Hid (mkR m (L-j) lt lr l sj=x2)/\Hid ((qAt qs2 i).1=q)/\Hid (∀j,j<qs2.length->¬qf (qAt qs2 j) bx)/\Hid (Blk wr bx [.int .i64 lt,.int .i64 lr] 225)/\Hid (DLg w d rg r qs0 c (qQf ls i l) sj qs2 wr)) (λ_ iv _=>L-(intOf iv).toNat)
   case atStart =>
    exact⟨it,0,-1,41,[],st2,qs,rfl,rfl,Nat.zero_le _,rfl,by omega,by omega,by omega,by omega,rfl,HMK,HQ,(uh HZX).2.2.2.2,HB3,by rw[zBr ls i (uh HLS i (Nat.le_refl _))];exact HL3⟩
   case round =>
    clear HL3 HB3 HQ HMK;obtain⟨it2,j,lt,lr,l,sj,qs2,rfl,rfl,hj,hit2,lt0,lt1,lr0,lr1,hll,HMK,HQ,HQB,HB,HL⟩:=hrel
    by_cases hjL:j<L
    ·obtain⟨nn,hnn⟩:∃nn,L-j=nn+1:=⟨L-j-1,by omega⟩
     have HMn:=hide (show mkR m nn (qAs (lt+1) m sj).1 (qAs 1 (lr-1) (qAs (lt+1) m sj).2).1 (l++[⟨(qAs (lt+1) m sj).1,(qAs 1 (lr-1) (qAs (lt+1) m sj).2).1⟩]) (qAs 1 (lr-1) (qAs (lt+1) m sj).2).2=x2 by
        have:=uh HMK;rw[hnn]at this
        exact this)
     have hb1:=qB4 (lt+1) m sj;obtain⟨t0,ht0⟩:∃t0,qAs (lt+1) m sj=t0:=⟨_,rfl⟩;obtain⟨bs,sj2⟩:=t0;rw[ht0]at HMn hb1;simp only at HMn hb1;have hb2:=qB4 1 (lr-1) sj2;obtain⟨t1,ht1⟩:∃t1,qAs 1 (lr-1) sj2=t1:=⟨_,rfl⟩;obtain⟨bt,sj3⟩:=t1;rw[ht1]at HMn hb2;simp only at HMn hb2;have HT0:=hide ht0;have HT1:=hide ht1;obtain⟨hb3,hb4,hb5,hb6⟩:-1<=bs/\bs<=4611686018427387904+(j+1:Nat)/\1<=bt/\bt<=41:=by omega
     clear hb1 hb2 ht0 ht1 HMK;have HIQ2:=hide (show i<qs2.length by rw[(uh HL).ln,uh HN];exact hin);have HBLT:=hide (uh HB).lt;have HBV:=hide (show(⟨bs,bt⟩:Bk).val=.agg #[.int .i64 bs,.int .i64 bt] from rfl);obtain⟨ck0,ck2⟩:=uh HCK wr (uh HL).kp;have x0:wr.cell? ⟨bx,0,none⟩=some (.int .i64 lt):=(uh HB).cell rfl;have x1:wr.cell? ⟨bx,1,none⟩=some (.int .i64 lr):=(uh HB).cell rfl;have xf:=(uh HB).frozen;have hjI:(j:Int)<(L:Int):=by omega
     have wl:IntKind.i64.wrap (lt+1)=lt+1:=by rw[IntKind.wrap_i64];omega
     have wr1:IntKind.i64.wrap (lr-1)=lr-1:=by rw[IntKind.wrap_i64];omega
     have HXR:=hide (show bx≠r from(uh HZX).2.2.1);go_wp2_with fail
     go_region_with (first | (go_at_call 88;refine(hl5.number 1 (lr-1) _ _ (uh HT1)).mono ?_;rintro e w6 ⟨rfl,hl6,hk6⟩;have hB6:=hB5.keeps hk6 (uh HXR);have z0:=hB6.cell (i:=0) rfl;have z1:=hB6.cell (i:=1) rfl;have zf:=hB6.frozen) | (go_at_call 88;refine(((uh HL).still ((Keeps.refl (λ_=>False) wr).drew)).number (lt+1) m _ _ (uh HT0)).mono ?_;rintro e w5 ⟨rfl,hl5,hk5⟩;have hB5:=((uh HB).drew).keeps hk5 (uh HXR);have y1:=hB5.cell (i:=1) rfl))
     all_goals
      have HLc:=hide (hl6.new (bx:=bx) (((Keeps.refl (λi=>i=bx) w6).setCell (p:=⟨bx,0,none⟩) (Or.inl rfl) (.int .i64 bs)).setCell (p:=⟨bx,1,none⟩) (Or.inl rfl) (.int .i64 bt)) ⟨(uh HZX).1,(uh HZX).2.1,(uh HZX).2.2.1,(uh HZX).2.2.2.1⟩ (uh HQB));have HBc:=hide (show Blk _ bx [.int .i64 bs,.int .i64 bt] 225 from(hB6.setCell 0 (.int .i64 bs)).setCell 1 (.int .i64 bt));clear hl6 hk6 hB6 z0 z1 zf hl5 hk5 hB5 y1 ck0 ck2 x0 x1 xf HL HB;generalize((w6.setCell ⟨bx,0,none⟩ (.int .i64 bs)).setCell ⟨bx,1,none⟩ (.int .i64 bt))=w7 at *;have v0:w7.cell? ⟨bx,0,none⟩=some (.int .i64 bs):=(uh HBc).cell rfl;have v1:w7.cell? ⟨bx,1,none⟩=some (.int .i64 bt):=(uh HBc).cell rfl;have HPT:=hide (Mk.rowPut_any q (qAt qs2 i).2 l ⟨bs,bt⟩ w7 (by rw[<-uh HQ];have:=(uh HLc).dr.row i (uh HIQ2);simpa[qQf] using this) (by omega));rw[uh HBV]at HPT;have wi:IntKind.i64.wrap ((it2:Int)+1)=(it2:Int)+1:=by rw[IntKind.wrap_i64];omega
      go_wp2_with fail
      refine(uh HPT).mono ?_;rintro e w8 ⟨rfl,og,hr8,hk8,hog⟩;have HLd:=hide ((uh HLc).put (x:=⟨bs,bt⟩) (uh HIQ2) (by rw[uh HQ];simpa[qQf] using hr8) (by rw[uh HQ];exact hk8) hog);rw[zCa]at HLd;have HQd:=hide (show ∀j,j<(qs2.set i ((qAt qs2 i).1,og)).length->¬qf (qAt (qs2.set i ((qAt qs2 i).1,og)) j) bx from zH8 hog (uh HBc).lt (uh HQB));have HBd:=hide ((uh HBc).keeps hk8 (λf=>uh HQB i (uh HIQ2) (by rw[<-uh HQ]at f;exact f)))
      have HQe:=hide (show(qAt (qs2.set i ((qAt qs2 i).1,og)) i).1=q by
         rw[<-uh HQ];unfold qAt
         simp[List.getD_eq_getElem?_getD,uh HIQ2])
      clear hr8 hk8 hog HPT HLc HBc v0 v1;go_wp2
      go_roundw
      case rel=>exact⟨it2+1,j+1,bs,bt,l++[⟨bs,bt⟩],sj3,_,by go_num,by go_num,by omega,by omega,by omega,hb4,by omega,by omega,by rw[List.length_append,hll];rfl,by rw[show L-(j+1)=nn by omega];exact HMn,HQe,HQd,HBd,HLd⟩
      case measure=>simp[intOf];omega
    ·have hjE:j=L:=by omega
     subst hjE;have hf':decide ((j:Int)<(j:Int))=false:=by simp
     have HE:=hide (show(l,sj)=x2 by
        have:=uh HMK;rw[Nat.sub_self]at this
        exact this)
     clear HMK;go_wp2
     go_roundw
     case rel=>exact⟨⟨it2,qQf ls i l,sj⟩,i+1,k,qs2,rfl,by go_num,by omega,by simp only;omega,by have:=uh HRG2;rw[<-uh HE,<-hit2]at this;exact this,λp hp=>by show qQf ls i l p=[];unfold qQf;rw[if_neg (by omega)];exact uh HLS p (by omega),HL⟩
     case measure=>simp[intOf];omega
end
end Go.Proofs.YtahnliehdjncdabGreatDoor
