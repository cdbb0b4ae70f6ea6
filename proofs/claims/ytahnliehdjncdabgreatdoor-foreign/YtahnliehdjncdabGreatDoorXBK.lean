import Derived.Test.YtahnliehdjncdabGreatDoorXBJ
set_option maxRecDepth 100000
set_option maxHeartbeats 16000000
namespace Go.Proofs.YtahnliehdjncdabGreatDoor
section
open Go.RowKit
attribute [local go_sem ↓] qAd
attribute [local go_sem] qAf qAc qAb qAm qAn qAi qAj qAh qAk
theorem qSj(c:Cfg)(l:List Dr.It)(y:It): (qG1 c l y).length<=l.length+1:=by
 unfold qG1
 split
 ·rw[Dr.takeL_length,Dr.riseL_length,List.length_append,List.length_singleton];omega
 ·rw[Dr.riseL_length,List.length_append,List.length_singleton];omega
theorem zIv(st:Option (List Nat)): ∃t k d st3,qAy 3 st=([t,k,d],st3):=⟨_,_,_,_,rfl⟩
theorem qTv(d q r kn:Nat)(og:Option Nat)(c:Cfg)(m acc rel:Int)(nv:Value)(ns:List Int)(st:Option (List Nat))(w:World)(hL:TLg w d q r kn c m acc rel og nv [] st ns og nv w)(hw:c.weighs)(s0:1<=c.size)(s1:c.size<=5)(r0:0<=rel)(m1:m<=4611686018427387904)(hnl:ns.length<=800):
  Calls Tryz.prog 173 #[.pointer (some ⟨d,0,none⟩),.pointer (some ⟨r,0,none⟩),.pointer (some ⟨kn,0,none⟩)] w λe w'=>e=.returned (.tuple #[])/\∃og2 nv2,TLg w d q r kn c m acc rel og nv (qWr c m acc rel ns st).tk (qWr c m acc rel ns st).st (qWr c m acc rel ns st).ns og2 nv2 w':=by
 have HL:=hide hL;have HW:=hide hw;have k2:w.cell? ⟨kn,2,none⟩=some (.int .i64 rel):=hL.kr.blk.cell rfl;have d10:w.cell? ⟨d,10,none⟩=some (.int .i64 c.size):=hL.tr.blk.cell rfl;unfold qWr;obtain⟨N,hN⟩:∃N:Nat,(qPh rel (c.size+1)).toNat=N:=⟨_,rfl⟩;rw[hN];obtain⟨S,hS⟩:∃S,qId c m acc N ⟨[],ns,st⟩=S:=⟨_,rfl⟩;rw[hS];have HS:=hide hS;clear hL hw hS;have hcs:(c.size+1<rel/\c.size+1=(N:Int))\/(¬c.size+1<rel/\rel=(N:Int)):=by
  unfold qPh at hN
  split at hN
  ·rename_i h;exact .inl ⟨h,by omega⟩
  ·rename_i h;exact .inr ⟨h,by omega⟩
 have hN6:N<=6:=by omega
 have ws:IntKind.i64.wrap (c.size+1)=c.size+1:=by rw[IntKind.wrap_i64];omega
 clear hN;go_enter Tryz.func173,Tryz.ntmps173
 rcases hcs with ⟨h1,h2⟩ | ⟨h1,h2⟩
 all_goals
  go_wp2_with fail
  go_quiet (fail)
  go_wp2_with fail
  have HL0:=hide ((uh HL).still (Keeps.drewN (λ_=>False) w nq));generalize w.drewN nq=w0 at *;clear k2 d10;go_loopw [18] (λiv wr=>∃(i:Nat) (s:TR) (og2:Option Nat) (nv2:Value),i<=N/\iv=.int .i64 (i:Int)/\s.tk.length<=i/\s.ns.length<=800+i/\Hid (qId c m acc (N-i) s=S)/\Hid (TLg w d q r kn c m acc rel og nv s.tk s.st s.ns og2 nv2 wr)) (λiv _=>N-(intOf iv).toNat)
  case atStart=>exact⟨0,⟨[],ns,st⟩,og,nv,Nat.zero_le _,rfl,Nat.le_refl _,hnl,HS,HL0⟩
  case round =>
   clear HL0;obtain⟨i,s,og2,nv2,hi,rfl,htl,hsl,HSr,HLr⟩:=hrel;obtain⟨tk,ms,sg⟩:=s;simp only at htl hsl HSr HLr
   by_cases hiN:i<N
   ·have hiI:(i:Int)<(N:Int):=by omega
    obtain⟨nn,hnn⟩:∃nn,N-i=nn+1:=⟨N-i-1,by omega⟩
    have HST:=hide (show(if (qGr c m acc ⟨tk,ms,sg⟩).st.isNone then qGr c m acc ⟨tk,ms,sg⟩ else qId c m acc nn (qGr c m acc ⟨tk,ms,sg⟩))=S by
       have:=uh HSr;rw[hnn]at this
       exact this)
    obtain⟨a0,ha0⟩:∃a0,knR acc ms sg=a0:=⟨_,rfl⟩;obtain⟨n,st2⟩:=a0;obtain⟨t,k,dd,st3,hp3⟩:=zIv st2
    have HRS:=hide (show qGr c m acc ⟨tk,ms,sg⟩=⟨if (qEm (inB t 0 m&&qCy c 5 ⟨t,k,dd,n⟩==0) st3).isNone then tk else qG1 c tk ⟨t,k,dd,n⟩,ms++[n],qEm (inB t 0 m&&qCy c 5 ⟨t,k,dd,n⟩==0) st3⟩ by
       unfold qGr;simp only[ha0,hp3]
       rfl)
    rw[uh HRS]at HST;have HA:=hide ha0;have HP3:=hide hp3;clear ha0 hp3 HSr HRS;simp only at HST;obtain⟨y,hy⟩:∃y:It,y=⟨t,k,dd,n⟩:=⟨_,rfl⟩;rw[<-hy]at HST;have HY:=hide hy;have HYV:=hide (show y.val=.agg #[.int .i64 t,.int .i64 k,.int .i64 dd,.int .i64 n] by rw[hy];rfl);have HYT:=hide (show y.t=t by rw[hy]);clear hy;go_wp2_with fail
    refine((uh HLr).num (by omega) n st2 (uh HA)).mono ?_;rintro e w10 ⟨rfl,nv3,hI⟩;have HIb:=hide hI;clear hI HLr HA;go_wp2_with fail
    have HBX:=hide (show Blk (w10.alloc (.cells #[.int .i64 0,.int .i64 0,.int .i64 0,.int .i64 n] 88)) w10.heap.size [.int .i64 0,.int .i64 0,.int .i64 0,.int .i64 n] 88 from Blk.new w10 [_,_,_,_] _);have HIc:=hide ((uh HIb).still ((Keeps.refl (λ_=>False) w10).alloc (.cells #[.int .i64 0,.int .i64 0,.int .i64 0,.int .i64 n] 88)))
    have HZX:=hide (show d≠w10.heap.size/\q≠w10.heap.size/\og2≠some w10.heap.size/\kn≠w10.heap.size/\nv3.ownBlock≠some w10.heap.size/\w.heap.size<=w10.heap.size/\r<w10.heap.size from by
       have h:=uh HIb;have q1:=h.tr.que.lt
       exact⟨by have:=h.tr.blk.lt;omega,by have:=q1.1;omega,λe=>by have:=(q1.2 _ e).1;omega,by have:=h.kr.blk.lt;omega,λe=>by have:=(h.nvlt _ e).2;omega,h.kp.size,h.rd.lt⟩)
    clear HIb;generalize(w10.alloc (.cells #[.int .i64 0,.int .i64 0,.int .i64 0,.int .i64 n] 88))=w11 at *;generalize w10.heap.size=bx at *;refine(qPu bx w11).mono ?_;rintro e w12 ⟨pv,rfl,hp,hk12⟩;have HP:=hide hp;have HId:=hide ((uh HIc).still hk12);have HBd:=hide ((uh HBX).keeps hk12 (λh=>h))
    have HPV:=hide (show ∀i,pv.ownBlock=some i->i≠r/\i≠bx from λi hi=>by
       have h1:=(hp.lt i hi).1;have h2:=(uh HBX).lt;have h3:=(uh HZX).2.2.2.2.2.2
       omega)
    clear hp hk12 HIc HBX;go_wp2_with fail
    refine(qMo r bx [0,1,2] [.int .i64 0,.int .i64 0,.int .i64 0,.int .i64 n] 88 pv _ st2 w12 (uh HId).rd (by have:=uh HP;unfold at' at this ⊢;rw[List.length_map]at this;exact this) (uh HBd) (λo hm=>by simp at hm ⊢;omega) (by have:=(uh HZX).2.2.2.2.2.2;omega) (uh HPV) (by simp)).mono ?_;rintro e w13 ⟨rfl,hr13,hb13,hk13⟩;have HIe:=hide ((uh HId).rdw (bx:=bx) (st2:=st3) hk13 (by have:=hr13;rw[show([0,1,2]:List Nat).length=3 from rfl,uh HP3]at this;exact this) ⟨(uh HZX).1,(uh HZX).2.1,(uh HZX).2.2.1,(uh HZX).2.2.2.1,(uh HZX).2.2.2.2.1,(uh HZX).2.2.2.2.2.1⟩);have HBe:=hide (show Blk w13 bx [.int .i64 t,.int .i64 k,.int .i64 dd,.int .i64 n] 88 by have:=hb13;rw[show([0,1,2]:List Nat).length=3 from rfl,uh HP3]at this;exact this);clear hr13 hb13 hk13 HId HBd HP HPV HP3;have b0:w13.cell? ⟨bx,0,none⟩=some (.int .i64 t):=(uh HBe).cell rfl;have b1:w13.cell? ⟨bx,1,none⟩=some (.int .i64 k):=(uh HBe).cell rfl;have b2:w13.cell? ⟨bx,2,none⟩=some (.int .i64 dd):=(uh HBe).cell rfl;have b3:w13.cell? ⟨bx,3,none⟩=some (.int .i64 n):=(uh HBe).cell rfl;have kk:w13.cell? ⟨kn,0,none⟩=some (.int .i64 m):=(uh HIe).kr.blk.cell rfl;obtain⟨hv,hh⟩:=qBh (uh HIe).tr.blk 0 20 c.cells rfl rfl;have hdl:=(uh HIe).tr.blk.lt;have HXR:=hide (show bx≠r by have:=(uh HZX).2.2.2.2.2.2;omega);have HKR:=hide (show kn≠r by have:=(uh HIe).ap.2.2.2.2.1;omega);have HDR:=hide (show d≠r from(uh HIe).ap.1);have HRD:=hide (show RdS (w13.drew) r st3 from(uh HIe).rd.keeps (Keeps.refl (λ_=>False) w13).drew (λh=>h));go_wp2_with fail
    cases hib:inB t 0 m
    case false =>
     have HIB:=hide hib
     have HSS:=hide (show S=⟨tk,ms++[n],none⟩ by
        have:=uh HST;rw[hib]at this
        exact this.symm)
     clear HST
     first | (go_region_with (first | (go_at_call 45;refine(qAg _ _ _ _).mono ?_;rintro e w' ⟨rfl,rfl⟩;rw[uh HIB]) | (go_at_call 135;refine(qDi r _ st3 _ (uh HRD)).mono ?_;rintro e w'' ⟨rfl,hr,hk⟩))) | fail
     all_goals
      clear b0 b1 b2 b3 kk hv hh hdl;have HR9:=hide (show RdS w'' r none from hr);have HI9:=hide (((uh HIe).still (Keeps.refl (λ_=>False) w13).drew).rdw (bx:=bx) (hk.mono (λ_ _ h=>.inl h)) (uh HR9) ⟨(uh HZX).1,(uh HZX).2.1,(uh HZX).2.2.1,(uh HZX).2.2.2.1,(uh HZX).2.2.2.2.1,(uh HZX).2.2.2.2.2.1⟩);clear hr hk HIe HRD;go_wp2_with fail
      refine(qHe r none w'' (uh HR9)).mono ?_;rintro e w15 ⟨rfl,hw15⟩;rw[hw15];clear hw15 w15;go_wp2
      (try simp only[Exit.inBlock,Exit.then])
      refine bodyPost_ret (results_none rfl _ _ _) rfl ?_;refine⟨rfl,og2,nv3,?_⟩;rw[uh HSS];exact uh HI9
    case true =>
     have HIB:=hide hib;obtain⟨tm0,tm1⟩:=qCq hib;obtain⟨E,hE⟩:∃E,qCy c 5 y=E:=⟨_,rfl⟩;have HE:=hide hE;rw[hE]at HST;clear hE;have hE2:(E==0)=true\/(E==0)=false:=by cases E==0 <;> simp
     rcases hE2 with hE2 | hE2
     ·have hE0:E=0:=by simpa using hE2
      subst hE0;clear hE2;go_region_held3 (λw'=>w'.cell? ⟨bx,0,none⟩=some (.int .i64 t)/\w'.cell? ⟨bx,1,none⟩=some (.int .i64 k)/\w'.cell? ⟨bx,2,none⟩=some (.int .i64 dd)/\w'.cell? ⟨bx,3,none⟩=some (.int .i64 n)/\w'.cell? ⟨kn,0,none⟩=some (.int .i64 m)/\qAu w' d 0 20=.agg c.cells.toArray/\qA2 w' d 0 20=true)
       (first | (simp[*,qAc,qAb];done) | (go_split_ands;refine⟨hk.cell (by assumption) (λh=>h),hk.cell (by assumption) (λh=>h),hk.cell (by assumption) (λh=>h),hk.cell (by assumption) (λh=>h),hk.cell (by assumption) (λh=>h),(qBm hk (λh=>h) (by simpa using hdl)).1.trans (by assumption),(qBm hk (λh=>h) (by simpa using hdl)).2.trans (by assumption)⟩))
       (first | (go_at_call 45;refine(qAg _ _ _ _).mono ?_;rintro e w' ⟨rfl,rfl⟩;rw[uh HIB]) | (go_at_call 124;rw[<-uh HYV];refine(qIa c 5 y _ (by omega) (by omega) (λ_=>uh HW) (by rw[uh HYT];exact tm0) (by rw[uh HYT];omega)).mono ?_;rintro e w' ⟨rfl,hk⟩;rw[uh HE]) | (go_at_call 135;refine(qJb r _).mono ?_;rintro e w'' ⟨rfl,rfl⟩))
      have hk14:Keeps (λ_=>False) w13 w'':=((Keeps.refl (λ_=>False) w13).drew).then hk;have HIf:=hide ((uh HIe).still hk14);have HBf:=hide ((uh HBe).keeps hk14 (λh=>h));clear hk hk14 HIe HBe b0 b1 b2 b3 kk hv hh hdl HRD;generalize w''=w14 at *
      have HST2:=hide (show(if st3.isNone then(⟨if st3.isNone then tk else qG1 c tk y,ms++[n],st3⟩:TR) else qId c m acc nn ⟨if st3.isNone then tk else qG1 c tk y,ms++[n],st3⟩)=S by
         have:=uh HST;rw[hib]at this
         exact this)
      clear HST;go_wp2_with fail
      refine(qHe r _ w14 (uh HIf).rd).mono ?_;rintro e w15 ⟨rfl,hw15⟩;rw[hw15];clear hw15 w15;cases st3 with
      | none =>
       have HSS:=hide (show S=⟨tk,ms++[n],none⟩ from(uh HST2).symm);clear HST2;go_wp2
       (try simp only[Exit.inBlock,Exit.then])
       refine bodyPost_ret (results_none rfl _ _ _) rfl ?_;refine⟨rfl,og2,nv3,?_⟩;rw[uh HSS];exact uh HIf
      | some l3 =>
       have HSS:=hide (show qId c m acc nn ⟨qG1 c tk y,ms++[n],some l3⟩=S from uh HST2);clear HST2;have b0:w14.cell? ⟨bx,0,none⟩=some (.int .i64 t):=(uh HBf).cell rfl;have b1:w14.cell? ⟨bx,1,none⟩=some (.int .i64 k):=(uh HBf).cell rfl;have b2:w14.cell? ⟨bx,2,none⟩=some (.int .i64 dd):=(uh HBf).cell rfl;have b3:w14.cell? ⟨bx,3,none⟩=some (.int .i64 n):=(uh HBf).cell rfl;have kk:w14.cell? ⟨kn,0,none⟩=some (.int .i64 m):=(uh HIf).kr.blk.cell rfl;have HNX:=hide (show ¬(bx=q\/og2=some bx) from λh=>h.elim (λh=>(uh HZX).2.1 h.symm) (uh HZX).2.2.1);have HNK:=hide (show ¬(kn=q\/og2=some kn) from λh=>h.elim (λh=>(uh HIf).ap.2.2.2.1 h.symm) (λh=>((uh HIf).ag kn h).2 rfl));go_wp2_with fail
       go_region_held3 (λw'=>w'.cell? ⟨bx,0,none⟩=some (.int .i64 t)/\w'.cell? ⟨bx,1,none⟩=some (.int .i64 k)/\w'.cell? ⟨bx,2,none⟩=some (.int .i64 dd)/\w'.cell? ⟨bx,3,none⟩=some (.int .i64 n)/\w'.cell? ⟨kn,0,none⟩=some (.int .i64 m))
        (first | (simp[*];done) | (go_split_ands;exact⟨hk.cell (by assumption) (uh HNX),hk.cell (by assumption) (uh HNX),hk.cell (by assumption) (uh HNX),hk.cell (by assumption) (uh HNX),hk.cell (by assumption) (uh HNK)⟩))
        (first | (go_at_call 170;rw[<-uh HYV];refine(qIg d q og2 c tk y m _ (by exact(uh HIf).tr.still ((Keeps.refl (λ_=>False) w14).drew)) (uh HW) (by rw[uh HYT];exact tm0) (by rw[uh HYT];omega) s0 s1 (by omega)).mono ?_;rintro e w' ⟨rfl,og3,ht,hk,hog⟩))
       have HIg:=hide (((uh HIf).still ((Keeps.refl (λ_=>False) w14).drew)).rel ht hk hog);clear ht hk hog b0 b1 b2 b3 kk HIf HBf;go_wp2
       go_roundw
       case rel=>exact⟨i+1,⟨qG1 c tk y,ms++[n],some l3⟩,og3,nv3,by omega,by go_num,by have:=qSj c tk y;simp only;omega,by simp only[List.length_append,List.length_singleton];omega,by rw[show N-(i+1)=nn by omega];exact HSS,HIg⟩
       case measure=>simp[intOf];omega
     ·have HSS:=hide (show S=⟨tk,ms++[n],none⟩ by
         have:=uh HST;rw[hib,hE2]at this
         exact this.symm)
      clear HST;go_region_held3 (λw'=>w'.cell? ⟨bx,0,none⟩=some (.int .i64 t)/\w'.cell? ⟨bx,1,none⟩=some (.int .i64 k)/\w'.cell? ⟨bx,2,none⟩=some (.int .i64 dd)/\w'.cell? ⟨bx,3,none⟩=some (.int .i64 n)/\w'.cell? ⟨kn,0,none⟩=some (.int .i64 m)/\qAu w' d 0 20=.agg c.cells.toArray/\qA2 w' d 0 20=true)
       (first | (simp[*,qAc,qAb];done) | (go_split_ands;refine⟨hk.cell (by assumption) (λh=>h),hk.cell (by assumption) (λh=>h),hk.cell (by assumption) (λh=>h),hk.cell (by assumption) (λh=>h),hk.cell (by assumption) (λh=>h),(qBm hk (λh=>h) (by simpa using hdl)).1.trans (by assumption),(qBm hk (λh=>h) (by simpa using hdl)).2.trans (by assumption)⟩) | (go_split_ands;refine⟨hk2.cell (by assumption) (uh HXR),hk2.cell (by assumption) (uh HXR),hk2.cell (by assumption) (uh HXR),hk2.cell (by assumption) (uh HXR),hk2.cell (by assumption) (uh HKR),(qBm hk2 (uh HDR) (by have:=hk.size;have:=hk2.size;simp at *;omega)).1.trans (by assumption),(qBm hk2 (uh HDR) (by have:=hk.size;have:=hk2.size;simp at *;omega)).2.trans (by assumption)⟩))
       (first | (go_at_call 45;refine(qAg _ _ _ _).mono ?_;rintro e w' ⟨rfl,rfl⟩;rw[uh HIB]) | (go_at_call 124;rw[<-uh HYV];refine(qIa c 5 y _ (by omega) (by omega) (λ_=>uh HW) (by rw[uh HYT];exact tm0) (by rw[uh HYT];omega)).mono ?_;rintro e w' ⟨rfl,hk⟩;rw[uh HE]) | (go_at_call 135;refine(qDi r _ st3 _ (by exact(uh HRD).keeps hk (λh=>h))).mono ?_;rintro e w'' ⟨rfl,hr,hk2⟩))
      have HR9:=hide (show RdS w'' r none from hr);have HI9:=hide ((((uh HIe).still (Keeps.refl (λ_=>False) w13).drew).still hk).rdw (bx:=bx) (hk2.mono (λ_ _ h=>.inl h)) (uh HR9) ⟨(uh HZX).1,(uh HZX).2.1,(uh HZX).2.2.1,(uh HZX).2.2.2.1,(uh HZX).2.2.2.2.1,(uh HZX).2.2.2.2.2.1⟩);clear hr hk hk2 HIe HRD b0 b1 b2 b3 kk hv hh hdl;go_wp2_with fail
      refine(qHe r none w'' (uh HR9)).mono ?_;rintro e w15 ⟨rfl,hw15⟩;rw[hw15];clear hw15 w15;go_wp2
      (try simp only[Exit.inBlock,Exit.then])
      refine bodyPost_ret (results_none rfl _ _ _) rfl ?_;refine⟨rfl,og2,nv3,?_⟩;rw[uh HSS];exact uh HI9
   ·have hie:i=N:=by omega
    subst hie;have hf':decide ((i:Int)<(i:Int))=false:=by simp
    have HE:=hide (show(⟨tk,ms,sg⟩:TR)=S by
       have:=uh HSr;rw[Nat.sub_self]at this
       exact this)
    clear HSr;go_wp2
    go_end0
    refine⟨rfl,og2,nv2,?_⟩;rw[<-uh HE];exact uh HLr
end
end Go.Proofs.YtahnliehdjncdabGreatDoor
