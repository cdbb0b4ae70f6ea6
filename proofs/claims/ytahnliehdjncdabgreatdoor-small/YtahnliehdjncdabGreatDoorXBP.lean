import Derived.Deep.DeepCutAuto
import Derived.Test.YtahnliehdjncdabGreatDoorXBO
set_option maxRecDepth 100000
set_option maxHeartbeats 16000000
namespace Go.Proofs.YtahnliehdjncdabGreatDoor
section
open Go.RowKit
attribute [local go_sem ↓] qAb qAe qDj qFz qE7 qE9 qCy
attribute [local go_sem] qAg qAl qAd qAc qAo qAn qAj qAk qWz zCh zBn zCa zCr
theorem qWe(k win:Int)(gv:Value)(gl:List Int)(w:World)(hg:zDh w w.heap.size gv gl)(hT:Tab w)(k0:-9223372036854775808<=k)(k1:k<=9223372036854775807)(w0:-9223372036854775808<=win)(w1:win<=9223372036854775807):
  Calls Tryz.prog 5 #[.int .i64 k,.int .i64 win,gv] w λr w'=>r=.returned (.bool true)/\Keeps (λ_=>False) w w':=by
 obtain⟨L,hL⟩:∃L,gl.length=L:=⟨_,rfl⟩
 obtain⟨gaa,gcap,hgv⟩:∃gaa gcap,gv=.slice gaa L gcap:=by
  rcases hg with ⟨⟨a,c,rfl⟩,h2⟩ | ⟨b,off,cap,h1,_⟩
  ·exact⟨a,c,by rw[<-hL,h2];rfl⟩
  ·exact⟨_,_,by rw[h1,hL]⟩
 subst hgv
 have HG:=hide (show(L=0)\/(0<L/\L<=140737488355328/\∃b off,gaa=some ⟨b,off,none⟩/\∀i,i<L->∃u,w.cell? ⟨b,off+i,none⟩=some (.int .i64 u)/\-9223372036854775808<=u/\u<=9223372036854775807) by
    rcases hg with ⟨_,h2⟩ | ⟨b,off,cap,h1,h2,h3,_,h4⟩
    ·exact .inl (by rw[<-hL,h2];rfl)
    ·rw[hL]at h2 h3
     injection h1 with e1 _ _
     refine .inr ⟨h2,h3,b,off,e1,λi hi=>?_⟩
     have hil:i<gl.length:=by rw[hL];exact hi
     obtain⟨h5,h6⟩:=h4 i _ (List.getElem?_eq_getElem hil)
     exact⟨_,h5,h6⟩)
 have HTT:=hide hT
 clear hg hT hL
 go_enter Tryz.func5,Tryz.ntmps5
 go_wp2_with fail
 refine(qO7 w (uh HTT)).mono ?_
 rintro r W1 ⟨rfl,hk1⟩
 have HK1:=hide hk1
 clear hk1
 go_wp2_with fail
 refine(qT8 W1 ((uh HTT).keeps (uh HK1) (λh=>h))).mono ?_
 rintro r W2 ⟨rfl,hk2⟩
 have HK2:=hide ((uh HK1).then hk2)
 clear hk2 HK1
 go_wp2_with fail
 refine(qNo k 10 W2 (by omega) k0 k1).mono ?_
 rintro r wq ⟨pk,hpk,rfl,hwq⟩
 rw[hwq]
 clear hwq wq
 obtain⟨K,hK⟩:∃K:Nat,K=1+pk:=⟨_,rfl⟩
 have wk:IntKind.i64.wrap (1+(pk:Int))=(K:Int):=by rw[IntKind.wrap_i64];omega
 have hKb:1<=K/\K<=10:=by omega
 clear hK hpk
 go_wp2_with fail
 refine(qNo win 1000 W2 (by omega) w0 w1).mono ?_
 rintro r wq ⟨pw,hpw,rfl,hwq⟩
 rw[hwq]
 clear hwq wq
 obtain⟨V,hV⟩:∃V:Nat,V=1+pw:=⟨_,rfl⟩
 have ww:IntKind.i64.wrap (1+(pw:Int))=(V:Int):=by rw[IntKind.wrap_i64];omega
 have hVb:1<=V/\V<=1000:=by omega
 clear hV hpw
 obtain⟨c,hc⟩:∃c,qTz (K:Int) (V:Int)=c:=⟨_,rfl⟩
 have HC:=hide hc
 have hmc:∀W,(qBs 32 #[(0,.int .i64 1),(3,.int .i64 8),(2,.int .i64 100),(4,.int .i64 (K:Int)),(5,.int .i64 (V:Int))]).run Tryz.prog W=.ok (.value (.agg c.cells.toArray)) W:=λW=>by rw[<-hc];exact zDp _ _ W
 clear hc
 have hst:∀zs:List Value,zs.length=20->(qCp 32 (.pointer (some ⟨W2.heap.size,0,none⟩)) (.agg c.cells.toArray)).run Tryz.prog (W2.alloc (.cells zs.toArray 32))=.ok .skip (W2.alloc (.cells c.cells.toArray 32)):=λzs hz=>qHp W2 zs c.cells hz rfl (qX4 c)
 have hv1:qAp (W2.alloc (.cells c.cells.toArray 32)) W2.heap.size 0 20=.agg c.cells.toArray:=qAf W2 c.cells 32 20 rfl
 have hh1:qAw (W2.alloc (.cells c.cells.toArray 32)) W2.heap.size 0 20=true:=qB7 W2 c.cells 32 20 rfl
 have HB3:=hide (show Blk ((W2.alloc (.cells c.cells.toArray 32)).alloc (.cells (crO c).cells.toArray 34)) W2.heap.size c.cells 32 from(Blk.new W2 _ _).alloc _)
 have HO3:=hide (show qMb ((W2.alloc (.cells c.cells.toArray 32)).alloc (.cells (crO c).cells.toArray 34)) (W2.heap.size+1) (.slice (some ⟨W2.heap.size+1,0,none⟩) 1 1) [crO c] by
    have:=zBc (W2.alloc (.cells c.cells.toArray 32)) (crO c) (W2.heap.size+1) (by simp)
    rw[World.size_alloc]at this
    exact this)
 have HK3:=hide (show Keeps (λ_=>False) w ((W2.alloc (.cells c.cells.toArray 32)).alloc (.cells (crO c).cells.toArray 34)) from((uh HK2).alloc _).alloc _)
 go_wp2_with fail
 clear hst hv1 hh1 hmc
 generalize(W2.alloc (.cells c.cells.toArray 32)).alloc (.cells (crO c).cells.toArray 34)=W3 at *
 have hcw:w.heap.size<=W2.heap.size:=(uh HK2).size
 clear HK2
 generalize W2.heap.size=cb at *
 go_loopw [10,11,12] (λlv nv iv wr=>∃(i m c2:Nat) (now:Int) (mid:List OpM) (ad:Option Addr),i<=300/\iv=.int .i64 i/\nv=.int .i64 now/\lv=.slice ad m c2/\0<=now/\now<=40*(i:Int)/\m=9*i+1/\Hid (qMb wr (cb+1) lv (crO c::mid))/\Hid (MidOk mid now/\mid.length=9*i/\(0<i->∃mid',mid=mid'++[tkO now]))/\Hid (Keeps (λ_=>False) w wr)/\Hid (Blk wr cb c.cells 32)) (λ_ _ iv _=>300-(intOf iv).toNat)
 case atStart=>exact⟨0,1,1,0,[],_,by omega,rfl,rfl,rfl,by omega,by omega,by omega,HO3,⟨λo ho=>by simp at ho,rfl,λh=>by omega⟩,HK3,HB3⟩
 case round=>as_aux_lemma =>
  clear HO3 HK3 HB3
  obtain⟨i,m,c2,now,mid,ad,hi,rfl,rfl,rfl,n0,n1,hm,HO,HM,HK,HB⟩:=hrel
  by_cases hi3:i<300
  ·have hi4:(i:Int)<300:=by omega
   generalize wr=wo at *
   have hsz:=(uh HK).size
   have HMM:=hide hm
   clear hm
   go_upto_if 36 with fail
   go_cut [13] from 30 to 68 (λv wq=>∃g:Nat,v=.int .i64 g/\g<40/\wq=wo)
   case first =>
    rcases uh HG with hL0 | ⟨g2,g3,gb,goff,rfl,g4⟩
    ·subst hL0
     go_wp2
     go_meet
     exact⟨0,rfl,by omega,rfl⟩
    ·have hq:i%L<L:=Nat.mod_lt _ g2
     obtain⟨u,hcu,u0,u1⟩:=g4 _ hq
     have hcu2:=(uh HK).cell hcu (λh=>h)
     obtain⟨q,hqe⟩:∃q,i%L=q:=⟨_,rfl⟩
     rw[hqe]at hq hcu2
     have htm:(i:Int).tmod (L:Int)=(q:Int):=by rw[Int.tmod_eq_emod_of_nonneg (by omega),<-hqe];simp
     have hL0:(0:Int)<(L:Int):=by omega
     have hq0:(0:Int)<=(q:Int):=by omega
     have hq1:(q:Int)<(L:Int):=by omega
     have hLne:((L:Int)==0)=false:=by simp;omega
     have hLne2:(L:Int)≠0:=by omega
     clear hqe hcu g4
     go_wp2_with fail
     refine(qNo u 40 wo (by omega) u0 u1).mono ?_
     rintro r wq ⟨g,hg40,rfl,hwq⟩
     rw[hwq]
     clear hwq wq
     go_wp2
     go_meet
     exact⟨g,rfl,by omega,rfl⟩
   case rest =>
    obtain⟨g,rfl,hg40,rfl⟩:=hcut
    have wn1:IntKind.i64.wrap (now+1)=now+1:=by rw[IntKind.wrap_i64];omega
    have wn2:IntKind.i64.wrap (now+1+(g:Int))=now+1+(g:Int):=by rw[IntKind.wrap_i64];omega
    have HOM:=hide (show MidOk mid (now+1+(g:Int))/\mid.length=9*i+0 from⟨(uh HM).1.mono (by omega),(uh HM).2.1⟩)
    go_wp2_with fail
    go_loopw [10,14] (λlv jv wz=>∃(j m c2:Nat) (md:List OpM) (ad:Option Addr),j<=8/\jv=.int .i64 j/\lv=.slice ad m c2/\m=9*i+1+j/\Hid (qMb wz (cb+1) lv (crO c::md))/\Hid (MidOk md (now+1+(g:Int))/\md.length=9*i+j)/\Hid (Keeps (λ_=>False) w wz)/\Hid (Blk wz cb c.cells 32)) (λ_ jv _=>8-(intOf jv).toNat)
    case atStart=>exact⟨0,m,c2,mid,ad,by omega,rfl,rfl,by have:=uh HMM;omega,HO,HOM,HK,HB⟩
    case round=>as_aux_lemma =>
     clear HO HOM HK HB HM HMM
     obtain⟨j,m,c2,md,ad,hj,rfl,rfl,hm,HO,HM,HK,HB⟩:=hrel
     generalize wr=wz at *
     have hsz:=(uh HB).lt
     have hml:(crO c::md).length=m:=by rw[List.length_cons,(uh HM).2];omega
     by_cases hj8:j<8
     ·have hj9:(j:Int)<8:=by omega
      obtain⟨P,hP⟩:∃P,g*j=P:=⟨_,rfl⟩
      have hPg:P<=g*8:=by rw[<-hP];exact Nat.mul_le_mul_left _ (by omega)
      have wgj:IntKind.i64.wrap ((g:Int)*(j:Int))=(P:Int):=by rw[<-Int.natCast_mul,hP,IntKind.wrap_i64];omega
      have htd:(P:Int).tdiv 8=((P/8:Nat):Int):=by rw[Int.tdiv_eq_ediv_of_nonneg (by omega)];omega
      obtain⟨a,ha⟩:∃a,now+1+((P/8:Nat):Int)=a:=⟨_,rfl⟩
      have wsm:IntKind.i64.wrap (now+1+((P/8:Nat):Int))=a:=by rw[ha,IntKind.wrap_i64];omega
      have HM2:=hide (show MidOk (md++[adO a]) (now+1+(g:Int))/\(md++[adO a]).length=9*i+(j+1) from⟨(uh HM).1.add (by omega),by rw[List.length_append,(uh HM).2,List.length_singleton];omega⟩)
      have hQ:P/8<=40:=by omega
      generalize P/8=Q at *
      have wQ:wrap64 (Q:Int)=(Q:Int):=by
       have:=IntKind.wrap_i64 (Q:Int)
       unfold wrap64
       omega
      clear hP ha
      generalize hAA:crO c::md=AA at *
      have HMM:=hide hm
      have hm9:m<=3000:=by omega
      clear hm
      go_wp2_with (at_builtin;refine qC7 rfl _ _ rfl (cb+1) (.slice ad m c2) AA rfl (by exact qAz (uh HO) ((Keeps.refl (λ_=>False) wz).alloc _) (λ_ _ h=>h)) _ [adO a] rfl (by exact qHb (Blk.new wz (adO a).cells 34)) (by simp;omega) (by simp;omega) ?_;intro ad2 c3 w2 hown2 hk2 hat2)
      have HK2:=hide (((uh HK).alloc (.cells (adO a).cells.toArray 34)).trans hk2 (λi hi hlt=>by have:=((uh HO).lt i hi).1;omega))
      have HB2:=hide (((uh HB).alloc (.cells (adO a).cells.toArray 34)).keeps hk2 (λh=>by have:=((uh HO).lt cb h).1;omega))
      have HO2:=hide (show qMb w2 (cb+1) (.slice ad2 (m+1) c3) (crO c::(md++[adO a])) by rw[<-List.cons_append,hAA];rw[hml]at hown2;exact hown2)
      go_roundw
      case rel=>exact⟨j+1,_,c3,md++[adO a],ad2,by omega,by go_num,rfl,by have:=uh HMM;omega,HO2,HM2,HK2,HB2⟩
      case measure=>simp[intOf];omega
     ·have hje:j=8:=by omega
      subst hje
      have HM2:=hide (show MidOk (md++[tkO (now+1+(g:Int))]) (now+1+(g:Int))/\(md++[tkO (now+1+(g:Int))]).length=9*(i+1)/\(0<i+1->∃mid',md++[tkO (now+1+(g:Int))]=mid'++[tkO (now+1+(g:Int))]) from⟨(uh HM).1.tick,by rw[List.length_append,(uh HM).2,List.length_singleton];omega,λ_=>⟨md,rfl⟩⟩)
      obtain⟨nw,hnw⟩:∃nw,now+1+(g:Int)=nw:=⟨_,rfl⟩
      rw[hnw]at wn2 HM2
      generalize hAA:crO c::md=AA at *
      have HMM:=hide hm
      have hm9:m<=3000:=by omega
      clear hm
      go_wp2_with (at_builtin;refine qC7 rfl _ _ rfl (cb+1) (.slice ad m c2) AA rfl (by exact qAz (uh HO) ((Keeps.refl (λ_=>False) wz).alloc _) (λ_ _ h=>h)) _ [tkO nw] rfl (by exact qHb (Blk.new wz (tkO nw).cells 34)) (by simp;omega) (by simp;omega) ?_;intro ad2 c3 w2 hown2 hk2 hat2)
      have HK2:=hide (((uh HK).alloc (.cells (tkO nw).cells.toArray 34)).trans hk2 (λi hi hlt=>by have:=((uh HO).lt i hi).1;omega))
      have HB2:=hide (((uh HB).alloc (.cells (tkO nw).cells.toArray 34)).keeps hk2 (λh=>by have:=((uh HO).lt cb h).1;omega))
      have HO2:=hide (show qMb w2 (cb+1) (.slice ad2 (m+1) c3) (crO c::(md++[tkO nw])) by rw[<-List.cons_append,hAA];rw[hml]at hown2;exact hown2)
      go_roundw
      case rel=>exact⟨i+1,_,c3,nw,md++[tkO nw],ad2,by omega,by go_num,rfl,rfl,by omega,by omega,by have:=uh HMM;omega,HO2,HM2,HK2,HB2⟩
      case measure=>simp[intOf];omega
  ·have hie:i=300:=by omega
   subst hie
   have hsz:=(uh HB).lt
   obtain⟨hM1,hM2,hM3⟩:=uh HM
   obtain⟨md,hmd⟩:=hM3 (by omega)
   have hmdl:md.length=2699:=by rw[hmd,List.length_append,List.length_singleton]at hM2;omega
   have hcc:=uh HC
   have hvc:qA6 c=true:=by rw[<-hcc];exact qPv (by omega) (by omega) (by omega) (by omega)
   obtain⟨t,ht⟩:∃t,t=(crO c::md)++[tkO now]++[svO]:=⟨_,rfl⟩
   have ht2:(crO c::mid)++[svO]=t:=by rw[ht,hmd];rfl
   have HOK:=hide (show qJp t by rw[<-ht2];exact zBh hM1)
   have HTL:=hide (show t.length=2702 by rw[ht];simp;omega)
   have HSD:=hide (qUv c hvc (by rw[<-hcc];rfl) (by rw[<-hcc];rfl) now n0 (by omega) md (λo ho=>hM1 o (by rw[hmd];exact List.mem_append.2 (.inl ho))) (by omega) t ht)
   have hck:c.k=(K:Int):=by rw[<-hcc];rfl
   have hcw2:c.window=(V:Int):=by rw[<-hcc];rfl
   rw[hmdl,hck,hcw2]at HSD
   have hml:(crO c::mid).length=2701:=by rw[List.length_cons,hM2]
   clear hM1 hM2 hM3 hmd hmdl hcc hvc ht
   generalize hAA:crO c::mid=AA at *
   subst hm
   generalize wr=wo at *
   go_wp2_with (at_builtin;refine qC7 rfl _ _ rfl (cb+1) (.slice ad (9*300+1) c2) AA rfl (by exact qAz (uh HO) ((Keeps.refl (λ_=>False) wo).alloc _) (λ_ _ h=>h)) _ [svO] rfl (by exact qHb (Blk.new wo svO.cells 34)) (by simp;omega) (by simp;omega) ?_;intro ad2 c3 w2 hown2 hk2 hat2;rw[hml,ht2]at hown2)
   have HK2:=hide (((uh HK).alloc (.cells svO.cells.toArray 34)).trans hk2 (λi hi hlt=>by have:=((uh HO).lt i hi).1;omega))
   have HB2:=hide (((uh HB).alloc (.cells svO.cells.toArray 34)).keeps hk2 (λh=>by have:=((uh HO).lt cb h).1;omega))
   have HO2:=hide (show qMb w2 (cb+1) (.slice ad2 2702 c3) t from hown2)
   clear hown2 hk2 hat2 HO HK HB hAA ht2
   refine(qSl _ t w2 (by have h:=qSd (uh HO2);exact h) (by rw[uh HTL];omega) ((uh HTT).keeps (uh HK2) (λh=>h)) (uh HOK)).mono ?_
   rintro r w5 ⟨va,la,rfl,hA,hMA,hBA,hk5⟩
   have HLA:=hide (show la.length=2702 by
      have:=congrArg List.length hMA
      rwa [List.length_map,qFs,uh HTL]at this)
   have HK5:=hide ((uh HK2).then hk5)
   have HB5:=hide ((uh HB2).keeps hk5 (λh=>h))
   have HO5:=hide (qAz (uh HO2) hk5 (λ_ _ h=>h))
   obtain⟨aa,ca,ea⟩:=qH0 hA.row
   rw[uh HLA]at ea
   subst ea
   obtain⟨left,bs,s1,s2,s3,hl1,hor⟩:=uh HSD
   obtain⟨xa,hxa⟩:∃xa,la[2700]?=some xa:=⟨la[2700]'(by rw[uh HLA];omega),List.getElem?_eq_getElem _⟩
   obtain⟨xb,hxb⟩:∃xb,la[2701]?=some xb:=⟨la[2701]'(by rw[uh HLA];omega),List.getElem?_eq_getElem _⟩
   have hx1:xa.code=0/\xa.nums=[left]:=by
    have h1:(la.map (λx=>(x.code,x.nums)))[2700]?=some (xa.code,xa.nums):=by rw[List.getElem?_map,hxa];rfl
    rw[hMA,s1]at h1
    simpa using h1.symm
   have hx2:xb.bs=qEn bs:=by
    have h1:(la.map (·.bs))[2701]?=some xb.bs:=by rw[List.getElem?_map,hxb];rfl
    rw[hBA,s3]at h1
    exact(Option.some.inj h1).symm
   obtain⟨ga,hga,d0,d1,_⟩:=qJ9 hA 2700 xa hxa
   obtain⟨ga2,hga2,_,_,e2⟩:=qJ9 hA 2701 xb hxb
   subst hga
   have hgg:ga2=ga:=by injection hga2 with h;injection h with h _ _;exact h.symm
   subst hgg
   have hnr:=hA.nums xa (List.mem_of_getElem? hxa)
   rw[hx1.2]at hnr
   obtain⟨gn,ncp,hnv,hn0⟩:∃gn ncp,xa.nv=.slice (some ⟨gn,0,none⟩) 1 ncp/\w5.cell? ⟨gn,0,none⟩=some (.int .i64 left):=by
    rcases qPj hnr with ⟨h,_⟩ | ⟨g1,cp1,hv1,hn1⟩
    ·cases h
    ·exact⟨g1,cp1,hv1,hn1 0 (by simp)⟩
   rw[hx1.1]at d0
   rw[hnv]at d1
   rw[hx2]at e2
   have hgal:ga2<w5.heap.size:=World.block_lt_of_cell? w5 _ d0
   have hcd:=zAl hA hMA
   rcases qMi (uh HO5) with ⟨_,h2⟩ | ⟨g,cap,e1,hcap,hsc,hltg,hbg,hmax⟩
   ·have:=uh HTL;rw[h2]at this;simp at this
   rw[uh HTL]at e1
   injection e1 with q1 _ q3
   subst q1 q3
   have HITM:=hide (qX0 g 0 c3 ga2 ca t (qD3 t) 2701 7 (now-(V:Int)) now w5 hsc hgal hcd (by rw[uh HTL];omega) (qHo t) (by rw[uh HTL];omega))
   rw[uh HTL]at HITM
   have hwin:w5.cell? ⟨cb,5,none⟩=some (.int .i64 (V:Int)):=by rw[<-hcw2];exact(uh HB5).cell rfl
   have wnv:IntKind.i64.wrap (now-(V:Int))=now-(V:Int):=by rw[IntKind.wrap_i64];omega
   have HD0:=hide d0
   have HD1:=hide d1
   have HE2:=hide e2
   have HN0:=hide hn0
   have hil:=qH6 t (qD3 t) 7 (now-(V:Int)) now 2701
   clear hA hMA hBA hk5 s1 s2 s3 hxa hxb hx1 hx2 hga2 d0 d1 e2 hnr hnv hn0 hgal hcd hcap hsc hltg hbg hmax HSD
   generalize qCw t (qD3 t) 7 (now-(V:Int)) now 2701=LL at *
   generalize hLl:LL.length=il at *
   have HLl:=hide hLl
   clear hLl
   go_wp2_with fail
   refine(uh HITM).mono ?_
   rintro r w6 ⟨iv,rfl,hown6,hk6⟩
   obtain⟨ia,icap,hiv⟩:=qH0 hown6
   rw[uh HLl]at hiv
   subst hiv
   have HK6:=hide ((uh HK5).then hk6)
   have i0:w6.cell? ⟨ga2,8100,none⟩=some (.int .i64 0):=hk6.cell (uh HD0) (λh=>h)
   have i1:w6.cell? ⟨ga2,8101,none⟩=some (.slice (some ⟨gn,0,none⟩) 1 ncp):=hk6.cell (uh HD1) (λh=>h)
   obtain⟨st,hst⟩:∃st,qEn bs=st:=⟨_,rfl⟩
   have hssz:st.size=bs.length:=by rw[<-hst,qFi]
   have i2:w6.cell? ⟨ga2,8105,none⟩=some (.string st):=by rw[<-hst];exact hk6.cell (uh HE2) (λh=>h)
   have i3:w6.cell? ⟨gn,0,none⟩=some (.int .i64 left):=hk6.cell (uh HN0) (λh=>h)
   have i4:w6.cell? ⟨cb,4,none⟩=some (.int .i64 (K:Int)):=by rw[<-hck];exact hk6.cell ((uh HB5).cell rfl) (λh=>h)
   clear hst hown6 hk6 hwin wnv HITM
   obtain⟨sl,hsl⟩:∃sl,bs.length=sl:=⟨_,rfl⟩
   rw[hsl]at hssz hor
   clear hsl
   obtain⟨dg,hdg⟩:∃dg,Go.bitLen il=dg:=⟨_,rfl⟩
   rw[hdg]at hor
   have HDG:=hide (show ∀n,Calls Tryz.prog 16 #[.int .i64 (il:Int)] (w6.drewN n) λe w''=>e=.returned (.int .i64 (dg:Int))/\w''=w6.drewN n from λn=>by rw[<-hdg];exact qUb il _ (by omega))
   have hdb:dg<=63:=by
    rw[<-hdg]
    apply Nat.le_of_not_lt
    intro h
    have h1:=(bitLen_spec il).2 (by intro e;rw[e]at h;simp[Go.bitLen]at h)
    have h2:=Nat.pow_le_pow_right (show 1<=2 by omega) (show 63<=Go.bitLen il-1 by omega)
    have e:(2:Nat) ^ 63=9223372036854775808:=by decide
    omega
   clear hdg
   obtain⟨ka,hka⟩:∃ka,K+1=ka:=⟨_,rfl⟩
   obtain⟨kb,hkb⟩:∃kb,32*ka=kb:=⟨_,rfl⟩
   obtain⟨da,hda⟩:∃da,1+dg=da:=⟨_,rfl⟩
   obtain⟨pp,hpp⟩:∃pp,kb*da=pp:=⟨_,rfl⟩
   have hppb:pp<=352*64:=by rw[<-hpp];exact Nat.mul_le_mul (by omega) (by omega)
   have v1:IntKind.i64.wrap ((K:Int)+1)=(ka:Int):=by rw[IntKind.wrap_i64];omega
   have v2:IntKind.i64.wrap (32*(ka:Int))=(kb:Int):=by rw[IntKind.wrap_i64];omega
   have v3:IntKind.i64.wrap (1+(dg:Int))=(da:Int):=by rw[IntKind.wrap_i64];omega
   have v4:IntKind.i64.wrap ((kb:Int)*(da:Int))=(pp:Int):=by rw[<-Int.natCast_mul,hpp,IntKind.wrap_i64];omega
   have v5:IntKind.i64.wrap (400+(pp:Int))=400+(pp:Int):=by rw[IntKind.wrap_i64];omega
   have hor2:(decide (0<left)=true)\/(decide (0<left)=false/\left=0/\(sl:Int)<=400+(pp:Int)):=by
    rcases hor with h | ⟨h,h3⟩
    ·exact .inl (by simpa using h)
    ·refine .inr ⟨by simp;omega,h,?_⟩
     rw[Int.toNat_natCast,hka,hkb,hda,hpp]at h3
     omega
   clear hor hka hkb hda hpp
   rcases hor2 with h5 | ⟨h5,h6,h7⟩
   ·go_wp2_with fail
    go_quiet (first | (go_at_call 16;refine Calls.quiet_of_same (uh HDG _)))
    go_wp2
    go_ret
    exact⟨rfl,(uh HK6).then (Keeps.drewN _ _ _)⟩
   ·subst h6
    go_wp2_with fail
    go_quiet (first | (go_at_call 16;refine Calls.quiet_of_same (uh HDG _)))
    go_wp2
    go_ret
    exact⟨rfl,(uh HK6).then (Keeps.drewN _ _ _)⟩
end
end Go.Proofs.YtahnliehdjncdabGreatDoor
