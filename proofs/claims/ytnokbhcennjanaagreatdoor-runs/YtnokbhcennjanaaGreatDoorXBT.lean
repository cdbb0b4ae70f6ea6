import Derived.Test.YtnokbhcennjanaaGreatDoorXBR
open Go.RowKit Go.Proofs.Tryz
set_option maxRecDepth 100000
set_option maxHeartbeats 16000000
namespace Go.Proofs.YtnokbhcennjanaaGreatDoor
section
attribute [local go_sem ↓] Mk.execOp_fieldMk
attribute [local go_sem] Mk.run_fieldMk0 Mk.run_fieldMk1
theorem UD(s t k G n:Nat)(j:List (Nat×Option Nat))(c:Cfg)(m acc rel:Int)(nv:Value)(e:Nat->List Bk)(tl:List Nat)(w:World)(z:cZ w s t j c (λ_=>[]))(S:j.length=n)(aw:aR w k (Ae (EA e n 0)++tl))(ap:aD w G (IU m acc rel nv) 177)(ae:s≠k/\t≠k/\(∀d,d<j.length->¬qf (Aq j d) k))(ar:G≠k/\(∀d,d<j.length->¬qf (Aq j d) G))(bd:gT m rel n e)(dg:n<=16)(df:m<=4611686018427387904):
  Calls prog 146 #[.pointer (some ⟨s,0,none⟩),.pointer (some ⟨k,0,none⟩),.pointer (some ⟨G,0,none⟩)] w λh U=>h=.returned (.tuple #[])/\∃B v,(∀d,d<n->B d=e d)/\DL w s t k j c B tl v U:=by
 have ce:=aw.aF.lt
 have a2:=Aa (show ∀U,aA (λJ=>J=k\/∃d,d<j.length/\qf (Aq j d) J) w U->U.cell? ⟨G,0,none⟩=some (.int .i64 m)/\U.cell? ⟨G,2,none⟩=some (.int .i64 rel) from λU bh=>by
    have S:¬(G=k\/∃d,d<j.length/\qf (Aq j d) G):=λh=>h.elim ar.1 (λ⟨d,L,h⟩=>ar.2 d L h)
    exact⟨(ap.keeps bh S).cell rfl,(ap.keeps bh S).cell rfl⟩)
 have a3:=Aa (show DL w s t k j c (λ_=>[]) (Ae (EA e n 0)++tl) j w from⟨z,aw,rfl,λa J ao ca=>.inl ⟨a,ao,ca⟩,aA.refl _ _,⟨ae.1,ae.2.1,ae.2.2,ce⟩⟩);have W:=Aa bd;have b4:w.cell? ⟨s,20,none⟩=some (.slice (some ⟨t,0,none⟩) n n):=by rw[<-S];exact z.aF.cell rfl
 have a7:=Aa S;clear z aw ap bd ae ar S;go_enter func146,ntmps146;go_wp2_with fail
 clear b4;go_loopw [6,15] (λJ O wr=>∃(M a u:Nat) (B:Nat->List Bk) (v:List (Nat×Option Nat)),J=.int .i64 (M:Int)/\O=.int .i64 (a:Int)/\a+u=n/\M<=40*a/\Hid (M+Dt e u a=Dt e n 0)/\Hid (∀d,(d<a->B d=e d)/\(a<=d->B d=[]))/\Hid (DL w s t k j c B (Ae (EA e u a)++tl) v wr)) (λ_ O _=>n-(intOf O).toNat)
 case atStart=>exact⟨0,0,n,λ_=>[],j,rfl,rfl,by omega,by omega,by show _=_;omega,λd=>⟨λz=>by omega,λ_=>rfl⟩,a3⟩
 case round =>
  clear a3;obtain⟨M,a,u,B,v,rfl,rfl,cu,cv,a5,q,o⟩:=hrel;cases u with
  | zero =>
   have af:a=n:=by omega
   subst af;have cb:decide ((a:Int)<(a:Int))=false:=by simp
   obtain⟨a9,ba⟩:=a2.o wr o.o.kp;have cy:decide ((M:Int)<=rel)=true:=by
    have A:=W.o.sum;have ab:=a5.o;rw[Dt]at ab;simp only[iI];omega
   go_wp2_with fail
   refine(Gc k _).mono ?_;rintro h bp ⟨rfl,bo⟩;rw[bo];clear bo bp;go_wp2;go_end0;exact⟨rfl,B,v,λd L=>(q.o d).1 L,o.o⟩
  | succ u =>
   have af:a<n:=by omega
   have ct:(a:Int)<(n:Int):=by omega
   have cs:(0:Int)<=(a:Int):=by omega
   have bu:=Aa (show a<v.length by rw[o.o.ln,a7.o];exact af);obtain⟨T,av⟩:∃T,(Aq v a).1=T:=⟨_,rfl⟩;have b5:wr.cell? ⟨t,a,none⟩=some (.pointer (some ⟨T,0,none⟩)):=by rw[<-av];exact o.o.dr.fI.cell (H9 bu.o)
   obtain⟨D,ad⟩:∃D,(e a).length=D:=⟨_,rfl⟩;have co:D<=40:=by rw[<-ad];exact W.o.len a
   have aa:=Aa ad;have F:=Aa av
   have C:=Aa (show DL w s t k j c B (enc (D:Int)++(Ae (C6 (e a))++(Ae (EA e u (a+1))++tl))) v wr by
      have:=o.o;rw[EA,BN,By,ad]at this
      simpa only[List.append_assoc] using this)
   clear ad av o;go_wp2_with fail
   have a1:=Aa (show aD (wr.alloc (.cells #[.int .i64 (-1),.int .i64 41] 218)) wr.heap.size [.int .i64 (-1),.int .i64 41] 218 from aD.new wr [_,_] _);have a6:=Aa (C.o.still ((aA.refl (λ_=>False) wr).alloc (.cells #[.int .i64 (-1),.int .i64 41] 218)))
   have I:=Aa (show wr.heap.size≠s/\wr.heap.size≠t/\wr.heap.size≠k/\w.heap.size<=wr.heap.size/\(∀d,d<v.length->¬qf (Aq v d) wr.heap.size) by
      have A:=C.o.dr;refine⟨by have:=A.aF.lt;omega,by have:=A.fI.lt;omega,by have:=C.o.rd.aF.lt;omega,C.o.kp.size,λd L f=>?_⟩;rcases f with f | f
      ·have:=(A.row d L).lt.1;omega
      have:=((A.row d L).lt.2 _ f).1;omega)
   clear C b5;generalize(wr.alloc (.cells #[.int .i64 (-1),.int .i64 41] 218))=dh at *
   generalize wr.heap.size=r at *
   refine(a6.o.number (by omega) (by omega) (by omega) (by omega)).mono ?_;rintro h di ⟨rfl,bi,be⟩;have a4:=Aa bi;have az:=Aa (a1.o.keeps be I.o.2.2.1);clear bi be a6 a1;go_wp2_with fail
   go_loopw [6,22] (λJ O wr=>∃(N d:Nat) (lt H:Int) (E:Nat->List Bk) (l:List (Nat×Option Nat)),J=.int .i64 (N:Int)/\O=.int .i64 (d:Int)/\d<=D/\N=M+d/\-1<=lt/\lt<=4611686018427387904/\1<=H/\H<=41/\Hid (∀b,b∈(e a).drop d->lt<b.sz/\b.t<H)/\Hid (∀p,(p<a->E p=e p)/\(p=a->E p=(e a).take d)/\(a<p->E p=[]))/\Hid ((Aq l a).1=T)/\Hid (∀d,d<l.length->¬qf (Aq l d) r)/\Hid (aD wr r [.int .i64 lt,.int .i64 H] 218)/\Hid (DL w s t k j c E (Ae (C6 ((e a).drop d))++(Ae (EA e u (a+1))++tl)) l wr)) (λ_ O _=>D-(intOf O).toNat)
   case atStart =>
    exact⟨M,0,-1,41,B,v,rfl,rfl,iM _,rfl,by omega,by omega,by omega,by omega,λb R=>by have:=W.o.tm a b R;omega,λp=>⟨(q.o p).1,λh=>by rw[(q.o p).2 (by omega),jM],λh=>(q.o p).2 (by omega)⟩,F,I.o.2.2.2.2,az,a4⟩
   case round =>
    clear a4 az q F;obtain⟨N,d,lt,H,E,l,rfl,rfl,L,cw,dc,de,da,db,br,q,F,ak,Y,o⟩:=hrel;by_cases cd:d<D
    ·obtain⟨b,R⟩:∃b,(e a)[d]?=some b:=⟨_,hX (by rw[aa.o];exact cd)⟩
     have ah:=Aa (show(e a).drop d=b::(e a).drop (d+1) by
        have bl:=ik.1 R
        rw[List.drop_eq_getElem_cons bl.1,bl.2])
     have b3:=Aa (show(e a).take (d+1)=(e a).take d++[b] by rw[jg,R];rfl);have bb:=br.o b (by rw[ah.o];simp);have bc:=W.o.tm a b (iu R)
     have a0:=Aa (show ∀ag,ag∈(e a).drop (d+1)->b.sz<ag.sz/\ag.t<b.t by
        have A:=W.o.gB a;rw[<-List.take_append_drop d (e a)]at A;have ab:=(iY.1 A).2.1;rw[ah.o]at ab
        exact(ji.1 ab).1)
     have C:=Aa (show DL w s t k j c E (enc b.sz++(enc b.t++(Ae (C6 ((e a).drop (d+1)))++(Ae (EA e u (a+1))++tl)))) l wr by
        have z:=o.o;rw[ah.o]at z
        simpa only[C6,ju,BN,By,Dm,jt,List.append_assoc,List.cons_append] using z)
     have Z:=Aa (show a<l.length by rw[o.o.ln,a7.o];exact af);obtain⟨P,am⟩:∃ay,b.sz=ay:=⟨_,rfl⟩;obtain⟨Q,an⟩:∃ay,b.t=ay:=⟨_,rfl⟩;rw[am,an]at bb bc a0 C;obtain⟨cp,cq⟩:=bb;obtain⟨b6,b7,b8,cr⟩:=bc;have b9:b.val=.agg #[.int .i64 P,.int .i64 Q]:=by rw[<-am,<-an];rfl
     obtain⟨a9,ba⟩:=a2.o wr o.o.kp;have ci:=Y.o.c0;have cj:=Y.o.c1;have cx:(d:Int)<(D:Int):=by omega
     have dl:IntKind.i64.wrap (lt+1)=lt+1:=by rw[ic];omega
     have dm:IntKind.i64.wrap (H-1)=H-1:=by rw[ic];omega
     have a8:=Aa (show r≠k from I.o.2.2.1);clear o am an R;go_wp2_with fail
     go_region_with (first | (go_at_call 77;refine(bj.number (lo:=1) (hi:=H-1) (by omega) (by omega) b8 (by omega)).mono ?_;rintro h bq ⟨rfl,bk,bg⟩;have X:=al.keeps bg a8.o;have cl:=X.cell (i:=0) rfl;have cm:=X.cell (i:=1) rfl;have cn:=X.frozen) | (go_at_call 77;refine((C.o.still ((aA.refl (λ_=>False) wr).drew)).number (lo:=lt+1) (hi:=m) b6 (by omega) (by omega) b7).mono ?_;rintro h bp ⟨rfl,bj,bf⟩;have al:=(Y.o.drew).keeps bf a8.o;have ck:=al.cell (i:=1) rfl))
     all_goals
      have ai:=Aa (bk.new (bx:=r) (((aA.refl (λa=>a=r) bq).setCell (p:=⟨r,0,none⟩) (Or.inl rfl) (.int .i64 P)).setCell (p:=⟨r,1,none⟩) (Or.inl rfl) (.int .i64 Q)) ⟨I.o.1,I.o.2.1,I.o.2.2.1,I.o.2.2.2.1⟩ ak.o);have V:=Aa (show aD _ r [.int .i64 P,.int .i64 Q] 218 from(X.setCell 0 (.int .i64 P)).setCell 1 (.int .i64 Q));clear bk bg X cl cm cn bj bf al ck a9 ba ci cj C Y;generalize((bq.setCell ⟨r,0,none⟩ (.int .i64 P)).setCell ⟨r,1,none⟩ (.int .i64 Q))=ch at *
      have cf:=V.o.c0;have cg:=V.o.c1;have aj:=Aa (Mk.rowPut_any T (Aq l a).2 (E a) b ch (by rw[<-F.o];exact ai.o.dr.row a Z.o) (by rw[(q.o a).2.1 rfl,iD];omega));rw[b9]at aj;have dk:IntKind.i64.wrap ((N:Int)+1)=(N:Int)+1:=by rw[ic];omega
      go_wp2_with fail
      refine aj.o.mono ?_;rintro h dj ⟨rfl,ax,bn,aq,au⟩;have bv:=Aa (ai.o.put (x:=b) Z.o (by rw[F.o];exact bn) (by rw[F.o];exact aq) au);have b0:=Aa (show ∀d,d<(l.set a ((Aq l a).1,ax)).length->¬qf (Aq (l.set a ((Aq l a).1,ax)) d) r from zPb au V.o.lt ak.o);have bs:=Aa (V.o.keeps aq (λf=>ak.o a Z.o (by rw[<-F.o]at f;exact f)))
      have b1:=Aa (show(Aq (l.set a ((Aq l a).1,ax)) a).1=T by
         rw[<-F.o];unfold Aq
         simp[List.getD_eq_getElem?_getD,Z.o])
      clear bn aq au aj ai V cf cg;go_wp2;go_roundw;case rel=>exact⟨N+1,d+1,P,Q,_,_,by go_num,by go_num,by omega,by omega,by omega,by omega,by omega,by omega,a0,λp=>⟨λh=>by unfold J7;rw[hZ (by omega)];exact(q.o p).1 h,λh=>by unfold J7;rw[h9 h,b3.o,(q.o a).2.1 rfl],λh=>by unfold J7;rw[hZ (by omega)];exact(q.o p).2.2 h⟩,b1,b0,bs,bv⟩
      case measure=>simp[intOf];omega
    have cc:d=D:=by omega
    subst cc;have cb:decide ((d:Int)<(d:Int))=false:=by simp
    have bt:=Aa (show(e a).drop d=[] by rw[<-aa.o];exact kE);have b2:=Aa (show(e a).take d=e a by rw[<-aa.o];exact kZ)
    have bz:=Aa (show DL w s t k j c E (Ae (EA e u (a+1))++tl) l wr by
       have z:=o.o;rw[bt.o]at z
       simpa only[C6,kC,Dm,jt] using z)
    clear o;go_wp2;go_roundw;case rel=>exact⟨N,a+1,u,E,l,rfl,by go_num,by omega,by omega,by have A:=a5.o;rw[Dt,aa.o]at A;show _=_;omega,λp=>⟨λh=>(ku p a).elim (λbm=>(q.o p).1 bm) (λbm=>by rw[(q.o p).2.1 (by omega),b2.o,show p=a by omega]),λh=>(q.o p).2.2 (by omega)⟩,bz⟩
    case measure=>simp[intOf];omega
