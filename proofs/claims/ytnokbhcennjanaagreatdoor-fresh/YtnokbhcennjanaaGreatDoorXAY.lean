import Derived.Test.YtnokbhcennjanaaGreatDoorXAX
open Go.RowKit Go.Proofs.Tryz
set_option maxRecDepth 100000
set_option maxHeartbeats 16000000
namespace Go.Proofs.YtnokbhcennjanaaGreatDoor
section
attribute [local go_sem ↓] AH JS
attribute [local go_sem] AI A3 A4 AJ AL B8 B9 Bd B2
structure gL (x:aJ) (bC:List It) (clock:Int):Prop where
 len:bC.length=x.l.length
 cap:(bC.length:Int)<=(Al x.k x.c).cap
 num:∀y,y∈bC->1<=y.n/\y.n<=x.rel+(bC.length:Int)
 eE:(bC.map (·.n)).Nodup
 bd:∀n,n∈Bq x.k bC->0<=n/\n<=9223372036854775807
 ref:∀(i:Nat) (y:It),bC[i]?=some y->bO (I2 x (Al x.k x.c) (bC.take i)) clock (A7 x.k y)=0
theorem TZ(l:Nat)(x:aJ)(clock:Int)(bC:List It)(cp:aU)(L:List Nat)(tl:List Nat)(w:World)(c:aR w l (Ae (Ha x)++(Ae (Bq x.k bC)++(L++tl))))(hi:gM x clock)(cl:gL x bC clock)(di:∀(W:NB) (s:Nat) (nv:Value) (X:World),cB X x.k W (Al x.k x.c) CH->aR X l (L++tl)->dB X s (clock-(Al x.k x.c).aL) (x.rel+(bC.length:Int)) x.rel nv (bC.map (·.n))->¬BK x.k W l->¬BK x.k W s->(∀a,nv.ownBlock=some a->¬BK x.k W a)->l<s ->
     Calls prog (Iy x.k) (Et W.d++#[π l,π s]) X λk h=>k=.returned (.tuple #[])/\∃ae:NB,ae.d=W.d/\cB h x.k ae (Al x.k x.c) cp/\(∀a,BK x.k ae a->BK x.k W a\/X.heap.size<=a)/\aR h l tl/\aA (λa=>a=l\/a=s\/nv.ownBlock=some a\/BK x.k W a) X h):
  Calls prog 78 #[π l,ι clock] w λk o=>∃d:SB,k=.returned (π d.s)/\bJ o d ⟨x.id,Al x.k x.c,x.k,x.rel+(bC.length:Int),x.rel,CN x.ref 7,Cs x.k bC,cp,0⟩/\aR o l tl/\(∀a,d.aQ x.k a->w.heap.size<=a)/\aA (λa=>a=l) w o:=by
 have A:=Aa hi;have da:=Aa di;obtain⟨e0,f7⟩:=hi.fS;have v:=hi.k1;have Q:=hi.k5;have f4:=c.aF.lt;obtain⟨u,b4⟩:∃u,bC.length=u:=⟨_,rfl⟩;obtain⟨J,b5⟩:∃J,Ae (Bq x.k bC)++(L++tl)=J:=⟨_,rfl⟩;have ef:Ae (Ha x)++(Ae (Bq x.k bC)++(L++tl))=enc x.id++(Ae (BV x.k x.c)++(Ae (AE.map (Ac x.ref))++(enc x.rel++(enc (u:Int)++J)))):=by
  unfold Ha;rw[b5,<-b4,cl.len];simp only[BQ,B3,ε,Dv,jv]
 have am:=Aa cl;have aa:=Aa b4;have fd:=Aa b5;rw[ef]at c;have dw:=Aa c;clear c hi di ef cl b4 b5;obtain⟨j,b9⟩:∃j,Al x.k x.c=j:=⟨_,rfl⟩;go_enter func78,ntmps78;go_wp2_with fail
 refine(EP l x.id 0 99 _ w dw.o e0 (by omega) e0 f7).mono ?_;rintro k X ⟨rfl,eo,eg⟩;have dx:=Aa eo;have df:=Aa eg;clear eo eg dw;go_wp2_with fail
 refine(S6 l x.c x.k _ X dx.o A.o.kind v Q A.o.p0 A.o.p3 A.o.cfg A.o.valid).mono ?_;rintro k h ⟨rfl,er,ei⟩;have dy:=Aa er;have bo:=Aa (df.o.then ei);have g5:=bo.o.size;clear er ei df dx;rw[b9]at da ⊢;have U:=Aa b9;have et:j.val=.agg j.cells.toArray:=rfl;rw[et];unfold B6 fn;clear b9 et;have bj:=Aa (show aD ((h.alloc (.cells #[ι 0,ι 0,ι 0,ι 0,ι 0,ι 0,ι 0,ι 0,ι 0,ι 0,ι 0,ι 0,ι 0,ι 0,ι 0,ι 0,ι 0,ι 0,ι 0,ι 0] 46)).alloc (.cells #[.nilFunc,.nilFunc,.nilFunc,.nilFunc,.nilFunc,.nilFunc] 75)) h.heap.size EL.cells 46 from(aD.new h _ _).alloc _);have dn:=Aa (show aD ((h.alloc (.cells #[ι 0,ι 0,ι 0,ι 0,ι 0,ι 0,ι 0,ι 0,ι 0,ι 0,ι 0,ι 0,ι 0,ι 0,ι 0,ι 0,ι 0,ι 0,ι 0,ι 0] 46)).alloc (.cells #[.nilFunc,.nilFunc,.nilFunc,.nilFunc,.nilFunc,.nilFunc] 75)) (h.heap.size+1) [.nilFunc,.nilFunc,.nilFunc,.nilFunc,.nilFunc,.nilFunc] 75 from aD.newAt (by simp) _ _);have dg:=Aa (show lX h ((h.alloc (.cells #[ι 0,ι 0,ι 0,ι 0,ι 0,ι 0,ι 0,ι 0,ι 0,ι 0,ι 0,ι 0,ι 0,ι 0,ι 0,ι 0,ι 0,ι 0,ι 0,ι 0] 46)).alloc (.cells #[.nilFunc,.nilFunc,.nilFunc,.nilFunc,.nilFunc,.nilFunc] 75)) from((aA.refl _ _).alloc _).alloc _);obtain⟨P,bb⟩:∃P,P=((h.alloc (.cells #[ι 0,ι 0,ι 0,ι 0,ι 0,ι 0,ι 0,ι 0,ι 0,ι 0,ι 0,ι 0,ι 0,ι 0,ι 0,ι 0,ι 0,ι 0,ι 0,ι 0] 46)).alloc (.cells #[.nilFunc,.nilFunc,.nilFunc,.nilFunc,.nilFunc,.nilFunc] 75)).setCells h.heap.size 0 j.cells:=⟨_,rfl⟩;have f5:(E0 46 (π h.heap.size) (.agg j.cells.toArray)).run prog ((h.alloc (.cells #[ι 0,ι 0,ι 0,ι 0,ι 0,ι 0,ι 0,ι 0,ι 0,ι 0,ι 0,ι 0,ι 0,ι 0,ι 0,ι 0,ι 0,ι 0,ι 0,ι 0] 46)).alloc (.cells #[.nilFunc,.nilFunc,.nilFunc,.nilFunc,.nilFunc,.nilFunc] 75))=.ok .skip P:=by
  rw[bb];exact NR j bj.o rfl
 have cy:=Aa (show aD P h.heap.size j.cells 46 by
    have:=aD.setCells j.cells 0 _ _ bj.o (by show 0+20<=20;omega);rw[QK _ _ (by rfl),<-bb]at this
    exact this)
 have cg:aA (λa=>a=h.heap.size) ((h.alloc (.cells #[ι 0,ι 0,ι 0,ι 0,ι 0,ι 0,ι 0,ι 0,ι 0,ι 0,ι 0,ι 0,ι 0,ι 0,ι 0,ι 0,ι 0,ι 0,ι 0,ι 0] 46)).alloc (.cells #[.nilFunc,.nilFunc,.nilFunc,.nilFunc,.nilFunc,.nilFunc] 75)) P:=by
  rw[bb];exact aA.setCells (M:=λa=>a=h.heap.size) (b:=h.heap.size) (Or.inl rfl) _ _ _ (aA.refl _ _)
 have N:=Aa (dn.o.keeps cg (show ¬(h.heap.size+1=h.heap.size) by omega));have ds:=Aa (show lX h P from dg.o.trans cg (λa hi E=>by have fw:a=h.heap.size:=hi;omega));have ga:=N.o.cell (i:=0) rfl;have gb:=N.o.cell (i:=1) rfl;have gc:=N.o.cell (i:=2) rfl;have gd:=N.o.cell (i:=3) rfl;have gf:=N.o.cell (i:=4) rfl;have gg:=N.o.cell (i:=5) rfl;have gh:=N.o.frozen;have H:=Aa (show aD _ (h.heap.size+1) [.func (.func (Bi x.k)) #[] #[],.func (.func (AU x.k)) #[] #[],.func (.func (AV x.k)) #[] #[],.func (.func (AO x.k)) #[] #[],.func (.func (AR x.k)) #[] #[],.func (.func (Be x.k)) #[] #[]] 75 from((((((N.o.setCell 0 (.func (.func (Bi x.k)) #[] #[])).setCell 1 (.func (.func (AU x.k)) #[] #[])).setCell 2 (.func (.func (AV x.k)) #[] #[])).setCell 3 (.func (.func (AO x.k)) #[] #[])).setCell 4 (.func (.func (AR x.k)) #[] #[])).setCell 5 (.func (.func (Be x.k)) #[] #[])));have a3:=Aa (show aA (λa=>a=h.heap.size+1) P _ from(((((((aA.refl (λa=>a=h.heap.size+1) P).setCell (p:=⟨h.heap.size+1,0,none⟩) (Or.inl rfl) (.func (.func (Bi x.k)) #[] #[])).setCell (p:=⟨h.heap.size+1,1,none⟩) (Or.inl rfl) (.func (.func (AU x.k)) #[] #[])).setCell (p:=⟨h.heap.size+1,2,none⟩) (Or.inl rfl) (.func (.func (AV x.k)) #[] #[])).setCell (p:=⟨h.heap.size+1,3,none⟩) (Or.inl rfl) (.func (.func (AO x.k)) #[] #[])).setCell (p:=⟨h.heap.size+1,4,none⟩) (Or.inl rfl) (.func (.func (AR x.k)) #[] #[])).setCell (p:=⟨h.heap.size+1,5,none⟩) (Or.inl rfl) (.func (.func (Be x.k)) #[] #[])));clear bb cg bj dn dg;obtain⟨a9,b6⟩:∃a9,a9=((((((P.setCell ⟨h.heap.size+1,0,none⟩ (.func (.func (Bi x.k)) #[] #[])).setCell ⟨h.heap.size+1,1,none⟩ (.func (.func (AU x.k)) #[] #[])).setCell ⟨h.heap.size+1,2,none⟩ (.func (.func (AV x.k)) #[] #[])).setCell ⟨h.heap.size+1,3,none⟩ (.func (.func (AO x.k)) #[] #[])).setCell ⟨h.heap.size+1,4,none⟩ (.func (.func (AR x.k)) #[] #[])).setCell ⟨h.heap.size+1,5,none⟩ (.func (.func (Be x.k)) #[] #[])):=⟨_,rfl⟩;rw[<-b6]at H a3;have ay:=Aa (cy.o.keeps a3.o (show ¬(h.heap.size=h.heap.size+1) by omega));have a4:=Aa (show lX h a9 from ds.o.trans a3.o (λa hi E=>by have fw:a=h.heap.size+1:=hi;omega));have fq:=b6.symm;clear b6 ds a3 cy N;obtain⟨f6,fv⟩:=CM ay.o 20 rfl;have gj:=H.o.cell (i:=0) rfl;have gk:=H.o.cell (i:=1) rfl;have gl:=H.o.cell (i:=2) rfl;have gm:=H.o.cell (i:=3) rfl;have gn:=H.o.cell (i:=4) rfl;have gp:=H.o.cell (i:=5) rfl;have d4:=Aa (show j.kind=x.k by rw[<-U.o];have:=A.o.kind;rcases Au v Q with k | k | k | k | k <;> rw[k]at this ⊢ <;> exact this);go_wp2_with fail
 refine(NC x.id j x.k a9 v Q (by rw[<-U.o];exact A.o.valid) d4.o).mono ?_;rintro k e5 ⟨d,rfl,es,ap,ao⟩
 have dj:=Aa (show eK w l d (AT x.id j x.k) (Ae (AE.map (Ac x.ref))++(enc x.rel++(enc (u:Int)++J))) e5 from
    ⟨es,dy.o.keeps (a4.o.then ao) id,bo.o.trans (a4.o.then ao) (λ_ c _=>c.elim),λa hi=>by have v:=ap a hi;have ba:=a4.o.size;omega,f4⟩)
 have cw:=Aa (ay.o.keeps ao id);have fj:=Aa (H.o.keeps ao id);have d2:=Aa (show d.s≠h.heap.size+1 by have v:=ap d.s (.inl rfl);have ba:=H.o.lt;omega);have e8:=Aa (show ∀a,d.aQ x.k a->h.heap.size+1<a from λa hi=>by have v:=ap a hi;have ba:=H.o.lt;omega);have a5:=Aa (show l<h.heap.size by omega);have d1:=Aa (show d.s≠h.heap.size by have v:=ap d.s (.inl rfl);have ba:=ay.o.lt;omega);have bk:=Aa (show h.heap.size≠l by omega);clear es ap ao f5 fq ga gb gc gd gf gg gh gj gk gl gm gn gp f6 fv dy a4 ay H bo;generalize ft:h.heap.size=C at *
 clear ft;go_wp2_with fail
 refine(ML e5).mono ?_;rintro k ha ⟨rfl,bd⟩;have dk:=Aa (dj.o.still bd);have cx:=Aa (cw.o.keeps bd id);have d3:=Aa (fj.o.keeps bd id);clear bd dj cw;go_wp2_with fail
 go_loopw [30] (λad wr=>∃q:Nat,q<=7/\ad=ι q/\Hid (eK w l d { AT x.id j x.k with ref:=CN x.ref q } (Ae ((AE.map (Ac x.ref)).drop q)++(enc x.rel++(enc (u:Int)++J))) wr)/\Hid (aD wr C j.cells 46)/\Hid (aD wr (C+1) [.func (.func (Bi x.k)) #[] #[],.func (.func (AU x.k)) #[] #[],.func (.func (AV x.k)) #[] #[],.func (.func (AO x.k)) #[] #[],.func (.func (AR x.k)) #[] #[],.func (.func (Be x.k)) #[] #[]] 75)) (λad _=>7-(intOf ad).toNat)
 case atStart=>exact⟨0,by omega,rfl,dk,cx,d3⟩
 case round =>
  clear dk cx d3;obtain⟨q,D,rfl,a1,bl,bt⟩:=hrel;by_cases ce:q<7
  ·obtain⟨e,z⟩:∃e,AE[q]?=some e:=⟨_,h9 (show q<AE.length from ce)⟩;have g1:=RO q e z;have fz:e<12:=by
    have aj:=iz z;simp[AE]at aj;omega
   have ee:AE.getD q 0=e:=by rw[γ,z];rfl
   have fg:=Aa (show { AT x.id j x.k with ref:=CN x.ref (q+1) }={ ({ AT x.id j x.k with ref:=CN x.ref q }:aJ) with ref:=(CN x.ref q).set e (Ac x.ref e) } by show _=_;simp only[CN,ee])
   have az:=Aa (show Ae ((AE.map (Ac x.ref)).drop q)++(enc x.rel++(enc (u:Int)++J))=enc (Ac x.ref e)++(Ae ((AE.map (Ac x.ref)).drop (q+1))++(enc x.rel++(enc (u:Int)++J))) by
      have E:q<(AE.map (Ac x.ref)).length:=by rw[iu];exact ce
      rw[δ E,BQ,ε];congr 2;rw[lk];congr 1;have:=h9 (show q<AE.length from ce);rw[z]at this
      exact(jD this).symm)
   obtain⟨e4,gq⟩:=A.o.ref e;have al:=Aa (show eK w l d { AT x.id j x.k with ref:=CN x.ref q } (enc (Ac x.ref e)++(Ae ((AE.map (Ac x.ref)).drop (q+1))++(enc x.rel++(enc (u:Int)++J)))) wr by rw[<-az.o];exact a1.o);clear a1 az ee;have g4:(q:Int)<7:=by omega
   have g2:(0:Int)<=(e:Int):=by omega
   have g3:(e:Int)<12:=by omega
   go_wp2_with fail
   go_region_with (first | (go_at_call 77;refine((al.o.still ((aA.refl (λ_=>False) wr).drew)).number e4 (by omega) e4 gq).mono ?_;rintro k cr ⟨rfl,R,ab⟩;have b8:=R.cY.aF.cell (Ea d _ (NU x.ref q) e fz);have cb:=R.cY.aF.frozen))
   have Y:=Aa (R.set (x2:={ AT x.id j x.k with ref:=(CN x.ref q).set e (Ac x.ref e) }) (35+e) (ι (Ac x.ref e)) (OY d _ e _) rfl rfl rfl rfl);have e7:=Aa (bl.o.keeps (((aA.refl (λ_=>False) wr).drew.mono (M':=λa=>a=l) (λ_ _ c=>c.elim)).then ab) bk.o);have a8:=Aa ((bt.o.keeps (((aA.refl (λ_=>False) wr).drew.mono (M':=λa=>a=l) (λ_ _ c=>c.elim)).then ab) (show ¬(C+1=l) by have:=a5.o;omega)).aW (p:=⟨d.s,35+e,none⟩) d2.o (ι (Ac x.ref e)));have ax:=Aa (e7.o.aW (p:=⟨d.s,35+e,none⟩) d1.o (ι (Ac x.ref e)));clear b8 cb R ab;go_wp2;go_roundw;case rel=>exact⟨q+1,by omega,by go_num,by show eK _ _ _ _ _ _;rw[fg.o];exact Y.o,ax,a8⟩
   case measure=>simp[intOf];omega
  have f0:q=7:=by omega
  subst f0;have al:=Aa (show eK w l d { AT x.id j x.k with ref:=CN x.ref 7 } (enc x.rel++(enc (u:Int)++J)) wr from a1.o);clear a1;obtain⟨cn,co⟩:=A.o.aL;obtain⟨d7,d8⟩:=A.o.cap;rw[U.o]at cn co d7 d8;have e3:=A.o.dJ;have g9:=A.o.hN;have fc:=Aa (show x.rel<=Dw j clock by rw[<-U.o];exact A.o.hM);have b1:=A.o.c0;have b2:=A.o.c1;have dm:=Aa (XP d { AT x.id j x.k with ref:=CN x.ref 7 } clock wr al.o.cY cn co d7 d8 b1 b2);go_wp2_with fail
  refine dm.o.mono ?_;rintro k gw ⟨rfl,ev⟩;rw[ev];clear ev gw dm;go_wp2_with fail
  refine(al.o.number e3 (by omega) e3 fc.o).mono ?_;rintro k cr ⟨rfl,R,ab⟩;have b8:κ cr d.s 34 (ι 0):=R.cY.aF.cell rfl;have cb:=R.cY.aF.frozen;have Y:=Aa (R.set (x2:={ AT x.id j x.k with ref:=CN x.ref 7,rel:=x.rel }) 34 (ι x.rel) rfl rfl rfl rfl rfl);have a8:=Aa ((bt.o.keeps ab (show ¬(C+1=l) by have:=a5.o;omega)).aW (p:=⟨d.s,34,none⟩) d2.o (ι x.rel));have ax:=Aa ((bl.o.keeps ab bk.o).aW (p:=⟨d.s,34,none⟩) d1.o (ι x.rel));clear R ab al bl bt;go_wp2_with fail
  clear b8 cb;generalize cr.setCell ⟨d.s,34,none⟩ (ι x.rel)=af at *
  have eb:=ax.o.c3;have aq:κ af d.s 34 (ι x.rel):=Y.o.cY.aF.cell rfl;have be:κ af d.s 2 (ι j.aL):=Y.o.cY.aF.cell rfl;have gx:IntKind.i64.wrap (4611686018427387904-x.rel)=4611686018427387904-x.rel:=by rw[il];omega
  have gz:(u:Int)<=j.cap:=by rw[<-U.o,<-aa.o];exact am.o.cap
  have f3:¬(4611686018427387904-x.rel<j.cap):=by omega
  have fi:=Aa (show d.s≠l from Y.o.apart d.s (.inl rfl));have a6:=Aa (show ∀o,aA (λa=>a=l) af o->κ o C 3 (ι j.cap)/\κ o d.s 34 (ι x.rel) from λo D=>⟨D.cell eb bk.o,D.cell aq fi.o⟩);go_region_held3 (λo=>o.cell? ⟨C,3,none⟩=some (ι j.cap)/\o.cell? ⟨d.s,34,none⟩=some (ι x.rel))
   (first | exact a6.o _ bp.o | exact a6.o _ ((aA.refl (λa=>a=l) af).drew) | exact a6.o _ (aA.refl (λa=>a=l) af) | (simp[*];done))
   (first | (go_at_call 77;refine((Y.o.still ((aA.refl (λ_=>False) af).drew)).number (n:=(u:Int)) (by omega) (by omega) (by omega) (by omega)).mono ?_;rintro k t ⟨rfl,ek,ej⟩;have bp:=Aa (((aA.refl (λa=>a=l) af).drew).then ej)))
  have Z:=Aa ek;have br:=Aa (a8.o.keeps bp.o (show ¬(C+1=l) by have:=a5.o;omega));clear ek ej eb aq be gx f3 Y ax a8 bp a6;have aq:κ t d.s 34 (ι x.rel):=Z.o.cY.aF.cell rfl;have be:κ t d.s 2 (ι j.aL):=Z.o.cY.aF.cell rfl;have d5:=Aa (show ∀av,lX t av->Calls prog 43 #[π d.s,ι clock] av λk o=>k=.returned (ι (clock-j.aL))/\o=av from λav D=>G3 d.s j.aL clock av (D.cell be id) cn co b1 b2);have a7:=Aa (show ∀o,lX t o->κ o d.s 34 (ι x.rel) from λo D=>D.cell aq id);obtain⟨r,b3⟩:∃r,x.rel+(u:Int)=r:=⟨_,rfl⟩;have g7:IntKind.i64.wrap (x.rel+(u:Int))=r:=by rw[b3,il];omega
  have bh:=Aa b3;have fp:r<=4611686018427387904:=by omega
  clear b3;go_wp2_with fail
  go_region_held3 (λo=>o.cell? ⟨d.s,34,none⟩=some (ι x.rel))
   (first | exact a7.o _ ((aA.refl (λ_=>False) t).drew) | exact a7.o _ (aA.refl (λ_=>False) t) | exact a7.o _ (((aA.refl (λ_=>False) t).drew).alloc _) | (simp[*];done))
   (first | (go_at_call 43;refine(d5.o _ ((aA.refl (λ_=>False) t).drew)).mono ?_;rintro k e6 ⟨rfl,rfl⟩))
  have cf:lX t ((t.alloc (.cells #[ι (clock-j.aL),ι r,ι x.rel,.slice none 0 0] 177)).drew):=((aA.refl _ _).alloc _).drew;have du:=Aa (show dB ((t.alloc (.cells #[ι (clock-j.aL),ι r,ι x.rel,.slice none 0 0] 177)).drew) t.heap.size (clock-j.aL) r x.rel (.slice none 0 0) [] from⟨aD.new t [_,_,_,_] _,iy _ _ _ _⟩);have dl:=Aa (show eK w l d (I2 x j []) (J) ((t.alloc (.cells #[ι (clock-j.aL),ι r,ι x.rel,.slice none 0 0] 177)).drew) from Z.o.still cf);have bs:=Aa (br.o.keeps cf id);have fl:=Aa (show C+1<t.heap.size from br.o.lt);have ez:l<t.heap.size/\(∀a,d.aQ x.k a->a<t.heap.size)/\w.heap.size<=t.heap.size:=⟨Z.o.rd.aF.lt,λa hi=>Z.o.cY.lt a hi,Z.o.kp.size⟩;have d6:=Aa ez;clear cf aq be d5 a7 Z br ez;generalize(t.alloc (.cells #[ι (clock-j.aL),ι r,ι x.rel,.slice none 0 0] 177)).drew=e6 at *
  generalize t.heap.size=s at *
  have db:=Aa (show eJ w l d x j clock r s C (bC.take 0) (Ae (Bq x.k (bC.drop 0))++(L++tl)) ((bC.take 0).map (·.n)) d.g (.slice none 0 0) e6 from
     ⟨by rw[kJ,fd.o];exact dl.o,du.o,bs.o,λe z=>⟨e8.o e z,by have:=d6.o.2.1 e z;omega,by simp[Value.ownBlock]⟩,a5.o,by have:=bs.o.lt;have:=fl.o;omega,d6.o.2.2⟩)
  clear dl du bs;go_wp2_with fail
  go_loopw [75] (λad wr=>∃a:Nat,a<=u/\ad=ι a/\∃T nv,Hid (eJ w l d x j clock r s C (bC.take a) (Ae (Bq x.k (bC.drop a))++(L++tl)) ((bC.take a).map (·.n)) T nv wr)) (λad _=>u-(intOf ad).toNat)
  case atStart=>exact⟨0,by omega,rfl,_,_,db⟩
  case round =>
   clear db;obtain⟨a,hi,rfl,T,nv,a0⟩:=hrel;by_cases fx:a<u
   ·obtain⟨y,au⟩:∃y,bC[a]?=some y:=⟨_,h9 (by rw[aa.o];exact fx)⟩;have g0:(a:Int)<(u:Int):=by omega
    have fk:=Aa (show bC.take (a+1)=bC.take a++[y] by rw[ji,au];rfl)
    have az:=Aa (show Bq x.k (bC.drop a)=[y.n]++((CW x.k).map (λe=>[y.t,y.k,y.d].getD e 0)++Bq x.k (bC.drop (a+1))) by
       have E:=(iq.1 au);rw[δ E.1,E.2]
       simp[Bq,Fc])
    have dc:=Aa (show eJ w l d x j clock r s C (bC.take a) (enc y.n++(Ae ((CW x.k).map (λe=>[y.t,y.k,y.d].getD e 0))++(Ae (Bq x.k (bC.drop (a+1)))++(L++tl)))) ((bC.take a).map (·.n)) T nv wr by
       have c:=a0.o;rw[az.o]at c
       simpa only[BQ,B3,ε,Dv,jv,kz] using c)
    have ey:=iz au;have cm:=am.o.num y ey;rw[aa.o,bh.o]at cm
    have dp:=Aa (show y.n ∉ (bC.take a).map (·.n) by
       have c:=am.o.eE;rw[show bC=bC.take a++bC.drop a from(τ a bC).symm,iB]at c;have E:=(iq.1 au);rw[δ E.1,E.2]at c;intro aj
       exact(jH.1 c).2.2 _ aj _ (by simp) rfl)
    clear a0;go_wp2_with fail
    refine(dc.o.num cm.1 cm.2 fp dp.o (by simp;omega)).mono ?_;rintro k F ⟨rfl,e1,d9⟩;have I:=Aa d9;clear d9 dc dp;have f8:κ F (C+1) 4 (.func (.func (AR x.k)) #[] #[]):=I.o.kd.cell rfl;have f9:=I.o.kd.lt;have cj:=PK x.k v Q;go_wp2_with fail
    have bi:=Aa (show aD (F.alloc (.cells #[ι 0,ι 0,ι 0,ι y.n] 80)) F.heap.size [ι 0,ι 0,ι 0,ι y.n] 80 from aD.new F [_,_,_,_] _);have de:=Aa (I.o.still ((aA.refl (λ_=>False) F).alloc (.cells #[ι 0,ι 0,ι 0,ι y.n] 80)));have O:=Aa (show(∀e,({ d with g:=T }:SB).aQ x.k e->e<F.heap.size)/\s<F.heap.size/\(∀e,e1.ownBlock=some e->e<F.heap.size)/\C+1<F.heap.size/\w.heap.size<=F.heap.size/\l<F.heap.size from⟨λe z=>I.o.ls.cY.lt e z,I.o.kr.aF.lt,λe z=>(I.o.kr.row.lt e z).2,I.o.kd.lt,I.o.ls.kp.size,I.o.ls.rd.aF.lt⟩);clear I f8 f9 cj;generalize(F.alloc (.cells #[ι 0,ι 0,ι 0,ι y.n] 80))=gr at *
    generalize F.heap.size=G at *
    refine(PM x.k G gr v Q).mono ?_;rintro k gs ⟨e2,rfl,ck,cc⟩;have dr:=Aa ck;have bm:=Aa (de.o.still cc);have cv:=Aa (bi.o.keeps cc id)
    have dt:=Aa (show ∀a,e2.ownBlock=some a->a≠l/\a≠G from λa hi=>by
       have v:=(ck.lt a hi).1;have ba:=bi.o.lt;have gy:=O.o.2.2.2.2.2
       omega)
    clear ck cc de bi;go_wp2_with fail
    have cu:=Aa (show ∀S,S∈(CW x.k).map (λe=>[y.t,y.k,y.d].getD e 0)->0<=S/\S<=9223372036854775807 from λS ch=>am.o.bd S (by
         unfold Bq
         exact lj.2 ⟨y,ey,j8 _ ch⟩))
    refine(Mb l G (CW x.k) _ [ι 0,ι 0,ι 0,ι y.n] 80 e2 _ _ gs bm.o.ls.rd (by have:=dr.o;unfold at' at this ⊢;rw[iu]at this;exact this) cv.o (by rw[iu]) (λg8 aj=>by rcases Au v Q with k | k | k | k | k <;> rw[k]at aj <;> simp[CW]at aj ⊢ <;> omega) (by have:=O.o.2.2.2.2.2;omega) dt.o cu.o (by have:=Mz x.k;omega)).mono ?_;rintro k gu ⟨rfl,ep,b7,eh⟩;rw[Yp x.k y v Q]at b7;have bn:=Aa (bm.o.rd (bx:=G) eh ep (λe z=>by have:=O.o.1 e z;omega) (by have:=O.o.2.1;omega) (λk=>by have:=O.o.2.2.1 _ k;omega) (by have:=O.o.2.2.2.1;omega) O.o.2.2.2.2.1);have ah:=Aa b7;clear ep b7 eh bm cv dr dt cu;have bu:=ah.o.c0;have bv:=ah.o.c1;have bz:=ah.o.c2;have b0:=ah.o.c3;have d0:=Aa (am.o.ref a y au);rw[U.o]at d0;go_wp2_with fail
    refine(Yq _ (I2 x j (bC.take a)) (A7 x.k y) clock gu bn.o.ls.cY (by show Ak j=true;rw[<-U.o];exact A.o.valid) d4.o v Q b1 b2).mono ?_;rintro k cq ⟨rfl,cd⟩;rw[d0.o];have ai:=Aa (bn.o.still cd);have ak:=Aa (ah.o.keeps cd id);clear cd bn ah bu bv bz b0;go_wp2_with fail
    refine(Gk l _).mono ?_;rintro k gv ⟨rfl,eu⟩;rw[eu];clear eu gv;have bu:=ak.o.c0;have bv:=ak.o.c1;have bz:=ak.o.c2;have b0:=ak.o.c3;have fr:κ cq d.s 32 (π d.q):=ai.o.ls.cY.aF.cell rfl;have fe:=Aa (show ¬(d.s=d.q\/T=some d.s) from λc=>c.elim ai.o.ls.cY.sq (λc=>ai.o.ls.cY.sg d.s c rfl));have a2:=Aa (show ¬(G=d.q\/T=some G) from λc=>c.elim (λc=>by have:=O.o.1 d.q (.inr (.inl rfl));omega) (λc=>by have:=O.o.1 G (.inr (.inr (.inl c)));omega));have f2:(Cs x.k (bC.take a)).length<=900:=by rw[Oi];simp;omega
    go_wp2_with fail
    go_region_held3 (λo=>o.cell? ⟨d.s,32,none⟩=some (π d.q)/\o.cell? ⟨G,0,none⟩=some (ι (A7 x.k y).t)/\o.cell? ⟨G,1,none⟩=some (ι (A7 x.k y).k)/\o.cell? ⟨G,2,none⟩=some (ι (A7 x.k y).d)/\o.cell? ⟨G,3,none⟩=some (ι (A7 x.k y).n))
     (first | (simp[*];done) | (go_split_ands;exact⟨D.cell (by assumption) fe.o,D.cell (by assumption) a2.o,D.cell (by assumption) a2.o,D.cell (by assumption) a2.o,D.cell (by assumption) a2.o⟩))
     (first | (go_at_call 68;refine(put_any d.q T (Cs x.k (bC.take a)) (A7 x.k y) _ (by exact(ai.o.ls.cY.dM.keeps ((aA.refl (λ_=>False) cq).drew) id (λ_ _ c=>c))) f2).mono ?_;rintro k o ⟨rfl,gi,em,D,el⟩))
    have fa:=Aa (show eJ w l d x j clock r s C (bC.take (a+1)) (Ae (Bq x.k (bC.drop (a+1)))++(L++tl)) ((bC.take (a+1)).map (·.n)) gi e1 o by
       rw[fk.o];have:=(ai.o.still ((aA.refl (λ_=>False) cq).drew)).put (y:=y) em D el;rw[iB,List.map_singleton]
       exact this)
    clear em D el bu bv bz b0 fr ai ak;go_wp2;go_roundw;case rel=>exact⟨a+1,by omega,by go_num,_,_,fa⟩
    case measure=>simp[intOf];omega
   have fy:a=u:=by omega
   subst fy
   have V:=Aa (show eJ w l d x j clock r s C bC (L++tl) (bC.map (·.n)) T nv wr by
      have c:=a0.o;rw[show bC.take a=bC from by rw[<-aa.o];exact lg,show bC.drop a=[] from by rw[<-aa.o];exact kK]at c
      exact c)
   clear a0;obtain⟨m,bf⟩:∃m:SB,({ d with g:=T }:SB)=m:=⟨_,rfl⟩;have g6:d.s=m.s:=by rw[<-bf]
   have bq:=Aa (show eK w l m (I2 x j bC) (L++tl) wr by rw[<-bf];exact V.o.ls);have dh:=Aa V.o.kr;have ag:=Aa (show ∀e,m.aQ x.k e->e≠s/\nv.ownBlock≠some e by rw[<-bf];exact λe z=>(V.o.ap e z).2);have dq:=Aa (show(∀e,nv.ownBlock=some e->s+1<=e)/\w.heap.size<=s/\l<s from⟨λe z=>V.o.eP e z,V.o.wk,by have:=V.o.rc;have:=V.o.kc;omega⟩);clear V bf;have f1:=dh.o.aF.c1;have fs:κ wr m.s 33 (ι 0):=bq.o.cY.aF.cell rfl;have fu:=bq.o.cY.aF.frozen;have B:=Aa (bq.o.set (x2:={ I2 x j bC with acc:=r }) 33 (ι r) rfl rfl rfl rfl rfl);have ct:=Aa (show dB (wr.setCell ⟨m.s,33,none⟩ (ι r)) s (clock-j.aL) r x.rel nv (bC.map (·.n)) from dh.o.keeps ((aA.refl (λa=>a=m.s) wr).setCell (p:=⟨m.s,33,none⟩) (Or.inl rfl) _) (λk=>(ag.o m.s (.inl rfl)).1 k.symm) (λa hi k=>(ag.o m.s (.inl rfl)).2 (by rw[<-show a=m.s from k];exact hi)));obtain⟨aw,ew⟩:∃aw,wr.setCell ⟨m.s,33,none⟩ (ι r)=aw:=⟨_,rfl⟩;rw[ew]at B ct;have fm:κ aw m.s 31 (.func (.func (Iy x.k)) (Et m.n.d) #[]):=B.o.cY.aF.cell rfl;have cj:=zN3 x.k v Q;go_wp2_with fail
   clear f1 fs fu ew fm cj;have e9:=Aa (da.o m.n s nv aw B.o.cY.note B.o.rd (by rw[aa.o,bh.o];exact ct.o) (λc=>B.o.apart l (.inr (.inr (.inr c))) rfl) (λc=>(ag.o s (.inr (.inr (.inr c)))).1 rfl) (λa hi c=>(ag.o a (.inr (.inr (.inr c)))).2 hi) dq.o.2.2);refine e9.o.mono ?_;rintro k cs ⟨rfl,ae,ec,ea,ca,en,bc⟩;have dz:=Aa en;have ar:=B.o.cY.sn;have bg:=dq.o
   have fh:=Aa (show bJ cs { m with n:=ae } ⟨x.id,j,x.k,r,x.rel,CN x.ref 7,Cs x.k bC,cp,0⟩ from by
      have an:=B.o.cY;have ci:∀a,m.aQ x.k a->¬BK x.k m.n a->¬(a=l\/a=s\/nv.ownBlock=some a\/BK x.k m.n a):=λa hi ch c=>by
       rcases c with c | c | c | c
       ·exact B.o.apart a hi c
       ·exact(ag.o a hi).1 c
       ·exact(ag.o a hi).2 c
       exact ch c
      have E:∀a,m.aQ x.k a->a<aw.heap.size:=λa hi=>an.lt a hi;refine⟨?_,?_,ea,an.sq,an.sg,λa hi=>?_⟩
      ·have v:=an.aF.keeps bc (ci m.s (.inl rfl) (λc=>(ar _ c).1 rfl));unfold D8 at v ⊢;simp only at v ⊢;rw[ec];exact v
      ·exact an.dM.keeps bc (ci m.q (.inr (.inl rfl)) (λc=>(ar _ c).2.1 rfl)) (λg ed=>ci g (.inr (.inr (.inl ed))) (λc=>(ar _ c).2.2 ed))
      rcases ca a hi with c | c
      ·exact ar a c
      refine⟨λk=>?_,λk=>?_,λk=>?_⟩
      ·have fo:a=m.s:=k;have:=E m.s (.inl rfl);omega
      ·have fo:a=m.q:=k;have:=E m.q (.inr (.inl rfl));omega
      have:=E a (.inr (.inr (.inl k)));omega)
   have ff:=Aa (show ∀a,({ m with n:=ae }:SB).aQ x.k a->w.heap.size<=a from λa hi=>by
      rcases hi with c | c | c | c
      ·exact B.o.new a (.inl c)
      ·exact B.o.new a (.inr (.inl c))
      ·exact B.o.new a (.inr (.inr (.inl c)))
      rcases ca a c with c | c
      ·exact B.o.new a (.inr (.inr (.inr c)))
      have:=B.o.kp.size;omega)
   have fb:=Aa (show aA (λa=>a=l) w cs from B.o.kp.trans bc (λa hi E=>by
        rcases hi with c | c | c | c
        ·exact c
        ·have:=bg.2.1;omega
        ·have:=bg.1 a c;have:=bg.2.1;omega
        have:=B.o.new a (.inr (.inr (.inr c)));omega))
   clear ea ca en bc ar bg ec;go_wp2_with fail
   refine(Mq l tl cs dz.o).mono ?_;rintro k wc ⟨rfl,ex⟩;rw[ex];clear ex wc;go_wp2;go_ret;exact⟨{ m with n:=ae },rfl,by rw[U.o,aa.o,bh.o];exact fh.o,dz.o,ff.o,fb.o⟩
end
section
attribute [local go_sem ↓] Mk.execOp_fieldMk
attribute [local go_sem] Mk.run_fieldMk0 Mk.run_fieldMk1
theorem UL(r s j F n:Nat)(h:List (Nat×Option Nat))(c:Cfg)(m acc rel:Int)(nv:Value)(lv:Nat->List Bk)(tl:List Nat)(w:World)(v:dA w r s h c (λ_=>[]))(R:h.length=n)(av:aR w j (Ae (EK lv n 0)++tl))(ao:aD w F (Jq m acc rel nv) 177)(ad:r≠j/\s≠j/\(∀d,d<h.length->¬qf (Ar h d) j))(aq:F≠j/\(∀d,d<h.length->¬qf (Ar h d) F))(bc:gV m rel n lv)(df:n<=16)(de:m<=4611686018427387904):
  Calls prog 146 #[π r,π j,π F] w λe T=>e=.returned (.tuple #[])/\∃A u,(∀d,d<n->A d=lv d)/\DL w r s j h c A tl u T:=by
 have cd:=av.aF.lt
 have a1:=Aa (show ∀T,aA (λI=>I=j\/∃d,d<h.length/\qf (Ar h d) I) w T->κ T F 0 (ι m)/\κ T F 2 (ι rel) from λT bg=>by
    have R:¬(F=j\/∃d,d<h.length/\qf (Ar h d) F):=λe=>e.elim aq.1 (λ⟨d,J,e⟩=>aq.2 d J e)
    exact⟨(ao.keeps bg R).cell rfl,(ao.keeps bg R).cell rfl⟩)
 have a2:=Aa (show DL w r s j h c (λ_=>[]) (Ae (EK lv n 0)++tl) h w from⟨v,av,rfl,λa I an b9=>.inl ⟨a,an,b9⟩,aA.refl _ _,⟨ad.1,ad.2.1,ad.2.2,cd⟩⟩);have V:=Aa bc;have b3:κ w r 20 (σ s n n):=by rw[<-R];exact v.aF.cell rfl
 have a6:=Aa R;clear v av ao bc ad aq R;go_enter func146,ntmps146;go_wp2_with fail
 clear b3;go_loopw [6,15] (λI N wr=>∃(L a t:Nat) (A:Nat->List Bk) (u:List (Nat×Option Nat)),I=ι (L:Int)/\N=ι (a:Int)/\a+t=n/\L<=40*a/\Hid (L+D2 lv t a=D2 lv n 0)/\Hid (∀d,(d<a->A d=lv d)/\(a<=d->A d=[]))/\Hid (DL w r s j h c A (Ae (EK lv t a)++tl) u wr)) (λ_ N _=>n-(intOf N).toNat)
 case atStart=>exact⟨0,0,n,λ_=>[],h,rfl,rfl,by omega,by omega,by show _=_;omega,λd=>⟨λv=>by omega,λ_=>rfl⟩,a2⟩
 case round =>
  clear a2;obtain⟨L,a,t,A,u,rfl,rfl,ct,cu,a4,o,l⟩:=hrel;cases t with
  | zero =>
   have ae:a=n:=by omega
   subst ae;have ca:decide ((a:Int)<(a:Int))=false:=by simp
   obtain⟨a8,a9⟩:=a1.o wr l.o.kp;have cx:decide ((L:Int)<=rel)=true:=by
    have z:=V.o.sum;have aa:=a4.o;rw[D2]at aa;simp only[iP];omega
   go_wp2_with fail
   refine(Gk j _).mono ?_;rintro e bo ⟨rfl,bn⟩;rw[bn];clear bn bo;go_wp2;go_end0;exact⟨rfl,A,u,λd J=>(o.o d).1 J,l.o⟩
  | succ t =>
   have ae:a<n:=by omega
   have cs:(a:Int)<(n:Int):=by omega
   have cr:(0:Int)<=(a:Int):=by omega
   have bt:=Aa (show a<u.length by rw[l.o.ln,a6.o];exact ae);obtain⟨S,au⟩:∃S,(Ar u a).1=S:=⟨_,rfl⟩;have b4:κ wr s a (π S):=by rw[<-au];exact l.o.dr.fK.cell (Io bt.o)
   obtain⟨C,ab⟩:∃C,(lv a).length=C:=⟨_,rfl⟩;have cn:C<=40:=by rw[<-ab];exact V.o.len a
   have Z:=Aa ab;have E:=Aa au
   have B:=Aa (show DL w r s j h c A (enc (C:Int)++(Ae (CE (lv a))++(Ae (EK lv t (a+1))++tl))) u wr by
      have:=l.o;rw[EK,BQ,B3,ab]at this
      simpa only[ε] using this)
   clear ab au l;go_wp2_with fail
   have a0:=Aa (show aD (wr.alloc (.cells #[ι (-1),ι 41] 218)) wr.heap.size [ι (-1),ι 41] 218 from aD.new wr [_,_] _);have a5:=Aa (B.o.still ((aA.refl (λ_=>False) wr).alloc (.cells #[ι (-1),ι 41] 218)))
   have H:=Aa (show wr.heap.size≠r/\wr.heap.size≠s/\wr.heap.size≠j/\w.heap.size<=wr.heap.size/\(∀d,d<u.length->¬qf (Ar u d) wr.heap.size) by
      have z:=B.o.dr;refine⟨by have:=z.aF.lt;omega,by have:=z.fK.lt;omega,by have:=B.o.rd.aF.lt;omega,B.o.kp.size,λd J f=>?_⟩;rcases f with f | f
      ·have:=(z.row d J).lt.1;omega
      have:=((z.row d J).lt.2 _ f).1;omega)
   clear B b4;generalize(wr.alloc (.cells #[ι (-1),ι 41] 218))=dg at *
   generalize wr.heap.size=q at *
   refine(a5.o.number (by omega) (by omega) (by omega) (by omega)).mono ?_;rintro e dh ⟨rfl,bh,bd⟩;have a3:=Aa bh;have ay:=Aa (a0.o.keeps bd H.o.2.2.1);clear bh bd a5 a0;go_wp2_with fail
   go_loopw [6,22] (λI N wr=>∃(M d:Nat) (lt G:Int) (D:Nat->List Bk) (k:List (Nat×Option Nat)),I=ι (M:Int)/\N=ι (d:Int)/\d<=C/\M=L+d/\-1<=lt/\lt<=4611686018427387904/\1<=G/\G<=41/\Hid (∀b,b∈(lv a).drop d->lt<b.sz/\b.t<G)/\Hid (∀p,(p<a->D p=lv p)/\(p=a->D p=(lv a).take d)/\(a<p->D p=[]))/\Hid ((Ar k a).1=S)/\Hid (∀d,d<k.length->¬qf (Ar k d) q)/\Hid (aD wr q [ι lt,ι G] 218)/\Hid (DL w r s j h c D (Ae (CE ((lv a).drop d))++(Ae (EK lv t (a+1))++tl)) k wr)) (λ_ N _=>C-(intOf N).toNat)
   case atStart =>
    exact⟨L,0,-1,41,A,u,rfl,rfl,iT _,rfl,by omega,by omega,by omega,by omega,λb Q=>by have:=V.o.tm a b Q;omega,λp=>⟨(o.o p).1,λe=>by rw[(o.o p).2 (by omega),jP],λe=>(o.o p).2 (by omega)⟩,E,H.o.2.2.2.2,ay,a3⟩
   case round =>
    clear a3 ay o E;obtain⟨M,d,lt,G,D,k,rfl,rfl,J,cv,db,dc,cy,da,bq,o,E,aj,X,l⟩:=hrel;by_cases cc:d<C
    ·obtain⟨b,Q⟩:∃b,(lv a)[d]?=some b:=⟨_,h9 (by rw[Z.o];exact cc)⟩
     have ag:=Aa (show(lv a).drop d=b::(lv a).drop (d+1) by
        have bk:=iq.1 Q
        rw[δ bk.1,bk.2])
     have b2:=Aa (show(lv a).take (d+1)=(lv a).take d++[b] by rw[ji,Q];rfl);have ba:=bq.o b (by rw[ag.o];simp);have bb:=V.o.tm a b (iz Q)
     have az:=Aa (show ∀af,af∈(lv a).drop (d+1)->b.sz<af.sz/\af.t<b.t by
        have z:=V.o.gD a;rw[<-τ d (lv a)]at z;have aa:=(jb.1 z).2.1;rw[ag.o]at aa
        exact(jn.1 aa).1)
     have B:=Aa (show DL w r s j h c D (enc b.sz++(enc b.t++(Ae (CE ((lv a).drop (d+1)))++(Ae (EK lv t (a+1))++tl)))) k wr by
        have v:=l.o;rw[ag.o]at v
        simpa only[CE,jz,BQ,B3,Dv,jv,ε,θ] using v)
     have Y:=Aa (show a<k.length by rw[l.o.ln,a6.o];exact ae);obtain⟨O,al⟩:∃ax,b.sz=ax:=⟨_,rfl⟩;obtain⟨P,am⟩:∃ax,b.t=ax:=⟨_,rfl⟩;rw[al,am]at ba bb az B;obtain⟨co,cp⟩:=ba;obtain⟨b5,b6,b7,cq⟩:=bb;have b8:b.val=.agg #[ι O,ι P]:=by rw[<-al,<-am];rfl
     obtain⟨a8,a9⟩:=a1.o wr l.o.kp;have ch:=X.o.c0;have ci:=X.o.c1;have cw:(d:Int)<(C:Int):=by omega
     have dk:IntKind.i64.wrap (lt+1)=lt+1:=by rw[il];omega
     have dl:IntKind.i64.wrap (G-1)=G-1:=by rw[il];omega
     have a7:=Aa (show q≠j from H.o.2.2.1);clear l al am Q;go_wp2_with fail
     go_region_with (first | (go_at_call 77;refine(bi.number (lo:=1) (hi:=G-1) (by omega) (by omega) b7 (by omega)).mono ?_;rintro e bp ⟨rfl,bj,bf⟩;have W:=ak.keeps bf a7.o;have ck:=W.cell (i:=0) rfl;have cl:=W.cell (i:=1) rfl;have cm:=W.frozen) | (go_at_call 77;refine((B.o.still ((aA.refl (λ_=>False) wr).drew)).number (lo:=lt+1) (hi:=m) b5 (by omega) (by omega) b6).mono ?_;rintro e bo ⟨rfl,bi,be⟩;have ak:=(X.o.drew).keeps be a7.o;have cj:=ak.cell (i:=1) rfl))
     all_goals
      have ah:=Aa (bj.new (bx:=q) (((aA.refl (λa=>a=q) bp).setCell (p:=⟨q,0,none⟩) (Or.inl rfl) (ι O)).setCell (p:=⟨q,1,none⟩) (Or.inl rfl) (ι P)) ⟨H.o.1,H.o.2.1,H.o.2.2.1,H.o.2.2.2.1⟩ aj.o);have U:=Aa (show aD _ q [ι O,ι P] 218 from(W.setCell 0 (ι O)).setCell 1 (ι P));clear bj bf W ck cl cm bi be ak cj a8 a9 ch ci B X;generalize((bp.setCell ⟨q,0,none⟩ (ι O)).setCell ⟨q,1,none⟩ (ι P))=cg at *
      have ce:=U.o.c0;have cf:=U.o.c1;have ai:=Aa (Mk.rowPut_any S (Ar k a).2 (D a) b cg (by rw[<-E.o];exact ah.o.dr.row a Y.o) (by rw[(o.o a).2.1 rfl,iG];omega));rw[b8]at ai;have dj:IntKind.i64.wrap ((M:Int)+1)=(M:Int)+1:=by rw[il];omega
      go_wp2_with fail
      refine ai.o.mono ?_;rintro e di ⟨rfl,aw,bm,ap,ar⟩;have bu:=Aa (ah.o.put (x:=b) Y.o (by rw[E.o];exact bm) (by rw[E.o];exact ap) ar);have bz:=Aa (show ∀d,d<(k.set a ((Ar k a).1,aw)).length->¬qf (Ar (k.set a ((Ar k a).1,aw)) d) q from zP5 ar U.o.lt aj.o);have br:=Aa (U.o.keeps ap (λf=>aj.o a Y.o (by rw[<-E.o]at f;exact f)))
      have b0:=Aa (show(Ar (k.set a ((Ar k a).1,aw)) a).1=S by
         rw[<-E.o];unfold Ar
         simp[List.getD_eq_getElem?_getD,Y.o])
      clear bm ap ar ai ah U ce cf;go_wp2;go_roundw;case rel=>exact⟨M+1,d+1,O,P,_,_,by go_num,by go_num,by omega,by omega,by omega,by omega,by omega,by omega,az,λp=>⟨λe=>by unfold JN;rw[ig (by omega)];exact(o.o p).1 e,λe=>by unfold JN;rw[ij e,b2.o,(o.o a).2.1 rfl],λe=>by unfold JN;rw[ig (by omega)];exact(o.o p).2.2 e⟩,b0,bz,br,bu⟩
      case measure=>simp[intOf];omega
    have cb:d=C:=by omega
    subst cb;have ca:decide ((d:Int)<(d:Int))=false:=by simp
    have bs:=Aa (show(lv a).drop d=[] by rw[<-Z.o];exact kK);have b1:=Aa (show(lv a).take d=lv a by rw[<-Z.o];exact lg)
    have bv:=Aa (show DL w r s j h c D (Ae (EK lv t (a+1))++tl) k wr by
       have v:=l.o;rw[bs.o]at v
       simpa only[CE,kI,Dv,jv] using v)
    clear l;go_wp2;go_roundw;case rel=>exact⟨M,a+1,t,D,k,rfl,by go_num,by omega,by omega,by have z:=a4.o;rw[D2,Z.o]at z;show _=_;omega,λp=>⟨λe=>(kC p a).elim (λbl=>(o.o p).1 bl) (λbl=>by rw[(o.o p).2.1 (by omega),b1.o,show p=a by omega]),λe=>(o.o p).2.2 (by omega)⟩,bv⟩
    case measure=>simp[intOf];omega
end
section
def FA(ys:List It): List Int:=ys.flatMap λy=>[y.n,y.t,y.k,y.d]
structure gX (c:Cfg) (m acc rel:Int) (ns:List Int) (ys:List It):Prop where
 len:(ys.length:Int)=if c.size+1<rel then c.size+1 else rel
 num:∀y,y∈ys->1<=y.n/\y.n<=acc
 eE:(ns++ys.map (·.n)).Nodup
 gJ:∀y,y∈ys->0<=y.t/\y.t<=m/\0<=y.k/\y.k<=9223372036854775807/\0<=y.d/\y.d<=9223372036854775807
 ref:∀y,y∈ys->AP c 5 y=0
structure TL (w:World) (d q r kn:Nat) (c:Cfg) (m acc rel:Int) (og:Option Nat) (nv:Value) (tk:List Dr.It) (tl:List Nat) (ns:List Int) (og2:Option Nat) (nv2:Value) (wr:World):Prop where
 tr:dN wr d q og2 c tk
 rd:aR wr r tl
 kr:dB wr kn m acc rel nv2 ns
 kp:aA (λi=>i=r\/i=kn\/nv.ownBlock=some i\/i=q\/og=some i) w wr
 fo:og2=og\/∃k,og2=some k/\w.heap.size<=k
 fn:∀i,nv2.ownBlock=some i->nv.ownBlock=some i\/w.heap.size<=i
 sp:∀i,nv2.ownBlock=some i->i≠d/\i≠q/\og2≠some i
 ap:d≠r/\q≠r/\d≠kn/\q≠kn/\r<kn/\r<w.heap.size
 ag:∀g,og2=some g->g≠r/\g≠kn
theorem TL.eP{w:World}{e l n a:Nat}{c:Cfg}{m acc rel:Int}{j:Option Nat}{nv:Value}{o:List Dr.It}{tl:List Nat}{ns:List Int}{k:Option Nat}{d:Value}{wr:World}(h:TL w e l n a c m acc rel j nv o tl ns k d wr)(i:Nat)(hi:d.ownBlock=some i): a+1<=i/\i<wr.heap.size:=h.kr.row.lt i hi
theorem TL.still{w:World}{e l n h:Nat}{c:Cfg}{m acc rel:Int}{j:Option Nat}{nv:Value}{o:List Dr.It}{tl:List Nat}{ns:List Int}{k:Option Nat}{i:Value}{wr q:World}(a:TL w e l n h c m acc rel j nv o tl ns k i wr)(d:lX wr q): TL w e l n h c m acc rel j nv o tl ns k i q :=
 ⟨a.tr.still d,a.rd.keeps d id,a.kr.keeps d id (λ_ _ a=>a),a.kp.trans d (λ_ a _=>a.elim),a.fo,a.fn,a.sp,a.ap,a.ag⟩
theorem TL.num{w:World}{k q j i:Nat}{c:Cfg}{m acc rel n:Int}{v:Option Nat}{nv:Value}{z:List Dr.It}{tl:List Nat}{ns:List Int}{x:Option Nat}{u:Value}{wr:World}(d:TL w k q j i c m acc rel v nv z (enc n++tl) ns x u wr)(n1:1<=n)(L:n<=acc)(A:acc<=4611686018427387904)(I:n ∉ ns)(H:ns.length<=900):
  Calls prog 127 #[π i,π j] wr λa M=>a=.returned (ι n)/\∃o,TL w k q j i c m acc rel v nv z tl (ns++[n]) x o M:=by
 obtain⟨B,C,D,E,F,N⟩:=d.ap;have Q:=d.kp.size;refine(NT j i m acc rel n u ns tl wr d.rd d.kr F n1 L A I H).mono ?_;rintro a R ⟨rfl,J,⟨o,G,t⟩,s⟩;refine⟨rfl,o,⟨d.tr.keeps s (λa=>?_) (λa=>?_) (λg l a=>?_),J,G,d.kp.trans s (λe h P=>?_),d.fo,λe h=>?_,λe h=>?_,d.ap,d.ag⟩⟩
 ·rcases a with a | a | a
  ·exact B a
  ·exact D a
  exact(d.sp k a).1 rfl
 ·rcases a with a | a | a
  ·exact C a
  ·exact E a
  exact(d.sp q a).2.1 rfl
 ·rcases a with a | a | a
  ·exact(d.ag g l).1 a
  ·exact(d.ag g l).2 a
  exact(d.sp g a).2.2 l
 ·rcases h with a | a | a
  ·exact .inl a
  ·exact .inr (.inl a)
  rcases d.fn e a with f | f
  ·exact .inr (.inr (.inl f))
  omega
 ·rcases t e h with f | f
  ·exact d.fn e f
  exact .inr (by omega)
 rcases t e h with f | f
 ·exact d.sp e f
 have O:=d.tr.aF.lt;have r:=d.tr.dM.lt;exact⟨by omega,by have:=r.1;omega,λa=>by have:=(r.2 e a).1;omega⟩
theorem TL.hX{w:World}{j q i l:Nat}{c:Cfg}{m acc rel:Int}{t:Option Nat}{nv:Value}{u:List Dr.It}{tl v:List Nat}{ns:List Int}{o:Option Nat}{n:Value}{wr r:World}{bx:Nat}(d:TL w j q i l c m acc rel t nv u tl ns o n wr)(k:aA (λe=>e=i\/e=bx) wr r)(G:aR r i v)(F:j≠bx/\q≠bx/\o≠some bx/\l≠bx/\n.ownBlock≠some bx/\w.heap.size<=bx): TL w j q i l c m acc rel t nv u v ns o n r:=by
 obtain⟨A,B,C,D,E,M⟩:=F;obtain⟨x,z,H,I,J,L⟩:=d.ap;refine⟨d.tr.keeps k (λa=>a.elim x A) (λa=>a.elim z B) (λg s a=>a.elim (d.ag g s).1 (λa=>C (by rw[<-a];exact s))),G,d.kr.keeps k (λa=>a.elim (by omega) D) (λe h a=>a.elim (λa=>by have:=(d.eP e h).1;omega) (λa=>E (by rw[<-a];exact h))),d.kp.trans k (λe h N=>?_),d.fo,d.fn,d.sp,d.ap,d.ag⟩;rcases h with a | a
 ·exact .inl a
 omega
theorem TL.rel{w:World}{n l u t:Nat}{c:Cfg}{m acc rel:Int}{A:Option Nat}{nv:Value}{F B:List Dr.It}{tl:List Nat}{ns:List Int}{j k:Option Nat}{z:Value}{wr v:World}(d:TL w n l u t c m acc rel A nv F tl ns j z wr)(E:dN v n l k c B)(q:aA (λe=>e=l\/j=some e) wr v)(r:k=j\/∃e,k=some e/\wr.heap.size<=e): TL w n l u t c m acc rel A nv B tl ns k z v:=by
 obtain⟨G,C,H,D,I,J⟩:=d.ap;have O:=d.kp.size;have N:=d.rd.aF.lt;have L:=d.kr.aF.lt;refine⟨E,d.rd.keeps q (λa=>a.elim (λa=>C a.symm) (λa=>(d.ag u a).1 rfl)),d.kr.keeps q (λa=>a.elim (λa=>D a.symm) (λa=>(d.ag t a).2 rfl)) (λi h a=>a.elim (d.sp i h).2.1 (d.sp i h).2.2),d.kp.trans q (λi h M=>?_),?_,d.fn,λi h=>⟨(d.sp i h).1,(d.sp i h).2.1,λa=>?_⟩,d.ap,λg o=>?_⟩
 ·rcases h with a | a
  ·exact .inr (.inr (.inr (.inl a)))
  rcases d.fo with f | ⟨e,f,s⟩
  ·exact .inr (.inr (.inr (.inr (by rw[<-f];exact a))))
  have x:j=some i:=a;rw[f]at x;have:=jD x;omega
 ·rcases r with f | ⟨e,f,s⟩
  ·rw[f];exact d.fo
  exact .inr ⟨e,f,by omega⟩
 ·rcases r with f | ⟨e,f,s⟩
  ·exact(d.sp i h).2.2 (by rw[<-f];exact a)
  rw[f]at a;have:=jD a;have:=(d.eP i h).2;omega
 rcases r with f | ⟨e,f,s⟩
 ·exact d.ag g (by rw[<-f];exact o)
 rw[f]at o;have:=jD o;omega
