import Derived.Test.YtnokbhcennjanaaGreatDoorXAP
import Derived.Laws.AppendOwnNone
import Derived.Laws.Bits128
open Go.RowKit Go.Proofs.Tryz
set_option maxRecDepth 100000
set_option maxHeartbeats 16000000
namespace Go.Proofs.YtnokbhcennjanaaGreatDoor
section
def CW(c:Cfg)(j:Nat): Int:=match j with | 0=>c.bV | 1=>c.cG | _=>c.cQ
def CX(c:Cfg)(j:Nat): Int:=match j with | 0=>c.bW | 1=>c.cH | _=>c.cR
def AA(c:Cfg)(key:Int)(j:Nat): Int:=AG (CW c j) (CX c j) key%c.width
structure Cfg.rowed (c:Cfg):Prop where
 r0:1<=c.rows
 r1:c.rows<=3
 w0:1<=c.width
 w1:c.width<=16
 sd:∀j:Nat,(j:Int)<c.rows->0<=CW c j/\CW c j<2305843009213693951/\0<=CX c j/\CX c j<2305843009213693951
theorem Ib(c:Cfg)(a:c.rowed)(key:Int)(j:Nat): 0<=AA c key j/\AA c key j<16:=by
 unfold AA;have e:=a.w0;have h:=a.w1
 have d:=j8 (AG (CW c j) (CX c j) key) (show c.width≠0 by omega);have b:=j1 (AG (CW c j) (CX c j) key) (show 0<c.width by omega);omega
theorem zOz(a b c d:Int)(w:World): (Op.equalIn 10000 43 (.agg #[.int .i64 a,.int .i64 b]) (.agg #[.int .i64 c,.int .i64 d])).run prog w=.ok (a==c&&b==d) w:=by
 have u3:=underlying3;have i:=isAgg3;have j:=sizeOf3;rw[show(10000:Nat)=9999+1 from rfl,Op.equalIn];simp only[jm,jY underlying43,jy];simp only[lF,Std.Legacy.Range.size,Nat.sub_zero,lK,Nat.div_one,lq,List.range'_zero,List.forIn_cons,List.forIn_nil];go_simp
 by_cases e:a=c <;> by_cases h:b=d <;> simp[e,h]
attribute [local go_sem] zOz
theorem OA(j:Nat)(c:Cfg)(o:Pa.Pn)(D:Nat)(key:Int)(w:World)(A:aD w j (Be c o D) 233)(X:c.rowed)(au:0<=key)(av:key<=2147483648):
  Calls prog 196 #[.pointer (some ⟨j,0,none⟩),.int .i64 key] w λab t=>∃e h l,ab=.returned (.agg #[.int .i64 e,.int .i64 h,.int .i64 l])/\(e=AA c key 0/\(1<c.rows->h=AA c key 1)/\(2<c.rows->l=AA c key 2))/\lO w t:=by
 have c7:w.cell? ⟨j,7,none⟩=some (.int .i64 c.rows):=A.cell (Cd c o D 7 (by omega));have bd:w.cell? ⟨j,14,none⟩=some (.int .i64 c.bV):=A.cell (Cd c o D 14 (by omega));have be:w.cell? ⟨j,15,none⟩=some (.int .i64 c.bW):=A.cell (Cd c o D 15 (by omega));have bf:w.cell? ⟨j,16,none⟩=some (.int .i64 c.cG):=A.cell (Cd c o D 16 (by omega));have bg:w.cell? ⟨j,17,none⟩=some (.int .i64 c.cH):=A.cell (Cd c o D 17 (by omega));have bh:w.cell? ⟨j,18,none⟩=some (.int .i64 c.cQ):=A.cell (Cd c o D 18 (by omega));have bi:w.cell? ⟨j,19,none⟩=some (.int .i64 c.cR):=A.cell (Cd c o D 19 (by omega));have ar:=A.lt;have b1:j≠w.heap.size+1:=by omega
 have b3:j<w.heap.size+1:=by omega
 have b4:j<w.heap.size+1+1:=by omega
 have a5:=Aa A;have ak:=Aa X;obtain⟨F,aq⟩:∃F:Nat,c.rows=(F:Int):=⟨c.rows.toNat,by have:=X.r0;omega⟩;have b0:F<=3:=by have:=X.r1;omega
 have bz:1<=F:=by have:=X.r0;omega
 rw[aq]at c7;have an:=Aa aq;clear A X aq;go_enter func196,ntmps196;go_wp2_with fail
 obtain⟨u,O⟩:∃u,u=(((w.alloc (.cells #[.int .i64 0,.int .i64 0,.int .i64 0] 236)).alloc (.cells #[.int .i64 0,.int .i64 0,.int .i64 0] 236)).alloc (.cells #[.int .i64 c.bV,.int .i64 c.bW,.int .i64 c.cG,.int .i64 c.cH,.int .i64 c.cQ,.int .i64 c.cR] 44)):=⟨_,rfl⟩;have ba:=Aa (show aD u w.heap.size [.int .i64 0,.int .i64 0,.int .i64 0] 236 by rw[O];exact((aD.new w _ _).alloc _).alloc _);have a4:=Aa (show aD u (w.heap.size+1) [.int .i64 0,.int .i64 0,.int .i64 0] 236 by rw[O];exact(aD.newAt (by simp) _ _).alloc _);have bb:=Aa (show aD u (w.heap.size+1+1) [.int .i64 c.bV,.int .i64 c.bW,.int .i64 c.cG,.int .i64 c.cH,.int .i64 c.cQ,.int .i64 c.cR] 44 by rw[O];exact aD.newAt (by simp) _ _);have aw:=Aa (show lO w u by rw[O];exact(((aA.refl _ _).alloc _).alloc _).alloc _);rw[<-O];clear O bd be bf bg bh bi;generalize b5:w.heap.size=a at *
 have s:=Aa (λbv bn=>ak.o.sd bv bn);rw[an.o]at s;have bc:=Aa (show 1<=c.width/\c.width<=16 from⟨ak.o.w0,ak.o.w1⟩);have a6:=Aa (a5.o.keeps aw.o id);go_loopw [18] (λk wr=>∃(z:Nat) (e h l:Int),k=.int .i64 z/\z<=F/\Hid (aD wr (a+1) [.int .i64 e,.int .i64 h,.int .i64 l] 236)/\Hid (aA (λk=>k=a+1) u wr)/\Hid ((0<z->e=AA c key 0)/\(1<z->h=AA c key 1)/\(2<z->l=AA c key 2))) (λk _=>F-(intOf k).toNat)
 case atStart=>exact⟨0,0,0,0,rfl,iM _,a4,aA.refl _ _,⟨λd=>by omega,λd=>by omega,λd=>by omega⟩⟩
 case round =>
  obtain⟨z,e,h,l,rfl,b2,E,B,x⟩:=hrel;have a7:=Aa (a6.o.keeps B.o (by omega));have L:=Aa (bb.o.keeps B.o (by omega));have T:=Aa (ba.o.keeps B.o (by omega));have N:wr.cell? ⟨j,8,none⟩=some (.int .i64 c.width):=a7.o.cell (Cd c o D 8 (by omega));have ae:=L.o.c0;have af:=L.o.c1;have ag:=L.o.c2;have ah:=L.o.c3;have ai:=L.o.c4;have aj:=L.o.c5;have V:=E.o.c0;have M:=E.o.c1;have W:=E.o.c2;have b6:¬c.width=0:=by have:=bc.o;omega
  by_cases ar:z<F
  ·have J:z=0\/z=1\/z=2:=by omega
   rcases J with J | J | J
   ·subst J;go_wp2_with fail
    go_quiet (fail)
    have a1:(wr.drewN nq).cell? ⟨j,8,none⟩=some (.int .i64 c.width):=N;have a2:(wr.drewN nq).cell? ⟨a+1+1,0,none⟩=some (.int .i64 c.bV):=ae;have a3:(wr.drewN nq).cell? ⟨a+1+1,1,none⟩=some (.int .i64 c.bW):=af;have ad:(wr.drewN nq).cell? ⟨a+1,0,none⟩=some (.int .i64 e):=V;have r:=Aa (show aD (wr.drewN nq) (a+1) [.int .i64 e,.int .i64 h,.int .i64 l] 236 from E.o);have C:=Aa (show aA (λk=>k=a+1) u (wr.drewN nq) from B.o.then (aA.drewN _ _ _));generalize wr.drewN nq=I at *
    clear N ae af ag ah ai aj V M W;have Q:=Aa (λU=>Kn c.bV c.bW key U (s.o 0 (by omega)).1 (s.o 0 (by omega)).2.1 (s.o 0 (by omega)).2.2.1 (s.o 0 (by omega)).2.2.2 au av);have aa:=GD c.bV c.bW key;have S:=Aa (show AG c.bV c.bW key%c.width=AA c key 0 from rfl);generalize AG c.bV c.bW key=q at *
    have Z:=aa.1;have a0:q.tmod c.width=q%c.width:=jS Z;have Y:a+1≠j:=by omega
    have H:a+1≠a+1+1:=by omega
    go_wp2_with fail
    go_region_held3 (λt=>t.cell? ⟨a+1+1,0,none⟩=some (.int .i64 c.bV)/\t.cell? ⟨a+1+1,1,none⟩=some (.int .i64 c.bW)/\t.cell? ⟨j,8,none⟩=some (.int .i64 c.width)) (first | (go_split_ands;exact⟨by assumption,by assumption,by assumption⟩) | (go_split_ands;exact⟨m.cell (by assumption) id,m.cell (by assumption) id,m.cell (by assumption) id⟩) | (go_split_ands;exact⟨(jQ _ _ _ _ H).trans (by assumption),(jQ _ _ _ _ H).trans (by assumption),(jQ _ _ _ _ Y).trans (by assumption)⟩)) (first | (go_at_call 121;refine(Q.o _).mono ?_;rintro ab ax ⟨rfl,m⟩;have G:=(r.o.drew.keeps m id);have ay:=G.cell (i:=0) rfl;have az:=G.frozen))
    have P:=Aa ((r.o.keeps (((aA.refl (λ_=>False) I).drew).then m) id).setCell 0 (.int .i64 (q%c.width)));have R:=Aa (((C.o.drew.trans m (λ_ d=>d.elim))).setCell (p:=⟨a+1,0,none⟩) (Or.inl rfl) (.int .i64 (q%c.width)));go_wp2;refine⟨⟨0+1,q%c.width,h,l,by go_num,by omega,P,R,?_⟩,by simp[intOf];omega⟩;exact⟨λ_=>S.o,λd=>by omega,λd=>by omega⟩
   ·subst J;rw[show(((1:Nat)):Int)=1 from rfl];have bt:IntKind.i64.wrap 0=0:=by decide +kernel
    have bu:IntKind.i64.wrap 1=1:=by decide +kernel
    by_cases n:c.cG=c.bV/\c.cH=c.bW
    ·have bp:(c.cG==c.bV)=true:=by simp[n.1]
     have bq:(c.cH==c.bW)=true:=by simp[n.2]
     have al:=Aa (show AA c key 1=AA c key 0 by unfold AA;show AG c.cG c.cH key%c.width=AG c.bV c.bW key%c.width;rw[n.1,n.2]);clear n;go_wp2_with fail
     go_quiet (fail)
     have ad:(wr.drewN nq).cell? ⟨a+1,1,none⟩=some (.int .i64 h):=M;have bx:(wr.drewN nq).cell? ⟨a+1,0,none⟩=some (.int .i64 e):=V;have r:=Aa (show aD (wr.drewN nq) (a+1) [.int .i64 e,.int .i64 h,.int .i64 l] 236 from E.o);have C:=Aa (show aA (λk=>k=a+1) u (wr.drewN nq) from B.o.then (aA.drewN _ _ _));generalize wr.drewN nq=I at *
     have bs:=r.o.frozen;go_wp2;refine⟨⟨1+1,e,e,l,by go_num,by omega,r.o.setCell 1 _,C.o.setCell (p:=⟨a+1,1,none⟩) (Or.inl rfl) _,?_⟩,by simp[intOf];omega⟩;exact⟨λ_=>x.o.1 (by omega),λ_=>al.o.trans (x.o.1 (by omega)).symm |>.symm,λd=>by omega⟩
    have br:(c.cG==c.bV&&c.cH==c.bW)=false:=by simp;intro ao ap;exact n ⟨ao,ap⟩
    have a9:=Aa n;clear n;go_wp2_with fail
    go_quiet (fail)
    have a1:(wr.drewN nq).cell? ⟨j,8,none⟩=some (.int .i64 c.width):=N;have a2:(wr.drewN nq).cell? ⟨a+1+1,2,none⟩=some (.int .i64 c.cG):=ag;have a3:(wr.drewN nq).cell? ⟨a+1+1,3,none⟩=some (.int .i64 c.cH):=ah;have ad:(wr.drewN nq).cell? ⟨a+1,1,none⟩=some (.int .i64 h):=M;have r:=Aa (show aD (wr.drewN nq) (a+1) [.int .i64 e,.int .i64 h,.int .i64 l] 236 from E.o);have C:=Aa (show aA (λk=>k=a+1) u (wr.drewN nq) from B.o.then (aA.drewN _ _ _));generalize wr.drewN nq=I at *
    clear N ae af ag ah ai aj V M W;have Q:=Aa (λU=>Kn c.cG c.cH key U (s.o 1 (by omega)).1 (s.o 1 (by omega)).2.1 (s.o 1 (by omega)).2.2.1 (s.o 1 (by omega)).2.2.2 au av);have aa:=GD c.cG c.cH key;have S:=Aa (show AG c.cG c.cH key%c.width=AA c key 1 from rfl);generalize AG c.cG c.cH key=q at *
    have Z:=aa.1;have a0:q.tmod c.width=q%c.width:=jS Z;have Y:a+1≠j:=by omega
    have H:a+1≠a+1+1:=by omega
    go_wp2_with fail
    go_region_held3 (λt=>t.cell? ⟨a+1+1,2,none⟩=some (.int .i64 c.cG)/\t.cell? ⟨a+1+1,3,none⟩=some (.int .i64 c.cH)/\t.cell? ⟨j,8,none⟩=some (.int .i64 c.width)) (first | (go_split_ands;exact⟨by assumption,by assumption,by assumption⟩) | (go_split_ands;exact⟨m.cell (by assumption) id,m.cell (by assumption) id,m.cell (by assumption) id⟩) | (go_split_ands;exact⟨(jQ _ _ _ _ H).trans (by assumption),(jQ _ _ _ _ H).trans (by assumption),(jQ _ _ _ _ Y).trans (by assumption)⟩)) (first | (go_at_call 121;refine(Q.o _).mono ?_;rintro ab ax ⟨rfl,m⟩;have G:=(r.o.drew.keeps m id);have ay:=G.cell (i:=1) rfl;have az:=G.frozen))
    have P:=Aa ((r.o.keeps (((aA.refl (λ_=>False) I).drew).then m) id).setCell 1 (.int .i64 (q%c.width)));have R:=Aa (((C.o.drew.trans m (λ_ d=>d.elim))).setCell (p:=⟨a+1,1,none⟩) (Or.inl rfl) (.int .i64 (q%c.width)));go_wp2;refine⟨⟨1+1,e,q%c.width,l,by go_num,by omega,P,R,?_⟩,by simp[intOf];omega⟩;exact⟨λ_=>x.o.1 (by omega),λ_=>S.o,λd=>by omega⟩
   subst J;rw[show(((2:Nat)):Int)=2 from rfl];have bt:IntKind.i64.wrap 0=0:=by decide +kernel
   have bu:IntKind.i64.wrap 1=1:=by decide +kernel
   by_cases n:c.cQ=c.cG/\c.cR=c.cH
   ·have bp:(c.cQ==c.cG)=true:=by simp[n.1]
    have bq:(c.cR==c.cH)=true:=by simp[n.2]
    have al:=Aa (show AA c key 2=AA c key 1 by unfold AA;show AG c.cQ c.cR key%c.width=AG c.cG c.cH key%c.width;rw[n.1,n.2]);clear n;go_wp2_with fail
    go_quiet (fail)
    have ad:(wr.drewN nq).cell? ⟨a+1,2,none⟩=some (.int .i64 l):=W;have bx:(wr.drewN nq).cell? ⟨a+1,1,none⟩=some (.int .i64 h):=M;have r:=Aa (show aD (wr.drewN nq) (a+1) [.int .i64 e,.int .i64 h,.int .i64 l] 236 from E.o);have C:=Aa (show aA (λk=>k=a+1) u (wr.drewN nq) from B.o.then (aA.drewN _ _ _));generalize wr.drewN nq=I at *
    have bs:=r.o.frozen;go_wp2;refine⟨⟨2+1,e,h,h,by go_num,by omega,r.o.setCell 2 _,C.o.setCell (p:=⟨a+1,2,none⟩) (Or.inl rfl) _,?_⟩,by simp[intOf];omega⟩;exact⟨λ_=>x.o.1 (by omega),λ_=>x.o.2.1 (by omega),λ_=>(al.o.trans (x.o.2.1 (by omega)).symm).symm⟩
   have br:(c.cQ==c.cG&&c.cR==c.cH)=false:=by simp;intro ao ap;exact n ⟨ao,ap⟩
   have a9:=Aa n;clear n;go_wp2_with fail
   go_quiet (fail)
   have a1:(wr.drewN nq).cell? ⟨j,8,none⟩=some (.int .i64 c.width):=N;have a2:(wr.drewN nq).cell? ⟨a+1+1,4,none⟩=some (.int .i64 c.cQ):=ai;have a3:(wr.drewN nq).cell? ⟨a+1+1,5,none⟩=some (.int .i64 c.cR):=aj;have ad:(wr.drewN nq).cell? ⟨a+1,2,none⟩=some (.int .i64 l):=W;have r:=Aa (show aD (wr.drewN nq) (a+1) [.int .i64 e,.int .i64 h,.int .i64 l] 236 from E.o);have C:=Aa (show aA (λk=>k=a+1) u (wr.drewN nq) from B.o.then (aA.drewN _ _ _));generalize wr.drewN nq=I at *
   clear N ae af ag ah ai aj V M W;have Q:=Aa (λU=>Kn c.cQ c.cR key U (s.o 2 (by omega)).1 (s.o 2 (by omega)).2.1 (s.o 2 (by omega)).2.2.1 (s.o 2 (by omega)).2.2.2 au av);have aa:=GD c.cQ c.cR key;have S:=Aa (show AG c.cQ c.cR key%c.width=AA c key 2 from rfl);generalize AG c.cQ c.cR key=q at *
   have Z:=aa.1;have a0:q.tmod c.width=q%c.width:=jS Z;have Y:a+1≠j:=by omega
   have H:a+1≠a+1+1:=by omega
   go_wp2_with fail
   go_region_held3 (λt=>t.cell? ⟨a+1+1,4,none⟩=some (.int .i64 c.cQ)/\t.cell? ⟨a+1+1,5,none⟩=some (.int .i64 c.cR)/\t.cell? ⟨j,8,none⟩=some (.int .i64 c.width)) (first | (go_split_ands;exact⟨by assumption,by assumption,by assumption⟩) | (go_split_ands;exact⟨m.cell (by assumption) id,m.cell (by assumption) id,m.cell (by assumption) id⟩) | (go_split_ands;exact⟨(jQ _ _ _ _ H).trans (by assumption),(jQ _ _ _ _ H).trans (by assumption),(jQ _ _ _ _ Y).trans (by assumption)⟩)) (first | (go_at_call 121;refine(Q.o _).mono ?_;rintro ab ax ⟨rfl,m⟩;have G:=(r.o.drew.keeps m id);have ay:=G.cell (i:=2) rfl;have az:=G.frozen))
   have P:=Aa ((r.o.keeps (((aA.refl (λ_=>False) I).drew).then m) id).setCell 2 (.int .i64 (q%c.width)));have R:=Aa (((C.o.drew.trans m (λ_ d=>d.elim))).setCell (p:=⟨a+1,2,none⟩) (Or.inl rfl) (.int .i64 (q%c.width)));go_wp2;refine⟨⟨2+1,e,h,q%c.width,by go_num,by omega,P,R,?_⟩,by simp[intOf];omega⟩;exact⟨λ_=>x.o.1 (by omega),λ_=>x.o.2.1 (by omega),λ_=>S.o⟩
  have bo:z=F:=by omega
  subst bo;have b7:=T.o.c0;have b8:=T.o.c1;have b9:=T.o.c2;have ca:=T.o.frozen;go_wp2;have am:=Aa (((T.o.setCell 0 (.int .i64 e)).setCell 1 (.int .i64 h)).setCell 2 (.int .i64 l));have a8:=Aa ((((aA.refl (λk=>k=a) wr).setCell (p:=⟨a,0,none⟩) (Or.inl rfl) (.int .i64 e)).setCell (p:=⟨a,1,none⟩) (Or.inl rfl) (.int .i64 h)).setCell (p:=⟨a,2,none⟩) (Or.inl rfl) (.int .i64 l));generalize((wr.setCell ⟨a,0,none⟩ (.int .i64 e)).setCell ⟨a,1,none⟩ (.int .i64 h)).setCell ⟨a,2,none⟩ (.int .i64 l)=cb at *
  have bj:=am.o.c0;have bk:=am.o.c1;have bl:=am.o.c2;refine iN (v:=.agg #[.int .i64 e,.int .i64 h,.int .i64 l]) (by simp[results,results196,go_sem,bj,bk,bl]) rfl ⟨e,h,l,rfl,⟨x.o.1 (by omega),λd=>x.o.2.1 (by have:=an.o;omega),λd=>x.o.2.2 (by have:=an.o;omega)⟩,?_⟩;exact((aw.o.trans B.o (λk bm ar=>by omega))).trans a8.o (λk bm ar=>by omega)
end
section
attribute [local go_sem ↓] Pa.execOp_loadP Pa.execOp_storeP Hp Hn Hm
attribute [local go_sem] Pa.run_loadP H8 H5 Hu Ka Eh A5 A6
structure cP (w:World) (d q:Nat) (og:Option Nat) (c:Cfg) (o:Pa.Pn) (cl:List Pa.Pn):Prop where
 aF:aD w d (Be c o q) 233
 row:Pa.aH w d q og cl
 dq:d≠q
 dg:∀g,og=some g->d≠g
theorem cP.keeps{M:Nat->Prop}{w w':World}{d h:Nat}{e:Option Nat}{c:Cfg}{o:Pa.Pn}{cl:List Pa.Pn}(a:cP w d h e c o cl)(k:aA M w w')(i:¬M d)(l:¬M h)(j:∀g,e=some g->¬M g): cP w' d h e c o cl :=
 ⟨a.aF.keeps k i,a.row.keeps k l j,a.dq,a.dg⟩
theorem cP.still{w w':World}{d h:Nat}{e:Option Nat}{c:Cfg}{o:Pa.Pn}{cl:List Pa.Pn}(a:cP w d h e c o cl)(k:lO w w'): cP w' d h e c o cl:=a.keeps k id id (λ_ _ a=>a)
def F8(cs:List Int)(p:Nat): List Int:=cs.set p (cs.getD p 0+1)
def BK(c:Cfg)(key:Int): Nat->List Int->List Int
 | 0,cs=>cs
 | j+1,cs=>F8 (BK c key j cs) (j*16+(AA c key j).toNat)
theorem IM(c:Cfg)(key:Int)(cs:List Int): ∀a,(BK c key a cs).length=cs.length
 | 0=>rfl
 | a+1=>by unfold BK F8;rw[jx,IM c key cs a]
def Ez(c:Cfg)(key:Int)(n:Nat)(o:Pa.Pn): Pa.Pn:=⟨o.no,BK c key n o.cs,by rw[IM,o.len]⟩
def Cg(c:Cfg)(o:Pa.Pn)(cl:List Pa.Pn)(y:It)(m:Int): Pa.Pn×List Pa.Pn :=
 let s:=A8 o cl (y.t/Ag c)
 (Ez c y.k c.rows.toNat s.1,s.2.drop (B5 c s.2 (m-c.aB)))
theorem zMa{cs:List Int}{B:Int}(c:∀a∈cs,0<=a/\a<=B)(h:0<=B)(p:Nat): ∀a∈F8 cs p,0<=a/\a<=B+1:=by
 intro a e;unfold F8 at e;rcases js e with d | d
 ·have:=c a d;omega
 have j:0<=cs.getD p 0/\cs.getD p 0<=B:=by
  rw[List.getD_eq_getElem?_getD];cases he:cs[p]? with
  | none=>simpa using h
  | some i=>exact c i (iu he)
 omega
theorem M8{c:Cfg}{key:Int}{cs:List Int}{B:Int}(h:∀a∈cs,0<=a/\a<=B)(i:0<=B): ∀d:Nat,∀a∈BK c key d cs,0<=a/\a<=B+d
 | 0=>by intro a e;have:=h a e;simpa using this
 | d+1=>by
  intro a e;have:=zMa (M8 h i d) (by omega) _ a e
  push_cast
  omega
theorem Zr{c:Cfg}{o:Pa.Pn}{cl:List Pa.Pn}{n:Int}(a:∀p∈cl,CC c p)(e:CC c o): ∀p∈(A8 o cl n).2,CC c p:=by
 unfold A8;split
 ·exact a
 dsimp only
 split
 ·exact a
 intro p h;rcases ig.1 h with d | d
 ·exact a p d
 rw[ij.1 d];exact e
theorem P4(o:Pa.Pn)(cl:List Pa.Pn)(n:Int): (A8 o cl n).2.length<=cl.length+1:=by
 unfold A8;split
 ·exact Nat.le_succ _
 dsimp only
 split
 ·exact Nat.le_succ _
 simp
theorem Y3{o:Pa.Pn}{cl:List Pa.Pn}{n B:Int}(c:∀a∈o.cs,0<=a/\a<=B)(h:0<=B): ∀a∈(A8 o cl n).1.cs,0<=a/\a<=B:=by
 unfold A8;split
 ·exact c
 intro a d;have e:a∈List.replicate 48 0:=d;rw[(kk.1 e).2];omega
theorem PU(c:Cfg)(p:Pa.Pn)(a j:Nat)(v:Value)(e:j<49): (Be c p a).set (20+j) v=c.cells++(p.cells.set j v++[.pointer (some ⟨a,0,none⟩)]):=by
 have d:c.cells.length=20:=by simp[Cfg.cells]
 unfold Be;rw[kK _ _ (by omega),d,Nat.add_sub_cancel_left,List.set_append_left _ _ (by rw[p.aE];exact e)]
theorem zOk{w:World}{a e:Nat}{c:Cfg}{p p':Pa.Pn}(i:Nat)(x:Int)(hi:i<48)(j:aD w a (Be c p e) 233)(m:p.cs[i]?=some x)(k:p'.no=p.no)(l:p'.cs=F8 p.cs i):
  aD (w.setCell ⟨a,21+i,none⟩ (.int .i64 (x+1))) a (Be c p' e) 233:=by
 have d:=j.setCell (21+i) (.int .i64 (x+1));rw[show 21+i=20+(i+1) by omega,PU c p e (i+1) _ (by omega)]at d;have h:p.cells.set (i+1) (.int .i64 (x+1))=p'.cells:=by
  unfold Pa.Pn.cells;rw[List.set_cons_succ,k,l];unfold F8;rw[kH,List.getD_eq_getElem?_getD,m];rfl
 rw[h]at d;rw[show 21+i=20+(i+1) by omega];exact d
theorem RJ(e i:Nat)(z:Option Nat)(c:Cfg)(o:Pa.Pn)(cl:List Pa.Pn)(y:It)(m:Int)(w:World)(d:cP w e i z c o cl)(C:c.paned)(be:c.rowed)(df:1<=Ag c)(au:0<=y.t)(dx:y.t<=4611686018427387904)(cs:0<=y.k)(aq:y.k<=2147483648)(du:-4611686018427387904<=m)(dw:m<=4611686018427387904)(ck:cl.length<=1000000000)(ad:∀p∈cl,CC c p)(a9:CC c o)(a5:∀l∈o.cs,0<=l/\l<=4611686018427387904):
  Calls prog 148 #[.pointer (some ⟨e,0,none⟩),y.val,.int .i64 m] w λh v=>h=.returned (.tuple #[])/\∃ar,cP v e i ar c (Cg c o cl y m).1 (Cg c o cl y m).2/\aA (λa=>a=e\/a=i\/z=some a) w v/\(ar=z\/∃a,ar=some a/\w.heap.size<=a):=by
 obtain⟨q,Z⟩:∃q,q=w.alloc (.cells y.cells 80):=⟨_,rfl⟩;have S:=Aa (show lO w q by rw[Z];exact(aA.refl _ _).alloc _);have ap:aD q w.heap.size [.int .i64 y.t,.int .i64 y.k,.int .i64 y.d,.int .i64 y.n] 80:=by rw[Z];exact aD.new w _ _
 have a1:=Aa Z;have x:=Aa (d.still S.o);clear Z;obtain⟨dl,cm⟩:=d.row.lt;have dk:=d.aF.lt
 have W:=Aa (show ¬(w.heap.size=e\/w.heap.size=i\/z=some w.heap.size) from λd=>by
    rcases d with d | d | d
    ·omega
    ·omega
    have:=(cm _ d).1;omega)
 have B:=x.o.aF;have c5:q.cell? ⟨e,5,none⟩=some (.int .i64 c.aB):=B.cell (Cd c o i 5 (by omega));have c9:q.cell? ⟨e,9,none⟩=some (.int .i64 c.aM):=B.cell (Cd c o i 9 (by omega));have cv:=ap.c0;have b6:=Aa (show q.cell? ⟨w.heap.size,1,none⟩=some (.int .i64 y.k) from ap.cell rfl);have bt:=Aa (λY cb cc=>L9 e c Y cb cc (by have:=C.w0;omega) C.w1 C.p0);have bm:=Aa C;have V:=Aa be;have bv:=Aa ad;have bu:=Aa a9;have bn:=Aa a5;have az:=Aa (show Cg c o cl y m=(Ez c y.k c.rows.toNat (A8 o cl (y.t/Ag c)).1,(A8 o cl (y.t/Ag c)).2.drop (B5 c (A8 o cl (y.t/Ag c)).2 (m-c.aB))) from rfl);have bf:y.t.tdiv (Ag c)=y.t/Ag c:=jl au;have cf:0<=y.t/Ag c:=jK au (by omega);have cg:y.t/Ag c<=y.t:=jN _ au;have cp:IntKind.i64.wrap (y.t.tdiv (Ag c))=y.t/Ag c:=by rw[bf,ic];omega
 have cq:IntKind.i64.wrap (y.t/Ag c)=y.t/Ag c:=by rw[ic];omega
 have ce:¬Ag c=0:=by omega
 have dq:=C.w0;have dr:=C.w1;have cr:IntKind.i64.wrap (m-c.aB)=m-c.aB:=by rw[ic];omega
 clear d B ap C be ad a9 a5;generalize cd:Ag c=X at *
 clear cd;unfold It.val;go_enter func148,ntmps148;go_wp2_with fail
 rw[show w.alloc (.cells #[.int .i64 y.t,.int .i64 y.k,.int .i64 y.d,.int .i64 y.n] 80)=q from a1.o.symm];generalize bg:w.heap.size=Q at *
 have a2:=Aa bg;clear bg;go_region_held3 (λv=>v.cell? ⟨Q,0,none⟩=some (.int .i64 y.t)/\v.cell? ⟨e,5,none⟩=some (.int .i64 c.aB)/\v.cell? ⟨e,9,none⟩=some (.int .i64 c.aM))
  (first | (go_split_ands;exact⟨by assumption,by assumption,by assumption⟩) | (go_split_ands;exact⟨D.cell (by assumption) id,D.cell (by assumption) id,D.cell (by assumption) id⟩) | (go_split_ands;exact⟨an.cell (by assumption) W.o,J.cell (Cd c _ i 5 (by omega)),J.cell (Cd c _ i 9 (by omega))⟩))
  (first | (go_at_call 193;refine(bt.o _ (by first | assumption | simpa using c5) (by first | assumption | simpa using c9)).mono ?_;rintro h cx ⟨rfl,D⟩) | (go_at_call 192;refine(Qh e i z c o cl _ _ (by exact x.o.aF.keeps (M:=λ_=>False) (((aA.refl _ _).drew).then D) id) (by exact x.o.row.still (((aA.refl _ _).drew).then D)) x.o.dq x.o.dg ck).mono ?_;rintro h A ⟨rfl,s,J,ao,an,ba⟩))
 obtain⟨j,r,P⟩:∃j r,A8 o cl (y.t/X)=(j,r):=⟨_,_,rfl⟩;have bx:=Aa (show ∀p∈r,CC c p from λp ad=>Zr (n:=y.t/X) bv.o bu.o p (by rw[P];exact ad));have dj:r.length<=1000000001:=by have:=P4 o cl (y.t/X);rw[P]at this;have de:r.length<=cl.length+1:=this;omega
 have bo:=Aa (show ∀l∈j.cs,0<=l/\l<=4611686018427387904 from λl G=>Y3 (cl:=cl) (n:=y.t/X) bn.o (by omega) l (by rw[P];exact G));rw[P]at J ao az;have aw:=Aa (((aA.refl (λ_=>False) q).drew).then D);have ax:=Aa ((aw.o.mono (M':=λa=>a=e\/a=i\/z=some a) (λ_ _ d=>d.elim)).then an);have b4:=Aa aw.o.size
 have U:=Aa (show s=z\/∃a,s=some a/\q.heap.size<=a by
    rcases ba with h | ⟨a,h,N⟩
    ·exact .inl h
    exact .inr ⟨a,h,jI b4.o N⟩)
 have bp:=Aa (show ∀g,s=some g->e≠g from λg L=>by
    rcases U.o with h | ⟨a,h,N⟩
    ·exact x.o.dg g (h ▸ L)
    have:=x.o.aF.lt;rw[h]at L;cases L;omega)
 have t:=Aa (show cP A e i s c j r from⟨J,ao,x.o.dq,bp.o⟩);have b7:=Aa (ax.o.cell b6.o W.o);have b8:=Aa (show Q<q.heap.size by rw[a1.o];simp[a2.o])
 have b9:=Aa (show ¬(Q=i\/s=some Q) from λd=>by
    rcases d with d | d
    ·exact W.o (.inr (.inl d))
    rcases U.o with h | ⟨a,h,N⟩
    ·exact W.o (.inr (.inr (h ▸ d)))
    rw[h]at d;cases d;have:=b8.o;omega)
 clear D an J ao ba P c5 c9 cv;have ca:A.cell? ⟨e,69,none⟩=some (.pointer (some ⟨i,0,none⟩)):=t.o.aF.cell (Jx c j i);have c5:A.cell? ⟨e,5,none⟩=some (.int .i64 c.aB):=t.o.aF.cell (Cd c j i 5 (by omega));have c9:A.cell? ⟨e,9,none⟩=some (.int .i64 c.aM):=t.o.aF.cell (Cd c j i 9 (by omega));have bz:=Aa (λY (a:lO A Y)=>NE e i s c r (m-c.aB) Y (t.o.row.still a) (by omega) (a.cell c5 id) (a.cell c9 id) bm.o bx.o);have bc:=Qq c r (m-c.aB);generalize ae:B5 c r (m-c.aB)=bl at *
 clear ae
 have af:=Aa (show ¬(e=i\/s=some e) from λd=>by
    rcases d with d | d
    ·exact t.o.dq d
    exact t.o.dg e d rfl)
 go_wp2_with fail
 go_region_held3 (λv=>v.cell? ⟨e,69,none⟩=some (.pointer (some ⟨i,0,none⟩))/\v.cell? ⟨e,5,none⟩=some (.int .i64 c.aB))
  (first | (go_split_ands;exact⟨by assumption,by assumption⟩) | (go_split_ands;exact⟨ab.cell (by assumption) af.o,ab.cell (by assumption) af.o⟩) | (go_split_ands;exact⟨O.cell (by assumption) id,O.cell (by assumption) id⟩))
  (first | (go_at_call 195;refine(bz.o _ ((aA.refl _ _).drew)).mono ?_;rintro h cy ⟨rfl,O⟩) | (go_at_call 194;refine(Pa.lose_any e i s r bl _ (by exact t.o.row.still (((aA.refl _ _).drew).then O)) bc).mono ?_;rintro h a3 ⟨rfl,bd,ab⟩))
 have br:=Aa (((aA.refl (λ_=>False) A).drew).then O);have ag:=Aa ((br.o.mono (M':=λa=>a=i\/s=some a) (λ_ _ d=>d.elim)).then ab);have a0:=Aa (show cP a3 e i s c j (r.drop bl) from⟨t.o.aF.keeps ag.o af.o,bd,t.o.dq,t.o.dg⟩);have cw:a3.cell? ⟨Q,1,none⟩=some (.int .i64 y.k):=ag.o.cell b7.o b9.o;clear O ab bd ca c5 c9;go_wp2_with fail
 refine(OA e c j i y.k _ a0.o.aF V.o cs aq).mono ?_;rintro h F ⟨ai,aj,ak,rfl,bb,am⟩;have b2:=Aa bb;have ah:=Aa (a0.o.still am);have bs:=Aa am;obtain⟨u,al⟩:∃u:Nat,c.rows=(u:Int):=⟨c.rows.toNat,by have:=V.o.r0;omega⟩;have dg:u<=3:=by have:=V.o.r1;omega
 have c7:F.cell? ⟨e,7,none⟩=some (.int .i64 (u:Int)):=al ▸ ah.o.aF.cell (Cd c j i 7 (by omega));have dh:=ah.o.aF.lt;have ay:=Aa al;clear bb am al cw bc cr bf cp cq cf cg ce;go_wp2_with fail
 obtain⟨I,aa⟩:∃I,I=F.alloc (.cells #[.int .i64 ai,.int .i64 aj,.int .i64 ak] 236):=⟨_,rfl⟩;have b0:=Aa (show aD I F.heap.size [.int .i64 ai,.int .i64 aj,.int .i64 ak] 236 by rw[aa];exact aD.new F _ _);have av:=Aa (show lO F I by rw[aa];exact(aA.refl _ _).alloc _);have E:=Aa (ah.o.still av.o);rw[<-aa];clear aa c7;generalize cn:F.heap.size=bk at *
 clear cn;have bq:=Aa (show e≠bk by omega)
 have b3:=Aa (show ∀a,a<u->∃k:Nat,k<16/\(AA c y.k a).toNat=k/\([Value.int .i64 ai,.int .i64 aj,.int .i64 ak]:List Value)[a]?=some (.int .i64 (k:Int)) from λa N=>by
    have B:=Ib c V.o y.k a;obtain⟨cu,bi,bj⟩:=b2.o;rw[ay.o]at bi bj;refine⟨(AA c y.k a).toNat,by omega,rfl,?_⟩;have a6:a=0\/a=1\/a=2:=by omega
    rcases a6 with h | h | h
    ·subst h;rw[ky B.1,cu];rfl
    ·subst h;rw[ky B.1,bi (by omega)];rfl
    subst h;rw[ky B.1,bj (by omega)];rfl)
 go_loopw [41] (λH wr=>∃a:Nat,H=.int .i64 a/\a<=u/\Hid (aD wr e (Be c (Ez c y.k a j) i) 233)/\Hid (aA (λH=>H=e) I wr)) (λH _=>u-(intOf H).toNat)
 case atStart=>exact⟨0,rfl,by omega,E.o.aF,aA.refl _ _⟩
 case round =>
  obtain⟨a,rfl,N,R,T⟩:=hrel;have di:(0:Int)<=(a:Int):=by omega
  by_cases a8:a<u
  ·have a6:(a:Int)<3:=by omega
   obtain⟨k,dp,ae,a4⟩:=b3.o a a8;have dm:(0:Int)<=(k:Int):=by omega
   have dn:(k:Int)<16:=by omega
   have db:wr.cell? ⟨bk,a,none⟩=some (.int .i64 (k:Int)):=T.o.cell (b0.o.cell a4) (λd=>bq.o d.symm);have a7:a*16+k<(BK c y.k a j.cs).length:=by rw[IM,j.len];omega
   obtain⟨l,G⟩:∃l,(BK c y.k a j.cs)[a*16+k]?=some l:=⟨_,hX a7⟩;have dt:=M8 (c:=c) (key:=y.k) bo.o (by omega) a l (iu G);have ds:IntKind.i64.wrap (l+1)=l+1:=by rw[ic];omega
   have dc:wr.cell? ⟨e,21+a*16+k,none⟩=some (.int .i64 l):=by
    rw[show 21+a*16+k=20+(a*16+k+1) by omega];refine R.o.cell ((Jp c _ i (a*16+k+1) (by omega)).trans ?_);show((.int .i64 j.no::(BK c y.k a j.cs).map (.int .i64 ·):List Value))[a*16+k+1]?=_;rw[kR,iP,G];rfl
   have da:=R.o.frozen;have b5:=Aa G;have b1:=Aa ae;clear G ae a4 a7;go_wp2_with fail
   go_region
   go_wp2;go_roundw;case rel =>
    refine⟨a+1,by go_num,by omega,?_,?_⟩
    ·have:=(zOk (p':=Ez c y.k (a+1) j) (a*16+k) l (by omega) R.o b5.o rfl (by show BK c y.k (a+1) j.cs=_;unfold BK;rw[b1.o];rfl)).drew;rw[show 21+(a*16+k)=21+a*16+k by omega]at this;exact this
    exact(T.o.setCell (p:=⟨e,21+a*16+k,none⟩) (Or.inl rfl) _).drew
   case measure=>simp[intOf];omega
  have cj:a=u:=by omega
  subst cj;go_wp2;go_end0;have co:c.rows.toNat=a:=by rw[ay.o];simp
  refine⟨rfl,s,?_,?_,?_⟩
  ·rw[az.o,co];exact⟨R.o,E.o.row.keeps T.o (λd=>E.o.dq d.symm) (λg L d=>E.o.dg g L d.symm),E.o.dq,E.o.dg⟩
  ·have aq:aA (λa=>a=e\/a=i\/z=some a) w A:=(S.o.mono (λ_ _ d=>d.elim)).then ax.o
   have ct:=aq.trans ag.o (λH ch a8=>by
      rcases ch with d | d
      ·exact .inr (.inl d)
      rcases U.o with h | ⟨bh,h,ci⟩
      ·exact .inr (.inr (h ▸ d))
      rw[h]at d;cases d;have:=S.o.size;omega)
   exact((ct.trans bs.o (λ_ d=>d.elim)).trans av.o (λ_ d=>d.elim)).trans T.o (λ_ d _=>.inl d)
  rcases U.o with h | ⟨bh,h,ci⟩
  ·exact .inl h
  exact .inr ⟨bh,h,by have:=S.o.size;have:=a2.o;omega⟩
def Eo(a:List Int)(p:Pa.Pn): List Int:=List.zipWith (·+·) a p.cs
def Eb(l:List Pa.Pn): List Int:=l.foldl Eo Ax
def Dz(c:Cfg)(o:Pa.Pn)(cl:List Pa.Pn)(t:Int): List Int :=
 if t<AS c o then Eo (Eb (cl.drop (B5 c cl t))) o else Eb (cl.drop (B5 c cl t))
theorem Lq{a:List Int}{p:Pa.Pn}(c:a.length=48): (Eo a p).length=48:=by simp[Eo,c,p.len]
theorem Ra: ∀(a b:List Int) (d B:Int),(∀c∈a,0<=c/\c<=d)->(∀c∈b,0<=c/\c<=B)->∀c∈List.zipWith (·+·) a b,0<=c/\c<=d+B
 | [],_,_,_,_,_=>by simp
 | _::_,[],_,_,_,_=>by simp
 | c::a,y::b,d,B,h1,h2=>by
  intro j i;rw[List.zipWith_cons_cons]at i;rcases iw.1 i with h | h
  ·have:=h1 c (by simp);have:=h2 y (by simp);omega
  exact Ra a b d B (λc e=>h1 c (by simp[e])) (λc e=>h2 c (by simp[e])) j h
theorem P9(l:List Pa.Pn)(p:Pa.Pn): Eb (l++[p])=Eo (Eb l) p:=by simp[Eb]
theorem Qf: ∀(l:List Pa.Pn) (a:List Int),a.length=48->(l.foldl Eo a).length=48
 | [],_,h=>h
 | p::l,a,h=>Qf l (Eo a p) (Lq h)
theorem IR(l:List Pa.Pn): (Eb l).length=48:=Qf l _ Eh
def Cl(p:Pa.Pn): Int:=p.cs.foldr max 0
def BF: List Pa.Pn->Int
 | []=>0
 | p::l=>Cl p+BF l
theorem GN(cs:List Int): 0<=cs.foldr max 0:=by
 induction cs with
 | nil=>exact iG _
 | cons a cs c=>simp only[List.foldr_cons];omega
theorem J0{cs:List Int}{x:Int}(c:x∈cs): x<=cs.foldr max 0:=by
 induction cs with
 | nil=>cases c
 | cons e cs d =>
  simp only[List.foldr_cons];rcases iw.1 c with a | a
  ·omega
  have:=d a;omega
theorem MO{cs:List Int}{B:Int}(e:0<=B)(c:∀a∈cs,a<=B): cs.foldr max 0<=B:=by
 induction cs with
 | nil=>exact e
 | cons d cs i =>
  simp only[List.foldr_cons];have j:=c d (by simp);have k:=i (λa h=>c a (by simp[h]));omega
theorem Jv(l:List Pa.Pn): 0<=BF l:=by
 induction l with
 | nil=>exact iG _
 | cons p l c=>have a:0<=Cl p:=GN _;unfold BF;omega
theorem GF(a b:List Pa.Pn): BF (a++b)=BF a+BF b:=by
 induction a with
 | nil=>simp[BF]
 | cons p a c =>
  show Cl p+BF (a++b)=Cl p+BF a+BF b;rw[c];omega
theorem Mb(l:List Pa.Pn)(n:Nat): BF (l.drop n)<=BF l:=by
 have a:=GF (l.take n) (l.drop n);rw[List.take_append_drop]at a;have:=Jv (l.take n);omega
theorem Yg(l:List Pa.Pn)(n:Nat): BF (l.take n)<=BF l:=by
 have a:=GF (l.take n) (l.drop n);rw[List.take_append_drop]at a;have:=Jv (l.drop n);omega
theorem Ql: ∀(l:List Pa.Pn) (a:List Int) (d:Int),(∀c∈a,0<=c/\c<=d)->(∀p∈l,∀c∈p.cs,0<=c)->∀c∈l.foldl Eo a,0<=c/\c<=d+BF l
 | [],a,d,h,_=>by intro c e;have:=h c e;simpa[BF] using this
 | p::l,a,d,h,hp=>by
  intro c e;have:=Ql l (Eo a p) (d+Cl p) (Ra a p.cs d (Cl p) h (λc e=>⟨hp p (by simp) c e,J0 e⟩)) (λj i=>hp j (by simp[i])) c e;unfold BF;omega
theorem PR(l:List Pa.Pn)(d:∀p∈l,∀a∈p.cs,0<=a): ∀a∈Eb l,0<=a/\a<=BF l:=by
 intro a c;have:=Ql l Ax 0 (λa c=>by have e:a∈List.replicate 48 (0:Int):=c;rw[(kk.1 e).2];omega) d a c;omega
theorem KP(w:World): (isAgg 228).run prog w=.ok true w:=by kernel_rfl
theorem Ze(p:Pa.Pn): p.cells.toArray.extract 1 (1+48)=(Af p.cs).toArray:=by
 unfold Pa.Pn.cells;simp only[List.extract_toArray,List.extract_eq_take_drop,kx,kD];rw[iq (by simp[p.len])];rfl
theorem JV(p:Pa.Pn)(w:World): (Instr.field 230 (.agg p.cells.toArray) 1).run prog w=.ok (.agg (Af p.cs).toArray) w:=by
 unfold Instr.field;simp only[jm,jY underlying230,jy];rw[<-Ze p];have a:=KP w;simp[a,asAgg,part]
theorem JE(ρ:Operand->Value)(dst:Option Tmp)(x y:Operand)(a:TypeId)(pos:String)(after:Array Edge)(guard:Option (Nat×Bool)):
  execOp ρ { dst,op:=.store 228 x y,type:=a,pos,after,guard }=Pa.storeP 228 (ρ x) (ρ y):=rfl
theorem IW(w:World)(b:Nat)(cs:List Int)(h:cs.length=48)(i:w.there b 0 48):
  (Pa.storeP 228 (.pointer (some ⟨b,0,none⟩)) (.agg (Af cs).toArray)).run prog w=.ok .skip (w.setCells b 0 (Af cs)):=by
 have a:(Af cs).length=48:=by simp[Af,h]
 have e:∀d∈Af cs,d.oneCell'=true:=λd c=>by unfold Af at c;obtain⟨y,_,rfl⟩:=iE.1 c;rfl
 unfold Pa.storeP;rw[jm,k8 w b 0 228 (Af cs).toArray (by simpa[a] using i) (by rw[MX];simp[a]) (by simpa using e)];rfl
attribute [local go_sem ↓] JE
attribute [local go_sem] JV IW
theorem Yt(W:World)(c:Nat)(a:List Int)(j:aD W c (Af Ax) 228)(e:a.length=48):
  (loadVar 228 ⟨c,0,none⟩).run prog (W.setCells c 0 (Af a))=.ok (.agg (Af a).toArray) (W.setCells c 0 (Af a)):=by
 have h:(Af a).length=48:=by simp[Af,e]
 have d:=aD.setCells (Af a) 0 _ _ j (by simp[Af,e,Eh]);have i:over (Af Ax) 0 (Af a)=Af a:=by
  unfold over;rw[h,iU (by simp[Af,Eh])];simp
 rw[i]at d;exact k9 _ c 0 228 (Af a) _ (λl m k=>by rw[ja];exact d.cell k) underlying228 rfl (by rw[MX,h])
def A4(c:Cfg)(o:Pa.Pn)(cl:List Pa.Pn)(t:Int): List Pa.Pn:=cl.drop (B5 c cl t)++(if t<AS c o/\o.cs≠Ax then[o] else[])
theorem Vo{a:List Int}{p:Pa.Pn}(c:a.length=48)(d:p.cs=Ax): Eo a p=a:=by
 unfold Eo;rw[d];unfold Ax;rw[<-c];clear c d;induction a with
 | nil=>rfl
 | cons h a e=>simp only[iA,List.replicate_succ,List.zipWith_cons_cons,e,kO]
theorem L8(c:Cfg)(o:Pa.Pn)(cl:List Pa.Pn)(t:Int): Eb (A4 c o cl t)=Dz c o cl t:=by
 unfold A4 Dz;by_cases a:t<AS c o
 ·rw[h9 a];by_cases d:o.cs=Ax
  ·rw[hZ (by simp[d]),iz,Vo (IR _) d]
  rw[h9 ⟨a,d⟩,P9]
 rw[hZ a,hZ (by simp[a]),iz]
theorem MS{w w':World}{base:Nat}{t size:Nat}{v:Value}{n:Nat}{d:List Value}(a:w.ownsRow base t size v n d)(k:lO w w'): w'.ownsRow base t size v n d:=by
 refine⟨a.1,?_⟩;rcases a.2 with i | ⟨g,e,h,rfl,j,c,l⟩
 ·exact .inl i
 exact .inr ⟨g,e,h,rfl,j,by rw[k.block g (jr.1 c).1 id];exact c,l⟩
attribute [local go_sem ↓] Pa.execOp_bsP
attribute [local go_sem] Pa.run_bsP
theorem Pw(i h:Nat)(L:Option Nat)(c:Cfg)(o:Pa.Pn)(cl:List Pa.Pn)(t:Int)(w:World)(u:cP w i h L c o cl)(X:c.paned)(bn:cl.length<=1000)(au:∀p∈cl,CC c p)(ar:CC c o):
  Calls prog 198 #[.pointer (some ⟨i,0,none⟩),.int .i64 t] w λn M=>∃j,n=.returned j/\M.ownsRow w.heap.size 230 49 j (A4 c o cl t).length (Pa.flatP (A4 c o cl t))/\lO w M:=by
 have V:w.cell? ⟨i,69,none⟩=some (.pointer (some ⟨h,0,none⟩)):=u.aF.cell (Jx c o h);have a6:=Aa u;have a1:=Aa X;have a5:=Aa ar;have al:=Aa (NE i h L c cl t w u.row (by omega) (u.aF.cell (Cd c o h 5 (by omega))) (u.aF.cell (Cd c o h 9 (by omega))) X au);have s:=Aa (show A4 c o cl t=cl.drop (B5 c cl t)++(if t<AS c o/\o.cs≠Ax then[o] else[]) from rfl);have bg:=Qq c cl t;obtain⟨az,ap,aw,ax,ay⟩:=jh Pa.infoBk;generalize B5 c cl t=d at *
 clear X au ar u;go_enter func198,ntmps198;go_wp2_with fail
 refine al.o.mono ?_;rintro n bl ⟨rfl,aa⟩;have a3:=Aa aa;clear aa al V;generalize av:w.heap.size=E at *
 have l:=Aa av;clear av;generalize aq:cl.length=D at *
 have z:=Aa aq;clear aq;go_wp2_with fail
 go_loopw [5,6] (λj ae wr=>∃a:Nat,ae=.int .i64 a/\d<=a/\a<=D/\Hid (wr.ownsRow E 230 49 j (a-d) (Pa.flatP ((cl.drop d).take (a-d))))/\Hid (lO w wr)) (λ_ ae _=>D-(intOf ae).toNat)
 case atStart=>exact⟨d,rfl,il _,bg,by show World.ownsRow _ _ _ _ _ _ _;rw[kf];exact ir _ _ _ _,a3⟩
 case round =>
  obtain⟨a,rfl,aa,bm,O,R⟩:=hrel;generalize u5=j at *
  have m:=Aa (a6.o.still R.o);have V:wr.cell? ⟨i,69,none⟩=some (.pointer (some ⟨h,0,none⟩)):=m.o.aF.cell (Jx c o h);have T:=Aa (Pa.rowLen_any i h L cl wr m.o.row);rw[z.o]at T;by_cases be:a<D
  ·have v:decide ((a:Int)<(D:Int))=true:=by simp;omega
   go_wp2_with fail
   refine T.o.mono ?_;rintro n M ⟨rfl,C⟩;rw[C];clear C;have k:a<cl.length:=by rw[z.o];exact be
   have a0:=Aa (Vq i h L cl a wr m.o.row k);have a2:=Aa (Pa.pnAt_drop cl a k);clear k;generalize Pa.pnAt cl a=r at *
   go_wp2_with fail
   refine a0.o.mono ?_;rintro n F ⟨rfl,ab⟩;have ag:=Aa (MS O.o ab);have ai:=Aa (R.o.then ab)
   have a4:=Aa (show(cl.drop d).take (a+1-d)=(cl.drop d).take (a-d)++[r] by
      have hlen:a-d<(cl.drop d).length:=by rw[iQ,z.o];omega
      rw[show a+1-d=(a-d)+1 by omega,je hlen];congr 2;have ao:=a2.o;have ba:cl.drop a=(cl.drop d).drop (a-d):=by rw[List.drop_drop];congr 1;omega
      rw[ba,List.drop_eq_getElem_cons hlen]at ao
      exact(List.cons.inj ao).1)
   have bh:E<=F.heap.size:=by have:=ai.o.size;have:=l.o;omega
   clear ab;generalize B:a-d=q at *
   have U:=Aa B;clear B;have bf:q<=1000:=by have:=U.o;omega
   go_wp2_with (at_builtin;refine jf _ rfl _ _ _ rfl E 230 az _ 49 392 underlying239 ap aw ax ay rfl (by omega) j q (Pa.flatP ((cl.drop d).take q)) rfl (ag.o.alloc _) ⟨F.heap.size,0,none⟩ 1 1 r.cells rfl (by rw[r.aE]) (iT (cs:=r.cells.toArray) (t:=230) (fr:=(0,0)) (iJ F _)) r.one (by omega) (by unfold maxLen;omega) (by omega) (by simp;omega) (F.heap.size+1) (by simp) ?_;intro a9 a8 bk ad Y bb bd)
   go_roundw;case rel =>
    refine⟨a+1,by go_num,by omega,by omega,?_,(ai.o.alloc _).grown Y (λaf Z=>Or.inr (by have:=(ag.o.lt af Z).1;have:=l.o;omega))⟩;show World.ownsRow _ _ _ _ _ _ _;rw[a4.o,Pa.flatP_append,show a+1-d=q+1 by have:=U.o;omega];have W:Pa.flatP [r]=r.cells:=by simp[Pa.flatP]
    rw[W];exact ad
   case measure=>simp[intOf];omega
  have bc:a=D:=by omega
  subst bc;have bj:(cl.drop d).take (a-d)=cl.drop d:=iq (by rw[iQ,z.o];omega);rw[bj]at O;have S:=Aa (show(cl.drop d).length=a-d by rw[iQ,z.o]);go_wp2_with fail
  refine T.o.mono ?_;rintro n M ⟨rfl,C⟩;rw[C];clear C;have e:=Dv (Jd m.o.aF);rw[o.aE]at e;have J:Ao wr i 20 49=.agg o.cells.toArray:=by unfold Ao;rw[e.1]
  have G:=e.2;clear e;have ak:=Aa (NF i c o wr (m.o.aF.cell (Cd c o h 5 (by omega))) (m.o.aF.cell (Cd c o h 9 (by omega))) a1.o a5.o);go_wp2_with fail
  refine ak.o.mono ?_;rintro n an ⟨rfl,k⟩;have am:=Aa (m.o.still k);have ah:=Aa (MS O.o k);have aj:=Aa (R.o.then k);clear k J G ak V;have e:=Dv (Jd am.o.aF);rw[o.aE]at e;have J:Ao an i 20 49=.agg o.cells.toArray:=by unfold Ao;rw[e.1]
  have G:=e.2;clear e;generalize AS c o=lt at *
  by_cases I:t<lt
  ·have bi:decide (t<lt)=true:=by simpa using I
   have P:=Aa (Pj o an);unfold Pa.Pn.val at P;go_wp2_with fail
   refine P.o.mono ?_;rintro n A ⟨rfl,H⟩;have a7:=Aa (am.o.still H);have N:=Aa (MS ah.o H);have Q:=Aa (aj.o.then H);clear H J G P;by_cases x:o.cs=Ax
   ·rw[hZ (by simp[x])]at s;have v:decide (o.cs=Ax)=true:=by simpa using x
    rw[v];clear x v;go_wp2;go_ret;refine⟨j,rfl,?_,Q.o⟩;rw[s.o,iz,S.o,l.o];exact N.o
   rw[h9 ⟨I,x⟩]at s;have v:decide (o.cs=Ax)=false:=by simpa using x
   rw[v];clear x v;have e:=Dv (Jd a7.o.aF);rw[o.aE]at e;have J:Ao A i 20 49=.agg o.cells.toArray:=by unfold Ao;rw[e.1]
   have G:=e.2;clear e;have bh:E<=A.heap.size:=by have:=Q.o.size;have:=l.o;omega
   generalize B:a-d=q at *
   have bf:q<=1000:=by omega
   have U:=Aa B;clear B;go_wp2_with (at_builtin;refine jf _ rfl _ _ _ rfl E 230 az _ 49 392 underlying239 ap aw ax ay rfl (by omega) j q (Pa.flatP (cl.drop d)) rfl (N.o.alloc _) ⟨A.heap.size,0,none⟩ 1 1 o.cells rfl (by rw[o.aE]) (iT (cs:=o.cells.toArray) (t:=230) (fr:=(0,0)) (iJ A _)) o.one (by omega) (by unfold maxLen;omega) (by omega) (by simp;omega) (A.heap.size+1) (by simp) ?_;intro a9 a8 bk ad Y bb bd)
   go_ret;refine⟨_,rfl,?_,(Q.o.alloc _).grown Y (λaf Z=>Or.inr (by have:=(N.o.lt af Z).1;have:=l.o;omega))⟩;rw[s.o,Pa.flatP_append,hY,S.o,l.o];have W:Pa.flatP [o]=o.cells:=by simp[Pa.flatP]
   rw[W];exact ad
  have bi:decide (t<lt)=false:=by simpa using I
  rw[hZ (by simp[I])]at s;go_wp2;go_ret;refine⟨j,rfl,?_,aj.o⟩;rw[s.o,iz,S.o,l.o];exact ah.o
end
section
theorem R5{P:Program}{w:World}(base:Nat)(t k e:TypeId)(i:TypeInfo)(size:Nat)(d:P.underlying t=some (.slice e))(hi:P.info? e=some i)(v:Value)(n:Nat)(l:List Value)(j:w.ownsRow base e size v n l)(a:Option Addr)(c:Nat):
  (Builtin.append_ #[t,t] k #[v,.slice a 0 c]).run P w=.ok v w:=by
 rcases j.2 with ⟨rfl,rfl⟩ | ⟨g,m,o,rfl,_,_,h,_⟩
 ·cases a <;> simp[Builtin.append_,jY d,sizeOf,typeInfo,hi,Builtin.lenOf,Builtin.firstCells,loadCells,loadCellsFrom]
 cases a <;> simp[Builtin.append_,jY d,sizeOf,typeInfo,hi,Builtin.lenOf,Builtin.firstCells,h,storeCells,loadCells,loadCellsFrom]
theorem JB{P:Program}{w:World}{l:Array Oper}{rest:List Oper}{o:Oper}{a:Act}{e:Exit->Act->World->Prop}(r:o.guard=none)(s x:Operand)(t:TypeId)(v:o.op=.call { callee:=.builtin .append,args:=#[s,x],argTypes:=#[t,t] })(base:Nat)(c:TypeId)(j:TypeInfo)(size:Nat)(C:P.underlying t=some (.slice c))(u:P.info? c=some j)(d:Value)(k:Nat)(m:List Value)(B:a.eval s=d)(z:w.ownsRow base c size d k m)(h:Option Addr)(i:Nat)(D:a.eval x=.slice h 0 i)(n:wpList P l e rest (a.put o.dst d) w): wpList P l e (o::rest) a w:=by
 refine wpList_plain r λK q=>?_;have A:=R5 (P:=P) (w:=w) base t o.type c j size C u d k m z h i;unfold Oper.wp;simp[execOp,v,resolve,invoke,builtin,B,D,A,Result.andThen];exact q _ _ n
theorem F4{M:Nat->Prop}{w w':World}{base:Nat}{t size:Nat}{v:Value}{n:Nat}{e:List Value}(a:w.ownsRow base t size v n e)(l:aA M w w')(m:∀d,v.ownBlock=some d->¬M d): w'.ownsRow base t size v n e:=by
 refine⟨a.1,?_⟩;rcases a.2 with j | ⟨g,h,i,rfl,k,c,o⟩
 ·exact .inl j
 exact .inr ⟨g,h,i,rfl,k,by rw[l.block g (jr.1 c).1 (m g rfl)];exact c,o⟩
theorem Dy{w:World}{base T size n:Nat}{v:Value}{j:List Value}(e:w.ownsRow base T size v n j): ∃d a,v=.slice d n a/\(0<n->∃g,d=some ⟨g,0,none⟩/\base<=g):=by
 rcases e.2 with ⟨c,h⟩ | ⟨g,a,k,c,i,_⟩
 ·exact⟨none,0,by rw[c,h],λe=>by omega⟩
 exact⟨some ⟨g,0,none⟩,a,c,λ_=>⟨g,rfl,i⟩⟩
def BM: Nat->Nat->List Nat
 | 0,n=>[n]
 | f+1,n=>if n<=127 then[n] else(n%128+128)::BM f (n/128)
def enc(n:Int): List Nat:=BM 9 n.toNat
def Ae(l:List Int): List Nat:=l.flatMap enc
theorem Dm: Ae []=[]:=rfl
theorem BN(n:Int)(l:List Int): Ae (n::l)=enc n++Ae l:=by simp[Ae]
theorem By(a b:List Int): Ae (a++b)=Ae a++Ae b:=by simp[Ae]
theorem Ei(n:Int): Ae [n]=enc n:=by simp[Ae]
theorem UC(f n:Nat): (BM f n).length<=f+1:=by
 induction f generalizing n with
 | zero=>simp[BM]
 | succ f a =>
  unfold BM;split
  ·simp
  have:=a (n/128);simp;omega
theorem Dk(n:Int): (enc n).length<=10:=UC 9 _
theorem Cp(l:List Int): (Ae l).length<=10*l.length:=by
 induction l with
 | nil=>simp[Ae]
 | cons a l c=>have:=Dk a;rw[BN,hY,iA];omega
theorem Vp(f n:Nat)(d:n<128 ^ (f+1)): ∀c∈BM f n,c<256:=by
 induction f generalizing n with
 | zero=>intro c a;simp[BM]at a;subst a;omega
 | succ f h =>
  intro c a;unfold BM at a;split at a
  ·simp at a;omega
  rcases iw.1 a with a | a
  ·omega
  exact h (n/128) (by have e:128 ^ (f+1+1)=128 ^ (f+1)*128:=kt .. ;rw[e]at d;exact(kV (by omega)).2 d) c a
theorem zN0(n:Int)(c:n<=9223372036854775807): ∀a∈enc n,a<256:=Vp 9 _ (by
   have:(128:Nat) ^ (9+1)=1180591620717411303424:=by decide
   rw[this];omega)
def B7(l:List Nat): List Value:=l.map λ(n:Nat)=>.int .u8 (n:Int)
theorem Sz(a b:List Nat): B7 (a++b)=B7 a++B7 b:=by simp[B7]
theorem QX: (prog.info? 5).map (λa=>(a.zero,a.size,a.bytes))=some (some (.int .u8 0),1,1):=by kernel_rfl
def dO(w:World)(v:Value)(bs:List Nat): Prop :=
 w.ownsRow 0 5 1 v bs.length (B7 bs)\/∃g,v=.slice (some ⟨g,0,none⟩) bs.length bs.length/\w.heap[g]?=some (.cells (B7 bs).toArray 5 (bs.length,bs.length+1))
theorem dO.lt{w:World}{v:Value}{bs:List Nat}(a:dO w v bs)(i:Nat)(hi:v.ownBlock=some i): i<w.heap.size:=by
 rcases a with a | ⟨g,rfl,a⟩
 ·exact(a.lt i hi).2
 have:g=i:=by simpa[Value.ownBlock] using hi
 subst this;exact(jr.1 a).1
theorem dO.keeps{M:Nat->Prop}{w w':World}{v:Value}{bs:List Nat}(a:dO w v bs)(c:aA M w w')(d:∀e,v.ownBlock=some e->¬M e): dO w' v bs:=by
 rcases a with a | ⟨g,rfl,a⟩
 ·exact .inl (F4 a c d)
 exact .inr ⟨g,rfl,by rw[c.block g (jr.1 a).1 (d g rfl)];exact a⟩
theorem dO.form{w:World}{v:Value}{bs:List Nat}(a:dO w v bs): ∃c d,v=.slice c bs.length d:=by
 rcases a with a | ⟨g,rfl,a⟩
 ·obtain⟨c,d,e,_⟩:=Dy a;exact⟨c,d,e⟩
 exact⟨_,_,rfl⟩
theorem dO.cells{w:World}{v:Value}{bs:List Nat}(a:dO w v bs): (bs.length=0/\v=.slice none 0 0)\/∃g e,v=.slice (some ⟨g,0,none⟩) bs.length e/\∀(i:Nat) d,(B7 bs)[i]?=some d->w.cell? ⟨g,i,none⟩=some d:=by
 rcases a with a | ⟨g,rfl,a⟩
 ·rcases a.2 with ⟨h,k⟩ | ⟨g,e,j,h,_,l,n,o,q,m⟩
  ·exact .inl ⟨k,h⟩
  refine .inr ⟨g,e,h,λi d c=>?_⟩;have r:i<bs.length:=by have:=(ik.1 c).1;simpa[B7] using this
  have:j[i]?=some d:=by
   rw[<-m,iV,h9 (by omega)]at c;simpa using c
  simp[World.cell?,l,this]
 refine .inr ⟨g,_,rfl,λi d c=>?_⟩;simp[World.cell?,a,c]
theorem Tt(w:World)(l:TypeId)(v:Value)(bs:List Nat)(e:dO w v bs)(d:Addr)(c:Nat)(y:Nat)(C:w.cell? d=some (.int .u8 (y:Int)))(u:d.add 0=d)(E:bs.length<=140737488355320):
  ∃g m j,(Builtin.append_ #[129,129] l #[v,.slice (some d) 1 c]).run prog w=.ok (.slice (some ⟨g,0,none⟩) (bs.length+1) m) j /\
   j.ownsRow 0 5 1 (.slice (some ⟨g,0,none⟩) (bs.length+1) m) (bs.length+1) (B7 bs++[.int .u8 (y:Int)])/\w.grownBy j v.ownBlock/\(v.ownBlock=some g\/g=w.heap.size)/\g<j.heap.size:=by
 obtain⟨s,n,q,k,r⟩:=jh QX;have o:∀(a:Nat) i,[Value.int .u8 (y:Int)][a]?=some i->w.cell? (d.add a)=some i:=by
  intro a i h;cases a with
  | zero=>rw[u,C];exact h
  | succ a=>simp at h
 rcases e with e | ⟨g,rfl,e⟩
 ·exact run_append_lies (P:=prog) w 129 l 0 5 s _ 1 1 underlying129 n q k r rfl (by omega) v bs.length (B7 bs) e d 1 c [.int .u8 (y:Int)] rfl o (by simp[Value.oneCell']) (by omega) (by unfold maxLen;omega) (by omega) (iM _) w.heap.size rfl
 have D:=run_append_grow (P:=prog) w 129 l 5 s _ underlying129 n q ⟨g,0,none⟩ bs.length bs.length (B7 bs) (by simp[B7,k]) (λa i h=>by
     have x:(⟨g,0,none⟩:Addr).add a=⟨g,a,none⟩:=by unfold Addr.add;split <;> simp_all
     rw[x]
     simp[World.cell?,e,h]) d 1 c [.int .u8 (y:Int)] (by simp[k]) o (by omega) (by omega) (growslice_fits (by omega) (by rw[r];omega))
 have A:=grownCap_ge w (bs.length+1) bs.length 5;have z:grownCap w (bs.length+1) bs.length 5<=maxLen:=grownCap_le_maxLen w (bs.length+1) bs.length 5 (by unfold maxLen;omega);refine⟨w.heap.size,_,_,D,⟨by simp[B7],.inr ⟨w.heap.size,_,_,rfl,iM _,iJ w.drew _,A,z,?_,?_⟩⟩,⟨rfl,rfl,rfl,by simp,λF B _=>jq w.drew _ _ B⟩,.inr rfl,by simp⟩
 ·simp only[Array.size_append,List.size_toArray,size_zeroCells];simp[B7,Value.cells];omega
 simp only[Array.toList_append];have t:(bs.length+1)*1=(B7 bs++[Value.int .u8 (y:Int)]).length:=by simp[B7]
 rw[t];exact List.take_left
theorem Nb{w:World}{n:Array Oper}{rest:List Oper}{o:Oper}{a:Act}{l:Exit->Act->World->Prop}(D:o.guard=none)(s x:Operand)(G:o.op=.call { callee:=.builtin .append,args:=#[s,x],argTypes:=#[129,129] })(h:Value)(i:List Nat)(e:Nat)(C:i.length=e)(I:a.eval s=h)(J:dO w h i)(d:Addr)(m:Nat)(y:Nat)(L:a.eval x=.slice (some d) 1 m)(F:w.cell? d=some (.int .u8 (y:Int)))(B:d.add 0=d)(E:e<=140737488355320)(k:Nat)(z:w.heap.size=k)(q:∀g j c,c.ownsRow 0 5 1 (.slice (some ⟨g,0,none⟩) (e+1) j) (e+1) (B7 i++[.int .u8 (y:Int)])->w.grownBy c h.ownBlock->(h.ownBlock=some g\/g=k)->g<c.heap.size->wpList prog n l rest (a.put o.dst (.slice (some ⟨g,0,none⟩) (e+1) j)) c): wpList prog n l (o::rest) a w:=by
 subst C z;refine wpList_plain D λK A=>?_;obtain⟨g,j,c,H,r,t,u,v⟩:=Tt w o.type h i J d m y F B E;unfold Oper.wp execOp;simp only[G,resolve,invoke,builtin,jm,Sem.run_pure,jy,List.map_toArray,iC,kh,I,L,H];exact A _ _ (q g j c r t u v)
structure bR (w:World) (b:Nat) (v:Value) (bs:List Nat):Prop where
 aF:aD w b [v] 131
 row:dO w v bs
 ne:v.ownBlock≠some b
 small:∀x∈bs,x<256
def AF(b:Nat)(v:Value)(i:Nat): Prop:=i=b\/v.ownBlock=some i
theorem bR.keeps{M:Nat->Prop}{w w':World}{b:Nat}{v:Value}{bs:List Nat}(a:bR w b v bs)(d:aA M w w')(e:∀c,AF b v c->¬M c): bR w' b v bs :=
 ⟨a.aF.keeps d (e b (.inl rfl)),a.row.keeps d (λc h=>e c (.inr h)),a.ne,a.small⟩
theorem bR.still{w w':World}{b:Nat}{v:Value}{bs:List Nat}(a:bR w b v bs)(c:lO w w'): bR w' b v bs:=a.keeps c (λ_ _ a=>a)
theorem bR.lt{w:World}{b:Nat}{v:Value}{bs:List Nat}(a:bR w b v bs)(i:Nat)(hi:AF b v i): i<w.heap.size:=by
 rcases hi with hi | hi
 ·rw[hi];exact a.aF.lt
 exact a.row.lt i hi
def aJ(w:World)(b:Nat)(v:Value)(bs:List Nat)(w':World): Prop :=
 ∃v',bR w' b v' bs/\(∀i,v'.ownBlock=some i->v.ownBlock=some i\/w.heap.size<=i)/\aA (AF b v) w w'
theorem aJ.refl{w:World}{b:Nat}{v:Value}{bs:List Nat}(a:bR w b v bs): aJ w b v bs w:=⟨v,a,λ_ c=>.inl c,aA.refl _ _⟩
theorem bR.cells{w w':World}{b:Nat}{v:Value}{bs:List Nat}{o:Obj}(c:bR w b v bs)(h:(w.alloc o).grownBy w' v.ownBlock): w'.cell? ⟨b,0,none⟩=some v/\w'.frozen? ⟨b,0,none⟩=false:=by
 have d:w'.heap[b]?=w.heap[b]?:=by
  rw[h.block b (by have:=c.aF.lt;simp;omega) (λe=>c.ne e.symm),jq _ _ _ c.aF.lt]
 exact⟨(jw (a:=⟨b,0,none⟩) d).trans (c.aF.cell rfl),(jH (a:=⟨b,0,none⟩) d).trans (c.aF.frozen 0)⟩
theorem bR.more{w w':World}{b:Nat}{v:Value}{bs:List Nat}{o:Obj}{g n h y:Nat}(c:bR w b v bs)(x:bs.length=n)(k:(w.alloc o).grownBy w' v.ownBlock)(z:w'.ownsRow 0 5 1 (.slice (some ⟨g,0,none⟩) (n+1) h) (n+1) (B7 bs++[.int .u8 (y:Int)]))(j:v.ownBlock=some g\/g=w.heap.size+1)(B:y<256): aJ w b v (bs++[y]) (w'.setCell ⟨b,0,none⟩ (.slice (some ⟨g,0,none⟩) (n+1) h)):=by
 have u:=c.aF.lt;have q:w'.heap[b]?=w.heap[b]?:=by
  rw[k.block b (by simp;omega) (λa=>c.ne a.symm),jq _ _ _ u]
 have r:aD w' b [v] 131:=by unfold aD;rw[q];exact c.aF
 have l:g≠b:=by
  rcases j with a | a
  ·intro m;exact c.ne (by rw[a,m])
  omega
 refine⟨.slice (some ⟨g,0,none⟩) (n+1) h,⟨r.setCell 0 _,?_,?_,?_⟩,?_,?_⟩
 ·refine .inl ?_;rw[hY,x,Sz];exact(F4 z ((aA.refl (λe=>e=b) w').setCell (p:=⟨b,0,none⟩) (Or.inl rfl) _) (λe i a=>l ((show g=e by simpa[Value.ownBlock] using i).trans a)))
 ·intro a;exact l (by simpa[Value.ownBlock] using a)
 ·intro A d;rcases ig.1 d with d | d
  ·exact c.small A d
  rw[ij]at d;omega
 ·intro e i;have s:g=e:=by simpa[Value.ownBlock] using i
  rcases j with a | a
  ·exact .inl (by rw[a,s])
  exact .inr (by omega)
 exact(((aA.refl (AF b v) w).alloc o).grown k (λC t=>.inl (.inr t))).setCell (p:=⟨b,0,none⟩) (Or.inl (.inl rfl)) _
theorem aJ.then{w k l:World}{b:Nat}{v j:Value}{e:List Nat}(i:∀a,j.ownBlock=some a->v.ownBlock=some a\/w.heap.size<=a)(h:aA (AF b v) w k)(m:aJ k b j e l): aJ w b v e l:=by
 obtain⟨r,q,o,n⟩:=m;have t:=h.size;refine⟨r,q,λa c=>?_,h.trans n (λa c s=>?_)⟩
 ·rcases o a c with d | d
  ·exact i a d
  exact .inr (by omega)
 rcases c with c | c
 ·exact .inl c
 rcases i a c with d | d
 ·exact .inr d
 omega
theorem FE(b:Nat)(v:Value)(bs:List Nat)(n:Int)(w:World)(d:bR w b v bs)(I:0<=n)(n1:n<=9223372036854775807)(ai:bs.length<=140737488355300):
  Calls prog 47 #[.pointer (some ⟨b,0,none⟩),.int .i64 n] w λO ad=>O=.returned (.tuple #[])/\aJ w b v (bs++enc n) ad:=by
 obtain⟨e,rfl⟩:=jd I;have J:=Aa (show enc (e:Int)=BM 9 e by unfold enc;rw[iH]);have M:=Aa d;have ap:IntKind.u64.wrap (e:Int)=(e:Int):=by rw[jC];omega
 clear d I;go_enter func47,ntmps47;go_wp2;go_loopw [4] (λh wr=>∃(f a:Nat) (pre:List Nat) (x:Value),h=.int .u64 a/\a<=9223372036854775807/\f<=9/\a<128 ^ (f+1)/\pre.length+f=bs.length+9/\Hid (bs++enc (e:Int)=pre++BM f a)/\Hid (bR wr b x pre)/\Hid (∀m,x.ownBlock=some m->v.ownBlock=some m\/w.heap.size<=m)/\Hid (aA (AF b v) w wr)) (λh _=>(intOf h).toNat)
 case atStart=>exact⟨9,e,bs,v,rfl,by omega,by omega,(by have:(128:Nat) ^ (9+1)=1180591620717411303424:=(by decide);omega),rfl,by show _=_;rw[J.o],M,λm V=>.inl V,aA.refl _ _⟩
 case round =>
  obtain⟨f,a,pre,x,rfl,al,ah,u,aj,B,c,E,C⟩:=hrel;obtain⟨z,A,Y⟩:=c.o.row.form;subst Y;have ag:=c.o.aF.c0;have ak:pre.length<=140737488355310:=by omega
  generalize G:pre.length=k at *
  have i:=Aa G;have D:=Aa (show dO wr (.slice z k A) pre from c.o.row);clear G;have ao:IntKind.u8.wrap (a:Int)=((a%256:Nat):Int):=by rw[kj];omega
  by_cases af:127<a
  ·have S:decide ((127:Int)<(a:Int))=true:=by simp;omega
   have am:bits BinOp.or IntKind.u8 ((a%256:Nat):Int) 128=((a%128+128:Nat):Int):=by
    have F:=u8_or_nat (a%256) 128 (by omega) (by omega);rw[show((128:Nat):Int)=128 from rfl]at F;rw[F];congr 1;have Q:∀h:Fin 256,h.val ||| 128=h.val%128+128:=by decide
    have:=Q ⟨a%256,by omega⟩;simp only at this;rw[this];omega
   generalize H:a%128+128=y at *
   have l:=Aa H;clear H;generalize a%256=an at *
   go_wp2_with (at_builtin;refine Nb rfl _ _ rfl (.slice z k A) pre k i.o rfl (D.o.keeps ((aA.refl (λ_=>False) wr).alloc _) (λ_ _ d=>d)) ⟨wr.heap.size,0,none⟩ 1 y rfl (by simp) rfl (by omega) (wr.heap.size+1) (by simp) ?_;intro P N ae t j r X;have s:=bR.cells c.o j;obtain⟨R,U⟩:=s)
   have o:=Aa (bR.more (y:=y) c.o i.o j t r (by have:=l.o;omega));obtain⟨q,T⟩:∃q,f=q+1:=by
    cases f with
    | zero=>simp at u;omega
    | succ f=>exact⟨f,rfl⟩
   subst T;go_roundw;case rel =>
    obtain⟨ab,aa,Z,W⟩:=aJ.then E.o C.o o.o;refine⟨q,a/128,pre++[y],ab,by go_num,by omega,by omega,?_,by rw[hY,i.o,iZ];omega,?_,aa,Z,W⟩
    ·rw[kt]at u;exact(kV (by omega)).2 u
    show _=_;rw[B.o,List.append_assoc]
    conv=>lhs;unfold BM
    rw[hZ (by omega),l.o];rfl
   case measure=>simp[intOf];omega
  have S:decide ((127:Int)<(a:Int))=false:=by simp;omega
  have L:=Aa (show BM f a=[a%256] by
     cases f with
     | zero=>unfold BM;rw[Nat.mod_eq_of_lt (by omega)]
     | succ f=>unfold BM;rw[h9 (by omega),Nat.mod_eq_of_lt (by omega)])
  have l:=Aa (show a%256<256 by omega);generalize a%256=y at *
  go_wp2_with (at_builtin;refine Nb rfl _ _ rfl (.slice z k A) pre k i.o rfl (D.o.keeps ((aA.refl (λ_=>False) wr).alloc _) (λ_ _ d=>d)) ⟨wr.heap.size,0,none⟩ 1 y rfl (by simp) rfl (by omega) (wr.heap.size+1) (by simp) ?_;intro P N ae t j r X;have s:=bR.cells c.o j;obtain⟨R,U⟩:=s)
  have o:=Aa (bR.more (y:=y) c.o i.o j t r l.o);go_end0;refine⟨rfl,?_⟩;rw[B.o,L.o];exact aJ.then E.o C.o o.o
end
section
attribute [local go_sem ↓] Pa.execOp_loadP Pa.execOp_storeP Hp Hn Hm JE
attribute [local go_sem] Pa.run_loadP H8 H5 Hu Eh A5 A6 JV IW
theorem Pv{w:World}{base T size n:Nat}{v:Value}{c:List Value}(a:w.ownsRow base T size v n c): w.ownsRow 0 T size v n c:=by
 refine⟨a.1,?_⟩;rcases a.2 with i | ⟨g,d,e,h,k,j⟩
 ·exact .inl i
 exact .inr ⟨g,d,e,h,iM _,j⟩
theorem U7(H al:Nat)(ak:Option Nat)(c:Cfg)(o:Pa.Pn)(cl:List Pa.Pn)(t:Int)(w:World)(j:cP w H al ak c o cl)(aa:c.paned)(af:cl.length<=1000)(k:∀p∈cl,CC c p)(ai:CC c o)(ab:∀e∈o.cs,0<=e)(ag:∀p∈cl,∀e∈p.cs,0<=e)(bh:BF cl+Cl o<=4611686018427387904):
  Calls prog 197 #[.pointer (some ⟨H,0,none⟩),.int .i64 t] w λI bl=>I=.returned (.agg (Af (Dz c o cl t)).toArray)/\lO w bl:=by
 obtain⟨l,q⟩:∃l,l=(w.alloc (.cells (Af Ax).toArray 228)).alloc (.cells (Af Ax).toArray 228):=⟨_,rfl⟩;have E:=Aa (show lO w l by rw[q];exact((aA.refl _ _).alloc _).alloc _);have U:=Aa (show aD l w.heap.size (Af Ax) 228 by rw[q];exact(aD.new w _ _).alloc _);have V:=Aa (show aD l (w.heap.size+1) (Af Ax) 228 by rw[q];exact aD.newAt (by simp) _ _);have W:=Aa (show(w.alloc (.cells #[.int .i64 0,.int .i64 0,.int .i64 0,.int .i64 0,.int .i64 0,.int .i64 0,.int .i64 0,.int .i64 0,.int .i64 0,.int .i64 0,.int .i64 0,.int .i64 0,.int .i64 0,.int .i64 0,.int .i64 0,.int .i64 0,.int .i64 0,.int .i64 0,.int .i64 0,.int .i64 0,.int .i64 0,.int .i64 0,.int .i64 0,.int .i64 0,.int .i64 0,.int .i64 0,.int .i64 0,.int .i64 0,.int .i64 0,.int .i64 0,.int .i64 0,.int .i64 0,.int .i64 0,.int .i64 0,.int .i64 0,.int .i64 0,.int .i64 0,.int .i64 0,.int .i64 0,.int .i64 0,.int .i64 0,.int .i64 0,.int .i64 0,.int .i64 0,.int .i64 0,.int .i64 0,.int .i64 0,.int .i64 0] 228)).alloc (.cells #[.int .i64 0,.int .i64 0,.int .i64 0,.int .i64 0,.int .i64 0,.int .i64 0,.int .i64 0,.int .i64 0,.int .i64 0,.int .i64 0,.int .i64 0,.int .i64 0,.int .i64 0,.int .i64 0,.int .i64 0,.int .i64 0,.int .i64 0,.int .i64 0,.int .i64 0,.int .i64 0,.int .i64 0,.int .i64 0,.int .i64 0,.int .i64 0,.int .i64 0,.int .i64 0,.int .i64 0,.int .i64 0,.int .i64 0,.int .i64 0,.int .i64 0,.int .i64 0,.int .i64 0,.int .i64 0,.int .i64 0,.int .i64 0,.int .i64 0,.int .i64 0,.int .i64 0,.int .i64 0,.int .i64 0,.int .i64 0,.int .i64 0,.int .i64 0,.int .i64 0,.int .i64 0,.int .i64 0,.int .i64 0] 228)=l from q.symm);have a6:=Aa (show l.heap.size=w.heap.size+2 by rw[q];simp);have T:=Aa (Pw H al ak c o cl t l (j.still E.o) aa af k ai);have R:=Aa (L8 c o cl t)
 have ay:=Aa (show(A4 c o cl t).length<=1001 by
    unfold A4;rw[hY,iQ]
    split <;> simp <;> omega)
 have F:=Aa (show ∀p∈A4 c o cl t,∀e∈p.cs,0<=e from λp k=>by
    unfold A4 at k;rcases ig.1 k with h | h
    ·exact ag p (iB h)
    split at h
    ·rw[ij]at h;rw[h];exact ab
    cases h)
 have a4:=Aa (show BF (A4 c o cl t)<=4611686018427387904 by
    have h:=Mb cl (B5 c cl t);have ba:0<=Cl o:=GN _;unfold A4;rw[GF];split
    ·simp only[BF];omega
    simp only[BF];omega)
 generalize A4 c o cl t=d at *
 clear q aa k ai ab ag j af bh;go_enter func197,ntmps197;go_wp2_with fail
 rw[W.o];refine T.o.mono ?_;rintro I a9 ⟨bj,rfl,M,C⟩;obtain⟨b6,bk,bi,aj⟩:=Dy M;subst bi;have az:=Aa (U.o.keeps C id);have a1:=Aa (V.o.keeps C id);have aq:=Aa (E.o.then C);have ax:=Aa M;have a7:=Aa aj;clear C T W M aj U V E;generalize P:w.heap.size=n at *
 have a0:=Aa P;clear P;generalize ah:d.length=r at *
 have B:=Aa ah;clear ah;have b0:r<=1001:=ay.o;go_wp2_with fail
 go_loopw [12] (λm wr=>∃a:Nat,m=.int .i64 a/\a<=r/\Hid (aD wr (n+1) (Af (Eb (d.take a))) 228)/\Hid (aA (λm=>m=n+1) a9 wr)) (λm _=>r-(intOf m).toNat)
 case atStart=>exact⟨0,rfl,iM _,a1,aA.refl _ _⟩
 case round =>
  obtain⟨a,rfl,bx,z,A⟩:=hrel;have bv:(0:Int)<=(a:Int):=by omega
  by_cases bf:a<r
  ·obtain⟨g,bb,br⟩:=a7.o (by omega);subst bb;have u:a<d.length:=by rw[B.o];exact bf
   have bc:g≠n+1:=by have:=a6.o;omega
   have am:=Aa (show Pa.aY wr g bk d from by
      refine Pa.brow_of_owns B.o (Pv (F4 ax.o A.o (λm ad j=>?_)));have:g=m:=by simpa[Value.ownBlock] using ad
      omega)
   have D:=Dv (am.o.range a u);rw[Pa.Pn.aE]at D;have bq:Ao wr g (a*49) 49=.agg (Pa.pnAt d a).cells.toArray:=by unfold Ao;rw[D.1]
   have bp:Ay wr g (a*49) 49=true:=D.2;have ap:=Aa (Pa.pnAt_drop d a u)
   have aw:=Aa (show Pa.pnAt d a∈d by
      have:Pa.pnAt d a=d[a]:=by simp[Pa.pnAt,List.getD_eq_getElem?_getD,hX u]
      rw[this];exact jc u)
   clear D u;generalize Pa.pnAt d a=e at *
   obtain⟨X,b1,Y,L⟩:=Mm e wr
   have N:=Eg Y 1 48 (Af e.cs) (by
      unfold Pa.Pn.cells;simp only[kx,kD]
      exact iq (by simp[e.len])) (by simp[Af,e.len])
   have b3:Ao X wr.heap.size 1 48=.agg (Af e.cs).toArray:=N.1;have bs:=N.2;have an:=Aa (z.o.keeps L id);have ar:=Aa (A.o.trans L (λ_ j=>j.elim));have a8:=Aa (show ∀i∈e.cs,0<=i from λi x=>F.o e aw.o i x);have a2:=Aa (show ∀i∈Eb (d.take a),0<=i from λi x=>(PR _ (λp k=>F.o p (jn k)) i x).1)
   have S:=Aa (show Eb (d.take (a+1))=Eo (Eb (d.take a)) e by
      rw[<-P9];congr 1;have hlen:a<d.length:=by rw[B.o];omega
      rw[je hlen];congr 2;have h:=ap.o;rw[List.drop_eq_getElem_cons hlen]at h
      exact(List.cons.inj h).1)
   have a5:=Aa (show ∀i∈List.zipWith (·+·) (Eb (d.take a)) e.cs,i<=4611686018427387904 from λi x=>by
      have h:i∈Eb (d.take (a+1)):=by rw[S.o];exact x
      have ba:=PR _ (λp k=>F.o p (jn k)) i h;have bn:=Yg d (a+1);have bo:=a4.o
      omega)
   clear Y L N bc;have bu:(a:Int)<(r:Int):=by omega
   go_wp2_with fail
   refine(zNd (n+1) (Eb (d.take a)) e.cs X (IR _) e.len an.o a2.o a8.o a5.o).mono ?_;rintro I bm ⟨rfl,Z,ae⟩;have ao:=Aa Z;have au:=Aa (ar.o.then ae);clear Z ae;go_wp2;go_roundw;case rel =>
    refine⟨a+1,by go_num,by omega,?_,au.o⟩;show aD _ _ _ _;rw[S.o];exact ao.o
   case measure=>simp[intOf];omega
  have be:a=r:=by omega
  subst be;have bg:d.take a=d:=iq (by rw[B.o];omega);rw[bg,R.o]at z;have Q:(Dz c o cl t).length=48:=by rw[<-R.o];exact IR _
  have G:=Aa (az.o.keeps A.o (by omega));obtain⟨s,J⟩:∃s,s=Dz c o cl t:=⟨_,rfl⟩;rw[<-J]at z Q;have a3:=Aa J;clear J;have O:=CE z.o 48 (by simp[Af,Q]);have b4:Ao wr (n+1) 0 48=.agg (Af s).toArray:=O.1;have bt:=O.2;have b2:wr.there n 0 48:=λb5 bd=>⟨G.o.some (by simpa[Af,Eh] using bd),G.o.frozen _⟩;have av:=Aa (Yt wr n s G.o Q);clear O;go_wp2;refine iN (v:=.agg (Af s).toArray) ?_ rfl ⟨by rw[a3.o],?_⟩
  ·simp[results,results197,asAddr,av.o]
  have P:=a0.o;exact aA.setCells (Or.inr (by omega)) _ _ _ (aq.o.trans A.o (λm ad bz=>by omega))
