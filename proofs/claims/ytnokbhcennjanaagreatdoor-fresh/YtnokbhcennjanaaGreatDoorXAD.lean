import Derived.Test.YtnokbhcennjanaaGreatDoorXAC
open Go.RowKit Go.Proofs.Tryz
set_option maxRecDepth 100000
set_option maxHeartbeats 16000000
namespace Go.Proofs.YtnokbhcennjanaaGreatDoor.Mk
def BZ: Value:=.func (.func 181) #[] #[]
def aH(w:World)(r:Nat)(og:Option Nat)(l:List Bk): Prop :=
 match og with
 | none=>l=[]/\aD w r [BZ,.slice none 0 0] 268
 | some g=>r≠g/\∃cap,aD w r [BZ,σ g l.length cap] 268/\aY w g cap l
theorem aH.lt{w:World}{d:Nat}{c:Option Nat}{l:List Bk}(a:aH w d c l): d<w.heap.size/\∀g,c=some g->g<w.heap.size/\d≠g:=by
 cases c with
 | none=>exact⟨a.2.lt,λ_ a=>by cases a⟩
 | some g=>obtain⟨h,j,e,i⟩:=a;exact⟨e.lt,λk a=>by cases a;exact⟨i.lt,h⟩⟩
theorem aH.keeps{M:Nat->Prop}{w w':World}{d:Nat}{a:Option Nat}{l:List Bk}(c:aH w d a l)(k:aA M w w')(e:¬M d)(j:∀g,a=some g->¬M g): aH w' d a l:=by
 cases a with
 | none=>exact⟨c.1,c.2.keeps k e⟩
 | some g=>obtain⟨m,h,i,n⟩:=c;exact⟨m,h,i.keeps k e,n.keeps k (j g rfl)⟩
theorem aH.still{w w':World}{d:Nat}{c:Option Nat}{l:List Bk}(a:aH w d c l)(k:lX w w'): aH w' d c l:=a.keeps k id (λ_ _ a=>a)
theorem rowLen_any(e:Nat)(d:Option Nat)(l:List Bk)(w:World)(c:aH w e d l):
  Calls prog 187 #[π e] w λh m=>h=.returned (ι l.length)/\m=w:=by
 cases d with
 | none =>
  obtain⟨i,a⟩:=c;have j:=a.c1;subst i;clear a;go_enter func187,ntmps187;go_wp2;go_ret;exact⟨rfl,rfl⟩
 | some g =>
  obtain⟨o,n,a,k⟩:=c;have j:=a.c1;clear a k;go_enter func187,ntmps187;go_wp2;go_ret;exact⟨rfl,rfl⟩
theorem FM(h:Nat)(e:Option Nat)(l:List Bk)(i:Nat)(w:World)(d:aH w h e l)(hi:i<l.length):
  Calls prog 188 #[π h,ι i] w λj n=>j=.returned (Ad l i).val/\lX w n:=by
 cases e with
 | none=>obtain⟨k,a⟩:=d;subst k;simp at hi
 | some g =>
  obtain⟨x,q,a,c⟩:=d;have z:=a.c1;have u:=a.lt;have t:=c.lt;obtain⟨A,B⟩:=c.cells i hi;generalize Ad l i=o at *
  generalize l.length=m at *
  have r:(0:Int)<=(i:Int):=by omega
  have s:(i:Int)<(m:Int):=by omega
  clear a c;go_enter func188,ntmps188;go_wp2;refine iV (v:=o.val) (by simp[results,results188,go_sem,Bk.val]) rfl ⟨rfl,(aA.refl _ _).alloc _⟩
theorem Na(x:Bk)(w:World):
  Calls prog 181 #[x.val] w λa c=>a=.returned (ι x.sz)/\c=w.alloc (.cells #[ι x.sz,ι x.t] 218):=by
 unfold Bk.val;go_enter func181,ntmps181;go_wp2;go_ret;exact⟨rfl,rfl⟩
def pastN(l:List Bk)(t:Int): Nat:=(l.takeWhile (λb=>decide (b.sz<=t))).length
theorem pastN_le(l:List Bk)(t:Int): pastN l t<=l.length:=(lJ _).length_le
theorem past_any(j:Nat)(F:Option Nat)(l:List Bk)(t:Int)(w:World)(c:aH w j F l)(B:l.length<=4398046511104):
  Calls prog 183 #[π j,ι t] w λz i=>z=.returned (ι (pastN l t))/\lX w i:=by
 cases F with
 | none =>
  obtain⟨B,k⟩:=c;have H:=k.c1;subst B;clear k;go_enter func183,ntmps183;go_wp2;go_loopw [5] (λm wr=>m=ι 0/\wr=w) (λ_ _=>0)
  case atStart=>exact⟨rfl,rfl⟩
  case round =>
   obtain⟨rfl,rfl⟩:=hrel;go_wp2;go_quiet (fail)
   go_wp2;go_ret;exact⟨rfl,aA.drewN _ _ _⟩
 | some g =>
  obtain⟨P,x,k,E⟩:=c;have r:=Aa k;have G:=Aa E;clear k E;generalize D:l.length=h at *
  have o:=Aa D;clear D;go_enter func183,ntmps183;go_wp2;go_loopw [5] (λm wr=>∃a:Nat,m=ι a/\a<=h/\Hid (lX w wr)/\Hid (pastN l t=a+pastN (l.drop a) t)) (λm _=>h-(intOf m).toNat)
  case atStart=>exact⟨0,rfl,iT _,aA.refl _ _,by show _=_;simp⟩
  case round =>
   obtain⟨a,rfl,M,e,n⟩:=hrel;have H:κ wr j 1 (σ g h x):=e.o.cell (r.o.cell rfl) id;have Q:κ wr j 0 (.func (.func 181) #[] #[]):=e.o.cell (r.o.cell rfl) id;by_cases C:a<h
   ·have q:=G.o.cells a (by rw[o.o];exact C);have R:=e.o.cell q.1 id;have S:=e.o.cell q.2 id;clear q;have N:(0:Int)<=(a:Int):=by omega
    have O:(a:Int)<(h:Int):=by omega
    have s:=Aa (Gj l a (by rw[o.o];exact C));generalize Ad l a=d at *
    by_cases I:d.sz<=t;all_goals
     have v:=Aa I;go_wp2
     go_region_held3 (λi=>i.cell? ⟨j,0,none⟩=some (.func (.func 181) #[] #[])/\i.cell? ⟨j,1,none⟩=some (σ g h x) /\
        i.cell? ⟨g,a*2,none⟩=some (ι d.sz)/\i.cell? ⟨g,a*2+1,none⟩=some (ι d.t)) (go_keep)
      (first | (go_at_call 181;refine(Na d _).mono ?_;rintro z i ⟨rfl,rfl⟩))
     have A:lX wr (wr.alloc (.cells #[ι d.sz,ι d.t] 218)).drew:=((aA.refl _ _).alloc _).drew;generalize(wr.alloc (.cells #[ι d.sz,ι d.t] 218)).drew=J at *
     have u:=Aa A;clear A
    ·go_wp2;go_roundw;case rel =>
      refine⟨a+1,by go_num,by omega,e.o.then u.o,?_⟩;show _=_;rw[n.o,s.o];unfold pastN;rw[jE,ij (by simpa using v.o)];simp;omega
     case measure=>simp[intOf];omega
    go_wp2;go_ret;refine⟨?_,e.o.then u.o⟩;rw[n.o,s.o];unfold pastN;rw[jE,ig (by simpa using v.o)];simp
   have L:decide ((a:Int)<(h:Int))=false:=by simp;omega
   go_wp2;go_quiet (fail)
   go_wp2;go_ret;refine⟨?_,e.o.then (aA.drewN _ _ _)⟩;rw[n.o,iX (by rw[o.o];omega)];simp[pastN]
end Go.Proofs.YtnokbhcennjanaaGreatDoor.Mk
namespace Go.Proofs.YtnokbhcennjanaaGreatDoor.Mk
theorem lose_any(c:Nat)(o:Option Nat)(l:List Bk)(k:Nat)(w:World)(j:aH w c o l)(s:k<=l.length):
  Calls prog 182 #[π c,ι k] w λi e=>i=.returned (.tuple #[])/\aH e c o (l.drop k)/\aA (λa=>a=c\/o=some a) w e:=by
 cases o with
 | none =>
  obtain⟨H,d⟩:=j;subst H;have G:k=0:=by simpa using s
  subst G;have v:=d.c1;have F:=d.frozen;have m:=Aa d;clear d s;go_enter func182,ntmps182;go_wp2_with fail
  refine(Jd _).mono ?_;rintro i e ⟨rfl,rfl⟩;go_wp2;go_end0;refine⟨rfl,⟨rfl,?_⟩,(aA.refl (λa=>a=c\/none=some a) _).setCell (p:=⟨c,1,none⟩) (Or.inl (Or.inl rfl)) _⟩;exact m.o.setCell 1 _
 | some g =>
  obtain⟨u,h,d,A⟩:=j;have v:=d.c1;have I:=d.lt;have m:=Aa d;have n:=Aa A;clear d A;have x:Hid (Calls prog 218 #[σ g l.length h,ι 0,ι k] w λi e=>i=.returned (σ g (l.length-k) h)/\aY e g h (l.drop k)/\aA (λa=>a=g) w e):=by
   rcases lS k with r | r
   ·subst r;refine(Jb g h l.length w n.o.le).mono ?_;rintro i e ⟨rfl,rfl⟩;exact⟨rfl,n.o,aA.refl _ _⟩
   exact Jj g h l.length k l w rfl n.o r s
  generalize z:l.length=J at *
  have D:=Aa z;clear z;go_enter func182,ntmps182;go_wp2_with fail
  refine x.o.mono ?_;rintro i L ⟨rfl,B,t⟩;have q:=Aa (m.o.keeps t u);have E:=Aa B;have C:=Aa t;clear B t x m n v;have v:=q.o.c1;have F:=q.o.frozen;go_wp2;go_end0;refine⟨rfl,⟨u,h,?_,?_⟩,?_⟩
  ·rw[iU,D.o];exact q.o.setCell 1 _
  ·exact E.o.keeps (M:=λa=>a=c) ((aA.refl (λa=>a=c) _).setCell (p:=⟨c,1,none⟩) (Or.inl rfl) _) (λj=>u j.symm)
  exact(C.o.mono (M':=λa=>a=c\/some g=some a) (λa _ j=>.inr (by rw[j]))).setCell (p:=⟨c,1,none⟩) (Or.inl (Or.inl rfl)) _
theorem aH.owns{w:World}{h:Nat}{c:Option Nat}{l:List Bk}(e:aH w h c l):
  ∃a,aD w h [BZ,AM c l.length a] 268/\w.ownsRow 0 218 2 (AM c l.length a) l.length (A2 l):=by
 cases c with
 | none=>obtain⟨rfl,d⟩:=e;exact⟨0,d,iy _ _ _ _⟩
 | some g =>
  obtain⟨j,a,d,i⟩:=e;exact⟨a,d,i.owns⟩
theorem Jw{w h:World}{k B:Obj}{c gg n cap j:Nat}{e:Option Nat}{l:List Bk}{x:Bk}{v:Value}(q:l.length=n)(F:AM e n cap=v)(G:c<w.heap.size)(A:aD w c [BZ,v] 268)(u:some c≠v.ownBlock)(s:h.ownsRow 0 218 2 (σ gg (n+1) j) (n+1) (A2 l++[ι x.sz,ι x.t]))(o:((w.alloc k).alloc B).drew.grownBy h v.ownBlock)(m:v.ownBlock=some gg\/gg=w.heap.size+2):
  aH (h.setCell ⟨c,1,none⟩ (σ gg (n+1) j)) c (some gg) (l++[x]) /\
  aA (λa=>a=c\/e=some a) w (h.setCell ⟨c,1,none⟩ (σ gg (n+1) j))/\(e=some gg\/w.heap.size<=gg):=by
 have r:∀a,v.ownBlock=some a->e=some a:=by
  intro a i;rw[<-F]at i;cases e with
  | none=>simp[AM,Value.ownBlock]at i
  | some g=>simpa[AM,Value.ownBlock] using i
 have t:c≠gg:=by
  rcases m with d | d
  ·intro z;apply u;rw[d,z]
  omega
 have E:aA (λa=>a=c\/e=some a) w h:=(((aA.refl _ w).alloc k).alloc B).drew.grown o (λa i=>Or.inl (Or.inr (r a i)));have C:aD h c [BZ,v] 268:=by
  unfold aD;rw[o.block c (by simp;omega) u];exact(A.alloc k).alloc B
 refine⟨⟨t,j,?_,?_⟩,E.setCell (Or.inl (Or.inl rfl)) _,?_⟩
 ·have:(l++[x]).length=n+1:=by simp[q]
  rw[this];exact C.setCell 1 _
 ·have D:A2 l++[ι x.sz,ι x.t]=A2 (l++[x]):=by rw[H7];rfl
  rw[D]at s;exact(brow_of_owns (by simp[q]) s).keeps (M:=λa=>a=c) ((aA.refl (λa=>a=c) _).setCell (Or.inl rfl) _) (λd=>t d.symm)
 rcases m with d | d
 ·exact .inl (r gg d)
 exact .inr (by omega)
theorem rowPut_any(c:Nat)(i:Option Nat)(l:List Bk)(x:Bk)(w:World)(h:aH w c i l)(af:l.length<=4398046511104):
  Calls prog 189 #[π c,x.val] w λL F=>L=.returned (.tuple #[])/\∃s,aH F c s (l++[x])/\aA (λm=>m=c\/i=some m) w F/\(s=i\/∃m,s=some m/\w.heap.size<=m):=by
 obtain⟨C,B⟩:=h.lt;obtain⟨v,n,U⟩:=h.owns;have W:=n.c1;have P:=n.frozen 1;obtain⟨aa,R,X,Y,Z⟩:=jg infoBk;generalize D:l.length=o at *
 generalize r:AM i o v=j at *
 unfold Bk.val;have G:Hid (aD w c [BZ,j] 268):=n;have J:Hid (AM i o v=j):=r;have I:Hid (l.length=o):=D;have E:some c≠j.ownBlock:=by
  rw[<-r];cases i with
  | none=>simp[AM,Value.ownBlock]
  | some g=>simp[AM,Value.ownBlock];exact(B g rfl).2
 have u:Hid (∀e d k,((w.alloc e).alloc d).drew.grownBy k j.ownBlock->κ k c 1 j/\k.frozen? ⟨c,1,none⟩=false):=λe d k Q=>by
  have A:k.heap[c]?=w.heap[c]?:=by
   rw[Q.block c (by simp;omega) E];show((w.alloc e).alloc d).heap[c]?=_;rw[ju _ _ _ (by simp;omega),ju _ _ _ C]
  exact⟨(jB (a:=⟨c,1,none⟩) A).trans W,(jM (a:=⟨c,1,none⟩) A).trans P⟩
 have S:Hid (∀e d,((w.alloc e).alloc d).drew.heap[w.heap.size+1]?=some d):=λe d=>by
  have:=iH (w.alloc e) d;rwa [jR]at this
 clear n h r D B;go_enter func189,ntmps189;go_wp2_with fail
 go_region_law
  ((refine kF _ (by rfl) _ _ _ (by rfl) 0 218 aa _ 2 16 underlying266 R X Y Z rfl (by omega) j o (A2 l) (by rfl) (((U.alloc _).alloc _).drew)
        ⟨w.heap.size+1,0,none⟩ 1 1 [ι x.sz,ι x.t] (by rfl) (by rfl) (iJ (cs:=#[ι x.sz,ι x.t]) (t:=218) (fr:=(0,0)) (S.out _ _)) (by simp[Value.oneCell'])
        (by omega) (by unfold maxLen;omega) (by omega) (by omega) (w.heap.size+2) (by simp) ?_;intro z ab k V q O ag;have ad:=(u.out _ _ _ q).1;have ae:=(u.out _ _ _ q).2))
 all_goals
  have H:=Jw I.out J.out C G.out E V q O;obtain⟨N,M,T⟩:=H;go_wp2;go_end0;refine⟨rfl,some z,N,M,?_⟩;rcases T with h | h
  ·exact .inl h.symm
  exact .inr ⟨z,rfl,h⟩
theorem rowNew_any(w:World):
  Calls prog 180 #[BZ] w λc a=>c=.returned (π w.heap.size)/\aH a w.heap.size none []/\lX w a/\a.heap.size=w.heap.size+1:=by
 unfold BZ;go_enter func180,ntmps180;go_wp2;go_ret;exact⟨rfl,⟨rfl,aD.new w [BZ,.slice none 0 0] 268⟩,(aA.refl _ _).alloc _,by simp⟩
end Go.Proofs.YtnokbhcennjanaaGreatDoor.Mk
namespace Go.Proofs.YtnokbhcennjanaaGreatDoor.Mk
theorem SN{w:World}{g cap n:Nat}{l:List Bk}{a:List Value}(c:l.length=n+1)(d:aD w g a 218)(h:a.length=cap*2)(j:a.take (l.length*2)=A2 l)(k:n+1<=cap)(i:cap<=maxLen):
  aY (w.setCells g (n*2) (Ci 1)) g cap (l.take n):=by
 have e:=aD.setCells (Ci 1) (n*2) w a d (by rw[E9];omega);have hlen:(l.take n).length=n:=by simp[c]
 refine⟨⟨_,e,by rw[Di (by rw[E9];omega),h],?_⟩,by omega,i⟩;rw[hlen,M4 (ir _) (by omega),Km,<-j,kv,c,jG (by omega)]
theorem Sp(g cap n:Nat)(l:List Bk)(w:World)(i:l.length=n+1)(a:aY w g cap l):
  Calls prog 218 #[σ g (n+1) cap,ι n,ι ((n:Int)+1)] w λs q=>s=.returned (σ g n cap)/\aY q g cap (l.take n)/\aA (·=g) w q:=by
 obtain⟨D,e,m,c⟩:=a.ex;have o:=a.le;rw[i]at o;have h:=a.max;have F:cap<=9223372036854775807:=by unfold maxLen at h;omega
 have r:=Aa (SN (w:=w.drew) i (by exact e.drew) m c o h);obtain⟨d,E⟩:∃d:Addr,(if cap=n+1 then some (⟨g,0,none⟩:Addr) else some ⟨g,(n+1)*2,none⟩)=some d:=by
  by_cases k:cap=n+1
  ·exact⟨⟨g,0,none⟩,by simp[k]⟩
  exact⟨⟨g,(n+1)*2,none⟩,by simp[k]⟩
 have G:∀j,(Builtin.clear_ #[266] j #[.slice (some ⟨g,n*2,none⟩) 1 (cap-n)]).run prog (w.drew.setCells g (n*2) [])=.ok (.tuple #[]) (w.drew.setCells g (n*2) (Ci 1)) :=
  λj=>Gh w.drew j g _ _ _ _ e.drew (by omega) (by omega)
 obtain⟨A,t,v,x,z⟩:=jg infoBk;have O:IntKind.i64.wrap ((n:Int)+1)=(n:Int)+1:=by rw[il];omega
 have N:((n:Int)==(n:Int)+1)=false:=by simp;omega
 have I:(0:Int)<=(n:Int):=by omega
 have J:(0:Int)<=(n:Int)+1:=by omega
 have L:n<=cap:=by omega
 have H:¬cap=n:=by omega
 clear e c m a i h v z;go_enter func218,ntmps218;go_wp2_with fail
 go_region_law (refine step_append_room rfl (.tmp 22) (.tmp 25) 266 rfl 218 A 2 underlying266 t x g 0 n cap (by simp[Act.eval,Act.put]) d 0 (cap-(n+1)) [] (by simp[Act.eval,Act.put]) rfl (by intro B P u;simp at u) (by simp) (by omega) (by intro B c;simp at c) ?_)
 go_wp2;go_ret;refine⟨by simp,?_,?_⟩
 ·exact r.o
 exact aA.setCells (M:=λC=>C=g) (Or.inl rfl) _ _ _ (aA.refl _ _).drew
end Go.Proofs.YtnokbhcennjanaaGreatDoor.Mk
namespace Go.Proofs.YtnokbhcennjanaaGreatDoor
def AD(r:Int)(l:List Bk): List Bk:=(l.reverse.dropWhile (λb=>decide (b.t<=r))).reverse
theorem Jv(l:List Bk)(c:0<l.length): l=l.take (l.length-1)++[Ad l (l.length-1)]:=by
 have a:l.length-1<l.length:=by omega
 conv=>lhs;rw[<-τ (l.length-1) l]
 congr 1;rw[δ a,iX (by omega)];simp[Ad,List.getD_eq_getElem?_getD,h9 a]
theorem Pt(a:Int): AD a []=[]:=rfl
theorem OV(a:Int)(l:List Bk)(b:Bk): AD a (l++[b])=if b.t<=a then AD a l else l++[b]:=by
 unfold AD;rw[List.reverse_append,List.reverse_singleton,kz,List.dropWhile_cons];by_cases c:b.t<=a <;> simp[c]
theorem Ma{a:Int}{l:List Bk}(c:0<l.length)(d:(Ad l (l.length-1)).t<=a): AD a l=AD a (l.take (l.length-1)):=by
 conv=>lhs;rw[Jv l c]
 rw[OV,ij d]
theorem LS{c:Int}{l:List Bk}(a:0<l.length)(d:¬(Ad l (l.length-1)).t<=c): AD c l=l:=by
 conv=>lhs;rw[Jv l a]
 rw[OV,ig d,<-Jv l a]
theorem K4(a:Int)(l:List Bk): ∃d,AD a l=l.take d/\d<=l.length:=by
 have e:=List.dropWhile_suffix (l:=l.reverse) (λb:Bk=>decide (b.t<=a));have c:AD a l <+: l:=by
  have:=List.reverse_prefix.2 e;rw[List.reverse_reverse]at this;exact this
 exact⟨(AD a l).length,(List.prefix_iff_eq_take.1 c),c.length_le⟩
def CZ(l:List Bk)(x:Bk): List Bk :=
 if 0<(AD x.t l).length/\(Ad (AD x.t l) ((AD x.t l).length-1)).sz=x.sz then AD x.t l else AD x.t l++[x]
theorem Jy{l:List Bk}{x b:Bk}(a:b∈CZ l x): b∈l\/b=x:=by
 obtain⟨d,c,_⟩:=K4 x.t l;unfold CZ at a;rw[c]at a;split at a
 ·exact .inl (iZ a)
 rcases ik.1 a with a | a
 ·exact .inl (iZ a)
 rw[im]at a;exact .inr a
theorem T5(l:List Bk)(x:Bk): (CZ l x).length<=l.length+1:=by
 obtain⟨d,a,c⟩:=K4 x.t l;unfold CZ;rw[a];split
 ·simp;omega
 simp;omega
end Go.Proofs.YtnokbhcennjanaaGreatDoor
namespace Go.Proofs.YtnokbhcennjanaaGreatDoor.Mk
def Ni(i:Nat)(v:Value): Sem Next:=do pure (.value (<-Instr.field 218 v i))
theorem execOp_fieldMk(ρ:Operand->Value)(dst:Option Tmp)(x:Operand)(i:Nat)(a:TypeId)(pos:String)(after:Array Edge)(guard:Option (Nat×Bool)):
  execOp ρ { dst,op:=.field 218 x i,type:=a,pos,after,guard }=Ni i (ρ x):=rfl
theorem run_fieldMk0(a b:Value)(w:World): (Ni 0 (.agg #[a,b])).run prog w=.ok (.value a) w:=by kernel_rfl
theorem run_fieldMk1(a b:Value)(w:World): (Ni 1 (.agg #[a,b])).run prog w=.ok (.value b) w:=by kernel_rfl
attribute [local go_sem ↓] execOp_fieldMk
attribute [local go_sem] run_fieldMk0 run_fieldMk1
theorem rowLen_int(a:Nat)(c:Option Nat)(l:List Bk)(n:Int)(w:World)(e:aH w a c l)(i:(l.length:Int)=n):
  Calls prog 187 #[π a] w λd j=>d=.returned (ι n)/\j=w :=
 (rowLen_any a c l w e).mono λ_ _ ⟨h,hw⟩=>⟨by rw[h,i],hw⟩
theorem rowAt_is(a:Nat)(c:Option Nat)(l:List Bk)(i:Nat)(x:Bk)(w:World)(e:aH w a c l)(hi:i<l.length)(j:Ad l i=x):
  Calls prog 188 #[π a,ι i] w λd k=>d=.returned (.agg #[ι x.sz,ι x.t])/\lX w k :=
 (FM a c l i w e hi).mono λ_ _ ⟨h,hw⟩=>⟨by rw[h,j];rfl,hw⟩
theorem Kk(j:Nat)(r:Option Nat)(l:List Bk)(x:Bk)(w:World)(h:aH w j r l)(L:0<l.length)(M:l.length<=4398046511104)(E:Ad l (l.length-1)=x):
  Calls prog 219 #[π j] w λm s=>m=.returned (.agg #[ι x.sz,ι x.t])/\lX w s:=by
 obtain⟨d,i⟩:∃d,d=w.alloc (.cells #[ι 0,ι 0] 218):=⟨_,rfl⟩;have z:=Aa (show lX w d by rw[i];exact(aA.refl (λ_=>False) w).alloc _);have F:=Aa (show aD d w.heap.size [ι 0,ι 0] 218 by rw[i];exact aD.new w _ _);have o:=h.still z.o;have J:=Aa i;obtain⟨a,B⟩:∃a,l.length=a+1:=⟨l.length-1,by omega⟩;have S:IntKind.i64.wrap ((a:Int)+1-1)=(a:Int):=by rw[il];omega
 have T:IntKind.i64.wrap (a:Int)=(a:Int):=by rw[il];omega
 have A:=Aa (rowLen_int j r l ((a:Int)+1) d o (by omega));have t:=Aa (rowAt_is j r l a x d o (by omega) (by rw[<-E,B];rfl));clear h o i B L M E;go_enter func219,ntmps219;go_wp2_with fail
 rw[show w.alloc (.cells #[ι 0,ι 0] 218)=d from J.o.symm];generalize C:w.heap.size=c at *
 have I:=Aa C;clear C;refine A.o.mono ?_;rintro m s ⟨rfl,D⟩;rw[D];clear D s;go_wp2_with fail
 refine t.o.mono ?_;rintro m k ⟨rfl,n⟩;have e:=Aa (F.o.keeps n id);have G:=Aa (z.o.then n);clear n A t;have N:=e.o.c0;have O:=e.o.c1;have P:=e.o.frozen;go_wp2;have u:=Aa ((e.o.setCell 0 (ι x.sz)).setCell 1 (ι x.t));have H:=Aa (show aA (λq=>q=c) k ((k.setCell ⟨c,0,none⟩ (ι x.sz)).setCell ⟨c,1,none⟩ (ι x.t)) from((aA.refl (λq=>q=c) k).setCell (p:=⟨c,0,none⟩) (Or.inl rfl) _).setCell (p:=⟨c,1,none⟩) (Or.inl rfl) _);generalize((k.setCell ⟨c,0,none⟩ (ι x.sz)).setCell ⟨c,1,none⟩ (ι x.t))=V at *
 have c0:=u.o.c0;have c1:=u.o.c1;refine iV (v:=.agg #[ι x.sz,ι x.t]) (by simp[results,results219,go_sem,c0,c1]) rfl ⟨rfl,?_⟩;exact G.o.trans H.o (λU Q R=>by have:=I.o;omega)
def DropSays: Prop:=∀(q:Nat) (og:Option Nat) (l:List Bk) (w:World),aH w q og l->0<l.length->l.length<=4398046511104 ->
  Calls prog 220 #[π q,ι 1] w λe w'=>e=.returned (.tuple #[])/\aH w' q og (l.take (l.length-1))/\aA (λi=>i=q\/og=some i) w w'
theorem keep_of(X:DropSays)(e:Nat)(d:Option Nat)(l:List Bk)(x:Bk)(w:World)(a:aH w e d l)(aw:l.length<=4398046511103):
  Calls prog 184 #[π e,x.val] w λk h=>k=.returned (.tuple #[])/\∃A,aH h e A (CZ l x)/\aA (λm=>m=e\/d=some m) w h/\(A=d\/∃m,A=some m/\w.heap.size<=m):=by
 obtain⟨a5,ag⟩:=a.lt;have an:=Aa a;have am:=Aa ag;have al:=Aa X;clear X;unfold Bk.val;have ab:=Aa (aD.new w [ι x.sz,ι x.t] 218);have Y:=Aa ((aA.refl (λ_=>False) w).alloc (.cells #[ι x.sz,ι x.t] 218));clear a ag;go_enter func184,ntmps184;go_wp2_with fail
 generalize au:w.alloc (.cells #[ι x.sz,ι x.t] 218)=S at *
 have aa:Hid (aD S w.heap.size [ι x.sz,ι x.t] 218):=ab;have B:Hid (lX w S):=Y;have ao:=Aa (an.o.still B.o);clear au ab Y;generalize a0:w.heap.size=i at *
 clear a0
 have ad:=Aa (show ¬(i=e\/d=some i) from λa=>by
    rcases a with a | a
    ·omega
    have:=(am.o i a).1;omega)
 go_loopg [] (l.length) (λg wr=>∃c:List Bk,c.length=g/\g<=4398046511103/\Hid (aH wr e d c)/\Hid (aA (λm=>m=e\/d=some m) S wr)/\Hid (AD x.t l=AD x.t c))
 case atStart=>exact⟨l,rfl,aw,ao,aA.refl _ _,rfl⟩
 case round =>
  obtain⟨c,V,a2,j,r,H⟩:=hrel;have z:=Aa V;clear V;have ai:κ wr i 1 (ι x.t):=r.o.cell (aa.o.cell rfl) ad.o;have aj:κ wr i 0 (ι x.sz):=r.o.cell (aa.o.cell rfl) ad.o;by_cases a1:gk=0
  ·have J:=Aa (show(c.length:Int)=0 by have:=z.o;omega);go_wp2_with fail
   go_quiet (first | (go_at_call 187;refine jA (rowLen_int e d c 0 _ (by exact j.o.still (aA.drewN _ _ _)) J.o)))
   have Z:=Aa (show lX wr (wr.drewN nq) from aA.drewN _ _ _);have az:κ (wr.drewN nq) i 1 (ι x.t):=ai;have ay:κ (wr.drewN nq) i 0 (ι x.sz):=aj;generalize wr.drewN nq=M at *
   have ap:=Aa (j.o.still Z.o);go_wp2_with fail
   go_quiet (first | (go_at_call 187;refine jA (rowLen_int e d c 0 _ (by exact ap.o.still (aA.drewN _ _ _)) J.o)))
   have u:=Aa (show lX wr (M.drewN nq) from Z.o.then (aA.drewN _ _ _));have G:=Aa (show AD x.t c=c by rw[iR.1 (show c.length=0 by have:=J.o;omega)];rfl);have O:=Aa (show ¬(0<c.length/\(Ad c (c.length-1)).sz=x.sz) from λa=>by have:=J.o;omega);go_wp2_with fail
   refine(rowPut_any e d c x _ (j.o.still u.o) (by have:=z.o;omega)).mono ?_;rintro k ar ⟨rfl,A,F,E,W⟩;have N:=Aa ((r.o.trans u.o (λ_ a=>a.elim)).then E);have P:=Aa F;have Q:=Aa (jN B.o.size (jN r.o.size u.o.size));clear F E;go_wp2;go_end0;refine⟨rfl,A,?_,?_,?_⟩
   ·have:CZ l x=c++[x]:=by unfold CZ;rw[H.o,G.o];exact ig O.o
    rw[this];exact P.o
   ·exact(B.o.mono (λ_ _ a=>a.elim)).then N.o
   rcases W with a | ⟨m,a,U⟩
   ·exact .inl a
   exact .inr ⟨m,a,jN Q.o U⟩
  have ae:0<c.length:=by have:=z.o;omega
  have L:=Aa (show(c.length:Int)=(gk:Int) by have:=z.o;omega);have a3:(0:Int)<(gk:Int):=by omega
  have a4:0<gk:=by omega
  obtain⟨y,ak⟩:∃y,Ad c (c.length-1)=y:=⟨_,rfl⟩;have t:=Aa ak;clear ak;have D:=Aa (show c.length<=4398046511104 by have:=z.o;omega);have s:=Aa ae;clear ae;by_cases av:y.t<=x.t
  ·go_wp2_with fail
   go_region_held3 (λh=>h.cell? ⟨i,1,none⟩=some (ι x.t)/\h.cell? ⟨i,0,none⟩=some (ι x.sz)) (first | (go_split_ands;exact⟨by assumption,by assumption⟩) | (go_split_ands;exact⟨n.cell (by assumption) id,n.cell (by assumption) id⟩))
    (first | (go_at_call 187;refine(rowLen_int e d c gk _ (by exact j.o.still (aA.refl _ _).drew) L.o).mono ?_;rintro k h ⟨rfl,rfl⟩) | (go_at_call 219;refine(Kk e d c y _ (by exact j.o.still (aA.refl _ _).drew) s.o D.o t.o).mono ?_;rintro k M ⟨rfl,n⟩))
   have o:=Aa (((aA.refl (λ_=>False) wr).drew).then n);clear n;go_wp2_with fail
   refine(al.o e d c M (j.o.still o.o) s.o D.o).mono ?_;rintro k T ⟨rfl,ah,af⟩;have aq:=Aa ah;have I:=Aa (((r.o.trans o.o (λ_ a=>a.elim))).then af);clear ah af;go_wp2;go_roundg (gk-1)
   case measure=>omega
   case rel =>
    have V:=z.o;refine⟨c.take (c.length-1),by simp;omega,by omega,aq,I,?_⟩;show _=_;rw[H.o,Ma s.o (by rw[t.o];exact av)]
  go_wp2_with fail
  go_region_held3 (λh=>h.cell? ⟨i,1,none⟩=some (ι x.t)/\h.cell? ⟨i,0,none⟩=some (ι x.sz)) (first | (go_split_ands;exact⟨by assumption,by assumption⟩) | (go_split_ands;exact⟨n.cell (by assumption) id,n.cell (by assumption) id⟩))
   (first | (go_at_call 187;refine(rowLen_int e d c gk _ (by exact j.o.still (aA.refl _ _).drew) L.o).mono ?_;rintro k h ⟨rfl,rfl⟩) | (go_at_call 219;refine(Kk e d c y _ (by exact j.o.still (aA.refl _ _).drew) s.o D.o t.o).mono ?_;rintro k M ⟨rfl,n⟩))
  have o:=Aa (((aA.refl (λ_=>False) wr).drew).then n);have az:=n.cell (p:=⟨i,1,none⟩) (v:=ι x.t) (by exact ai) id;have ay:=n.cell (p:=⟨i,0,none⟩) (v:=ι x.sz) (by exact aj) id;clear n;have G:=Aa (show AD x.t c=c from LS s.o (by rw[t.o];omega));go_wp2_with fail
  by_cases C:y.sz=x.sz
  ·have ax:(y.sz==x.sz)=true:=by simp[C]
   have R:=Aa C;clear C;go_region_held3 (λh=>h.cell? ⟨i,1,none⟩=some (ι x.t)/\h.cell? ⟨i,0,none⟩=some (ι x.sz)) (first | (go_split_ands;exact⟨by assumption,by assumption⟩) | (go_split_ands;exact⟨q.cell (by assumption) id,q.cell (by assumption) id⟩))
    (first | (go_at_call 187;refine(rowLen_int e d c gk _ (by exact(j.o.still o.o).still (aA.refl _ _).drew) L.o).mono ?_;rintro k h ⟨rfl,rfl⟩) | (go_at_call 219;refine(Kk e d c y _ (by exact(j.o.still o.o).still (aA.refl _ _).drew) s.o D.o t.o).mono ?_;rintro k T ⟨rfl,q⟩))
   have I:=Aa ((o.o.drew).then q);clear q;go_wp2;refine iV (kB rfl _ _ _) rfl ?_;refine⟨rfl,d,?_,?_,.inl rfl⟩
   ·have:CZ l x=c:=by unfold CZ;rw[H.o,G.o];exact ij ⟨s.o,by rw[t.o];exact R.o⟩
    rw[this];exact j.o.still I.o
   exact((B.o.mono (λ_ _ a=>a.elim)).then r.o).trans I.o (λ_ a=>a.elim)
  have ax:(y.sz==x.sz)=false:=by simp[C]
  have R:=Aa C;clear C;go_region_held3 (λh=>h.cell? ⟨i,1,none⟩=some (ι x.t)/\h.cell? ⟨i,0,none⟩=some (ι x.sz)) (first | (go_split_ands;exact⟨by assumption,by assumption⟩) | (go_split_ands;exact⟨q.cell (by assumption) id,q.cell (by assumption) id⟩))
   (first | (go_at_call 187;refine(rowLen_int e d c gk _ (by exact(j.o.still o.o).still (aA.refl _ _).drew) L.o).mono ?_;rintro k h ⟨rfl,rfl⟩) | (go_at_call 219;refine(Kk e d c y _ (by exact(j.o.still o.o).still (aA.refl _ _).drew) s.o D.o t.o).mono ?_;rintro k T ⟨rfl,q⟩))
  have u:=Aa ((o.o.drew).then q);have O:=Aa (show ¬(0<c.length/\(Ad c (c.length-1)).sz=x.sz) from λa=>R.o (by rw[<-t.o];exact a.2));clear q;go_wp2_with fail
  refine(rowPut_any e d c x T (j.o.still u.o) (by have:=z.o;omega)).mono ?_;rintro k ar ⟨rfl,A,F,E,W⟩;have N:=Aa ((r.o.trans u.o (λ_ a=>a.elim)).then E);have P:=Aa F;have Q:=Aa (jN B.o.size (jN r.o.size u.o.size));clear F E;go_wp2;go_end0;refine⟨rfl,A,?_,?_,?_⟩
  ·have:CZ l x=c++[x]:=by unfold CZ;rw[H.o,G.o];exact ig O.o
   rw[this];exact P.o
  ·exact(B.o.mono (λ_ _ a=>a.elim)).then N.o
  rcases W with a | ⟨m,a,U⟩
  ·exact .inl a
  exact .inr ⟨m,a,jN Q.o U⟩
end Go.Proofs.YtnokbhcennjanaaGreatDoor.Mk
namespace Go.Proofs.YtnokbhcennjanaaGreatDoor
section
theorem R4{g i:Nat}(c:g+1<=i): (2:Int) ^ i≠2 ^ g:=by
 intro a;have d:(2:Nat) ^ i=2 ^ g:=by exact_mod_cast a
 have e:(2:Nat) ^ g<2 ^ i:=Nat.pow_lt_pow_right (by omega) (by omega);omega
theorem QE{c a:List Bk}(e:List Bk){j:Nat}(d:j<a.length): Ad (c++a++e) (c.length+j)=a[j]:=by
 unfold Ad;rw[ε,γ,iO (by omega),kH,iN d,h9 d];rfl
theorem Zk{a:List Bk}(d:List Bk){j:Nat}(c:j<a.length): Ad (a++d) j=a[j]:=by
 unfold Ad;rw[γ,iN c,h9 c];rfl
theorem VN{a:List Bk}(e h:Bk)(d c:List Bk)(x:Bk): BJ (a++(e::h::d)++c) a.length x=a++[x]++(d++c):=by
 unfold BJ;have i:a++(e::h::d)++c=a++(e::h::(d++c)):=by simp
 rw[i,List.take_left,<-List.drop_drop,List.drop_left];simp
def Dn(g:Nat): List (List Int)->List Bk
 | []=>[]
 | x::xs=>x.map (λt=>⟨2 ^ (g+xs.length),t⟩)++Dn g xs
def eS(K:Nat): List (List Int)->Prop
 | []=>True
 | x::xs=>1<=x.length/\x.length<=K+1/\∀h,h∈xs->K<=h.length/\h.length<=K+1
theorem Mv(g:Nat)(a:List Int): ∀c,Dn g (c++[a])=Dn (g+1) c++a.map (λd=>⟨2 ^ g,d⟩)
 | []=>by simp[Dn]
 | x::xs=>by
  rw[θ];unfold Dn;rw[Mv g a xs,ic,jh,show g+(xs.length+1)=g+1+xs.length by omega,ε]
def Lw(K g:Nat)(l:List Bk): Prop:=∃gs,l=Dn g gs/\eS K gs
theorem Lw.nil(K g:Nat): Lw K g []:=⟨[],rfl,trivial⟩
theorem Lw.put{K g:Nat}{d a:List Bk}(e:Lw K (g+1) d)(s:∀b∈a,b.sz=2 ^ g)(q:1<=a.length)(j:a.length<=K+1)(v:d≠[]->K<=a.length): Lw K g (d++a):=by
 obtain⟨i,h,u⟩:=e;have l:(a.map (·.t)).map (λx=>(⟨2 ^ g,x⟩:Bk))=a:=by
  rw[kk]
  conv=>rhs;rw[<-List.map_id a]
  refine jT (λb t=>?_);show(⟨2 ^ g,b.t⟩:Bk)=b;rw[<-s b t]
 refine⟨i++[a.map (·.t)],by rw[Mv,h,l],?_⟩;cases i with
 | nil=>exact⟨by simpa using q,by simpa using j,λe c=>by cases c⟩
 | cons z A =>
  obtain⟨m,n,o⟩:=u;have w:d≠[]:=by
   rw[h];unfold Dn;intro k;have r:=congrArg List.length k;rw[ic,iu,j4]at r;omega
  refine⟨m,n,λe c=>?_⟩;rcases ik.1 c with c | c
  ·exact o e c
  rw[im]at c;subst c;rw[iu];exact⟨v w,j⟩
theorem Lw.get{K g:Nat}{l:List Bk}(c:Lw K g l): ∃i d,l=i++d/\Lw K (g+1) i/\(∀b∈d,b.sz=2 ^ g)/\d.length<=K+1/\(i≠[]->K<=d.length):=by
 obtain⟨q,j,a⟩:=c;rcases lK q with e | ⟨h,m,e⟩
 ·subst e;exact⟨[],[],j,Lw.nil K _,(λb k=>by cases k),iT _,λc=>absurd rfl c⟩
 rw[lL]at e;subst e;rw[Mv]at j;refine⟨_,_,j,⟨h,rfl,?_⟩,λb k=>?_,?_,λs=>?_⟩
 ·cases h with
  | nil=>trivial
  | cons n o=>exact⟨a.1,a.2.1,λc r=>a.2.2 c (List.mem_append_left _ r)⟩
 ·obtain⟨t,_,rfl⟩:=iI.1 k;rfl
 ·rw[iu];cases h with
  | nil=>exact a.2.1
  | cons n o=>exact(a.2.2 m (k8 _ (im.2 rfl))).2
 rw[iu];cases h with
 | nil=>exact absurd rfl s
 | cons n o=>exact(a.2.2 m (k8 _ (im.2 rfl))).1
theorem QT(g:Nat): ∀d,∀b∈Dn g d,∃c,g<=c/\b.sz=2 ^ c
 | []=>λb a=>by cases a
 | x::xs=>λb a=>by
  unfold Dn at a;rcases ik.1 a with a | a
  ·obtain⟨e,_,rfl⟩:=iI.1 a;exact⟨_,Nat.le_add_right _ _,rfl⟩
  exact QT g xs b a
theorem Lw.drop{K g:Nat}(o:1<=K)(n:Nat): ∀ {l:List Bk},Lw K g l->Lw K g (l.drop n):=by
 induction n with
 | zero=>intro l d;exact d
 | succ n k =>
  intro l d;have i:Lw K g (l.drop 1):=by
   obtain⟨h,c,a⟩:=d
   match h,c,a with
   | [],c,_=>subst c;exact Lw.nil K g
   | []::xs,_,a=>exact absurd a.1 (by simp)
   | [e]::[],c,_=>subst c;exact Lw.nil K g
   | [e]::y::ys,c,a =>
    subst c;refine⟨y::ys,rfl,?_,?_,λd j=>a.2.2 d (by simp[j])⟩
    ·have:=(a.2.2 y (by simp)).1;omega
    exact(a.2.2 y (by simp)).2
   | (e::m::x)::xs,c,a =>
    subst c;refine⟨(m::x)::xs,rfl,by simp,?_,a.2.2⟩;have:=a.2.1;simp at this ⊢;omega
  have:=k i;rw[List.drop_drop]at this;rw[show n+1=1+n by omega];exact this
theorem zOw{g:Nat}{c a:List Bk}(e:List Bk)(j:∀b∈c,∃h,g+1<=h/\b.sz=2 ^ h)(k:∀b∈a,b.sz=2 ^ g): ∀d,d<=a.length->AC (c++a++e) (2 ^ g) (c.length+d)=c.length:=by
 intro d;induction d with
 | zero =>
  intro _;rw[j0];cases hn:c.length with
  | zero=>rfl
  | succ i =>
   unfold AC;rw[ig];rw[ε,Zk (a++e) (by omega:i<c.length)];obtain⟨h,l,m⟩:=j c[i] (jk _);rw[m];exact R4 l
 | succ d n =>
  intro o;rw[<-Nat.add_assoc];unfold AC;rw[ij (by rw[QE e (by omega)];exact k _ (jk _))];exact n (by omega)
theorem zKz{K:Nat}(Q:1<=K)(f:Nat): ∀(g:Nat) (c a d:List Bk),Lw K (g+1) c->(∀b∈a,b.sz=2 ^ g)->1<=a.length->a.length<=K+2->(c≠[]->K<=a.length)->(c.length<f\/a.length<=K+1)->(∀r,r≠[]->Lw K g r->Lw K 0 (r++d)) ->
  Lw K 0 (joinL (K:Int) f (c++a++d) (2 ^ g) (c.length+a.length))/\((joinL (K:Int) f (c++a++d) (2 ^ g) (c.length+a.length)).map (·.t)).Sublist ((c++a++d).map (·.t)):=by
 have w:∀ {c a:List Bk},1<=a.length->c++a≠[]:=fun {c a} l u=>by
  have H:=congrArg List.length u;rw[ic,j4]at H;omega
 induction f with
 | zero =>
  intro g c a d m j e t o n s;rcases n with l | l
  ·omega
  exact⟨s _ (w e) (m.put j e l o),List.Sublist.refl _⟩
 | succ f N =>
  intro g c a d m j e t o n s;unfold joinL;rw[zOw d (by obtain⟨G,u,_⟩:=m;rw[u];exact QT _ G) j a.length (ir _)];by_cases i:((c.length+a.length:Nat):Int)-(c.length:Int)<=(K:Int)+1
  ·rw[ij i];exact⟨s _ (w e) (m.put j e (by omega) o),List.Sublist.refl _⟩
  rw[ig i]
  match a,j,e,t,o,n,i with
  | [],_,e,_,_,_,_=>simp at e
  | [_],_,_,_,_,_,i=>simp at i;omega
  | b0::b1::a',j,_,t,o,n,i =>
   have R:a'.length+2<=K+2:=by simpa using t
   have L:K<=a'.length:=by simp at i;omega
   rw[VN];have J:(Ad (c++b0::b1::a'++d) (c.length+1)).t=b1.t:=by rw[QE d (by simp)];rfl
   rw[J];obtain⟨q,k,v,D,E,O,F⟩:=m.get;have M:(2:Int)*2 ^ g=2 ^ (g+1):=by rw[Int.pow_succ,Int.mul_comm]
   rw[M];have B:c++[(⟨2 ^ (g+1),b1.t⟩:Bk)]++(a'++d)=q++(k++[(⟨2 ^ (g+1),b1.t⟩:Bk)])++(a'++d):=by rw[v];simp only[ε]
   have C:c.length+1=q.length+(k++[(⟨2 ^ (g+1),b1.t⟩:Bk)]).length:=by rw[v,ic,ic];simp;omega
   have A:((c++[(⟨2 ^ (g+1),b1.t⟩:Bk)]++(a'++d)).map (·.t)).Sublist ((c++b0::b1::a'++d).map (·.t)):=by
    simp only[iB,iF,ε,θ,jv];exact List.Sublist.append_left (List.Sublist.cons _ (List.Sublist.refl _)) _
   rw[B]at A ⊢;rw[C]
   have:=N (g+1) q (k++[(⟨2 ^ (g+1),b1.t⟩:Bk)]) (a'++d) D (λb h=>by
      rcases ik.1 h with h | h
      ·exact E b h
      ·rw[im]at h;rw[h]) (by rw[ic];simp) (by rw[ic];simp;omega) (λz=>by have:=F z;rw[ic];omega) (by
      by_cases x:k=[]
      ·right;rw[x];simp
      ·left;have S:0<k.length:=jK.2 x;have P:c.length=q.length+k.length:=by rw[v,ic]
       rcases n with l | l
       ·omega
       simp at l i;omega) (λr z I=>by
      rw[<-ε]
      exact s _ (w (by omega)) (I.put (λb h=>j b (by simp[h])) (by omega) (by omega) (λ_=>L)))
   exact⟨this.1,this.2.trans A⟩
theorem Rh{c:Cfg}{K:Nat}(h:1<=K)(u:c.k=K)(l:List Bk)(t m:Int)(n:Lw K 0 l): Lw K 0 (C7 c l t m)/\((C7 c l t m).map (·.t)).Sublist (l.map (·.t)++[t]):=by
 unfold C7 C5 EG;rw[u];have i:(((l.drop (pastN l (m-c.aB)))).map (·.t)).Sublist (l.map (·.t)):=(j2 _ _).map _;obtain⟨d,e,j,o,q,x,r⟩:=(n.drop h (pastN l (m-c.aB))).get;rw[j]at i ⊢
 have:=zKz h ((d++e++[(⟨1,t⟩:Bk)]).length+1) 0 d (e++[(⟨1,t⟩:Bk)]) [] o (λb a=>by
    rcases ik.1 a with a | a
    ·exact q b a
    rw[im]at a;rw[a];rfl) (by rw[ic];simp) (by rw[ic];simp;omega) (λv=>by have:=r v;rw[ic];omega) (.inl (by simp;omega)) (λw _ s=>by rw[iC];exact s)
 rw[iC,<-ε]at this;have k:d.length+(e++[(⟨1,t⟩:Bk)]).length=(d++e++[(⟨1,t⟩:Bk)]).length:=by simp only[ic,jh];omega
 rw[k]at this;refine⟨this.1,this.2.trans ?_⟩;rw[iB];exact i.append_right _
theorem Q4: ∀e:List (List Int),(∀g,g∈e->1<=g.length)->(2:Int) ^ e.length-1<=Ao (Dn 0 e)/\∀b∈Dn 0 e,1<=b.sz
 | [],_=>⟨by simp[Dn,Ao],λb a=>by cases a⟩
 | d::xs,h=>by
  obtain⟨q,m⟩:=Q4 xs (λg j=>h g (by simp[j]));have k:(1:Int)<=2 ^ xs.length:=by
   have:0<(2:Nat) ^ xs.length:=Nat.pow_pos (by omega);have n:(2:Int) ^ xs.length=((2 ^ xs.length:Nat):Int):=by simp
   omega
  have i:∀b∈d.map (λc=>(⟨2 ^ xs.length,c⟩:Bk)),1<=b.sz:=λb a=>by
   obtain⟨c,_,rfl⟩:=iI.1 a;exact k
  unfold Dn;rw[ja];refine⟨?_,λb a=>?_⟩
  ·rw[F3,iD,Int.pow_succ];have o:(2:Int) ^ xs.length<=Ao (d.map (λc=>(⟨2 ^ xs.length,c⟩:Bk))):=by
    cases d with
    | nil=>exact absurd (h [] (by simp)) (by simp)
    | cons c d =>
     have:=Ej (l:=d.map (λc=>(⟨2 ^ xs.length,c⟩:Bk))) (λb a=>i b (by simp at a ⊢;exact .inr a));show _<=2 ^ xs.length+Ao _;omega
   omega
  rcases ik.1 a with a | a
  ·exact i b a
  exact m b a
theorem Q0{K:Nat}: ∀c:List (List Int),(∀g,g∈c->g.length<=K+1)->(Dn 0 c).length<=c.length*(K+1)/\∀b∈Dn 0 c,∃d,d<c.length/\b.sz=2 ^ d
 | [],_=>⟨by simp[Dn],λb a=>by cases a⟩
 | x::xs,h=>by
  obtain⟨l,i⟩:=Q0 xs (λg e=>h g (by simp[e]));have k:=h x (by simp);unfold Dn;rw[ja];refine⟨by rw[ic,iu,iD,Nat.succ_mul];omega,λb a=>?_⟩;rcases ik.1 a with a | a
  ·obtain⟨m,_,rfl⟩:=iI.1 a;exact⟨xs.length,by simp,rfl⟩
  obtain⟨d,j,b⟩:=i b a;exact⟨d,by simp;omega,b⟩
theorem eS.all{K:Nat}(h:1<=K){c:List (List Int)}(d:eS K c): ∀g,g∈c->1<=g.length/\g.length<=K+1:=λg e=>by
 cases c with
 | nil=>cases e
 | cons i j =>
  rcases iA.1 e with a | a
  ·subst a;exact⟨d.1,d.2.1⟩
  have:=d.2.2 g a;omega
theorem eS.fR{K:Nat}(d:1<=K){a:List (List Int)}(c:eS K a)(l:Ao (Dn 0 a)<=4611686018427387904): a.length<=62:=by
 have h:=(Q4 a (λg e=>(c.all d g e).1)).1;refine Nat.le_of_not_lt (λk=>?_);have i:(2:Nat) ^ 63<=2 ^ a.length:=jr (by omega) (by omega);have j:(2:Int) ^ a.length=((2 ^ a.length:Nat):Int):=by simp
 omega
theorem Lw.fR{K:Nat}(h:1<=K){l:List Bk}(c:Lw K 0 l)(a:Ao l<=4611686018427387904): l.length<=62*(K+1)/\∀b∈l,b.sz<4611686018427387904:=by
 obtain⟨k,j,i⟩:=c;rw[j]at a ⊢;have m:=i.fR h a;have e:=Q0 k (λg c=>(i.all h g c).2);refine⟨jN e.1 (Nat.mul_le_mul_right _ m),λb n=>?_⟩;obtain⟨d,r,a⟩:=e.2 b n;rw[a];have o:(2:Nat) ^ d<=2 ^ 61:=jr (by omega) (by omega);have q:(2:Int) ^ d=((2 ^ d:Nat):Int):=by simp
 omega
def dP(l:List Bk): Prop:=l.Pairwise (λa b=>b.t<a.t)
theorem dP.take{l:List Bk}(a:dP l)(k:Nat): dP (l.take k):=kR (List.take_sublist k l) a
theorem dP.drop{l:List Bk}(a:dP l)(k:Nat): dP (l.drop k):=kR (j2 k l) a
theorem QA(d:Int): ∀(n:Nat) (l:List Bk),l.length=n->dP l->∀b,b∈AD d l->d<b.t
 | 0,l,hn,_=>λb a=>by
  have:l=[]:=iR.1 hn;subst this;rw[Pt]at a;cases a
 | n+1,l,hn,hf=>λb a=>by
  have e:0<l.length:=by omega
  by_cases h:(Ad l (l.length-1)).t<=d
  ·rw[Ma e h]at a;exact QA d n (l.take (l.length-1)) (by rw[iG];omega) (hf.take _) b a
  rw[LS e h]at a;rw[Jv l e]at a hf;rcases ik.1 a with c | c
  ·have:=(jb.1 hf).2.2 b c _ (im.2 rfl);omega
  rw[im]at c;rw[c];omega
theorem Pd{l:List Bk}(x:Bk)(a:dP l): dP (CZ l x):=by
 obtain⟨e,d,_⟩:=K4 x.t l;unfold CZ;split
 ·rw[d];exact a.take e
 refine jb.2 ⟨by rw[d];exact a.take e,j7 _ _,λh i b c=>?_⟩;rw[im]at c;rw[c];exact QA x.t l.length l rfl a h i
theorem Kd: ∀(l:List Bk) (m:Int),dP l->(∀b∈l,1<=b.t/\b.t<=m)->(l.length:Int)<=max m 0
 | [],m,_,_=>by simp;omega
 | a::l,m,h,hb=>by
  have e:=hb a (by simp);have c:=jn.1 h;have i:=Kd l (a.t-1) c.2 (λb d=>⟨(hb b (by simp[d])).1,by have:=c.1 b d;omega⟩);rw[iD];omega
end
end Go.Proofs.YtnokbhcennjanaaGreatDoor
namespace Go.Proofs.YtnokbhcennjanaaGreatDoor.Pa
structure Pn where
 no:Int
 cs:List Int
 len:cs.length=48
def Pn.cells(p:Pn): List Value:=ι p.no::p.cs.map (ι ·)
theorem Pn.aE(p:Pn): p.cells.length=49:=by simp[Pn.cells,p.len]
def Pn.val(p:Pn): Value:=.agg p.cells.toArray
def pn0: Pn:=⟨0,List.replicate 48 0,by simp⟩
def pnAt(l:List Pn)(i:Nat): Pn:=l.getD i pn0
def flatP(l:List Pn): List Value:=l.flatMap Pn.cells
def F8(n:Nat): List Value:=List.replicate (n*49) (ι 0)
theorem Kn(x:Pn)(l:List Pn): flatP (x::l)=x.cells++flatP l:=by simp[flatP]
theorem L6(l:List Pn): (flatP l).length=l.length*49:=by
 induction l with
 | nil=>rfl
 | cons c l a=>rw[Kn,ic,a,c.aE,iD];omega
theorem flatP_append(a b:List Pn): flatP (a++b)=flatP a++flatP b:=by simp[flatP]
theorem OJ(l:List Pn)(i:Nat): flatP (l.drop i)=(flatP l).drop (i*49):=by
 induction l generalizing i with
 | nil=>simp[flatP]
 | cons a l c =>
  cases i with
  | zero=>simp
  | succ i =>
   rw[kD,c,Kn,show(i+1)*49=a.cells.length+i*49 by rw[a.aE];omega,<-List.drop_drop,List.drop_left]
theorem pnAt_drop(l:List Pn)(k:Nat)(a:k<l.length): l.drop k=pnAt l k::l.drop (k+1):=by
 rw[δ a];congr 1;simp[pnAt,List.getD_eq_getElem?_getD,h9 a]
theorem ZR(l:List Pn)(i j:Nat)(a:i<l.length)(d:j<49): (flatP l)[i*49+j]?=(pnAt l i).cells[j]?:=by
 have c:(flatP l)[i*49+j]?=((flatP l).drop (i*49))[j]?:=by rw[j5]
 rw[c,<-OJ,pnAt_drop l i a,Kn,iN (by rw[Pn.aE];exact d)]
theorem Pn.one(p:Pn): ∀c∈p.cells,c.oneCell'=true:=by
 intro c a;simp only[Pn.cells,iA,iI]at a;rcases a with rfl | ⟨y,_,rfl⟩ <;> rfl
theorem Ya(l:List Pn): ∀a∈flatP l,a.oneCell'=true:=by
 intro a c;simp only[flatP,lj]at c;obtain⟨p,_,d⟩:=c;exact p.one a d
theorem Lz(n:Nat): (F8 n).length=n*49:=by simp[F8]
theorem WQ(n:Nat): ∀c∈F8 n,c.oneCell'=true:=by
 intro c a;rw[F8,kj]at a;rw[a.2];rfl
structure aY (w:World) (g cap:Nat) (l:List Pn):Prop where
 ex:∃cur:List Value,aD w g cur 230/\cur.length=cap*49/\cur.take (l.length*49)=flatP l
 le:l.length<=cap
 max:cap<=maxLen
theorem aY.lt{w:World}{g cap:Nat}{l:List Pn}(a:aY w g cap l): g<w.heap.size:=by obtain⟨d,c,_⟩:=a.ex;exact c.lt
theorem aY.keeps{M:Nat->Prop}{w w':World}{g cap:Nat}{l:List Pn}(a:aY w g cap l)(k:aA M w w')(e:¬M g): aY w' g cap l:=by
 obtain⟨c,d,h⟩:=a.ex;exact⟨⟨c,d.keeps k e,h⟩,a.le,a.max⟩
theorem aY.range{w:World}{g cap:Nat}{l:List Pn}(e:aY w g cap l)(i:Nat)(hi:i<l.length): w.rangeAt g (i*49) (pnAt l i).cells:=by
 obtain⟨d,h,n,m⟩:=e.ex;intro a o c;have k:a<49:=by have:=(iq.1 c).1;rwa [Pn.aE]at this
 refine h.cell ?_;have j:d[i*49+a]?=(flatP l)[i*49+a]?:=by rw[<-m,iW,ij (by omega)]
 rw[j,ZR l i a hi k];exact c
theorem aY.owns{w:World}{g cap:Nat}{l:List Pn}(a:aY w g cap l): w.ownsRow 0 230 49 (σ g l.length cap) l.length (flatP l):=by
 obtain⟨c,d,e,h⟩:=a.ex;exact⟨L6 l,.inr ⟨g,cap,c.toArray,rfl,iT _,d,a.le,a.max,by simp[e],by simpa using h⟩⟩
theorem brow_of_owns{w:World}{g n cap:Nat}{l:List Pn}(m:l.length=n)(d:w.ownsRow 0 230 49 (σ g n cap) n (flatP l)): aY w g cap l:=by
 rcases d.2 with ⟨a,_⟩ | ⟨q,o,c,a,_,e,h,i,j,k⟩
 ·cases a
 cases a;subst m;exact⟨⟨c.toList,by unfold aD;simpa using e,by simpa using j,k⟩,h,i⟩
def JL: Value:=.agg (List.replicate 49 (Value.int .i64 0)).toArray
theorem infoBk: (prog.info? 230).map (λa=>(a.zero,a.size,a.bytes))=some (some JL,49,392):=by kernel_rfl
theorem zOv(w:World): (zeroValue 230).run prog w=.ok JL w:=by kernel_rfl
theorem Te(c:Value)(k:Nat)(e:0<k)(n:Nat): (Builtin.zeroCells (List.replicate k c).toArray n).toList=List.replicate (n*k) c:=by
 apply ke;intro a;by_cases d:a<n*k
 ·have h:a%k<k:=Nat.mod_lt _ e;simp[Builtin.zeroCells,d,h]
 rw[jC (by simp[Builtin.zeroCells];omega),jC (by simp;omega)]
theorem SA(n:Nat): (Builtin.zeroCells (Value.agg #[ι 0,ι 0,ι 0,ι 0,ι 0,ι 0,ι 0,ι 0,ι 0,ι 0,ι 0,ι 0,ι 0,ι 0,ι 0,ι 0,ι 0,ι 0,ι 0,ι 0,ι 0,ι 0,ι 0,ι 0,ι 0,ι 0,ι 0,ι 0,ι 0,ι 0,ι 0,ι 0,ι 0,ι 0,ι 0,ι 0,ι 0,ι 0,ι 0,ι 0,ι 0,ι 0,ι 0,ι 0,ι 0,ι 0,ι 0,ι 0,ι 0]).cells n).toList=F8 n:=Te (ι 0) 49 (by omega) n
theorem Gh(w:World)(j:TypeId)(b o n c:Nat)(cs:List Value)(a:aD w b cs 230)(l:0<n)(k:o+n*49<=cs.length):
  (Builtin.clear_ #[239] j #[.slice (some ⟨b,o,none⟩) n c]).run prog w=.ok (.tuple #[]) (w.setCells b o (F8 n)):=by
 have d:=kS (P:=prog) b o (F8 n) 0 w (λi h=>a.some (by rw[Lz]at h;omega)) (λi _=>a.frozen _) (WQ n);simp only[j0]at d;obtain⟨e,rfl⟩:∃e,n=e+1:=⟨n-1,by omega⟩;simp[Builtin.clear_,jL underlying239,SA,d]
theorem Jm{w:World}{g cap n j:Nat}{l:List Pn}{a:List Value}(e:l.length=n)(h:aD w g a 230)(m:a.length=cap*49)(r:n<=cap)(o:cap<=maxLen)(q:j<=n):
  aY ((w.setCells g 0 (flatP (l.drop j))).setCells g ((n-j)*49) (F8 j)) g cap (l.drop j):=by
 have c:(flatP (l.drop j)).length=(n-j)*49:=by rw[L6];simp[e]
 have i:=aD.setCells (flatP (l.drop j)) 0 w a h (by rw[c];omega);have d:(over a 0 (flatP (l.drop j))).length=cap*49:=by rw[Di (by rw[c];omega),m]
 have k:=aD.setCells (F8 j) ((n-j)*49) _ _ i (by rw[d,Lz];omega);refine⟨⟨_,k,by rw[Di (by rw[d,Lz];omega),d],?_⟩,by simp[e];omega,o⟩;have hlen:(l.drop j).length*49=(n-j)*49:=by simp[e]
 rw[hlen];unfold over;rw[ε,je (by simp[c])];rw[kv,Nat.min_self];simp only[jP,jv];rw[je (by omega),iw (by omega)]
theorem Jd(w:World):
  Calls prog 224 #[.slice none 0 0,ι 0,ι 0] w λa c=>a=.returned (.slice none 0 0)/\c=w:=by
 go_enter func224,ntmps224;go_wp2;go_ret;exact⟨rfl,rfl⟩
theorem Jb(g cap n:Nat)(w:World)(h:n<=cap):
  Calls prog 224 #[σ g n cap,ι 0,ι 0] w λa c=>a=.returned (σ g n cap)/\c=w:=by
 have d:(0:Int)<=(n:Int):=by omega
 have e:(n:Int)<=(cap:Int):=by omega
 go_enter func224,ntmps224;go_wp2;go_ret;exact⟨rfl,rfl⟩
theorem Jj(g cap n j:Nat)(l:List Pn)(w:World)(o:l.length=n)(q:aY w g cap l)(Y:0<j)(N:j<=n):
  Calls prog 224 #[σ g n cap,ι 0,ι j] w λH D=>H=.returned (σ g (n-j) cap)/\aY D g cap (l.drop j)/\aA (·=g) w D:=by
 obtain⟨G,h,z,C⟩:=q.ex;have A:=q.le;rw[o]at A;have B:=q.max;have r:=Aa (Jm (w:=w.drew) o (by exact h.drew) z A B N);obtain⟨news,k⟩:∃news,news=flatP (l.drop j):=⟨_,rfl⟩;rw[<-k]at r;have hlen:news.length=(n-j)*49:=by rw[k,L6];simp[o]
 have x:∀a c,news[a]?=some c->κ w g (j*49+a) c:=by
  intro a c e;refine h.cell ?_;have ab:a<(n-j)*49:=by have:=(iq.1 e).1;omega
  rw[k,OJ,j5,<-C,iW,ij (by omega)]at e;exact e
 obtain⟨m,W,O⟩:∃m:Addr,(if cap=j then some (⟨g,0,none⟩:Addr) else some ⟨g,j*49,none⟩)=some m/\Hid (∀a c,news[a]?=some c->w.drew.cell? (m.add a)=some c):=by
  by_cases u:cap=j
  ·refine⟨⟨g,0,none⟩,by simp[u],λa c e=>?_⟩;have I:news.length=0:=by omega
   rw[iR.1 I]at e;simp at e
  refine⟨⟨g,j*49,none⟩,by simp[u],λa c e=>?_⟩;rw[kl];exact x a c e
 have T:Hid (news.length=(n-j)*49):=hlen;have U:Hid (∀c∈news,c.oneCell'=true):=by rw[k];exact Ya _
 have V:Hid (∀a,a<news.length->(w.drew.cell? ⟨g,0+0*49+a,none⟩).isSome=true/\w.drew.frozen? ⟨g,0+0*49+a,none⟩=false):=by
  intro a aa;exact⟨h.some (by omega),h.frozen _⟩
 obtain⟨d,i⟩:∃d,d=w.drew.setCells g 0 news:=⟨_,rfl⟩;have v:aD d g (over G 0 news) 230:=by rw[i];exact aD.setCells _ _ _ _ h.drew (by omega)
 have X:∀s,(Builtin.clear_ #[239] s #[.slice (some ⟨g,(n-j)*49,none⟩) (n-(n-j)) (cap-(n-j))]).run prog d=.ok (.tuple #[]) (d.setCells g ((n-j)*49) (F8 (n-(n-j)))) :=
  λs=>Gh d s g _ _ _ _ v (by omega) (by rw[Di (by omega)];omega)
 have J:Hid (d=w.drew.setCells g (0+0*49) news):=i;have E:=Aa (show aA (·=g) w d by rw[i];exact aA.setCells (M:=λt=>t=g) (Or.inl rfl) _ _ _ (aA.refl _ _).drew);rw[<-i]at r;obtain⟨S,L,P,Q,R⟩:=jg infoBk;have Z:j<=cap:=by omega
 have F:=Aa (show n-(n-j)=j by omega);clear i v x k hlen h C z q o B P R;go_enter func224,ntmps224;go_wp2_with fail
 go_region_law (refine step_append_room rfl (.tmp 22) (.tmp 25) 239 rfl 230 S 49 underlying239 L Q g 0 0 cap (by simp[Act.eval,Act.put]) m (n-j) (cap-j) news (by simp[Act.eval,Act.put]) T.out O.out U.out (by omega) V.out ?_;rw[<-J.out])
 go_wp2;go_ret;refine⟨by simp,?_,?_⟩
 ·have:=r.o;rw[F.o];exact this
 exact aA.setCells (M:=λt=>t=g) (Or.inl rfl) _ _ _ E.o
end Go.Proofs.YtnokbhcennjanaaGreatDoor.Pa
namespace Go.Proofs.YtnokbhcennjanaaGreatDoor.Pa
theorem execOp_loadP(ρ:Operand->Value)(dst:Option Tmp)(x:Operand)(a:TypeId)(pos:String)(after:Array Edge)(guard:Option (Nat×Bool)):
  execOp ρ { dst,op:=.load 230 x,type:=a,pos,after,guard }=EW 230 (ρ x):=rfl
theorem sizeP: (prog.info? 230).map (·.size)=some 49:=by kernel_rfl
theorem run_loadP(w:World)(b o:Nat)(a:Az w b o 49=true): (EW 230 (.pointer (some ⟨b,o,none⟩))).run prog w=.ok (.value (Ap w b o 49)) w:=by
 unfold EW;rw[jq,run_loadAt_mid w b o 230 (C1 w b o 49) _ (JY a) underlying230 rfl (by rw[sizeP];simp[C1])];rfl
def storeP(ty:TypeId)(a x:Value): Sem Next:=do Instr.storeAt ty a x;pure .skip
theorem execOp_storeP(ρ:Operand->Value)(dst:Option Tmp)(x y:Operand)(a:TypeId)(pos:String)(after:Array Edge)(guard:Option (Nat×Bool)):
  execOp ρ { dst,op:=.store 230 x y,type:=a,pos,after,guard }=storeP 230 (ρ x) (ρ y):=rfl
theorem run_storeP(w:World)(b o:Nat)(cs:List Value)(a:cs.length=49)(d:w.there b o 49)(c:∀e∈cs,e.oneCell'=true):
  (storeP 230 (.pointer (some ⟨b,o,none⟩)) (.agg cs.toArray)).run prog w=.ok .skip (w.setCells b o cs):=by
 unfold storeP;rw[jq,lq w b o 230 cs.toArray (by simpa[a] using d) (by rw[sizeP];simp[a]) (by simpa using c)];rfl
def Fu(arr:Array Value)(o:Nat): List Value->Array Value
 | []=>arr
 | c::r=>Fu (arr.setIfInBounds o c) (o+1) r
theorem H9: ∀(cs:List Value) (pre:List Value) (rest:List Value),rest.length=cs.length->Fu (pre++rest).toArray pre.length cs=(pre++cs).toArray
 | [],pre,rest,h=>by
  have:rest=[]:=iR.1 h;subst this;rfl
 | c::r,pre,rest,h=>by
  cases rest with
  | nil=>simp at h
  | cons d a =>
   unfold Fu;have e:((pre++d::a).toArray.setIfInBounds pre.length c)=((pre++[c])++a).toArray:=by simp
   rw[e];have:=H9 r (pre++[c]) a (by simpa using h);rw[ic]at this;simpa using this
theorem Qu: ∀(cs:List Value) (o:Nat) (d:Array Value),(cs.zipIdx o).foldl (λ(a:Array Value) (p:Value×Nat)=>a.setIfInBounds (0+p.2) p.1) d=Fu d o cs
 | [],_,_=>rfl
 | c::r,o,d=>by
  rw[List.zipIdx_cons,jZ,Qu r (o+1)];simp[Fu]
theorem YQ(cs:List Value)(a:List Value)(e:a.length=cs.length)(s:Nat)(j:cs.length=s): Instr.fill (λk=>some (k*s,s)) a.toArray [(0,.agg cs.toArray)]=some cs.toArray:=by
 have c:=H9 cs [] a e;simp only[jv,j4]at c;have h:=Qu cs 0 a.toArray;simp only[Instr.fill,Value.cells,k4];rw[ig (by simp[j];omega)];have i:Array.foldl (λ(d:Array Value) (p:Value×Nat)=>d.setIfInBounds (0+p.2) p.1) a.toArray cs.toArray.zipIdx=cs.toArray:=by
  rw[<-Array.foldl_toList,Array.toList_zipIdx,h,c]
 exact congrArg some i
def Lj(ty:TypeId)(n:Nat)(ps:Array (Nat×Value)): Sem Next:=do pure (.value (<-Instr.buildSlice ty n ps))
theorem execOp_bsP(ρ:Operand->Value)(dst:Option Tmp)(n:Nat)(x:Array (Nat×Operand))(c:TypeId)(pos:String)(after:Array Edge)(guard:Option (Nat×Bool)):
  execOp ρ { dst,op:=.buildSlice 239 n x,type:=c,pos,after,guard }=Lj 239 n (x.map λ(a,y)=>(a,ρ y)):=rfl
theorem run_bsP(p:Pn)(w:World): (Lj 239 1 #[(0,.agg p.cells.toArray)]).run prog w=.ok (.value (σ w.heap.size 1 1)) (w.alloc (.cells p.cells.toArray 230)):=by
 obtain⟨m,c,k,h,l⟩:=jg infoBk;have a:Instr.fill (λj=>some (j*49,49)) (List.replicate 49 (Value.int .i64 0)).toArray [(0,.agg p.cells.toArray)]=some p.cells.toArray:=YQ p.cells _ (by rw[p.aE];simp) 49 p.aE;have d:((Array.range (1*49)).map (JL.cells[·%JL.cells.size]!))=(List.replicate 49 (Value.int .i64 0)).toArray:=by kernel_rfl
 have i:(zeroValue 230).run prog w=.ok JL w:=zOv w;have e:(sizeOf 230).run prog w=.ok 49 w:=by simp[sizeOf,typeInfo,c,h]
 unfold Lj Instr.buildSlice;simp only[jq,jL underlying239,jy,e];rw[ig (by decide),ig (by decide)];simp only[jq,i,jy,Sem.run_pure,d,a];simp[newRow]
end Go.Proofs.YtnokbhcennjanaaGreatDoor.Pa
namespace Go.Proofs.YtnokbhcennjanaaGreatDoor.Pa
attribute [local go_sem ↓] execOp_loadP execOp_storeP execOp_bsP
attribute [local go_sem] run_loadP run_bsP A3 A4 AJ AL Bd B2
def BZ(d:Nat): Value:=.func (.func 191) #[π d] #[]
def aH(w:World)(d:Nat)(r:Nat)(og:Option Nat)(l:List Pn): Prop :=
 match og with
 | none=>l=[]/\aD w r [BZ d,.slice none 0 0] 272
 | some g=>r≠g/\∃cap,aD w r [BZ d,σ g l.length cap] 272/\aY w g cap l
theorem aH.lt{w:World}{e d:Nat}{c:Option Nat}{l:List Pn}(a:aH w e d c l): d<w.heap.size/\∀g,c=some g->g<w.heap.size/\d≠g:=by
 cases c with
 | none=>exact⟨a.2.lt,λ_ a=>by cases a⟩
 | some g=>obtain⟨i,k,h,j⟩:=a;exact⟨h.lt,λm a=>by cases a;exact⟨j.lt,i⟩⟩
theorem aH.keeps{M:Nat->Prop}{w w':World}{e d:Nat}{a:Option Nat}{l:List Pn}(c:aH w e d a l)(k:aA M w w')(h:¬M d)(m:∀g,a=some g->¬M g): aH w' e d a l:=by
 cases a with
 | none=>exact⟨c.1,c.2.keeps k h⟩
 | some g=>obtain⟨n,i,j,o⟩:=c;exact⟨n,i,j.keeps k h,o.keeps k (m g rfl)⟩
theorem aH.still{w w':World}{c e:Nat}{d:Option Nat}{l:List Pn}(a:aH w c e d l)(k:lX w w'): aH w' c e d l:=a.keeps k id (λ_ _ a=>a)
theorem rowLen_any(h e:Nat)(d:Option Nat)(l:List Pn)(w:World)(c:aH w h e d l):
  Calls prog 226 #[π e] w λi n=>i=.returned (ι l.length)/\n=w:=by
 cases d with
 | none =>
  obtain⟨j,a⟩:=c;have k:=a.c1;subst j;clear a;go_enter func226,ntmps226;go_wp2;go_ret;exact⟨rfl,rfl⟩
 | some g =>
  obtain⟨q,o,a,m⟩:=c;have k:=a.c1;clear a m;go_enter func226,ntmps226;go_wp2;go_ret;exact⟨rfl,rfl⟩
theorem lose_any(z c:Nat)(o:Option Nat)(l:List Pn)(k:Nat)(w:World)(j:aH w z c o l)(s:k<=l.length):
  Calls prog 194 #[π c,ι k] w λi e=>i=.returned (.tuple #[])/\aH e z c o (l.drop k)/\aA (λa=>a=c\/o=some a) w e:=by
 cases o with
 | none =>
  obtain⟨I,d⟩:=j;subst I;have H:k=0:=by simpa using s
  subst H;have v:=d.c1;have G:=d.frozen;have m:=Aa d;clear d s;go_enter func194,ntmps194;go_wp2_with fail
  refine(Jd _).mono ?_;rintro i e ⟨rfl,rfl⟩;go_wp2;go_end0;refine⟨rfl,⟨rfl,?_⟩,(aA.refl (λa=>a=c\/none=some a) _).setCell (p:=⟨c,1,none⟩) (Or.inl (Or.inl rfl)) _⟩;exact m.o.setCell 1 _
 | some g =>
  obtain⟨u,h,d,B⟩:=j;have v:=d.c1;have J:=d.lt;have m:=Aa d;have n:=Aa B;clear d B;have x:Hid (Calls prog 224 #[σ g l.length h,ι 0,ι k] w λi e=>i=.returned (σ g (l.length-k) h)/\aY e g h (l.drop k)/\aA (λa=>a=g) w e):=by
   rcases lS k with r | r
   ·subst r;refine(Jb g h l.length w n.o.le).mono ?_;rintro i e ⟨rfl,rfl⟩;exact⟨rfl,n.o,aA.refl _ _⟩
   exact Jj g h l.length k l w rfl n.o r s
  generalize A:l.length=L at *
  have E:=Aa A;clear A;go_enter func194,ntmps194;go_wp2_with fail
  refine x.o.mono ?_;rintro i N ⟨rfl,C,t⟩;have q:=Aa (m.o.keeps t u);have F:=Aa C;have D:=Aa t;clear C t x m n v;have v:=q.o.c1;have G:=q.o.frozen;go_wp2;go_end0;refine⟨rfl,⟨u,h,?_,?_⟩,?_⟩
  ·rw[iU,E.o];exact q.o.setCell 1 _
  ·exact F.o.keeps (M:=λa=>a=c) ((aA.refl (λa=>a=c) _).setCell (p:=⟨c,1,none⟩) (Or.inl rfl) _) (λj=>u j.symm)
  exact(D.o.mono (M':=λa=>a=c\/some g=some a) (λa _ j=>.inr (by rw[j]))).setCell (p:=⟨c,1,none⟩) (Or.inl (Or.inl rfl)) _
theorem aH.owns{w:World}{e i:Nat}{c:Option Nat}{l:List Pn}(h:aH w e i c l):
  ∃a,aD w i [BZ e,AM c l.length a] 272/\w.ownsRow 0 230 49 (AM c l.length a) l.length (flatP l):=by
 cases c with
 | none=>obtain⟨rfl,d⟩:=h;exact⟨0,d,iy _ _ _ _⟩
 | some g =>
  obtain⟨k,a,d,j⟩:=h;exact⟨a,d,j.owns⟩
theorem Jw{w h:World}{k B:Obj}{m c gg n cap j:Nat}{e:Option Nat}{l:List Pn}{x:Pn}{v:Value}(r:l.length=n)(G:AM e n cap=v)(H:c<w.heap.size)(C:aD w c [BZ m,v] 272)(z:some c≠v.ownBlock)(t:h.ownsRow 0 230 49 (σ gg (n+1) j) (n+1) (flatP l++x.cells))(q:((w.alloc k).alloc B).drew.grownBy h v.ownBlock)(o:v.ownBlock=some gg\/gg=w.heap.size+2):
  aH (h.setCell ⟨c,1,none⟩ (σ gg (n+1) j)) m c (some gg) (l++[x]) /\
  aA (λa=>a=c\/e=some a) w (h.setCell ⟨c,1,none⟩ (σ gg (n+1) j))/\(e=some gg\/w.heap.size<=gg):=by
 have s:∀a,v.ownBlock=some a->e=some a:=by
  intro a i;rw[<-G]at i;cases e with
  | none=>simp[AM,Value.ownBlock]at i
  | some g=>simpa[AM,Value.ownBlock] using i
 have u:c≠gg:=by
  rcases o with d | d
  ·intro A;apply z;rw[d,A]
  omega
 have F:aA (λa=>a=c\/e=some a) w h:=(((aA.refl _ w).alloc k).alloc B).drew.grown q (λa i=>Or.inl (Or.inr (s a i)));have D:aD h c [BZ m,v] 272:=by
  unfold aD;rw[q.block c (by simp;omega) z];exact(C.alloc k).alloc B
 refine⟨⟨u,j,?_,?_⟩,F.setCell (Or.inl (Or.inl rfl)) _,?_⟩
 ·have:(l++[x]).length=n+1:=by simp[r]
  rw[this];exact D.setCell 1 _
 ·have E:flatP l++x.cells=flatP (l++[x]):=by rw[flatP_append,Kn];simp[flatP]
  rw[E]at t;exact(brow_of_owns (by simp[r]) t).keeps (M:=λa=>a=c) ((aA.refl (λa=>a=c) _).setCell (Or.inl rfl) _) (λd=>u d.symm)
 rcases o with d | d
 ·exact .inl (s gg d)
 exact .inr (by omega)
theorem rowPut_any(q c:Nat)(i:Option Nat)(l:List Pn)(x:Pn)(w:World)(h:aH w q c i l)(ag:l.length<=1000000000):
  Calls prog 223 #[π c,x.val] w λM G=>M=.returned (.tuple #[])/\∃u,aH G q c u (l++[x])/\aA (λm=>m=c\/i=some m) w G/\(u=i\/∃m,u=some m/\w.heap.size<=m):=by
 obtain⟨D,C⟩:=h.lt;obtain⟨z,n,V⟩:=h.owns;have X:=n.c1;have Q:=n.frozen 1;obtain⟨ab,S,Y,Z,aa⟩:=jg infoBk;generalize E:l.length=o at *
 generalize s:AM i o z=j at *
 have ai:x.cells.length=49:=x.aE;unfold Pn.val;have H:Hid (aD w c [BZ q,j] 272):=n;have L:Hid (AM i o z=j):=s;have J:Hid (l.length=o):=E;have F:some c≠j.ownBlock:=by
  rw[<-s];cases i with
  | none=>simp[AM,Value.ownBlock]
  | some g=>simp[AM,Value.ownBlock];exact(C g rfl).2
 have v:Hid (∀e d k,((w.alloc e).alloc d).drew.grownBy k j.ownBlock->κ k c 1 j/\k.frozen? ⟨c,1,none⟩=false):=λe d k R=>by
  have B:k.heap[c]?=w.heap[c]?:=by
   rw[R.block c (by simp;omega) F];show((w.alloc e).alloc d).heap[c]?=_;rw[ju _ _ _ (by simp;omega),ju _ _ _ D]
  exact⟨(jB (a:=⟨c,1,none⟩) B).trans X,(jM (a:=⟨c,1,none⟩) B).trans Q⟩
 have T:Hid (∀e d,((w.alloc e).alloc d).drew.heap[w.heap.size+1]?=some d):=λe d=>by
  have:=iH (w.alloc e) d;rwa [jR]at this
 clear n h s E C;go_enter func223,ntmps223;go_wp2_with fail
 go_region_law
  ((refine kF _ (by rfl) _ _ _ (by rfl) 0 230 ab _ 49 392 underlying239 S Y Z aa (by rfl) (by omega) j o (flatP l) (by rfl) (((V.alloc _).alloc _).drew)
        ⟨w.heap.size+1,0,none⟩ 1 1 x.cells (by rfl) (by rw[x.aE]) (iJ (cs:=x.cells.toArray) (t:=230) (fr:=(0,0)) (T.out _ _)) x.one
        (by omega) (by unfold maxLen;omega) (by omega) (by omega) (w.heap.size+2) (by simp) ?_;intro A ad k W r P ah;have ae:=(v.out _ _ _ r).1;have af:=(v.out _ _ _ r).2))
 all_goals
  have I:=Jw J.out L.out D H.out F W r P;obtain⟨O,N,U⟩:=I;go_wp2;go_end0;refine⟨rfl,some A,O,N,?_⟩;rcases U with h | h
  ·exact .inl h.symm
  exact .inr ⟨A,rfl,h⟩
theorem rowNew_any(a:Nat)(w:World):
  Calls prog 190 #[BZ a] w λd c=>d=.returned (π w.heap.size)/\aH c a w.heap.size none []/\lX w c/\c.heap.size=w.heap.size+1:=by
 unfold BZ;go_enter func190,ntmps190;go_wp2;go_ret;exact⟨rfl,⟨rfl,aD.new w [BZ a,.slice none 0 0] 272⟩,(aA.refl _ _).alloc _,by simp⟩
end Go.Proofs.YtnokbhcennjanaaGreatDoor.Pa
namespace Go.Proofs.YtnokbhcennjanaaGreatDoor
section
def Bm(c:Cfg)(o:Pa.Pn)(r:Nat): List Value:=c.cells++(o.cells++[π r])
theorem Ch(c:Cfg)(o:Pa.Pn)(d:Nat)(i:Nat)(a:i<20): (Bm c o d)[i]?=c.cells[i]?:=by
 unfold Bm;rw[iN (by simpa[Cfg.cells] using a)]
theorem J5(c:Cfg)(o:Pa.Pn)(a:Nat)(j:Nat)(d:j<49): (Bm c o a)[20+j]?=o.cells[j]?:=by
 unfold Bm;rw[iO (by simp[Cfg.cells]),iN (by rw[o.aE];simp[Cfg.cells];omega)];simp[Cfg.cells]
theorem JA(c:Cfg)(o:Pa.Pn)(a:Nat): (Bm c o a)[69]?=some (π a):=by
 unfold Bm;rw[iO (by simp[Cfg.cells]),iO (by rw[o.aE];simp[Cfg.cells])];simp[Cfg.cells,o.aE]
def Ag(c:Cfg): Int:=c.aB/c.aM
def AW(c:Cfg)(p:Pa.Pn): Int:=(p.no+1)*Ag c-1
theorem LZ(a:Nat)(c:Cfg)(w:World)(k:w.cell? ⟨a,5,none⟩=some (ι c.aB))(l:w.cell? ⟨a,9,none⟩=some (ι c.aM))(d:0<=c.aB)(s:c.aB<=1000)(r:1<=c.aM):
  Calls prog 193 #[π a] w λh j=>h=.returned (ι (Ag c))/\lX w j:=by
 have i:c.aB.tdiv c.aM=c.aB/c.aM:=jd d;have m:0<=c.aB/c.aM:=jO d (by omega);have n:c.aB/c.aM<=c.aB:=jS _ d;have o:IntKind.i64.wrap (c.aB.tdiv c.aM)=c.aB/c.aM:=by rw[i,il];omega
 have q:¬c.aM=0:=by omega
 have e:=Aa (show c.aB/c.aM=Ag c from rfl);go_enter func193,ntmps193;go_wp2;go_quiet (fail)
 go_wp2;go_ret;exact⟨A9 e.o,aA.drewN _ _ _⟩
