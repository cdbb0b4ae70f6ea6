import Derived.Test.YtnokbhcennjanaaGreatDoorXAI
open Go.RowKit Go.Proofs.Tryz
set_option maxRecDepth 100000
set_option maxHeartbeats 16000000
namespace Go.Proofs.YtnokbhcennjanaaGreatDoor.Mk
def BV: Value:=.func (.func 181) #[] #[]
def aH(w:World)(r:Nat)(og:Option Nat)(l:List Bk): Prop :=
 match og with
 | none=>l=[]/\aD w r [BV,.slice none 0 0] 268
 | some g=>r≠g/\∃cap,aD w r [BV,.slice (some ⟨g,0,none⟩) l.length cap] 268/\aY w g cap l
theorem aH.lt{w:World}{d:Nat}{c:Option Nat}{l:List Bk}(a:aH w d c l): d<w.heap.size/\∀g,c=some g->g<w.heap.size/\d≠g:=by
 cases c with
 | none=>exact⟨a.2.lt,λ_ a=>by cases a⟩
 | some g=>obtain⟨h,j,e,i⟩:=a;exact⟨e.lt,λk a=>by cases a;exact⟨i.lt,h⟩⟩
theorem aH.keeps{M:Nat->Prop}{w w':World}{d:Nat}{a:Option Nat}{l:List Bk}(c:aH w d a l)(k:aA M w w')(e:¬M d)(j:∀g,a=some g->¬M g): aH w' d a l:=by
 cases a with
 | none=>exact⟨c.1,c.2.keeps k e⟩
 | some g=>obtain⟨m,h,i,n⟩:=c;exact⟨m,h,i.keeps k e,n.keeps k (j g rfl)⟩
theorem aH.still{w w':World}{d:Nat}{c:Option Nat}{l:List Bk}(a:aH w d c l)(k:lO w w'): aH w' d c l:=a.keeps k id (λ_ _ a=>a)
theorem rowLen_any(e:Nat)(d:Option Nat)(l:List Bk)(w:World)(c:aH w e d l):
  Calls prog 187 #[.pointer (some ⟨e,0,none⟩)] w λh m=>h=.returned (.int .i64 l.length)/\m=w:=by
 cases d with
 | none =>
  obtain⟨i,a⟩:=c;have j:=a.c1;subst i;clear a;go_enter func187,ntmps187;go_wp2;go_ret;exact⟨rfl,rfl⟩
 | some g =>
  obtain⟨o,n,a,k⟩:=c;have j:=a.c1;clear a k;go_enter func187,ntmps187;go_wp2;go_ret;exact⟨rfl,rfl⟩
theorem FF(h:Nat)(e:Option Nat)(l:List Bk)(i:Nat)(w:World)(d:aH w h e l)(hi:i<l.length):
  Calls prog 188 #[.pointer (some ⟨h,0,none⟩),.int .i64 i] w λj n=>j=.returned (Ad l i).val/\lO w n:=by
 cases e with
 | none=>obtain⟨k,a⟩:=d;subst k;simp at hi
 | some g =>
  obtain⟨x,q,a,c⟩:=d;have z:=a.c1;have u:=a.lt;have t:=c.lt;obtain⟨A,B⟩:=c.cells i hi;generalize Ad l i=o at *
  generalize l.length=m at *
  have r:(0:Int)<=(i:Int):=by omega
  have s:(i:Int)<(m:Int):=by omega
  clear a c;go_enter func188,ntmps188;go_wp2;refine iN (v:=o.val) (by simp[results,results188,go_sem,Bk.val]) rfl ⟨rfl,(aA.refl _ _).alloc _⟩
theorem MD(x:Bk)(w:World):
  Calls prog 181 #[x.val] w λa c=>a=.returned (.int .i64 x.sz)/\c=w.alloc (.cells #[.int .i64 x.sz,.int .i64 x.t] 218):=by
 unfold Bk.val;go_enter func181,ntmps181;go_wp2;go_ret;exact⟨rfl,rfl⟩
def pastN(l:List Bk)(t:Int): Nat:=(l.takeWhile (λb=>decide (b.sz<=t))).length
theorem pastN_le(l:List Bk)(t:Int): pastN l t<=l.length:=(lB _).length_le
theorem past_any(j:Nat)(F:Option Nat)(l:List Bk)(t:Int)(w:World)(c:aH w j F l)(B:l.length<=4398046511104):
  Calls prog 183 #[.pointer (some ⟨j,0,none⟩),.int .i64 t] w λz i=>z=.returned (.int .i64 (pastN l t))/\lO w i:=by
 cases F with
 | none =>
  obtain⟨B,k⟩:=c;have H:=k.c1;subst B;clear k;go_enter func183,ntmps183;go_wp2;go_loopw [5] (λm wr=>m=.int .i64 0/\wr=w) (λ_ _=>0)
  case atStart=>exact⟨rfl,rfl⟩
  case round =>
   obtain⟨rfl,rfl⟩:=hrel;go_wp2;go_quiet (fail)
   go_wp2;go_ret;exact⟨rfl,aA.drewN _ _ _⟩
 | some g =>
  obtain⟨P,x,k,E⟩:=c;have r:=Aa k;have G:=Aa E;clear k E;generalize D:l.length=h at *
  have o:=Aa D;clear D;go_enter func183,ntmps183;go_wp2;go_loopw [5] (λm wr=>∃a:Nat,m=.int .i64 a/\a<=h/\Hid (lO w wr)/\Hid (pastN l t=a+pastN (l.drop a) t)) (λm _=>h-(intOf m).toNat)
  case atStart=>exact⟨0,rfl,iM _,aA.refl _ _,by show _=_;simp⟩
  case round =>
   obtain⟨a,rfl,M,e,n⟩:=hrel;have H:wr.cell? ⟨j,1,none⟩=some (.slice (some ⟨g,0,none⟩) h x):=e.o.cell (r.o.cell rfl) id;have Q:wr.cell? ⟨j,0,none⟩=some (.func (.func 181) #[] #[]):=e.o.cell (r.o.cell rfl) id;by_cases C:a<h
   ·have q:=G.o.cells a (by rw[o.o];exact C);have R:=e.o.cell q.1 id;have S:=e.o.cell q.2 id;clear q;have N:(0:Int)<=(a:Int):=by omega
    have O:(a:Int)<(h:Int):=by omega
    have s:=Aa (Gb l a (by rw[o.o];exact C));generalize Ad l a=d at *
    by_cases I:d.sz<=t;all_goals
     have v:=Aa I;go_wp2
     go_region_held3 (λi=>i.cell? ⟨j,0,none⟩=some (.func (.func 181) #[] #[])/\i.cell? ⟨j,1,none⟩=some (.slice (some ⟨g,0,none⟩) h x) /\
        i.cell? ⟨g,a*2,none⟩=some (.int .i64 d.sz)/\i.cell? ⟨g,a*2+1,none⟩=some (.int .i64 d.t)) (go_keep)
      (first | (go_at_call 181;refine(MD d _).mono ?_;rintro z i ⟨rfl,rfl⟩))
     have A:lO wr (wr.alloc (.cells #[.int .i64 d.sz,.int .i64 d.t] 218)).drew:=((aA.refl _ _).alloc _).drew;generalize(wr.alloc (.cells #[.int .i64 d.sz,.int .i64 d.t] 218)).drew=J at *
     have u:=Aa A;clear A
    ·go_wp2;go_roundw;case rel =>
      refine⟨a+1,by go_num,by omega,e.o.then u.o,?_⟩;show _=_;rw[n.o,s.o];unfold pastN;rw[jB,h9 (by simpa using v.o)];simp;omega
     case measure=>simp[intOf];omega
    go_wp2;go_ret;refine⟨?_,e.o.then u.o⟩;rw[n.o,s.o];unfold pastN;rw[jB,hZ (by simpa using v.o)];simp
   have L:decide ((a:Int)<(h:Int))=false:=by simp;omega
   go_wp2;go_quiet (fail)
   go_wp2;go_ret;refine⟨?_,e.o.then (aA.drewN _ _ _)⟩;rw[n.o,iU (by rw[o.o];omega)];simp[pastN]
end Go.Proofs.YtnokbhcennjanaaGreatDoor.Mk
namespace Go.Proofs.YtnokbhcennjanaaGreatDoor.Mk
theorem lose_any(c:Nat)(o:Option Nat)(l:List Bk)(k:Nat)(w:World)(j:aH w c o l)(s:k<=l.length):
  Calls prog 182 #[.pointer (some ⟨c,0,none⟩),.int .i64 k] w λi e=>i=.returned (.tuple #[])/\aH e c o (l.drop k)/\aA (λa=>a=c\/o=some a) w e:=by
 cases o with
 | none =>
  obtain⟨H,d⟩:=j;subst H;have G:k=0:=by simpa using s
  subst G;have v:=d.c1;have F:=d.frozen;have m:=Aa d;clear d s;go_enter func182,ntmps182;go_wp2_with fail
  refine(IN _).mono ?_;rintro i e ⟨rfl,rfl⟩;go_wp2;go_end0;refine⟨rfl,⟨rfl,?_⟩,(aA.refl (λa=>a=c\/none=some a) _).setCell (p:=⟨c,1,none⟩) (Or.inl (Or.inl rfl)) _⟩;exact m.o.setCell 1 _
 | some g =>
  obtain⟨u,h,d,A⟩:=j;have v:=d.c1;have I:=d.lt;have m:=Aa d;have n:=Aa A;clear d A;have x:Hid (Calls prog 218 #[.slice (some ⟨g,0,none⟩) l.length h,.int .i64 0,.int .i64 k] w λi e=>i=.returned (.slice (some ⟨g,0,none⟩) (l.length-k) h)/\aY e g h (l.drop k)/\aA (λa=>a=g) w e):=by
   rcases lJ k with r | r
   ·subst r;refine(IJ g h l.length w n.o.le).mono ?_;rintro i e ⟨rfl,rfl⟩;exact⟨rfl,n.o,aA.refl _ _⟩
   exact IZ g h l.length k l w rfl n.o r s
  generalize z:l.length=J at *
  have D:=Aa z;clear z;go_enter func182,ntmps182;go_wp2_with fail
  refine x.o.mono ?_;rintro i L ⟨rfl,B,t⟩;have q:=Aa (m.o.keeps t u);have E:=Aa B;have C:=Aa t;clear B t x m n v;have v:=q.o.c1;have F:=q.o.frozen;go_wp2;go_end0;refine⟨rfl,⟨u,h,?_,?_⟩,?_⟩
  ·rw[iQ,D.o];exact q.o.setCell 1 _
  ·exact E.o.keeps (M:=λa=>a=c) ((aA.refl (λa=>a=c) _).setCell (p:=⟨c,1,none⟩) (Or.inl rfl) _) (λj=>u j.symm)
  exact(C.o.mono (M':=λa=>a=c\/some g=some a) (λa _ j=>.inr (by rw[j]))).setCell (p:=⟨c,1,none⟩) (Or.inl (Or.inl rfl)) _
theorem aH.owns{w:World}{h:Nat}{c:Option Nat}{l:List Bk}(e:aH w h c l):
  ∃a,aD w h [BV,AH c l.length a] 268/\w.ownsRow 0 218 2 (AH c l.length a) l.length (Az l):=by
 cases c with
 | none=>obtain⟨rfl,d⟩:=e;exact⟨0,d,ir _ _ _ _⟩
 | some g =>
  obtain⟨j,a,d,i⟩:=e;exact⟨a,d,i.owns⟩
theorem Jh{w i:World}{m B:Obj}{c d n A k:Nat}{h:Option Nat}{l:List Bk}{x:Bk}{v:Value}(r:l.length=n)(H:AH h n A=v)(I:c<w.heap.size)(D:aD w c [BV,v] 268)(z:some c≠v.ownBlock)(t:i.ownsRow 0 218 2 (.slice (some ⟨d,0,none⟩) (n+1) k) (n+1) (Az l++[.int .i64 x.sz,.int .i64 x.t]))(q:((w.alloc m).alloc B).drew.grownBy i v.ownBlock)(o:v.ownBlock=some d\/d=w.heap.size+2):
  aH (i.setCell ⟨c,1,none⟩ (.slice (some ⟨d,0,none⟩) (n+1) k)) c (some d) (l++[x]) /\
  aA (λa=>a=c\/h=some a) w (i.setCell ⟨c,1,none⟩ (.slice (some ⟨d,0,none⟩) (n+1) k))/\(h=some d\/w.heap.size<=d):=by
 have s:∀a,v.ownBlock=some a->h=some a:=by
  intro a j;rw[<-H]at j;cases h with
  | none=>simp[AH,Value.ownBlock]at j
  | some g=>simpa[AH,Value.ownBlock] using j
 have u:c≠d:=by
  rcases o with e | e
  ·intro C;apply z;rw[e,C]
  omega
 have G:aA (λa=>a=c\/h=some a) w i:=(((aA.refl _ w).alloc m).alloc B).drew.grown q (λa j=>Or.inl (Or.inr (s a j)));have E:aD i c [BV,v] 268:=by
  unfold aD;rw[q.block c (by simp;omega) z];exact(D.alloc m).alloc B
 refine⟨⟨u,k,?_,?_⟩,G.setCell (Or.inl (Or.inl rfl)) _,?_⟩
 ·have:(l++[x]).length=n+1:=by simp[r]
  rw[this];exact E.setCell 1 _
 ·have F:Az l++[.int .i64 x.sz,.int .i64 x.t]=Az (l++[x]):=by rw[Ho];rfl
  rw[F]at t;exact(brow_of_owns (by simp[r]) t).keeps (M:=λa=>a=c) ((aA.refl (λa=>a=c) _).setCell (Or.inl rfl) _) (λe=>u e.symm)
 rcases o with e | e
 ·exact .inl (s d e)
 exact .inr (by omega)
theorem rowPut_any(c:Nat)(i:Option Nat)(l:List Bk)(x:Bk)(w:World)(h:aH w c i l)(af:l.length<=4398046511104):
  Calls prog 189 #[.pointer (some ⟨c,0,none⟩),x.val] w λL F=>L=.returned (.tuple #[])/\∃s,aH F c s (l++[x])/\aA (λm=>m=c\/i=some m) w F/\(s=i\/∃m,s=some m/\w.heap.size<=m):=by
 obtain⟨C,B⟩:=h.lt;obtain⟨v,n,U⟩:=h.owns;have W:=n.c1;have P:=n.frozen 1;obtain⟨aa,R,X,Y,Z⟩:=jh infoBk;generalize D:l.length=o at *
 generalize r:AH i o v=j at *
 unfold Bk.val;have G:Hid (aD w c [BV,j] 268):=n;have J:Hid (AH i o v=j):=r;have I:Hid (l.length=o):=D;have E:some c≠j.ownBlock:=by
  rw[<-r];cases i with
  | none=>simp[AH,Value.ownBlock]
  | some g=>simp[AH,Value.ownBlock];exact(B g rfl).2
 have u:Hid (∀e d k,((w.alloc e).alloc d).drew.grownBy k j.ownBlock->k.cell? ⟨c,1,none⟩=some j/\k.frozen? ⟨c,1,none⟩=false):=λe d k Q=>by
  have A:k.heap[c]?=w.heap[c]?:=by
   rw[Q.block c (by simp;omega) E];show((w.alloc e).alloc d).heap[c]?=_;rw[jq _ _ _ (by simp;omega),jq _ _ _ C]
  exact⟨(jw (a:=⟨c,1,none⟩) A).trans W,(jH (a:=⟨c,1,none⟩) A).trans P⟩
 have S:Hid (∀e d,((w.alloc e).alloc d).drew.heap[w.heap.size+1]?=some d):=λe d=>by
  have:=iJ (w.alloc e) d;rwa [jU]at this
 clear n h r D B;go_enter func189,ntmps189;go_wp2_with fail
 go_region_law
  ((refine kz _ (by rfl) _ _ _ (by rfl) 0 218 aa _ 2 16 underlying266 R X Y Z rfl (by omega) j o (Az l) (by rfl) (((U.alloc _).alloc _).drew)
        ⟨w.heap.size+1,0,none⟩ 1 1 [.int .i64 x.sz,.int .i64 x.t] (by rfl) (by rfl) (iT (cs:=#[.int .i64 x.sz,.int .i64 x.t]) (t:=218) (fr:=(0,0)) (S.out _ _)) (by simp[Value.oneCell'])
        (by omega) (by unfold maxLen;omega) (by omega) (by omega) (w.heap.size+2) (by simp) ?_;intro z ab k V q O ag;have ad:=(u.out _ _ _ q).1;have ae:=(u.out _ _ _ q).2))
 all_goals
  have H:=Jh I.out J.out C G.out E V q O;obtain⟨N,M,T⟩:=H;go_wp2;go_end0;refine⟨rfl,some z,N,M,?_⟩;rcases T with h | h
  ·exact .inl h.symm
  exact .inr ⟨z,rfl,h⟩
theorem rowNew_any(w:World):
  Calls prog 180 #[BV] w λc a=>c=.returned (.pointer (some ⟨w.heap.size,0,none⟩))/\aH a w.heap.size none []/\lO w a/\a.heap.size=w.heap.size+1:=by
 unfold BV;go_enter func180,ntmps180;go_wp2;go_ret;exact⟨rfl,⟨rfl,aD.new w [BV,.slice none 0 0] 268⟩,(aA.refl _ _).alloc _,by simp⟩
end Go.Proofs.YtnokbhcennjanaaGreatDoor.Mk
namespace Go.Proofs.YtnokbhcennjanaaGreatDoor.Mk
theorem S3{w:World}{g a n:Nat}{l:List Bk}{c:List Value}(d:l.length=n+1)(e:aD w g c 218)(i:c.length=a*2)(k:c.take (l.length*2)=Az l)(m:n+1<=a)(j:a<=maxLen):
  aY (w.setCells g (n*2) (Ce 1)) g a (l.take n):=by
 have h:=aD.setCells (Ce 1) (n*2) w c e (by rw[E3];omega);have hlen:(l.take n).length=n:=by simp[d]
 refine⟨⟨_,h,by rw[Dx (by rw[E3];omega),i],?_⟩,by omega,j⟩;rw[hlen,Mn (il _) (by omega),JQ,<-k,kB,d,jJ (by omega)]
theorem RZ(g a n:Nat)(l:List Bk)(w:World)(j:l.length=n+1)(c:aY w g a l):
  Calls prog 218 #[.slice (some ⟨g,0,none⟩) (n+1) a,.int .i64 n,.int .i64 ((n:Int)+1)] w λt r=>t=.returned (.slice (some ⟨g,0,none⟩) n a)/\aY r g a (l.take n)/\aA (·=g) w r:=by
 obtain⟨E,h,o,d⟩:=c.ex;have q:=c.le;rw[j]at q;have i:=c.max;have G:a<=9223372036854775807:=by unfold maxLen at i;omega
 have s:=Aa (S3 (w:=w.drew) j (by exact h.drew) o d q i);obtain⟨e,F⟩:∃e:Addr,(if a=n+1 then some (⟨g,0,none⟩:Addr) else some ⟨g,(n+1)*2,none⟩)=some e:=by
  by_cases m:a=n+1
  ·exact⟨⟨g,0,none⟩,by simp[m]⟩
  exact⟨⟨g,(n+1)*2,none⟩,by simp[m]⟩
 have H:∀k,(Builtin.clear_ #[266] k #[.slice (some ⟨g,n*2,none⟩) 1 (a-n)]).run prog (w.drew.setCells g (n*2) [])=.ok (.tuple #[]) (w.drew.setCells g (n*2) (Ce 1)) :=
  λk=>FY w.drew k g _ _ _ _ h.drew (by omega) (by omega)
 obtain⟨B,u,x,z,A⟩:=jh infoBk;have P:IntKind.i64.wrap ((n:Int)+1)=(n:Int)+1:=by rw[ic];omega
 have O:((n:Int)==(n:Int)+1)=false:=by simp;omega
 have J:(0:Int)<=(n:Int):=by omega
 have L:(0:Int)<=(n:Int)+1:=by omega
 have N:n<=a:=by omega
 have I:¬a=n:=by omega
 clear h d o c j i x A;go_enter func218,ntmps218;go_wp2_with fail
 go_region_law (refine step_append_room rfl (.tmp 22) (.tmp 25) 266 rfl 218 B 2 underlying266 u z g 0 n a (by simp[Act.eval,Act.put]) e 0 (a-(n+1)) [] (by simp[Act.eval,Act.put]) rfl (by intro C Q v;simp at v) (by simp) (by omega) (by intro C d;simp at d) ?_)
 go_wp2;go_ret;refine⟨by simp,?_,?_⟩
 ·exact s.o
 exact aA.setCells (M:=λD=>D=g) (Or.inl rfl) _ _ _ (aA.refl _ _).drew
end Go.Proofs.YtnokbhcennjanaaGreatDoor.Mk
namespace Go.Proofs.YtnokbhcennjanaaGreatDoor
def AD(r:Int)(l:List Bk): List Bk:=(l.reverse.dropWhile (λb=>decide (b.t<=r))).reverse
theorem Jg(l:List Bk)(c:0<l.length): l=l.take (l.length-1)++[Ad l (l.length-1)]:=by
 have a:l.length-1<l.length:=by omega
 conv=>lhs;rw[<-List.take_append_drop (l.length-1) l]
 congr 1;rw[List.drop_eq_getElem_cons a,iU (by omega)];simp[Ad,List.getD_eq_getElem?_getD,hX a]
theorem OP(a:Int): AD a []=[]:=rfl
theorem Oy(a:Int)(l:List Bk)(b:Bk): AD a (l++[b])=if b.t<=a then AD a l else l++[b]:=by
 unfold AD;rw[List.reverse_append,List.reverse_singleton,ko,List.dropWhile_cons];by_cases c:b.t<=a <;> simp[c]
theorem LA{a:Int}{l:List Bk}(c:0<l.length)(d:(Ad l (l.length-1)).t<=a): AD a l=AD a (l.take (l.length-1)):=by
 conv=>lhs;rw[Jg l c]
 rw[Oy,h9 d]
theorem LN{c:Int}{l:List Bk}(a:0<l.length)(d:¬(Ad l (l.length-1)).t<=c): AD c l=l:=by
 conv=>lhs;rw[Jg l a]
 rw[Oy,hZ d,<-Jg l a]
theorem Ke(a:Int)(l:List Bk): ∃d,AD a l=l.take d/\d<=l.length:=by
 have e:=List.dropWhile_suffix (l:=l.reverse) (λb:Bk=>decide (b.t<=a));have c:AD a l <+: l:=by
  have:=List.reverse_prefix.2 e;rw[List.reverse_reverse]at this;exact this
 exact⟨(AD a l).length,(List.prefix_iff_eq_take.1 c),c.length_le⟩
def CQ(l:List Bk)(x:Bk): List Bk :=
 if 0<(AD x.t l).length/\(Ad (AD x.t l) ((AD x.t l).length-1)).sz=x.sz then AD x.t l else AD x.t l++[x]
theorem Jf{l:List Bk}{x b:Bk}(a:b∈CQ l x): b∈l\/b=x:=by
 obtain⟨d,c,_⟩:=Ke x.t l;unfold CQ at a;rw[c]at a;split at a
 ·exact .inl (jn a)
 rcases ig.1 a with a | a
 ·exact .inl (jn a)
 rw[ij]at a;exact .inr a
theorem SE(l:List Bk)(x:Bk): (CQ l x).length<=l.length+1:=by
 obtain⟨d,a,c⟩:=Ke x.t l;unfold CQ;rw[a];split
 ·simp;omega
 simp;omega
end Go.Proofs.YtnokbhcennjanaaGreatDoor
namespace Go.Proofs.YtnokbhcennjanaaGreatDoor.Mk
def MK(i:Nat)(v:Value): Sem Next:=do pure (.value (<-Instr.field 218 v i))
theorem execOp_fieldMk(ρ:Operand->Value)(dst:Option Tmp)(x:Operand)(i:Nat)(a:TypeId)(pos:String)(after:Array Edge)(guard:Option (Nat×Bool)):
  execOp ρ { dst,op:=.field 218 x i,type:=a,pos,after,guard }=MK i (ρ x):=rfl
theorem run_fieldMk0(a b:Value)(w:World): (MK 0 (.agg #[a,b])).run prog w=.ok (.value a) w:=by kernel_rfl
theorem run_fieldMk1(a b:Value)(w:World): (MK 1 (.agg #[a,b])).run prog w=.ok (.value b) w:=by kernel_rfl
attribute [local go_sem ↓] execOp_fieldMk
attribute [local go_sem] run_fieldMk0 run_fieldMk1
theorem rowLen_int(a:Nat)(c:Option Nat)(l:List Bk)(n:Int)(w:World)(e:aH w a c l)(i:(l.length:Int)=n):
  Calls prog 187 #[.pointer (some ⟨a,0,none⟩)] w λd j=>d=.returned (.int .i64 n)/\j=w :=
 (rowLen_any a c l w e).mono λ_ _ ⟨h,hw⟩=>⟨by rw[h,i],hw⟩
theorem rowAt_is(a:Nat)(c:Option Nat)(l:List Bk)(i:Nat)(x:Bk)(w:World)(e:aH w a c l)(hi:i<l.length)(j:Ad l i=x):
  Calls prog 188 #[.pointer (some ⟨a,0,none⟩),.int .i64 i] w λd k=>d=.returned (.agg #[.int .i64 x.sz,.int .i64 x.t])/\lO w k :=
 (FF a c l i w e hi).mono λ_ _ ⟨h,hw⟩=>⟨by rw[h,j];rfl,hw⟩
theorem JO(j:Nat)(r:Option Nat)(l:List Bk)(x:Bk)(w:World)(h:aH w j r l)(L:0<l.length)(M:l.length<=4398046511104)(E:Ad l (l.length-1)=x):
  Calls prog 219 #[.pointer (some ⟨j,0,none⟩)] w λm s=>m=.returned (.agg #[.int .i64 x.sz,.int .i64 x.t])/\lO w s:=by
 obtain⟨d,i⟩:∃d,d=w.alloc (.cells #[.int .i64 0,.int .i64 0] 218):=⟨_,rfl⟩;have z:=Aa (show lO w d by rw[i];exact(aA.refl (λ_=>False) w).alloc _);have F:=Aa (show aD d w.heap.size [.int .i64 0,.int .i64 0] 218 by rw[i];exact aD.new w _ _);have o:=h.still z.o;have J:=Aa i;obtain⟨a,B⟩:∃a,l.length=a+1:=⟨l.length-1,by omega⟩;have S:IntKind.i64.wrap ((a:Int)+1-1)=(a:Int):=by rw[ic];omega
 have T:IntKind.i64.wrap (a:Int)=(a:Int):=by rw[ic];omega
 have A:=Aa (rowLen_int j r l ((a:Int)+1) d o (by omega));have t:=Aa (rowAt_is j r l a x d o (by omega) (by rw[<-E,B];rfl));clear h o i B L M E;go_enter func219,ntmps219;go_wp2_with fail
 rw[show w.alloc (.cells #[.int .i64 0,.int .i64 0] 218)=d from J.o.symm];generalize C:w.heap.size=c at *
 have I:=Aa C;clear C;refine A.o.mono ?_;rintro m s ⟨rfl,D⟩;rw[D];clear D s;go_wp2_with fail
 refine t.o.mono ?_;rintro m k ⟨rfl,n⟩;have e:=Aa (F.o.keeps n id);have G:=Aa (z.o.then n);clear n A t;have N:=e.o.c0;have O:=e.o.c1;have P:=e.o.frozen;go_wp2;have u:=Aa ((e.o.setCell 0 (.int .i64 x.sz)).setCell 1 (.int .i64 x.t));have H:=Aa (show aA (λq=>q=c) k ((k.setCell ⟨c,0,none⟩ (.int .i64 x.sz)).setCell ⟨c,1,none⟩ (.int .i64 x.t)) from((aA.refl (λq=>q=c) k).setCell (p:=⟨c,0,none⟩) (Or.inl rfl) _).setCell (p:=⟨c,1,none⟩) (Or.inl rfl) _);generalize((k.setCell ⟨c,0,none⟩ (.int .i64 x.sz)).setCell ⟨c,1,none⟩ (.int .i64 x.t))=V at *
 have c0:=u.o.c0;have c1:=u.o.c1;refine iN (v:=.agg #[.int .i64 x.sz,.int .i64 x.t]) (by simp[results,results219,go_sem,c0,c1]) rfl ⟨rfl,?_⟩;exact G.o.trans H.o (λU Q R=>by have:=I.o;omega)
def DropSays: Prop:=∀(q:Nat) (og:Option Nat) (l:List Bk) (w:World),aH w q og l->0<l.length->l.length<=4398046511104 ->
  Calls prog 220 #[.pointer (some ⟨q,0,none⟩),.int .i64 1] w λe w'=>e=.returned (.tuple #[])/\aH w' q og (l.take (l.length-1))/\aA (λi=>i=q\/og=some i) w w'
theorem keep_of(X:DropSays)(e:Nat)(d:Option Nat)(l:List Bk)(x:Bk)(w:World)(a:aH w e d l)(aw:l.length<=4398046511103):
  Calls prog 184 #[.pointer (some ⟨e,0,none⟩),x.val] w λk h=>k=.returned (.tuple #[])/\∃A,aH h e A (CQ l x)/\aA (λm=>m=e\/d=some m) w h/\(A=d\/∃m,A=some m/\w.heap.size<=m):=by
 obtain⟨a5,ag⟩:=a.lt;have an:=Aa a;have am:=Aa ag;have al:=Aa X;clear X;unfold Bk.val;have ab:=Aa (aD.new w [.int .i64 x.sz,.int .i64 x.t] 218);have Y:=Aa ((aA.refl (λ_=>False) w).alloc (.cells #[.int .i64 x.sz,.int .i64 x.t] 218));clear a ag;go_enter func184,ntmps184;go_wp2_with fail
 generalize au:w.alloc (.cells #[.int .i64 x.sz,.int .i64 x.t] 218)=S at *
 have aa:Hid (aD S w.heap.size [.int .i64 x.sz,.int .i64 x.t] 218):=ab;have B:Hid (lO w S):=Y;have ao:=Aa (an.o.still B.o);clear au ab Y;generalize a0:w.heap.size=i at *
 clear a0
 have ad:=Aa (show ¬(i=e\/d=some i) from λa=>by
    rcases a with a | a
    ·omega
    have:=(am.o i a).1;omega)
 go_loopg [] (l.length) (λg wr=>∃c:List Bk,c.length=g/\g<=4398046511103/\Hid (aH wr e d c)/\Hid (aA (λm=>m=e\/d=some m) S wr)/\Hid (AD x.t l=AD x.t c))
 case atStart=>exact⟨l,rfl,aw,ao,aA.refl _ _,rfl⟩
 case round =>
  obtain⟨c,V,a2,j,r,H⟩:=hrel;have z:=Aa V;clear V;have ai:wr.cell? ⟨i,1,none⟩=some (.int .i64 x.t):=r.o.cell (aa.o.cell rfl) ad.o;have aj:wr.cell? ⟨i,0,none⟩=some (.int .i64 x.sz):=r.o.cell (aa.o.cell rfl) ad.o;by_cases a1:gk=0
  ·have J:=Aa (show(c.length:Int)=0 by have:=z.o;omega);go_wp2_with fail
   go_quiet (first | (go_at_call 187;refine jv (rowLen_int e d c 0 _ (by exact j.o.still (aA.drewN _ _ _)) J.o)))
   have Z:=Aa (show lO wr (wr.drewN nq) from aA.drewN _ _ _);have az:(wr.drewN nq).cell? ⟨i,1,none⟩=some (.int .i64 x.t):=ai;have ay:(wr.drewN nq).cell? ⟨i,0,none⟩=some (.int .i64 x.sz):=aj;generalize wr.drewN nq=M at *
   have ap:=Aa (j.o.still Z.o);go_wp2_with fail
   go_quiet (first | (go_at_call 187;refine jv (rowLen_int e d c 0 _ (by exact ap.o.still (aA.drewN _ _ _)) J.o)))
   have u:=Aa (show lO wr (M.drewN nq) from Z.o.then (aA.drewN _ _ _));have G:=Aa (show AD x.t c=c by rw[iL.1 (show c.length=0 by have:=J.o;omega)];rfl);have O:=Aa (show ¬(0<c.length/\(Ad c (c.length-1)).sz=x.sz) from λa=>by have:=J.o;omega);go_wp2_with fail
   refine(rowPut_any e d c x _ (j.o.still u.o) (by have:=z.o;omega)).mono ?_;rintro k ar ⟨rfl,A,F,E,W⟩;have N:=Aa ((r.o.trans u.o (λ_ a=>a.elim)).then E);have P:=Aa F;have Q:=Aa (jI B.o.size (jI r.o.size u.o.size));clear F E;go_wp2;go_end0;refine⟨rfl,A,?_,?_,?_⟩
   ·have:CQ l x=c++[x]:=by unfold CQ;rw[H.o,G.o];exact hZ O.o
    rw[this];exact P.o
   ·exact(B.o.mono (λ_ _ a=>a.elim)).then N.o
   rcases W with a | ⟨m,a,U⟩
   ·exact .inl a
   exact .inr ⟨m,a,jI Q.o U⟩
  have ae:0<c.length:=by have:=z.o;omega
  have L:=Aa (show(c.length:Int)=(gk:Int) by have:=z.o;omega);have a3:(0:Int)<(gk:Int):=by omega
  have a4:0<gk:=by omega
  obtain⟨y,ak⟩:∃y,Ad c (c.length-1)=y:=⟨_,rfl⟩;have t:=Aa ak;clear ak;have D:=Aa (show c.length<=4398046511104 by have:=z.o;omega);have s:=Aa ae;clear ae;by_cases av:y.t<=x.t
  ·go_wp2_with fail
   go_region_held3 (λh=>h.cell? ⟨i,1,none⟩=some (.int .i64 x.t)/\h.cell? ⟨i,0,none⟩=some (.int .i64 x.sz)) (first | (go_split_ands;exact⟨by assumption,by assumption⟩) | (go_split_ands;exact⟨n.cell (by assumption) id,n.cell (by assumption) id⟩))
    (first | (go_at_call 187;refine(rowLen_int e d c gk _ (by exact j.o.still (aA.refl _ _).drew) L.o).mono ?_;rintro k h ⟨rfl,rfl⟩) | (go_at_call 219;refine(JO e d c y _ (by exact j.o.still (aA.refl _ _).drew) s.o D.o t.o).mono ?_;rintro k M ⟨rfl,n⟩))
   have o:=Aa (((aA.refl (λ_=>False) wr).drew).then n);clear n;go_wp2_with fail
   refine(al.o e d c M (j.o.still o.o) s.o D.o).mono ?_;rintro k T ⟨rfl,ah,af⟩;have aq:=Aa ah;have I:=Aa (((r.o.trans o.o (λ_ a=>a.elim))).then af);clear ah af;go_wp2;go_roundg (gk-1)
   case measure=>omega
   case rel =>
    have V:=z.o;refine⟨c.take (c.length-1),by simp;omega,by omega,aq,I,?_⟩;show _=_;rw[H.o,LA s.o (by rw[t.o];exact av)]
  go_wp2_with fail
  go_region_held3 (λh=>h.cell? ⟨i,1,none⟩=some (.int .i64 x.t)/\h.cell? ⟨i,0,none⟩=some (.int .i64 x.sz)) (first | (go_split_ands;exact⟨by assumption,by assumption⟩) | (go_split_ands;exact⟨n.cell (by assumption) id,n.cell (by assumption) id⟩))
   (first | (go_at_call 187;refine(rowLen_int e d c gk _ (by exact j.o.still (aA.refl _ _).drew) L.o).mono ?_;rintro k h ⟨rfl,rfl⟩) | (go_at_call 219;refine(JO e d c y _ (by exact j.o.still (aA.refl _ _).drew) s.o D.o t.o).mono ?_;rintro k M ⟨rfl,n⟩))
  have o:=Aa (((aA.refl (λ_=>False) wr).drew).then n);have az:=n.cell (p:=⟨i,1,none⟩) (v:=.int .i64 x.t) (by exact ai) id;have ay:=n.cell (p:=⟨i,0,none⟩) (v:=.int .i64 x.sz) (by exact aj) id;clear n;have G:=Aa (show AD x.t c=c from LN s.o (by rw[t.o];omega));go_wp2_with fail
  by_cases C:y.sz=x.sz
  ·have ax:(y.sz==x.sz)=true:=by simp[C]
   have R:=Aa C;clear C;go_region_held3 (λh=>h.cell? ⟨i,1,none⟩=some (.int .i64 x.t)/\h.cell? ⟨i,0,none⟩=some (.int .i64 x.sz)) (first | (go_split_ands;exact⟨by assumption,by assumption⟩) | (go_split_ands;exact⟨q.cell (by assumption) id,q.cell (by assumption) id⟩))
    (first | (go_at_call 187;refine(rowLen_int e d c gk _ (by exact(j.o.still o.o).still (aA.refl _ _).drew) L.o).mono ?_;rintro k h ⟨rfl,rfl⟩) | (go_at_call 219;refine(JO e d c y _ (by exact(j.o.still o.o).still (aA.refl _ _).drew) s.o D.o t.o).mono ?_;rintro k T ⟨rfl,q⟩))
   have I:=Aa ((o.o.drew).then q);clear q;go_wp2;refine iN (ks rfl _ _ _) rfl ?_;refine⟨rfl,d,?_,?_,.inl rfl⟩
   ·have:CQ l x=c:=by unfold CQ;rw[H.o,G.o];exact h9 ⟨s.o,by rw[t.o];exact R.o⟩
    rw[this];exact j.o.still I.o
   exact((B.o.mono (λ_ _ a=>a.elim)).then r.o).trans I.o (λ_ a=>a.elim)
  have ax:(y.sz==x.sz)=false:=by simp[C]
  have R:=Aa C;clear C;go_region_held3 (λh=>h.cell? ⟨i,1,none⟩=some (.int .i64 x.t)/\h.cell? ⟨i,0,none⟩=some (.int .i64 x.sz)) (first | (go_split_ands;exact⟨by assumption,by assumption⟩) | (go_split_ands;exact⟨q.cell (by assumption) id,q.cell (by assumption) id⟩))
   (first | (go_at_call 187;refine(rowLen_int e d c gk _ (by exact(j.o.still o.o).still (aA.refl _ _).drew) L.o).mono ?_;rintro k h ⟨rfl,rfl⟩) | (go_at_call 219;refine(JO e d c y _ (by exact(j.o.still o.o).still (aA.refl _ _).drew) s.o D.o t.o).mono ?_;rintro k T ⟨rfl,q⟩))
  have u:=Aa ((o.o.drew).then q);have O:=Aa (show ¬(0<c.length/\(Ad c (c.length-1)).sz=x.sz) from λa=>R.o (by rw[<-t.o];exact a.2));clear q;go_wp2_with fail
  refine(rowPut_any e d c x T (j.o.still u.o) (by have:=z.o;omega)).mono ?_;rintro k ar ⟨rfl,A,F,E,W⟩;have N:=Aa ((r.o.trans u.o (λ_ a=>a.elim)).then E);have P:=Aa F;have Q:=Aa (jI B.o.size (jI r.o.size u.o.size));clear F E;go_wp2;go_end0;refine⟨rfl,A,?_,?_,?_⟩
  ·have:CQ l x=c++[x]:=by unfold CQ;rw[H.o,G.o];exact hZ O.o
   rw[this];exact P.o
  ·exact(B.o.mono (λ_ _ a=>a.elim)).then N.o
  rcases W with a | ⟨m,a,U⟩
  ·exact .inl a
  exact .inr ⟨m,a,jI Q.o U⟩
end Go.Proofs.YtnokbhcennjanaaGreatDoor.Mk
namespace Go.Proofs.YtnokbhcennjanaaGreatDoor
section
theorem Rh{g i:Nat}(c:g+1<=i): (2:Int) ^ i≠2 ^ g:=by
 intro a;have d:(2:Nat) ^ i=2 ^ g:=by exact_mod_cast a
 have e:(2:Nat) ^ g<2 ^ i:=Nat.pow_lt_pow_right (by omega) (by omega);omega
theorem Qe{c a:List Bk}(e:List Bk){j:Nat}(d:j<a.length): Ad (c++a++e) (c.length+j)=a[j]:=by
 unfold Ad;rw[List.append_assoc,List.getD_eq_getElem?_getD,iS (by omega),Nat.add_sub_cancel_left,iO d,hX d];rfl
theorem Yl{a:List Bk}(d:List Bk){j:Nat}(c:j<a.length): Ad (a++d) j=a[j]:=by
 unfold Ad;rw[List.getD_eq_getElem?_getD,iO c,hX c];rfl
theorem VP{a:List Bk}(e h:Bk)(d c:List Bk)(x:Bk): BG (a++(e::h::d)++c) a.length x=a++[x]++(d++c):=by
 unfold BG;have i:a++(e::h::d)++c=a++(e::h::(d++c)):=by simp
 rw[i,List.take_left,<-List.drop_drop,List.drop_left];simp
def Dh(g:Nat): List (List Int)->List Bk
 | []=>[]
 | x::xs=>x.map (λt=>⟨2 ^ (g+xs.length),t⟩)++Dh g xs
def eQ(K:Nat): List (List Int)->Prop
 | []=>True
 | x::xs=>1<=x.length/\x.length<=K+1/\∀h,h∈xs->K<=h.length/\h.length<=K+1
theorem Mq(g:Nat)(a:List Int): ∀c,Dh g (c++[a])=Dh (g+1) c++a.map (λd=>⟨2 ^ g,d⟩)
 | []=>by simp[Dh]
 | x::xs=>by
  rw[List.cons_append];unfold Dh;rw[Mq g a xs,hY,iZ,show g+(xs.length+1)=g+1+xs.length by omega,List.append_assoc]
def Lw(K g:Nat)(l:List Bk): Prop:=∃gs,l=Dh g gs/\eQ K gs
theorem Lw.nil(K g:Nat): Lw K g []:=⟨[],rfl,trivial⟩
theorem Lw.put{K g:Nat}{d a:List Bk}(e:Lw K (g+1) d)(s:∀b∈a,b.sz=2 ^ g)(q:1<=a.length)(j:a.length<=K+1)(v:d≠[]->K<=a.length): Lw K g (d++a):=by
 obtain⟨i,h,u⟩:=e;have l:(a.map (·.t)).map (λx=>(⟨2 ^ g,x⟩:Bk))=a:=by
  rw[j9]
  conv=>rhs;rw[<-List.map_id a]
  refine jO (λb t=>?_);show(⟨2 ^ g,b.t⟩:Bk)=b;rw[<-s b t]
 refine⟨i++[a.map (·.t)],by rw[Mq,h,l],?_⟩;cases i with
 | nil=>exact⟨by simpa using q,by simpa using j,λe c=>by cases c⟩
 | cons z A =>
  obtain⟨m,n,o⟩:=u;have w:d≠[]:=by
   rw[h];unfold Dh;intro k;have r:=congrArg List.length k;rw[hY,im,jZ]at r;omega
  refine⟨m,n,λe c=>?_⟩;rcases ig.1 c with c | c
  ·exact o e c
  rw[ij]at c;subst c;rw[im];exact⟨v w,j⟩
theorem Lw.get{K g:Nat}{l:List Bk}(c:Lw K g l): ∃i d,l=i++d/\Lw K (g+1) i/\(∀b∈d,b.sz=2 ^ g)/\d.length<=K+1/\(i≠[]->K<=d.length):=by
 obtain⟨q,j,a⟩:=c;rcases lC q with e | ⟨h,m,e⟩
 ·subst e;exact⟨[],[],j,Lw.nil K _,(λb k=>by cases k),iM _,λc=>absurd rfl c⟩
 rw[lD]at e;subst e;rw[Mq]at j;refine⟨_,_,j,⟨h,rfl,?_⟩,λb k=>?_,?_,λs=>?_⟩
 ·cases h with
  | nil=>trivial
  | cons n o=>exact⟨a.1,a.2.1,λc r=>a.2.2 c (List.mem_append_left _ r)⟩
 ·obtain⟨t,_,rfl⟩:=iE.1 k;rfl
 ·rw[im];cases h with
  | nil=>exact a.2.1
  | cons n o=>exact(a.2.2 m (kW _ (ij.2 rfl))).2
 rw[im];cases h with
 | nil=>exact absurd rfl s
 | cons n o=>exact(a.2.2 m (kW _ (ij.2 rfl))).1
theorem Qv(g:Nat): ∀d,∀b∈Dh g d,∃c,g<=c/\b.sz=2 ^ c
 | []=>λb a=>by cases a
 | x::xs=>λb a=>by
  unfold Dh at a;rcases ig.1 a with a | a
  ·obtain⟨e,_,rfl⟩:=iE.1 a;exact⟨_,Nat.le_add_right _ _,rfl⟩
  exact Qv g xs b a
theorem Lw.drop{K g:Nat}(o:1<=K)(n:Nat): ∀ {l:List Bk},Lw K g l->Lw K g (l.drop n):=by
 induction n with
 | zero=>intro l d;exact d
 | succ n k =>
  intro l d;have i:Lw K g (l.drop 1):=by
   obtain⟨h,c,a⟩:=d
   match h,c,a with
   | [],c,_=>subst c;exact Lw.nil K g
   | []::xs,_,a=>exact absurd a.1 (by simp)
   | [e]::[],c,_=>subst c;exact Lw.nil K g
   | [e]::y::ys,c,a =>
    subst c;refine⟨y::ys,rfl,?_,?_,λd j=>a.2.2 d (by simp[j])⟩
    ·have:=(a.2.2 y (by simp)).1;omega
    exact(a.2.2 y (by simp)).2
   | (e::m::x)::xs,c,a =>
    subst c;refine⟨(m::x)::xs,rfl,by simp,?_,a.2.2⟩;have:=a.2.1;simp at this ⊢;omega
  have:=k i;rw[List.drop_drop]at this;rw[show n+1=1+n by omega];exact this
theorem zN4{g:Nat}{c a:List Bk}(e:List Bk)(j:∀b∈c,∃h,g+1<=h/\b.sz=2 ^ h)(k:∀b∈a,b.sz=2 ^ g): ∀d,d<=a.length->AC (c++a++e) (2 ^ g) (c.length+d)=c.length:=by
 intro d;induction d with
 | zero =>
  intro _;rw[kg];cases hn:c.length with
  | zero=>rfl
  | succ i =>
   unfold AC;rw[hZ];rw[List.append_assoc,Yl (a++e) (by omega:i<c.length)];obtain⟨h,l,m⟩:=j c[i] (jc _);rw[m];exact Rh l
 | succ d n =>
  intro o;rw[<-Nat.add_assoc];unfold AC;rw[h9 (by rw[Qe e (by omega)];exact k _ (jc _))];exact n (by omega)
theorem ZN{K:Nat}(Q:1<=K)(f:Nat): ∀(g:Nat) (c a d:List Bk),Lw K (g+1) c->(∀b∈a,b.sz=2 ^ g)->1<=a.length->a.length<=K+2->(c≠[]->K<=a.length)->(c.length<f\/a.length<=K+1)->(∀r,r≠[]->Lw K g r->Lw K 0 (r++d)) ->
  Lw K 0 (joinL (K:Int) f (c++a++d) (2 ^ g) (c.length+a.length))/\((joinL (K:Int) f (c++a++d) (2 ^ g) (c.length+a.length)).map (·.t)).Sublist ((c++a++d).map (·.t)):=by
 have w:∀ {c a:List Bk},1<=a.length->c++a≠[]:=fun {c a} l u=>by
  have H:=congrArg List.length u;rw[hY,jZ]at H;omega
 induction f with
 | zero =>
  intro g c a d m j e t o n s;rcases n with l | l
  ·omega
  exact⟨s _ (w e) (m.put j e l o),List.Sublist.refl _⟩
 | succ f N =>
  intro g c a d m j e t o n s;unfold joinL;rw[zN4 d (by obtain⟨G,u,_⟩:=m;rw[u];exact Qv _ G) j a.length (il _)];by_cases i:((c.length+a.length:Nat):Int)-(c.length:Int)<=(K:Int)+1
  ·rw[h9 i];exact⟨s _ (w e) (m.put j e (by omega) o),List.Sublist.refl _⟩
  rw[hZ i]
  match a,j,e,t,o,n,i with
  | [],_,e,_,_,_,_=>simp at e
  | [_],_,_,_,_,_,i=>simp at i;omega
  | b0::b1::a',j,_,t,o,n,i =>
   have R:a'.length+2<=K+2:=by simpa using t
   have L:K<=a'.length:=by simp at i;omega
   rw[VP];have J:(Ad (c++b0::b1::a'++d) (c.length+1)).t=b1.t:=by rw[Qe d (by simp)];rfl
   rw[J];obtain⟨q,k,v,D,E,O,F⟩:=m.get;have M:(2:Int)*2 ^ g=2 ^ (g+1):=by rw[Int.pow_succ,Int.mul_comm]
   rw[M];have B:c++[(⟨2 ^ (g+1),b1.t⟩:Bk)]++(a'++d)=q++(k++[(⟨2 ^ (g+1),b1.t⟩:Bk)])++(a'++d):=by rw[v];simp only[List.append_assoc]
   have C:c.length+1=q.length+(k++[(⟨2 ^ (g+1),b1.t⟩:Bk)]).length:=by rw[v,hY,hY];simp;omega
   have A:((c++[(⟨2 ^ (g+1),b1.t⟩:Bk)]++(a'++d)).map (·.t)).Sublist ((c++b0::b1::a'++d).map (·.t)):=by
    simp only[iy,iC,List.append_assoc,List.cons_append,jt];exact List.Sublist.append_left (List.Sublist.cons _ (List.Sublist.refl _)) _
   rw[B]at A ⊢;rw[C]
   have:=N (g+1) q (k++[(⟨2 ^ (g+1),b1.t⟩:Bk)]) (a'++d) D (λb h=>by
      rcases ig.1 h with h | h
      ·exact E b h
      ·rw[ij]at h;rw[h]) (by rw[hY];simp) (by rw[hY];simp;omega) (λz=>by have:=F z;rw[hY];omega) (by
      by_cases x:k=[]
      ·right;rw[x];simp
      ·left;have S:0<k.length:=jG.2 x;have P:c.length=q.length+k.length:=by rw[v,hY]
       rcases n with l | l
       ·omega
       simp at l i;omega) (λr z I=>by
      rw[<-List.append_assoc]
      exact s _ (w (by omega)) (I.put (λb h=>j b (by simp[h])) (by omega) (by omega) (λ_=>L)))
   exact⟨this.1,this.2.trans A⟩
theorem QG{c:Cfg}{K:Nat}(h:1<=K)(u:c.k=K)(l:List Bk)(t m:Int)(n:Lw K 0 l): Lw K 0 (C1 c l t m)/\((C1 c l t m).map (·.t)).Sublist (l.map (·.t)++[t]):=by
 unfold C1 Cz EE;rw[u];have i:(((l.drop (pastN l (m-c.aB)))).map (·.t)).Sublist (l.map (·.t)):=(jW _ _).map _;obtain⟨d,e,j,o,q,x,r⟩:=(n.drop h (pastN l (m-c.aB))).get;rw[j]at i ⊢
 have:=ZN h ((d++e++[(⟨1,t⟩:Bk)]).length+1) 0 d (e++[(⟨1,t⟩:Bk)]) [] o (λb a=>by
    rcases ig.1 a with a | a
    ·exact q b a
    rw[ij]at a;rw[a];rfl) (by rw[hY];simp) (by rw[hY];simp;omega) (λv=>by have:=r v;rw[hY];omega) (.inl (by simp;omega)) (λw _ s=>by rw[iz];exact s)
 rw[iz,<-List.append_assoc]at this;have k:d.length+(e++[(⟨1,t⟩:Bk)]).length=(d++e++[(⟨1,t⟩:Bk)]).length:=by simp only[hY,iZ];omega
 rw[k]at this;refine⟨this.1,this.2.trans ?_⟩;rw[iy];exact i.append_right _
theorem PG: ∀e:List (List Int),(∀g,g∈e->1<=g.length)->(2:Int) ^ e.length-1<=An (Dh 0 e)/\∀b∈Dh 0 e,1<=b.sz
 | [],_=>⟨by simp[Dh,An],λb a=>by cases a⟩
 | d::xs,h=>by
  obtain⟨q,m⟩:=PG xs (λg j=>h g (by simp[j]));have k:(1:Int)<=2 ^ xs.length:=by
   have:0<(2:Nat) ^ xs.length:=Nat.pow_pos (by omega);have n:(2:Int) ^ xs.length=((2 ^ xs.length:Nat):Int):=by simp
   omega
  have i:∀b∈d.map (λc=>(⟨2 ^ xs.length,c⟩:Bk)),1<=b.sz:=λb a=>by
   obtain⟨c,_,rfl⟩:=iE.1 a;exact k
  unfold Dh;rw[ja];refine⟨?_,λb a=>?_⟩
  ·rw[Fx,iA,Int.pow_succ];have o:(2:Int) ^ xs.length<=An (d.map (λc=>(⟨2 ^ xs.length,c⟩:Bk))):=by
    cases d with
    | nil=>exact absurd (h [] (by simp)) (by simp)
    | cons c d =>
     have:=Ee (l:=d.map (λc=>(⟨2 ^ xs.length,c⟩:Bk))) (λb a=>i b (by simp at a ⊢;exact .inr a));show _<=2 ^ xs.length+An _;omega
   omega
  rcases ig.1 a with a | a
  ·exact i b a
  exact m b a
theorem PY{K:Nat}: ∀c:List (List Int),(∀g,g∈c->g.length<=K+1)->(Dh 0 c).length<=c.length*(K+1)/\∀b∈Dh 0 c,∃d,d<c.length/\b.sz=2 ^ d
 | [],_=>⟨by simp[Dh],λb a=>by cases a⟩
 | x::xs,h=>by
  obtain⟨l,i⟩:=PY xs (λg e=>h g (by simp[e]));have k:=h x (by simp);unfold Dh;rw[ja];refine⟨by rw[hY,im,iA,Nat.succ_mul];omega,λb a=>?_⟩;rcases ig.1 a with a | a
  ·obtain⟨m,_,rfl⟩:=iE.1 a;exact⟨xs.length,by simp,rfl⟩
  obtain⟨d,j,b⟩:=i b a;exact⟨d,by simp;omega,b⟩
theorem eQ.all{K:Nat}(h:1<=K){c:List (List Int)}(d:eQ K c): ∀g,g∈c->1<=g.length/\g.length<=K+1:=λg e=>by
 cases c with
 | nil=>cases e
 | cons i j =>
  rcases iw.1 e with a | a
  ·subst a;exact⟨d.1,d.2.1⟩
  have:=d.2.2 g a;omega
theorem eQ.fP{K:Nat}(d:1<=K){a:List (List Int)}(c:eQ K a)(l:An (Dh 0 a)<=4611686018427387904): a.length<=62:=by
 have h:=(PG a (λg e=>(c.all d g e).1)).1;refine Nat.le_of_not_lt (λk=>?_);have i:(2:Nat) ^ 63<=2 ^ a.length:=jk (by omega) (by omega);have j:(2:Int) ^ a.length=((2 ^ a.length:Nat):Int):=by simp
 omega
theorem Lw.fP{K:Nat}(h:1<=K){l:List Bk}(c:Lw K 0 l)(a:An l<=4611686018427387904): l.length<=62*(K+1)/\∀b∈l,b.sz<4611686018427387904:=by
 obtain⟨k,j,i⟩:=c;rw[j]at a ⊢;have m:=i.fP h a;have e:=PY k (λg c=>(i.all h g c).2);refine⟨jI e.1 (Nat.mul_le_mul_right _ m),λb n=>?_⟩;obtain⟨d,r,a⟩:=e.2 b n;rw[a];have o:(2:Nat) ^ d<=2 ^ 61:=jk (by omega) (by omega);have q:(2:Int) ^ d=((2 ^ d:Nat):Int):=by simp
 omega
def dN(l:List Bk): Prop:=l.Pairwise (λa b=>b.t<a.t)
theorem dN.take{l:List Bk}(a:dN l)(k:Nat): dN (l.take k):=kL (List.take_sublist k l) a
theorem dN.drop{l:List Bk}(a:dN l)(k:Nat): dN (l.drop k):=kL (jW k l) a
theorem PN(d:Int): ∀(n:Nat) (l:List Bk),l.length=n->dN l->∀b,b∈AD d l->d<b.t
 | 0,l,hn,_=>λb a=>by
  have:l=[]:=iL.1 hn;subst this;rw[OP]at a;cases a
 | n+1,l,hn,hf=>λb a=>by
  have e:0<l.length:=by omega
  by_cases h:(Ad l (l.length-1)).t<=d
  ·rw[LA e h]at a;exact PN d n (l.take (l.length-1)) (by rw[iD];omega) (hf.take _) b a
  rw[LN e h]at a;rw[Jg l e]at a hf;rcases ig.1 a with c | c
  ·have:=(iY.1 hf).2.2 b c _ (ij.2 rfl);omega
  rw[ij]at c;rw[c];omega
theorem O9{l:List Bk}(x:Bk)(a:dN l): dN (CQ l x):=by
 obtain⟨e,d,_⟩:=Ke x.t l;unfold CQ;split
 ·rw[d];exact a.take e
 refine iY.2 ⟨by rw[d];exact a.take e,ka _ _,λh i b c=>?_⟩;rw[ij]at c;rw[c];exact PN x.t l.length l rfl a h i
theorem JK: ∀(l:List Bk) (m:Int),dN l->(∀b∈l,1<=b.t/\b.t<=m)->(l.length:Int)<=max m 0
 | [],m,_,_=>by simp;omega
 | a::l,m,h,hb=>by
  have e:=hb a (by simp);have c:=ji.1 h;have i:=JK l (a.t-1) c.2 (λb d=>⟨(hb b (by simp[d])).1,by have:=c.1 b d;omega⟩);rw[iA];omega
end
end Go.Proofs.YtnokbhcennjanaaGreatDoor
namespace Go.Proofs.YtnokbhcennjanaaGreatDoor.Pa
structure Pn where
 no:Int
 cs:List Int
 len:cs.length=48
def Pn.cells(p:Pn): List Value:=.int .i64 p.no::p.cs.map (.int .i64 ·)
theorem Pn.aE(p:Pn): p.cells.length=49:=by simp[Pn.cells,p.len]
def Pn.val(p:Pn): Value:=.agg p.cells.toArray
def pn0: Pn:=⟨0,List.replicate 48 0,by simp⟩
def pnAt(l:List Pn)(i:Nat): Pn:=l.getD i pn0
def flatP(l:List Pn): List Value:=l.flatMap Pn.cells
def F2(n:Nat): List Value:=List.replicate (n*49) (.int .i64 0)
theorem JR(x:Pn)(l:List Pn): flatP (x::l)=x.cells++flatP l:=by simp[flatP]
theorem Lh(l:List Pn): (flatP l).length=l.length*49:=by
 induction l with
 | nil=>rfl
 | cons c l a=>rw[JR,hY,a,c.aE,iA];omega
theorem flatP_append(a b:List Pn): flatP (a++b)=flatP a++flatP b:=by simp[flatP]
theorem Oj(l:List Pn)(i:Nat): flatP (l.drop i)=(flatP l).drop (i*49):=by
 induction l generalizing i with
 | nil=>simp[flatP]
 | cons a l c =>
  cases i with
  | zero=>simp
  | succ i =>
   rw[kx,c,JR,show(i+1)*49=a.cells.length+i*49 by rw[a.aE];omega,<-List.drop_drop,List.drop_left]
theorem pnAt_drop(l:List Pn)(k:Nat)(a:k<l.length): l.drop k=pnAt l k::l.drop (k+1):=by
 rw[List.drop_eq_getElem_cons a];congr 1;simp[pnAt,List.getD_eq_getElem?_getD,hX a]
theorem Zu(l:List Pn)(i j:Nat)(a:i<l.length)(d:j<49): (flatP l)[i*49+j]?=(pnAt l i).cells[j]?:=by
 have c:(flatP l)[i*49+j]?=((flatP l).drop (i*49))[j]?:=by rw[j0]
 rw[c,<-Oj,pnAt_drop l i a,JR,iO (by rw[Pn.aE];exact d)]
theorem Pn.one(p:Pn): ∀c∈p.cells,c.oneCell'=true:=by
 intro c a;simp only[Pn.cells,iw,iE]at a;rcases a with rfl | ⟨y,_,rfl⟩ <;> rfl
theorem XX(l:List Pn): ∀a∈flatP l,a.oneCell'=true:=by
 intro a c;simp only[flatP,k3]at c;obtain⟨p,_,d⟩:=c;exact p.one a d
theorem Lk(n:Nat): (F2 n).length=n*49:=by simp[F2]
theorem We(n:Nat): ∀c∈F2 n,c.oneCell'=true:=by
 intro c a;rw[F2,kk]at a;rw[a.2];rfl
structure aY (w:World) (g cap:Nat) (l:List Pn):Prop where
 ex:∃cur:List Value,aD w g cur 230/\cur.length=cap*49/\cur.take (l.length*49)=flatP l
 le:l.length<=cap
 max:cap<=maxLen
theorem aY.lt{w:World}{g a:Nat}{l:List Pn}(c:aY w g a l): g<w.heap.size:=by obtain⟨e,d,_⟩:=c.ex;exact d.lt
theorem aY.keeps{M:Nat->Prop}{w w':World}{g c:Nat}{l:List Pn}(a:aY w g c l)(k:aA M w w')(h:¬M g): aY w' g c l:=by
 obtain⟨d,e,i⟩:=a.ex;exact⟨⟨d,e.keeps k h,i⟩,a.le,a.max⟩
theorem aY.range{w:World}{g d:Nat}{l:List Pn}(h:aY w g d l)(i:Nat)(hi:i<l.length): w.rangeAt g (i*49) (pnAt l i).cells:=by
 obtain⟨e,j,o,n⟩:=h.ex;intro a q c;have m:a<49:=by have:=(ik.1 c).1;rwa [Pn.aE]at this
 refine j.cell ?_;have k:e[i*49+a]?=(flatP l)[i*49+a]?:=by rw[<-n,iV,h9 (by omega)]
 rw[k,Zu l i a hi m];exact c
theorem aY.owns{w:World}{g a:Nat}{l:List Pn}(c:aY w g a l): w.ownsRow 0 230 49 (.slice (some ⟨g,0,none⟩) l.length a) l.length (flatP l):=by
 obtain⟨d,e,h,i⟩:=c.ex;exact⟨Lh l,.inr ⟨g,a,d.toArray,rfl,iM _,e,c.le,c.max,by simp[h],by simpa using i⟩⟩
theorem brow_of_owns{w:World}{g n c:Nat}{l:List Pn}(o:l.length=n)(e:w.ownsRow 0 230 49 (.slice (some ⟨g,0,none⟩) n c) n (flatP l)): aY w g c l:=by
 rcases e.2 with ⟨a,_⟩ | ⟨r,q,d,a,_,h,i,j,k,m⟩
 ·cases a
 cases a;subst o;exact⟨⟨d.toList,by unfold aD;simpa using h,by simpa using k,m⟩,i,j⟩
def J6: Value:=.agg (List.replicate 49 (Value.int .i64 0)).toArray
theorem infoBk: (prog.info? 230).map (λa=>(a.zero,a.size,a.bytes))=some (some J6,49,392):=by kernel_rfl
theorem zN3(w:World): (zeroValue 230).run prog w=.ok J6 w:=by kernel_rfl
theorem Sp(c:Value)(k:Nat)(e:0<k)(n:Nat): (Builtin.zeroCells (List.replicate k c).toArray n).toList=List.replicate (n*k) c:=by
 apply j4;intro a;by_cases d:a<n*k
 ·have h:a%k<k:=Nat.mod_lt _ e;simp[Builtin.zeroCells,d,h]
 rw[jz (by simp[Builtin.zeroCells];omega),jz (by simp;omega)]
theorem RE(n:Nat): (Builtin.zeroCells (Value.agg #[.int .i64 0,.int .i64 0,.int .i64 0,.int .i64 0,.int .i64 0,.int .i64 0,.int .i64 0,.int .i64 0,.int .i64 0,.int .i64 0,.int .i64 0,.int .i64 0,.int .i64 0,.int .i64 0,.int .i64 0,.int .i64 0,.int .i64 0,.int .i64 0,.int .i64 0,.int .i64 0,.int .i64 0,.int .i64 0,.int .i64 0,.int .i64 0,.int .i64 0,.int .i64 0,.int .i64 0,.int .i64 0,.int .i64 0,.int .i64 0,.int .i64 0,.int .i64 0,.int .i64 0,.int .i64 0,.int .i64 0,.int .i64 0,.int .i64 0,.int .i64 0,.int .i64 0,.int .i64 0,.int .i64 0,.int .i64 0,.int .i64 0,.int .i64 0,.int .i64 0,.int .i64 0,.int .i64 0,.int .i64 0,.int .i64 0]).cells n).toList=F2 n:=Sp (.int .i64 0) 49 (by omega) n
theorem FY(w:World)(j:TypeId)(b o n c:Nat)(cs:List Value)(a:aD w b cs 230)(l:0<n)(k:o+n*49<=cs.length):
  (Builtin.clear_ #[239] j #[.slice (some ⟨b,o,none⟩) n c]).run prog w=.ok (.tuple #[]) (w.setCells b o (F2 n)):=by
 have d:=k7 (P:=prog) b o (F2 n) 0 w (λi h=>a.some (by rw[Lk]at h;omega)) (λi _=>a.frozen _) (We n);simp only[kg]at d;obtain⟨e,rfl⟩:∃e,n=e+1:=⟨n-1,by omega⟩;simp[Builtin.clear_,jY underlying239,RE,d]
theorem Jc{w:World}{g a n j:Nat}{l:List Pn}{c:List Value}(h:l.length=n)(i:aD w g c 230)(o:c.length=a*49)(s:n<=a)(q:a<=maxLen)(r:j<=n):
  aY ((w.setCells g 0 (flatP (l.drop j))).setCells g ((n-j)*49) (F2 j)) g a (l.drop j):=by
 have d:(flatP (l.drop j)).length=(n-j)*49:=by rw[Lh];simp[h]
 have k:=aD.setCells (flatP (l.drop j)) 0 w c i (by rw[d];omega);have e:(over c 0 (flatP (l.drop j))).length=a*49:=by rw[Dx (by rw[d];omega),o]
 have m:=aD.setCells (F2 j) ((n-j)*49) _ _ k (by rw[e,Lk];omega);refine⟨⟨_,m,by rw[Dx (by rw[e,Lk];omega),e],?_⟩,by simp[h];omega,q⟩;have hlen:(l.drop j).length*49=(n-j)*49:=by simp[h]
 rw[hlen];unfold over;rw[List.append_assoc,iX (by simp[d])];rw[kB,Nat.min_self];simp only[jM,jt];rw[iX (by omega),iq (by omega)]
theorem IN(w:World):
  Calls prog 224 #[.slice none 0 0,.int .i64 0,.int .i64 0] w λa c=>a=.returned (.slice none 0 0)/\c=w:=by
 go_enter func224,ntmps224;go_wp2;go_ret;exact⟨rfl,rfl⟩
theorem IJ(g a n:Nat)(w:World)(i:n<=a):
  Calls prog 224 #[.slice (some ⟨g,0,none⟩) n a,.int .i64 0,.int .i64 0] w λc d=>c=.returned (.slice (some ⟨g,0,none⟩) n a)/\d=w:=by
 have e:(0:Int)<=(n:Int):=by omega
 have h:(n:Int)<=(a:Int):=by omega
 go_enter func224,ntmps224;go_wp2;go_ret;exact⟨rfl,rfl⟩
theorem IZ(g d n j:Nat)(l:List Pn)(w:World)(q:l.length=n)(r:aY w g d l)(Z:0<j)(O:j<=n):
  Calls prog 224 #[.slice (some ⟨g,0,none⟩) n d,.int .i64 0,.int .i64 j] w λI E=>I=.returned (.slice (some ⟨g,0,none⟩) (n-j) d)/\aY E g d (l.drop j)/\aA (·=g) w E:=by
 obtain⟨H,i,A,D⟩:=r.ex;have B:=r.le;rw[q]at B;have C:=r.max;have s:=Aa (Jc (w:=w.drew) q (by exact i.drew) A B C O);obtain⟨news,m⟩:∃news,news=flatP (l.drop j):=⟨_,rfl⟩;rw[<-m]at s;have hlen:news.length=(n-j)*49:=by rw[m,Lh];simp[q]
 have z:∀a c,news[a]?=some c->w.cell? ⟨g,j*49+a,none⟩=some c:=by
  intro a c h;refine i.cell ?_;have ad:a<(n-j)*49:=by have:=(ik.1 h).1;omega
  rw[m,Oj,j0,<-D,iV,h9 (by omega)]at h;exact h
 obtain⟨o,X,P⟩:∃o:Addr,(if d=j then some (⟨g,0,none⟩:Addr) else some ⟨g,j*49,none⟩)=some o/\Hid (∀a c,news[a]?=some c->w.drew.cell? (o.add a)=some c):=by
  by_cases v:d=j
  ·refine⟨⟨g,0,none⟩,by simp[v],λa c h=>?_⟩;have J:news.length=0:=by omega
   rw[iL.1 J]at h;simp at h
  refine⟨⟨g,j*49,none⟩,by simp[v],λa c h=>?_⟩;rw[kv];exact z a c h
 have U:Hid (news.length=(n-j)*49):=hlen;have V:Hid (∀c∈news,c.oneCell'=true):=by rw[m];exact XX _
 have W:Hid (∀a,a<news.length->(w.drew.cell? ⟨g,0+0*49+a,none⟩).isSome=true/\w.drew.frozen? ⟨g,0+0*49+a,none⟩=false):=by
  intro a ab;exact⟨i.some (by omega),i.frozen _⟩
 obtain⟨e,k⟩:∃e,e=w.drew.setCells g 0 news:=⟨_,rfl⟩;have x:aD e g (over H 0 news) 230:=by rw[k];exact aD.setCells _ _ _ _ i.drew (by omega)
 have Y:∀t,(Builtin.clear_ #[239] t #[.slice (some ⟨g,(n-j)*49,none⟩) (n-(n-j)) (d-(n-j))]).run prog e=.ok (.tuple #[]) (e.setCells g ((n-j)*49) (F2 (n-(n-j)))) :=
  λt=>FY e t g _ _ _ _ x (by omega) (by rw[Dx (by omega)];omega)
 have L:Hid (e=w.drew.setCells g (0+0*49) news):=k;have F:=Aa (show aA (·=g) w e by rw[k];exact aA.setCells (M:=λu=>u=g) (Or.inl rfl) _ _ _ (aA.refl _ _).drew);rw[<-k]at s;obtain⟨T,N,Q,R,S⟩:=jh infoBk;have aa:j<=d:=by omega
 have G:=Aa (show n-(n-j)=j by omega);clear k x z m hlen i D A r q C Q S;go_enter func224,ntmps224;go_wp2_with fail
 go_region_law (refine step_append_room rfl (.tmp 22) (.tmp 25) 239 rfl 230 T 49 underlying239 N R g 0 0 d (by simp[Act.eval,Act.put]) o (n-j) (d-j) news (by simp[Act.eval,Act.put]) U.out P.out V.out (by omega) W.out ?_;rw[<-L.out])
 go_wp2;go_ret;refine⟨by simp,?_,?_⟩
 ·have:=s.o;rw[G.o];exact this
 exact aA.setCells (M:=λu=>u=g) (Or.inl rfl) _ _ _ F.o
