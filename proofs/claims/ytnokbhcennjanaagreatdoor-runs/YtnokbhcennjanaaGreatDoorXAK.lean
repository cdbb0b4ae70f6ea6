import Derived.Test.YtnokbhcennjanaaGreatDoorXAB
import Derived.Test.YtnokbhcennjanaaGreatDoorXAJ
open Go.RowKit Go.Proofs.Tryz
set_option maxRecDepth 100000
set_option maxHeartbeats 16000000
namespace Go.Proofs.YtnokbhcennjanaaGreatDoor.Pa
theorem execOp_loadP(ρ:Operand->Value)(dst:Option Tmp)(x:Operand)(a:TypeId)(pos:String)(after:Array Edge)(guard:Option (Nat×Bool)):
  execOp ρ { dst,op:=.load 230 x,type:=a,pos,after,guard }=EP 230 (ρ x):=rfl
theorem sizeP: (prog.info? 230).map (·.size)=some 49:=by kernel_rfl
theorem run_loadP(w:World)(b o:Nat)(a:Ay w b o 49=true): (EP 230 (.pointer (some ⟨b,o,none⟩))).run prog w=.ok (.value (Ao w b o 49)) w:=by
 unfold EP;rw[jm,run_loadAt_mid w b o 230 (Cv w b o 49) _ (JD a) underlying230 rfl (by rw[sizeP];simp[Cv])];rfl
def storeP(ty:TypeId)(a x:Value): Sem Next:=do Instr.storeAt ty a x;pure .skip
theorem execOp_storeP(ρ:Operand->Value)(dst:Option Tmp)(x y:Operand)(a:TypeId)(pos:String)(after:Array Edge)(guard:Option (Nat×Bool)):
  execOp ρ { dst,op:=.store 230 x y,type:=a,pos,after,guard }=storeP 230 (ρ x) (ρ y):=rfl
theorem run_storeP(w:World)(b o:Nat)(cs:List Value)(a:cs.length=49)(d:w.there b o 49)(c:∀e∈cs,e.oneCell'=true):
  (storeP 230 (.pointer (some ⟨b,o,none⟩)) (.agg cs.toArray)).run prog w=.ok .skip (w.setCells b o cs):=by
 unfold storeP;rw[jm,k8 w b o 230 cs.toArray (by simpa[a] using d) (by rw[sizeP];simp[a]) (by simpa using c)];rfl
def Fj(arr:Array Value)(o:Nat): List Value->Array Value
 | []=>arr
 | c::r=>Fj (arr.setIfInBounds o c) (o+1) r
theorem Hr: ∀(cs:List Value) (pre:List Value) (rest:List Value),rest.length=cs.length->Fj (pre++rest).toArray pre.length cs=(pre++cs).toArray
 | [],pre,rest,h=>by
  have:rest=[]:=iL.1 h;subst this;rfl
 | c::r,pre,rest,h=>by
  cases rest with
  | nil=>simp at h
  | cons d a =>
   unfold Fj;have e:((pre++d::a).toArray.setIfInBounds pre.length c)=((pre++[c])++a).toArray:=by simp
   rw[e];have:=Hr r (pre++[c]) a (by simpa using h);rw[hY]at this;simpa using this
theorem Qp: ∀(cs:List Value) (o:Nat) (d:Array Value),(cs.zipIdx o).foldl (λ(a:Array Value) (p:Value×Nat)=>a.setIfInBounds (0+p.2) p.1) d=Fj d o cs
 | [],_,_=>rfl
 | c::r,o,d=>by
  rw[List.zipIdx_cons,jT,Qp r (o+1)];simp[Fj]
theorem YS(cs:List Value)(a:List Value)(e:a.length=cs.length)(s:Nat)(j:cs.length=s): Instr.fill (λk=>some (k*s,s)) a.toArray [(0,.agg cs.toArray)]=some cs.toArray:=by
 have c:=Hr cs [] a e;simp only[jt,jZ]at c;have h:=Qp cs 0 a.toArray;simp only[Instr.fill,Value.cells,kS];rw[hZ (by simp[j];omega)];have i:Array.foldl (λ(d:Array Value) (p:Value×Nat)=>d.setIfInBounds (0+p.2) p.1) a.toArray cs.toArray.zipIdx=cs.toArray:=by
  rw[<-Array.foldl_toList,Array.toList_zipIdx,h,c]
 exact congrArg some i
def KQ(ty:TypeId)(n:Nat)(ps:Array (Nat×Value)): Sem Next:=do pure (.value (<-Instr.buildSlice ty n ps))
theorem execOp_bsP(ρ:Operand->Value)(dst:Option Tmp)(n:Nat)(x:Array (Nat×Operand))(c:TypeId)(pos:String)(after:Array Edge)(guard:Option (Nat×Bool)):
  execOp ρ { dst,op:=.buildSlice 239 n x,type:=c,pos,after,guard }=KQ 239 n (x.map λ(a,y)=>(a,ρ y)):=rfl
theorem run_bsP(p:Pn)(w:World): (KQ 239 1 #[(0,.agg p.cells.toArray)]).run prog w=.ok (.value (.slice (some ⟨w.heap.size,0,none⟩) 1 1)) (w.alloc (.cells p.cells.toArray 230)):=by
 obtain⟨m,c,k,h,l⟩:=jh infoBk;have a:Instr.fill (λj=>some (j*49,49)) (List.replicate 49 (Value.int .i64 0)).toArray [(0,.agg p.cells.toArray)]=some p.cells.toArray:=YS p.cells _ (by rw[p.aE];simp) 49 p.aE;have d:((Array.range (1*49)).map (J6.cells[·%J6.cells.size]!))=(List.replicate 49 (Value.int .i64 0)).toArray:=by kernel_rfl
 have i:(zeroValue 230).run prog w=.ok J6 w:=zN3 w;have e:(sizeOf 230).run prog w=.ok 49 w:=by simp[sizeOf,typeInfo,c,h]
 unfold KQ Instr.buildSlice;simp only[jm,jY underlying239,jy,e];rw[hZ (by decide),hZ (by decide)];simp only[jm,i,jy,Sem.run_pure,d,a];simp[newRow]
end Go.Proofs.YtnokbhcennjanaaGreatDoor.Pa
namespace Go.Proofs.YtnokbhcennjanaaGreatDoor.Pa
attribute [local go_sem ↓] execOp_loadP execOp_storeP execOp_bsP
attribute [local go_sem] run_loadP run_bsP A5 A6 AI AJ Bf B3
def BV(d:Nat): Value:=.func (.func 191) #[.pointer (some ⟨d,0,none⟩)] #[]
def aH(w:World)(d:Nat)(r:Nat)(og:Option Nat)(l:List Pn): Prop :=
 match og with
 | none=>l=[]/\aD w r [BV d,.slice none 0 0] 272
 | some g=>r≠g/\∃cap,aD w r [BV d,.slice (some ⟨g,0,none⟩) l.length cap] 272/\aY w g cap l
theorem aH.lt{w:World}{e d:Nat}{c:Option Nat}{l:List Pn}(a:aH w e d c l): d<w.heap.size/\∀g,c=some g->g<w.heap.size/\d≠g:=by
 cases c with
 | none=>exact⟨a.2.lt,λ_ a=>by cases a⟩
 | some g=>obtain⟨i,k,h,j⟩:=a;exact⟨h.lt,λm a=>by cases a;exact⟨j.lt,i⟩⟩
theorem aH.keeps{M:Nat->Prop}{w w':World}{e d:Nat}{a:Option Nat}{l:List Pn}(c:aH w e d a l)(k:aA M w w')(h:¬M d)(m:∀g,a=some g->¬M g): aH w' e d a l:=by
 cases a with
 | none=>exact⟨c.1,c.2.keeps k h⟩
 | some g=>obtain⟨n,i,j,o⟩:=c;exact⟨n,i,j.keeps k h,o.keeps k (m g rfl)⟩
theorem aH.still{w w':World}{c e:Nat}{d:Option Nat}{l:List Pn}(a:aH w c e d l)(k:lO w w'): aH w' c e d l:=a.keeps k id (λ_ _ a=>a)
theorem rowLen_any(h e:Nat)(d:Option Nat)(l:List Pn)(w:World)(c:aH w h e d l):
  Calls prog 226 #[.pointer (some ⟨e,0,none⟩)] w λi n=>i=.returned (.int .i64 l.length)/\n=w:=by
 cases d with
 | none =>
  obtain⟨j,a⟩:=c;have k:=a.c1;subst j;clear a;go_enter func226,ntmps226;go_wp2;go_ret;exact⟨rfl,rfl⟩
 | some g =>
  obtain⟨q,o,a,m⟩:=c;have k:=a.c1;clear a m;go_enter func226,ntmps226;go_wp2;go_ret;exact⟨rfl,rfl⟩
theorem lose_any(z c:Nat)(o:Option Nat)(l:List Pn)(k:Nat)(w:World)(j:aH w z c o l)(s:k<=l.length):
  Calls prog 194 #[.pointer (some ⟨c,0,none⟩),.int .i64 k] w λi e=>i=.returned (.tuple #[])/\aH e z c o (l.drop k)/\aA (λa=>a=c\/o=some a) w e:=by
 cases o with
 | none =>
  obtain⟨I,d⟩:=j;subst I;have H:k=0:=by simpa using s
  subst H;have v:=d.c1;have G:=d.frozen;have m:=Aa d;clear d s;go_enter func194,ntmps194;go_wp2_with fail
  refine(IN _).mono ?_;rintro i e ⟨rfl,rfl⟩;go_wp2;go_end0;refine⟨rfl,⟨rfl,?_⟩,(aA.refl (λa=>a=c\/none=some a) _).setCell (p:=⟨c,1,none⟩) (Or.inl (Or.inl rfl)) _⟩;exact m.o.setCell 1 _
 | some g =>
  obtain⟨u,h,d,B⟩:=j;have v:=d.c1;have J:=d.lt;have m:=Aa d;have n:=Aa B;clear d B;have x:Hid (Calls prog 224 #[.slice (some ⟨g,0,none⟩) l.length h,.int .i64 0,.int .i64 k] w λi e=>i=.returned (.slice (some ⟨g,0,none⟩) (l.length-k) h)/\aY e g h (l.drop k)/\aA (λa=>a=g) w e):=by
   rcases lJ k with r | r
   ·subst r;refine(IJ g h l.length w n.o.le).mono ?_;rintro i e ⟨rfl,rfl⟩;exact⟨rfl,n.o,aA.refl _ _⟩
   exact IZ g h l.length k l w rfl n.o r s
  generalize A:l.length=L at *
  have E:=Aa A;clear A;go_enter func194,ntmps194;go_wp2_with fail
  refine x.o.mono ?_;rintro i N ⟨rfl,C,t⟩;have q:=Aa (m.o.keeps t u);have F:=Aa C;have D:=Aa t;clear C t x m n v;have v:=q.o.c1;have G:=q.o.frozen;go_wp2;go_end0;refine⟨rfl,⟨u,h,?_,?_⟩,?_⟩
  ·rw[iQ,E.o];exact q.o.setCell 1 _
  ·exact F.o.keeps (M:=λa=>a=c) ((aA.refl (λa=>a=c) _).setCell (p:=⟨c,1,none⟩) (Or.inl rfl) _) (λj=>u j.symm)
  exact(D.o.mono (M':=λa=>a=c\/some g=some a) (λa _ j=>.inr (by rw[j]))).setCell (p:=⟨c,1,none⟩) (Or.inl (Or.inl rfl)) _
theorem aH.owns{w:World}{e i:Nat}{c:Option Nat}{l:List Pn}(h:aH w e i c l):
  ∃a,aD w i [BV e,AH c l.length a] 272/\w.ownsRow 0 230 49 (AH c l.length a) l.length (flatP l):=by
 cases c with
 | none=>obtain⟨rfl,d⟩:=h;exact⟨0,d,ir _ _ _ _⟩
 | some g =>
  obtain⟨k,a,d,j⟩:=h;exact⟨a,d,j.owns⟩
theorem Jh{w i:World}{m B:Obj}{o c d n C k:Nat}{h:Option Nat}{l:List Pn}{x:Pn}{v:Value}(s:l.length=n)(I:AH h n C=v)(J:c<w.heap.size)(E:aD w c [BV o,v] 272)(A:some c≠v.ownBlock)(u:i.ownsRow 0 230 49 (.slice (some ⟨d,0,none⟩) (n+1) k) (n+1) (flatP l++x.cells))(r:((w.alloc m).alloc B).drew.grownBy i v.ownBlock)(q:v.ownBlock=some d\/d=w.heap.size+2):
  aH (i.setCell ⟨c,1,none⟩ (.slice (some ⟨d,0,none⟩) (n+1) k)) o c (some d) (l++[x]) /\
  aA (λa=>a=c\/h=some a) w (i.setCell ⟨c,1,none⟩ (.slice (some ⟨d,0,none⟩) (n+1) k))/\(h=some d\/w.heap.size<=d):=by
 have t:∀a,v.ownBlock=some a->h=some a:=by
  intro a j;rw[<-I]at j;cases h with
  | none=>simp[AH,Value.ownBlock]at j
  | some g=>simpa[AH,Value.ownBlock] using j
 have z:c≠d:=by
  rcases q with e | e
  ·intro D;apply A;rw[e,D]
  omega
 have H:aA (λa=>a=c\/h=some a) w i:=(((aA.refl _ w).alloc m).alloc B).drew.grown r (λa j=>Or.inl (Or.inr (t a j)));have F:aD i c [BV o,v] 272:=by
  unfold aD;rw[r.block c (by simp;omega) A];exact(E.alloc m).alloc B
 refine⟨⟨z,k,?_,?_⟩,H.setCell (Or.inl (Or.inl rfl)) _,?_⟩
 ·have:(l++[x]).length=n+1:=by simp[s]
  rw[this];exact F.setCell 1 _
 ·have G:flatP l++x.cells=flatP (l++[x]):=by rw[flatP_append,JR];simp[flatP]
  rw[G]at u;exact(brow_of_owns (by simp[s]) u).keeps (M:=λa=>a=c) ((aA.refl (λa=>a=c) _).setCell (Or.inl rfl) _) (λe=>z e.symm)
 rcases q with e | e
 ·exact .inl (t d e)
 exact .inr (by omega)
theorem rowPut_any(q c:Nat)(i:Option Nat)(l:List Pn)(x:Pn)(w:World)(h:aH w q c i l)(ag:l.length<=1000000000):
  Calls prog 223 #[.pointer (some ⟨c,0,none⟩),x.val] w λM G=>M=.returned (.tuple #[])/\∃u,aH G q c u (l++[x])/\aA (λm=>m=c\/i=some m) w G/\(u=i\/∃m,u=some m/\w.heap.size<=m):=by
 obtain⟨D,C⟩:=h.lt;obtain⟨z,n,V⟩:=h.owns;have X:=n.c1;have Q:=n.frozen 1;obtain⟨ab,S,Y,Z,aa⟩:=jh infoBk;generalize E:l.length=o at *
 generalize s:AH i o z=j at *
 have ai:x.cells.length=49:=x.aE;unfold Pn.val;have H:Hid (aD w c [BV q,j] 272):=n;have L:Hid (AH i o z=j):=s;have J:Hid (l.length=o):=E;have F:some c≠j.ownBlock:=by
  rw[<-s];cases i with
  | none=>simp[AH,Value.ownBlock]
  | some g=>simp[AH,Value.ownBlock];exact(C g rfl).2
 have v:Hid (∀e d k,((w.alloc e).alloc d).drew.grownBy k j.ownBlock->k.cell? ⟨c,1,none⟩=some j/\k.frozen? ⟨c,1,none⟩=false):=λe d k R=>by
  have B:k.heap[c]?=w.heap[c]?:=by
   rw[R.block c (by simp;omega) F];show((w.alloc e).alloc d).heap[c]?=_;rw[jq _ _ _ (by simp;omega),jq _ _ _ D]
  exact⟨(jw (a:=⟨c,1,none⟩) B).trans X,(jH (a:=⟨c,1,none⟩) B).trans Q⟩
 have T:Hid (∀e d,((w.alloc e).alloc d).drew.heap[w.heap.size+1]?=some d):=λe d=>by
  have:=iJ (w.alloc e) d;rwa [jU]at this
 clear n h s E C;go_enter func223,ntmps223;go_wp2_with fail
 go_region_law
  ((refine kz _ (by rfl) _ _ _ (by rfl) 0 230 ab _ 49 392 underlying239 S Y Z aa (by rfl) (by omega) j o (flatP l) (by rfl) (((V.alloc _).alloc _).drew)
        ⟨w.heap.size+1,0,none⟩ 1 1 x.cells (by rfl) (by rw[x.aE]) (iT (cs:=x.cells.toArray) (t:=230) (fr:=(0,0)) (T.out _ _)) x.one
        (by omega) (by unfold maxLen;omega) (by omega) (by omega) (w.heap.size+2) (by simp) ?_;intro A ad k W r P ah;have ae:=(v.out _ _ _ r).1;have af:=(v.out _ _ _ r).2))
 all_goals
  have I:=Jh J.out L.out D H.out F W r P;obtain⟨O,N,U⟩:=I;go_wp2;go_end0;refine⟨rfl,some A,O,N,?_⟩;rcases U with h | h
  ·exact .inl h.symm
  exact .inr ⟨A,rfl,h⟩
theorem rowNew_any(a:Nat)(w:World):
  Calls prog 190 #[BV a] w λd c=>d=.returned (.pointer (some ⟨w.heap.size,0,none⟩))/\aH c a w.heap.size none []/\lO w c/\c.heap.size=w.heap.size+1:=by
 unfold BV;go_enter func190,ntmps190;go_wp2;go_ret;exact⟨rfl,⟨rfl,aD.new w [BV a,.slice none 0 0] 272⟩,(aA.refl _ _).alloc _,by simp⟩
end Go.Proofs.YtnokbhcennjanaaGreatDoor.Pa
namespace Go.Proofs.YtnokbhcennjanaaGreatDoor
section
def Be(c:Cfg)(o:Pa.Pn)(r:Nat): List Value:=c.cells++(o.cells++[.pointer (some ⟨r,0,none⟩)])
theorem Cd(c:Cfg)(o:Pa.Pn)(d:Nat)(i:Nat)(a:i<20): (Be c o d)[i]?=c.cells[i]?:=by
 unfold Be;rw[iO (by simpa[Cfg.cells] using a)]
theorem Jp(c:Cfg)(o:Pa.Pn)(a:Nat)(j:Nat)(d:j<49): (Be c o a)[20+j]?=o.cells[j]?:=by
 unfold Be;rw[iS (by simp[Cfg.cells]),iO (by rw[o.aE];simp[Cfg.cells];omega)];simp[Cfg.cells]
theorem Jx(c:Cfg)(o:Pa.Pn)(a:Nat): (Be c o a)[69]?=some (.pointer (some ⟨a,0,none⟩)):=by
 unfold Be;rw[iS (by simp[Cfg.cells]),iS (by rw[o.aE];simp[Cfg.cells])];simp[Cfg.cells,o.aE]
def Ag(c:Cfg): Int:=c.aB/c.aM
def AS(c:Cfg)(p:Pa.Pn): Int:=(p.no+1)*Ag c-1
theorem L9(a:Nat)(c:Cfg)(w:World)(k:w.cell? ⟨a,5,none⟩=some (.int .i64 c.aB))(l:w.cell? ⟨a,9,none⟩=some (.int .i64 c.aM))(d:0<=c.aB)(s:c.aB<=1000)(r:1<=c.aM):
  Calls prog 193 #[.pointer (some ⟨a,0,none⟩)] w λh j=>h=.returned (.int .i64 (Ag c))/\lO w j:=by
 have i:c.aB.tdiv c.aM=c.aB/c.aM:=jl d;have m:0<=c.aB/c.aM:=jK d (by omega);have n:c.aB/c.aM<=c.aB:=jN _ d;have o:IntKind.i64.wrap (c.aB.tdiv c.aM)=c.aB/c.aM:=by rw[i,ic];omega
 have q:¬c.aM=0:=by omega
 have e:=Aa (show c.aB/c.aM=Ag c from rfl);go_enter func193,ntmps193;go_wp2;go_quiet (fail)
 go_wp2;go_ret;exact⟨A9 e.o,aA.drewN _ _ _⟩
end
section
attribute [local go_sem ↓] Pa.execOp_loadP Pa.execOp_storeP Pa.execOp_bsP
attribute [local go_sem] Pa.run_loadP Pa.run_bsP A5 A6 AI AJ Bf B3
structure Cfg.paned (c:Cfg):Prop where
 w0:1<=c.aB
 w1:c.aB<=1000
 p0:1<=c.aM
 p1:c.aM<=8
def CC(c:Cfg)(p:Pa.Pn): Prop:=0<=p.no/\p.no<=4611686018427387904/\0<=(p.no+1)*Ag c/\(p.no+1)*Ag c<=4611686018427389000
theorem NF(d:Nat)(c:Cfg)(p:Pa.Pn)(w:World)(o:w.cell? ⟨d,5,none⟩=some (.int .i64 c.aB))(q:w.cell? ⟨d,9,none⟩=some (.int .i64 c.aM))(k:c.paned)(C:CC c p):
  Calls prog 191 #[.pointer (some ⟨d,0,none⟩),.agg p.cells.toArray] w λn h=>n=.returned (.int .i64 (AS c p))/\lO w h:=by
 obtain⟨e,j⟩:∃e,e=w.alloc (.cells p.cells.toArray 230):=⟨_,rfl⟩;have m:=Aa (show lO w e by rw[j];exact(aA.refl _ _).alloc _);have M:e.cell? ⟨w.heap.size,0,none⟩=some (.int .i64 p.no):=by rw[j];exact(aD.new w p.cells 230).cell rfl
 have x:e.cell? ⟨d,5,none⟩=some (.int .i64 c.aB):=m.o.cell o id;have z:e.cell? ⟨d,9,none⟩=some (.int .i64 c.aM):=m.o.cell q id;have u:=Aa j;obtain⟨N,O,F,G⟩:=C;have s:=Aa (show(p.no+1)*Ag c-1=AS c p from rfl);have t:=Aa (λv A B=>L9 d c v A B (by have:=k.w0;omega) k.w1 k.p0);generalize Ag c=i at *
 have I:IntKind.i64.wrap (p.no+1)=p.no+1:=by rw[ic];omega
 have J:IntKind.i64.wrap ((p.no+1)*i)=(p.no+1)*i:=by rw[ic];omega
 have L:IntKind.i64.wrap ((p.no+1)*i-1)=(p.no+1)*i-1:=by rw[ic];omega
 clear j o q k;go_enter func191,ntmps191;go_wp2_with fail
 rw[show w.alloc (.cells p.cells.toArray 230)=e from u.o.symm];generalize H:w.heap.size=D at *
 go_region_held3 (λh=>h.cell? ⟨D,0,none⟩=some (.int .i64 p.no)/\h.cell? ⟨d,5,none⟩=some (.int .i64 c.aB)/\h.cell? ⟨d,9,none⟩=some (.int .i64 c.aM))
  (first | (go_split_ands;exact⟨by assumption,by assumption,by assumption⟩) | (go_split_ands;exact⟨l.cell (by assumption) id,l.cell (by assumption) id,l.cell (by assumption) id⟩))
  (first | (go_at_call 193;refine(t.o _ (by first | assumption | simpa using x) (by first | assumption | simpa using z)).mono ?_;rintro n E ⟨rfl,l⟩))
 have r:=Aa (m.o.drew.then l);go_wp2;go_ret;exact⟨A9 s.o,r.o⟩
theorem Mm(p:Pa.Pn)(w:World): ∃a,(Pa.storeP 230 (.pointer (some ⟨w.heap.size,0,none⟩)) (.agg p.cells.toArray)).run prog (w.alloc (.cells #[.int .i64 0,.int .i64 0,.int .i64 0,.int .i64 0,.int .i64 0,.int .i64 0,.int .i64 0,.int .i64 0,.int .i64 0,.int .i64 0,.int .i64 0,.int .i64 0,.int .i64 0,.int .i64 0,.int .i64 0,.int .i64 0,.int .i64 0,.int .i64 0,.int .i64 0,.int .i64 0,.int .i64 0,.int .i64 0,.int .i64 0,.int .i64 0,.int .i64 0,.int .i64 0,.int .i64 0,.int .i64 0,.int .i64 0,.int .i64 0,.int .i64 0,.int .i64 0,.int .i64 0,.int .i64 0,.int .i64 0,.int .i64 0,.int .i64 0,.int .i64 0,.int .i64 0,.int .i64 0,.int .i64 0,.int .i64 0,.int .i64 0,.int .i64 0,.int .i64 0,.int .i64 0,.int .i64 0,.int .i64 0,.int .i64 0] 230))=.ok .skip a/\aD a w.heap.size p.cells 230/\lO w a:=by
 have c:aD (w.alloc (.cells #[.int .i64 0,.int .i64 0,.int .i64 0,.int .i64 0,.int .i64 0,.int .i64 0,.int .i64 0,.int .i64 0,.int .i64 0,.int .i64 0,.int .i64 0,.int .i64 0,.int .i64 0,.int .i64 0,.int .i64 0,.int .i64 0,.int .i64 0,.int .i64 0,.int .i64 0,.int .i64 0,.int .i64 0,.int .i64 0,.int .i64 0,.int .i64 0,.int .i64 0,.int .i64 0,.int .i64 0,.int .i64 0,.int .i64 0,.int .i64 0,.int .i64 0,.int .i64 0,.int .i64 0,.int .i64 0,.int .i64 0,.int .i64 0,.int .i64 0,.int .i64 0,.int .i64 0,.int .i64 0,.int .i64 0,.int .i64 0,.int .i64 0,.int .i64 0,.int .i64 0,.int .i64 0,.int .i64 0,.int .i64 0,.int .i64 0] 230)) w.heap.size (List.replicate 49 (.int .i64 0)) 230:=aD.new w (List.replicate 49 (.int .i64 0)) _;refine⟨_,Pa.run_storeP _ w.heap.size 0 p.cells p.aE (λh e=>⟨c.some (by simpa using e),c.frozen _⟩) p.one,?_,?_⟩
 ·have:=aD.setCells p.cells 0 _ _ c (by rw[p.aE];simp);have d:over (List.replicate 49 (Value.int .i64 0)) 0 p.cells=p.cells:=by
   unfold over;rw[p.aE,iU (by simp)];simp
  rw[d]at this;exact this
 exact aA.setCells (Or.inr (il _)) _ _ _ ((aA.refl (λ_=>False) w).alloc _)
theorem Vq(t q:Nat)(o:Option Nat)(l:List Pa.Pn)(i:Nat)(w:World)(j:Pa.aH w t q o l)(hi:i<l.length):
  Calls prog 227 #[.pointer (some ⟨q,0,none⟩),.int .i64 i] w λu E=>u=.returned (.agg (Pa.pnAt l i).cells.toArray)/\lO w E:=by
 cases o with
 | none=>obtain⟨z,c⟩:=j;subst z;simp at hi
 | some g =>
  obtain⟨N,F,c,h⟩:=j;have O:=c.c1;have M:=c.lt;have L:=h.lt;have d:=Dv (h.range i hi);rw[Pa.Pn.aE]at d;have x:Ao w g (i*49) 49=.agg (Pa.pnAt l i).cells.toArray:=by unfold Ao;rw[d.1]
  have G:Ay w g (i*49) 49=true:=d.2;obtain⟨a,n⟩:∃a,Pa.pnAt l i=a:=⟨_,rfl⟩;rw[n]at x ⊢;generalize l.length=C at *
  have I:(0:Int)<=(i:Int):=by omega
  have J:(i:Int)<(C:Int):=by omega
  have H:g≠w.heap.size:=by omega
  obtain⟨e,P,k,m⟩:=Mm a w;have r:=Aa k;have s:=Aa m;clear c h d n k m;go_enter func227,ntmps227;go_wp2;have A:(loadVar 230 ⟨w.heap.size,0,none⟩).run prog e=.ok (.agg a.cells.toArray) e :=
   k9 e w.heap.size 0 230 a.cells _ (λQ D B=>by rw[ja];exact r.o.cell B) underlying230 rfl (by rw[Pa.sizeP,a.aE])
  refine iN (v:=.agg a.cells.toArray) ?_ rfl ⟨rfl,s.o⟩;simp[results,results227,asAddr,A]
def B5(c:Cfg)(l:List Pa.Pn)(t:Int): Nat:=(l.takeWhile (λp=>decide (AS c p<=t))).length
theorem Qq(c:Cfg)(l:List Pa.Pn)(t:Int): B5 c l t<=l.length:=(lB _).length_le
theorem NE(e m:Nat)(N:Option Nat)(c:Cfg)(l:List Pa.Pn)(t:Int)(w:World)(d:Pa.aH w e m N l)(I:l.length<=4398046511104)(W:w.cell? ⟨e,5,none⟩=some (.int .i64 c.aB))(Y:w.cell? ⟨e,9,none⟩=some (.int .i64 c.aM))(H:c.paned)(M:∀p∈l,CC c p):
  Calls prog 195 #[.pointer (some ⟨m,0,none⟩),.int .i64 t] w λG j=>G=.returned (.int .i64 (B5 c l t))/\lO w j:=by
 cases N with
 | none =>
  obtain⟨I,n⟩:=d;have ad:=n.c1;subst I;clear n;go_enter func195,ntmps195;go_wp2;go_loopw [5] (λq wr=>q=.int .i64 0/\wr=w) (λ_ _=>0)
  case atStart=>exact⟨rfl,rfl⟩
  case round =>
   obtain⟨rfl,rfl⟩:=hrel;go_wp2;go_quiet (fail)
   go_wp2;go_ret;exact⟨rfl,aA.drewN _ _ _⟩
 | some g =>
  obtain⟨am,F,n,x⟩:=d;have A:=Aa n;have S:=Aa x;have R:=Aa M;have O:=Aa H;have ab:=x.lt;clear n x M H;generalize L:l.length=k at *
  have D:=Aa L;clear L;go_enter func195,ntmps195;go_wp2;go_loopw [5] (λq wr=>∃a:Nat,q=.int .i64 a/\a<=k/\Hid (lO w wr)/\Hid (B5 c l t=a+B5 c (l.drop a) t)) (λq _=>k-(intOf q).toNat)
  case atStart=>exact⟨0,rfl,iM _,aA.refl _ _,by show _=_;simp⟩
  case round =>
   obtain⟨a,rfl,aj,h,u⟩:=hrel;have ad:wr.cell? ⟨m,1,none⟩=some (.slice (some ⟨g,0,none⟩) k F):=h.o.cell (A.o.cell rfl) id;have an:wr.cell? ⟨m,0,none⟩=some (.func (.func 191) #[.pointer (some ⟨e,0,none⟩)] #[]):=h.o.cell (A.o.cell rfl) id;have U:wr.cell? ⟨e,5,none⟩=some (.int .i64 c.aB):=h.o.cell W id;have V:wr.cell? ⟨e,9,none⟩=some (.int .i64 c.aM):=h.o.cell Y id;by_cases aa:a<k
   ·have o:a<l.length:=by rw[D.o];exact aa
    have s:=Dv ((S.o.keeps h.o id).range a o);rw[Pa.Pn.aE]at s;have ah:Ao wr g (a*49) 49=.agg (Pa.pnAt l a).cells.toArray:=by unfold Ao;rw[s.1]
    have ag:Ay wr g (a*49) 49=true:=s.2;have r:g<wr.heap.size:=kG ab h.o.size;clear s;have ak:(0:Int)<=(a:Int):=by omega
    have al:(a:Int)<(k:Int):=by omega
    have B:=Aa (Pa.pnAt_drop l a o)
    have Q:=Aa (R.o (Pa.pnAt l a) (by
         have:Pa.pnAt l a=l[a]:=by simp[Pa.pnAt,List.getD_eq_getElem?_getD,hX o]
         rw[this];exact jc o))
    generalize Pa.pnAt l a=z at *
    clear o;have P:=Aa (λT X Z=>NF e c z T X Z O.o Q.o);obtain⟨lt,J⟩:∃lt,AS c z=lt:=⟨_,rfl⟩;have v:=Aa J;clear J;by_cases ae:lt<=t;all_goals
     have E:=Aa ae;go_wp2
     go_region_held3 (λj=>j.cell? ⟨m,0,none⟩=some (.func (.func 191) #[.pointer (some ⟨e,0,none⟩)] #[])/\j.cell? ⟨m,1,none⟩=some (.slice (some ⟨g,0,none⟩) k F) /\
        Ao j g (a*49) 49=.agg z.cells.toArray/\Ay j g (a*49) 49=true/\j.cell? ⟨e,5,none⟩=some (.int .i64 c.aB)/\j.cell? ⟨e,9,none⟩=some (.int .i64 c.aM)) (first | (go_split_ands;exact⟨by assumption,by assumption,by assumption,by assumption,by assumption,by assumption⟩) | (go_split_ands;exact⟨i.cell (by assumption) id,i.cell (by assumption) id,(Fz i (by first | exact r | simpa using r)).1.trans (by assumption),(Fz i (by first | exact r | simpa using r)).2.trans (by assumption),i.cell (by assumption) id,i.cell (by assumption) id⟩))
      (first | (go_at_call 191;refine(P.o _ (by first | assumption | simpa using U) (by first | assumption | simpa using V)).mono ?_;rintro G af ⟨rfl,i⟩;rw[v.o]))
     have C:=Aa (((aA.refl (λ_=>False) wr).drew).then i);clear i
    ·go_wp2;go_roundw;case rel =>
      refine⟨a+1,by go_num,by omega,h.o.then C.o,?_⟩;show _=_;rw[u.o,B.o];unfold B5;rw[jB,h9 (by simpa[v.o] using E.o)];simp;omega
     case measure=>simp[intOf];omega
    go_wp2;go_ret;refine⟨?_,h.o.then C.o⟩;rw[u.o,B.o];unfold B5;rw[jB,hZ (by simpa[v.o] using E.o)];simp
   have ai:decide ((a:Int)<(k:Int))=false:=by simp;omega
   go_wp2;go_quiet (fail)
   go_wp2;go_ret;refine⟨?_,h.o.then (aA.drewN _ _ _)⟩;rw[u.o,iU (by rw[D.o];omega)];simp[B5]
