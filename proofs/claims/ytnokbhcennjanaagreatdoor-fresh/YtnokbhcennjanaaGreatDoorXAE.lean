import Derived.Test.YtnokbhcennjanaaGreatDoorXAD
open Go.RowKit Go.Proofs.Tryz
set_option maxRecDepth 100000
set_option maxHeartbeats 16000000
namespace Go.Proofs.YtnokbhcennjanaaGreatDoor
section
attribute [local go_sem ↓] Pa.execOp_loadP Pa.execOp_storeP Pa.execOp_bsP
attribute [local go_sem] Pa.run_loadP Pa.run_bsP A3 A4 AJ AL Bd B2
structure Cfg.paned (c:Cfg):Prop where
 w0:1<=c.aB
 w1:c.aB<=1000
 p0:1<=c.aM
 p1:c.aM<=8
def CK(c:Cfg)(p:Pa.Pn): Prop:=0<=p.no/\p.no<=4611686018427387904/\0<=(p.no+1)*Ag c/\(p.no+1)*Ag c<=4611686018427389000
theorem NK(d:Nat)(c:Cfg)(p:Pa.Pn)(w:World)(o:w.cell? ⟨d,5,none⟩=some (ι c.aB))(q:w.cell? ⟨d,9,none⟩=some (ι c.aM))(k:c.paned)(C:CK c p):
  Calls prog 191 #[π d,.agg p.cells.toArray] w λn h=>n=.returned (ι (AW c p))/\lX w h:=by
 obtain⟨e,j⟩:∃e,e=w.alloc (.cells p.cells.toArray 230):=⟨_,rfl⟩;have m:=Aa (show lX w e by rw[j];exact(aA.refl _ _).alloc _);have M:κ e w.heap.size 0 (ι p.no):=by rw[j];exact(aD.new w p.cells 230).cell rfl
 have x:κ e d 5 (ι c.aB):=m.o.cell o id;have z:κ e d 9 (ι c.aM):=m.o.cell q id;have u:=Aa j;obtain⟨N,O,F,G⟩:=C;have s:=Aa (show(p.no+1)*Ag c-1=AW c p from rfl);have t:=Aa (λv A B=>LZ d c v A B (by have:=k.w0;omega) k.w1 k.p0);generalize Ag c=i at *
 have I:IntKind.i64.wrap (p.no+1)=p.no+1:=by rw[il];omega
 have J:IntKind.i64.wrap ((p.no+1)*i)=(p.no+1)*i:=by rw[il];omega
 have L:IntKind.i64.wrap ((p.no+1)*i-1)=(p.no+1)*i-1:=by rw[il];omega
 clear j o q k;go_enter func191,ntmps191;go_wp2_with fail
 rw[show w.alloc (.cells p.cells.toArray 230)=e from u.o.symm];generalize H:w.heap.size=D at *
 go_region_held3 (λh=>h.cell? ⟨D,0,none⟩=some (ι p.no)/\h.cell? ⟨d,5,none⟩=some (ι c.aB)/\h.cell? ⟨d,9,none⟩=some (ι c.aM))
  (first | (go_split_ands;exact⟨by assumption,by assumption,by assumption⟩) | (go_split_ands;exact⟨l.cell (by assumption) id,l.cell (by assumption) id,l.cell (by assumption) id⟩))
  (first | (go_at_call 193;refine(t.o _ (by first | assumption | simpa using x) (by first | assumption | simpa using z)).mono ?_;rintro n E ⟨rfl,l⟩))
 have r:=Aa (m.o.drew.then l);go_wp2;go_ret;exact⟨A9 s.o,r.o⟩
theorem M3(p:Pa.Pn)(w:World): ∃a,(Pa.storeP 230 (π w.heap.size) (.agg p.cells.toArray)).run prog (w.alloc (.cells #[ι 0,ι 0,ι 0,ι 0,ι 0,ι 0,ι 0,ι 0,ι 0,ι 0,ι 0,ι 0,ι 0,ι 0,ι 0,ι 0,ι 0,ι 0,ι 0,ι 0,ι 0,ι 0,ι 0,ι 0,ι 0,ι 0,ι 0,ι 0,ι 0,ι 0,ι 0,ι 0,ι 0,ι 0,ι 0,ι 0,ι 0,ι 0,ι 0,ι 0,ι 0,ι 0,ι 0,ι 0,ι 0,ι 0,ι 0,ι 0,ι 0] 230))=.ok .skip a/\aD a w.heap.size p.cells 230/\lX w a:=by
 have c:aD (w.alloc (.cells #[ι 0,ι 0,ι 0,ι 0,ι 0,ι 0,ι 0,ι 0,ι 0,ι 0,ι 0,ι 0,ι 0,ι 0,ι 0,ι 0,ι 0,ι 0,ι 0,ι 0,ι 0,ι 0,ι 0,ι 0,ι 0,ι 0,ι 0,ι 0,ι 0,ι 0,ι 0,ι 0,ι 0,ι 0,ι 0,ι 0,ι 0,ι 0,ι 0,ι 0,ι 0,ι 0,ι 0,ι 0,ι 0,ι 0,ι 0,ι 0,ι 0] 230)) w.heap.size (List.replicate 49 (ι 0)) 230:=aD.new w (List.replicate 49 (ι 0)) _;refine⟨_,Pa.run_storeP _ w.heap.size 0 p.cells p.aE (λh e=>⟨c.some (by simpa using e),c.frozen _⟩) p.one,?_,?_⟩
 ·have:=aD.setCells p.cells 0 _ _ c (by rw[p.aE];simp);have d:over (List.replicate 49 (Value.int .i64 0)) 0 p.cells=p.cells:=by
   unfold over;rw[p.aE,iX (by simp)];simp
  rw[d]at this;exact this
 exact aA.setCells (Or.inr (ir _)) _ _ _ ((aA.refl (λ_=>False) w).alloc _)
theorem Vq(t q:Nat)(o:Option Nat)(l:List Pa.Pn)(i:Nat)(w:World)(j:Pa.aH w t q o l)(hi:i<l.length):
  Calls prog 227 #[π q,ι i] w λu E=>u=.returned (.agg (Pa.pnAt l i).cells.toArray)/\lX w E:=by
 cases o with
 | none=>obtain⟨z,c⟩:=j;subst z;simp at hi
 | some g =>
  obtain⟨N,F,c,h⟩:=j;have O:=c.c1;have M:=c.lt;have L:=h.lt;have d:=D4 (h.range i hi);rw[Pa.Pn.aE]at d;have x:Ap w g (i*49) 49=.agg (Pa.pnAt l i).cells.toArray:=by unfold Ap;rw[d.1]
  have G:Az w g (i*49) 49=true:=d.2;obtain⟨a,n⟩:∃a,Pa.pnAt l i=a:=⟨_,rfl⟩;rw[n]at x ⊢;generalize l.length=C at *
  have I:(0:Int)<=(i:Int):=by omega
  have J:(i:Int)<(C:Int):=by omega
  have H:g≠w.heap.size:=by omega
  obtain⟨e,P,k,m⟩:=M3 a w;have r:=Aa k;have s:=Aa m;clear c h d n k m;go_enter func227,ntmps227;go_wp2;have A:(loadVar 230 ⟨w.heap.size,0,none⟩).run prog e=.ok (.agg a.cells.toArray) e :=
   lu e w.heap.size 0 230 a.cells _ (λQ D B=>by rw[ja];exact r.o.cell B) underlying230 rfl (by rw[Pa.sizeP,a.aE])
  refine iV (v:=.agg a.cells.toArray) ?_ rfl ⟨rfl,s.o⟩;simp[results,results227,asAddr,A]
def B7(c:Cfg)(l:List Pa.Pn)(t:Int): Nat:=(l.takeWhile (λp=>decide (AW c p<=t))).length
theorem Qv(c:Cfg)(l:List Pa.Pn)(t:Int): B7 c l t<=l.length:=(lJ _).length_le
theorem NJ(e m:Nat)(N:Option Nat)(c:Cfg)(l:List Pa.Pn)(t:Int)(w:World)(d:Pa.aH w e m N l)(I:l.length<=4398046511104)(W:w.cell? ⟨e,5,none⟩=some (ι c.aB))(Y:w.cell? ⟨e,9,none⟩=some (ι c.aM))(H:c.paned)(M:∀p∈l,CK c p):
  Calls prog 195 #[π m,ι t] w λG j=>G=.returned (ι (B7 c l t))/\lX w j:=by
 cases N with
 | none =>
  obtain⟨I,n⟩:=d;have ad:=n.c1;subst I;clear n;go_enter func195,ntmps195;go_wp2;go_loopw [5] (λq wr=>q=ι 0/\wr=w) (λ_ _=>0)
  case atStart=>exact⟨rfl,rfl⟩
  case round =>
   obtain⟨rfl,rfl⟩:=hrel;go_wp2;go_quiet (fail)
   go_wp2;go_ret;exact⟨rfl,aA.drewN _ _ _⟩
 | some g =>
  obtain⟨am,F,n,x⟩:=d;have A:=Aa n;have S:=Aa x;have R:=Aa M;have O:=Aa H;have ab:=x.lt;clear n x M H;generalize L:l.length=k at *
  have D:=Aa L;clear L;go_enter func195,ntmps195;go_wp2;go_loopw [5] (λq wr=>∃a:Nat,q=ι a/\a<=k/\Hid (lX w wr)/\Hid (B7 c l t=a+B7 c (l.drop a) t)) (λq _=>k-(intOf q).toNat)
  case atStart=>exact⟨0,rfl,iT _,aA.refl _ _,by show _=_;simp⟩
  case round =>
   obtain⟨a,rfl,aj,h,u⟩:=hrel;have ad:κ wr m 1 (σ g k F):=h.o.cell (A.o.cell rfl) id;have an:κ wr m 0 (.func (.func 191) #[π e] #[]):=h.o.cell (A.o.cell rfl) id;have U:κ wr e 5 (ι c.aB):=h.o.cell W id;have V:κ wr e 9 (ι c.aM):=h.o.cell Y id;by_cases aa:a<k
   ·have o:a<l.length:=by rw[D.o];exact aa
    have s:=D4 ((S.o.keeps h.o id).range a o);rw[Pa.Pn.aE]at s;have ah:Ap wr g (a*49) 49=.agg (Pa.pnAt l a).cells.toArray:=by unfold Ap;rw[s.1]
    have ag:Az wr g (a*49) 49=true:=s.2;have r:g<wr.heap.size:=kN ab h.o.size;clear s;have ak:(0:Int)<=(a:Int):=by omega
    have al:(a:Int)<(k:Int):=by omega
    have B:=Aa (Pa.pnAt_drop l a o)
    have Q:=Aa (R.o (Pa.pnAt l a) (by
         have:Pa.pnAt l a=l[a]:=by simp[Pa.pnAt,List.getD_eq_getElem?_getD,h9 o]
         rw[this];exact jk o))
    generalize Pa.pnAt l a=z at *
    clear o;have P:=Aa (λT X Z=>NK e c z T X Z O.o Q.o);obtain⟨lt,J⟩:∃lt,AW c z=lt:=⟨_,rfl⟩;have v:=Aa J;clear J;by_cases ae:lt<=t;all_goals
     have E:=Aa ae;go_wp2
     go_region_held3 (λj=>j.cell? ⟨m,0,none⟩=some (.func (.func 191) #[π e] #[])/\j.cell? ⟨m,1,none⟩=some (σ g k F) /\
        Ap j g (a*49) 49=.agg z.cells.toArray/\Az j g (a*49) 49=true/\j.cell? ⟨e,5,none⟩=some (ι c.aB)/\j.cell? ⟨e,9,none⟩=some (ι c.aM)) (first | (go_split_ands;exact⟨by assumption,by assumption,by assumption,by assumption,by assumption,by assumption⟩) | (go_split_ands;exact⟨i.cell (by assumption) id,i.cell (by assumption) id,(F6 i (by first | exact r | simpa using r)).1.trans (by assumption),(F6 i (by first | exact r | simpa using r)).2.trans (by assumption),i.cell (by assumption) id,i.cell (by assumption) id⟩))
      (first | (go_at_call 191;refine(P.o _ (by first | assumption | simpa using U) (by first | assumption | simpa using V)).mono ?_;rintro G af ⟨rfl,i⟩;rw[v.o]))
     have C:=Aa (((aA.refl (λ_=>False) wr).drew).then i);clear i
    ·go_wp2;go_roundw;case rel =>
      refine⟨a+1,by go_num,by omega,h.o.then C.o,?_⟩;show _=_;rw[u.o,B.o];unfold B7;rw[jE,ij (by simpa[v.o] using E.o)];simp;omega
     case measure=>simp[intOf];omega
    go_wp2;go_ret;refine⟨?_,h.o.then C.o⟩;rw[u.o,B.o];unfold B7;rw[jE,ig (by simpa[v.o] using E.o)];simp
   have ai:decide ((a:Int)<(k:Int))=false:=by simp;omega
   go_wp2;go_quiet (fail)
   go_wp2;go_ret;refine⟨?_,h.o.then (aA.drewN _ _ _)⟩;rw[u.o,iX (by rw[D.o];omega)];simp[B7]
