import Derived.Test.YtahnliehdjncdabGreatDoorXBB
import Derived.Test.YtahnliehdjncdabGreatDoorXBC
import Derived.Deep.Slices
import Derived.OpenShut
import Derived.ProofKit
import Derived.SizedLaws
import Derived.Test.YtahnliehdjncdabGreatDoorRows
import Derived.Laws.AppendOwnNone
import Derived.Test.YtahnliehdjncdabGreatDoorXAR
import Derived.Deep.DeepHandedRow
import Derived.Lib.LaidTab
import Derived.SevenTiedAt
import Derived.Test.YtahnliehdjncdabGreatDoorCards
import Derived.Test.YtahnliehdjncdabGreatDoorXAN
import Derived.Test.YtahnliehdjncdabGreatDoorTie
set_option maxRecDepth 100000
set_option maxHeartbeats 16000000
namespace Go.Proofs.YtahnliehdjncdabGreatDoor
section
open Go.RowKit
attribute [local go_sem ↓] qAd qAe
attribute [local go_sem] qAf qAl qAc qAb qAm qAn qAi qAj qAh qAk
theorem zJv(e:Nat)(v:Value)(clock:Int)(ps:List (SB×Ser))(o:OpM)(w:World)(h:ERep w e v clock ps)(hkind:o.kind=6)(hok:∀x,x∈ps.map (·.2)->SerOk x)(six:ps.length<=6)(c0:0<=clock)(c1:clock<=4611686018427387904):
  Calls Tryz.prog 23 #[.pointer (some ⟨e,0,none⟩),o.val] w λr w'=>qG9 w e v ps clock (ps.map (·.2)) 0 [] (qFp clock (ps.map (·.2))) r w':=by
 have h0:o.cells[0]?=some (.int .i64 o.kind):=rfl;have hn1:(o.kind==1)=false:=by simp[hkind]
 have hn2:(o.kind==2)=false:=by simp[hkind]
 have hn3:(o.kind==3)=false:=by simp[hkind]
 have hn4:(o.kind==4)=false:=by simp[hkind]
 have hn5:(o.kind==5)=false:=by simp[hkind]
 have hn6:(o.kind==6)=true:=by simp[hkind]
 have HE:=hide h;have HOK:=hide hok;clear h hkind hok;unfold OpM.val;go_enter Tryz.func23,Tryz.ntmps23
 go_wp2_with fail
 have hk0:Keeps (λ_=>False) w ((w.alloc (.cells o.cells.toArray 34)).alloc (.cells #[.int .i64 0,.slice none 0 0,.string ⟨#[]⟩] 38)):=((Keeps.refl (λ_=>False) w).alloc _).alloc _;have HR0:=hide (show Blk ((w.alloc (.cells o.cells.toArray 34)).alloc (.cells #[.int .i64 0,.slice none 0 0,.string ⟨#[]⟩] 38)) (w.heap.size+1) [.int .i64 0,.slice none 0 0,.string qAa] 38 from Blk.newAt (by simp) [_,_,_] 38);have HE0:=hide ((uh HE).still hk0);have HK0:=hide hk0;clear hk0;generalize(w.alloc (.cells o.cells.toArray 34)).alloc (.cells #[.int .i64 0,.slice none 0 0,.string ⟨#[]⟩] 38)=w0 at *;generalize hob:w.heap.size=ob at *;have HOB:=hide hob;clear hob;refine(qSc e v clock ps w0 (uh HE0) (uh HOK) six c0 c1).mono ?_;rintro r w1 ⟨rfl,hk1⟩;have HR1:=hide ((uh HR0).keeps hk1 (λh=>h));have HK1:=hide ((uh HK0).then hk1);clear hk1;obtain⟨bb,hbb⟩:∃bb,qFp clock (ps.map (·.2))=bb:=⟨_,rfl⟩;rw[hbb];have HBB:=hide hbb;clear hbb;have r0:w1.cell? ⟨ob+1,0,none⟩=some (.int .i64 0):=(uh HR1).cell rfl;have r1:w1.cell? ⟨ob+1,1,none⟩=some (.slice none 0 0):=(uh HR1).cell rfl;have r2:w1.cell? ⟨ob+1,2,none⟩=some (.string qAa):=(uh HR1).cell rfl;have rf:=(uh HR1).frozen;go_wp2
 have hbf:=(((uh HR1).setCell 0 (.int .i64 0)).setCell 1 (.slice none 0 0)).setCell 2 (.string bb);have HKF:=hide ((((Keeps.refl (λi=>i=ob+1) w1).setCell (p:=⟨ob+1,0,none⟩) (Or.inl rfl) (.int .i64 0)).setCell (p:=⟨ob+1,1,none⟩) (Or.inl rfl) (.slice none 0 0)).setCell (p:=⟨ob+1,2,none⟩) (Or.inl rfl) (.string bb));generalize(((w1.setCell ⟨ob+1,0,none⟩ (.int .i64 0)).setCell ⟨ob+1,1,none⟩ (.slice none 0 0)).setCell ⟨ob+1,2,none⟩ (.string bb))=w9 at *;have q0:w9.cell? ⟨ob+1,0,none⟩=some (.int .i64 0):=hbf.cell rfl;have q1:w9.cell? ⟨ob+1,1,none⟩=some (.slice none 0 0):=hbf.cell rfl;have q2:w9.cell? ⟨ob+1,2,none⟩=some (.string bb):=hbf.cell rfl;refine bodyPost_ret (v:=ansB 0 (.slice none 0 0) bb) (by simp[results,Tryz.results23,go_sem,q0,q1,q2,ansB]) rfl ?_;have hkf:=uh HKF;have hob:=uh HOB;have hkk:Keeps (λ_=>False) w w9:=(uh HK1).trans hkf (λi hi hlt=>by omega);exact⟨.slice none 0 0,v,ps,by rw[uh HBB],(uh HE).still hkk,rfl,World.ownsRow_nil _ _ _ _,hkk.mono (λ_ _ h=>h.elim),λi hi=>.inl hi,λi hi=>by cases hi⟩
end
section
open Go.RowKit
theorem zEu(n:Int)(e:Nat)(v:Value)(clock:Int)(ps:List (SB×Ser))(o:OpM)(w:World)(h:ERep w e v clock ps)(hi:EInv n clock (ps.map (·.2)))(hn:n<=4611686018427387904)(hT:Tab w)(hT0:¬EFoot e v ps 2)(h7:o.kind≠7)(h6:o.kind=6->∀x,x∈ps.map (·.2)->SerOk x):
  Calls Tryz.prog 23 #[.pointer (some ⟨e,0,none⟩),o.val] w λr w' =>
   qG9 w e v ps (qCk ⟨clock,ps.map (·.2)⟩ o).1.clock (qCk ⟨clock,ps.map (·.2)⟩ o).1.xs (qCk ⟨clock,ps.map (·.2)⟩ o).2.1 (qCk ⟨clock,ps.map (·.2)⟩ o).2.2 (qEo ⟨clock,ps.map (·.2)⟩ o) r w':=by
 by_cases h6':o.kind=6
 ·have hM:qCk ⟨clock,ps.map (·.2)⟩ o=(⟨clock,ps.map (·.2)⟩,0,[]):=by unfold qCk;rw[if_neg (by omega),if_neg (by omega),if_neg (by omega),if_neg (by omega),if_neg (by omega),if_pos h6']
  have hB:qEo ⟨clock,ps.map (·.2)⟩ o=qFp clock (ps.map (·.2)):=by unfold qEo qNs;rw[if_pos h6']
  rw[hM,hB];exact zJv e v clock ps o w h h6' (h6 h6') (by have:=hi.six;rw[List.length_map]at this;exact this) hi.c0 hi.c1
 have h67:o.kind≠6/\o.kind≠7:=⟨h6',h7⟩;have hby:qEo ⟨clock,ps.map (·.2)⟩ o=qAa:=by unfold qEo;rw[if_neg h67.1]
 rw[hby];have hfind:=qUe ps o.id
 by_cases h1:o.kind=1
 ·have hM:qCk ⟨clock,ps.map (·.2)⟩ o=qDj ⟨clock,ps.map (·.2)⟩ o:=by unfold qCk;rw[if_pos h1]
  rw[hM];refine(zJm e v clock ps o w h h1 _ _ _ _ (λw0 h0=>?_)).mono (λ_ _ h=>h.b);cases hid:inB o.id 0 99
  ·have:qDj ⟨clock,ps.map (·.2)⟩ o=(⟨clock,ps.map (·.2)⟩,2,[]):=by unfold qDj;rw[if_neg (by rw[hid];simp)]
   rw[this];exact qZn n e v clock ps o w0 h0 hi hid
  ·cases hf:qD9 ps o.id with
   | some p =>
    have:qDj ⟨clock,ps.map (·.2)⟩ o=(⟨clock,ps.map (·.2)⟩,2,[]):=by unfold qDj;rw[if_neg (by simp only;rw[hfind,hf];simp)]
    rw[this];exact qR0 n e v clock ps o w0 h0 hi hid p hf
   | none =>
    have hc:(inB o.id 0 99=true/\(qPr (⟨clock,ps.map (·.2)⟩:WS).xs o.id).isNone=true):=⟨hid,by simp only;rw[hfind,hf];rfl⟩;cases hv:qA5 o.cfg
    ·have:qDj ⟨clock,ps.map (·.2)⟩ o=(⟨clock,ps.map (·.2)⟩,3,[]):=by unfold qDj;rw[if_pos hc,if_neg (by rw[hv];simp)]
     rw[this];exact qQr n e v clock ps o w0 h0 hi hid hf hv
    ·by_cases h6:ps.length<6
     ·have:qDj ⟨clock,ps.map (·.2)⟩ o=(⟨clock,ps.map (·.2)++[qCe o.id o.cfg o.cfg.kind.toNat]⟩,0,[]):=by unfold qDj;rw[if_pos hc,if_pos hv,if_pos (by simpa using h6)]
      rw[this];exact qX7 n e v clock ps o w0 h0 hi hid hf hv h6
     ·have:qDj ⟨clock,ps.map (·.2)⟩ o=(⟨clock,ps.map (·.2)⟩,4,[]):=by unfold qDj;rw[if_pos hc,if_pos hv,if_neg (by simpa using h6)]
      rw[this];have h6':ps.length=6:=by have:=hi.six;rw[List.length_map]at this;omega
      exact qVf n e v clock ps o w0 h0 hi hid hf hv h6'
 by_cases h2:o.kind=2
 ·have hM:qCk ⟨clock,ps.map (·.2)⟩ o=qTg ⟨clock,ps.map (·.2)⟩ o:=by unfold qCk;rw[if_neg h1,if_pos h2]
  rw[hM];refine(zIm e v clock ps o w h h2 _ _ _ _ (λw0 h0=>?_)).mono (λ_ _ h=>h.b);cases hf:qD9 ps o.id with
  | none =>
   have:qTg ⟨clock,ps.map (·.2)⟩ o=(⟨clock,ps.map (·.2)⟩,2,[]):=by unfold qTg;simp only;rw[hfind,hf];rfl
   rw[this];exact zDh n e v clock ps o w0 h0 hi hf
  | some p =>
   by_cases hr:qIw p.2 clock o.item=0
   ·have:qTg ⟨clock,ps.map (·.2)⟩ o=(⟨clock,qNf (ps.map (·.2)) o.id (qTc p.2 o.item)⟩,0,[p.2.acc+1]):=by unfold qTg;simp only;rw[hfind,hf];simp only[Option.map_some];rw[if_pos hr]
    rw[this];exact zH2 n e v clock ps o w0 h0 hi p hf hr (by omega)
   ·have:qTg ⟨clock,ps.map (·.2)⟩ o=(⟨clock,qNf (ps.map (·.2)) o.id (qVe p.2 (qIw p.2 clock o.item).toNat)⟩,qIw p.2 clock o.item,[]):=by unfold qTg;simp only;rw[hfind,hf];simp only[Option.map_some];rw[if_neg hr]
    rw[this];have hrr:=qKn p.2 clock o.item;obtain⟨cd,hcd⟩:=Int.eq_ofNat_of_zero_le hrr.1;rw[hcd,Int.toNat_natCast];exact zI8 n e v clock ps o w0 h0 hi p cd hf hcd (by omega) (by omega)
 by_cases h3:o.kind=3
 ·have hM:qCk ⟨clock,ps.map (·.2)⟩ o=qJn ⟨clock,ps.map (·.2)⟩ o:=by unfold qCk;rw[if_neg h1,if_neg h2,if_pos h3]
  rw[hM];refine(zJz e v clock ps o w h h3 _ _ _ _ (λw0 h0 hk0=>?_)).mono (λ_ _ h=>h.b);cases ha:inB o.a 0 4611686018427387904
  ·have:qJn ⟨clock,ps.map (·.2)⟩ o=(⟨clock,ps.map (·.2)⟩,5,[]):=by unfold qJn;rw[if_neg (by rw[ha];simp)]
   rw[this];exact qZw n e v clock ps o w0 h0 hi ha
  ·cases hb:inB o.b 0 100
   ·have:qJn ⟨clock,ps.map (·.2)⟩ o=(⟨clock,ps.map (·.2)⟩,12,[]):=by unfold qJn;rw[if_pos ha,if_neg (by rw[hb];simp)]
    rw[this];exact qUq n e v clock ps o w0 h0 hi ha hb
   ·have:qJn ⟨clock,ps.map (·.2)⟩ o=(⟨qIf clock o.a,(qC8 (qIf clock o.a) o.b ((ps.map (·.2)).map (qDb (qIf clock o.a)))).1⟩,0,[(qC8 (qIf clock o.a) o.b ((ps.map (·.2)).map (qDb (qIf clock o.a)))).2]):=by unfold qJn;rw[if_pos ha,if_pos hb]
    rw[this];exact zEr n e v clock ps o w0 h0 hi ha hb hn (hT.keeps hk0 (λh=>h)) hT0
 by_cases h4:o.kind=4
 ·have hM:qCk ⟨clock,ps.map (·.2)⟩ o=qHh ⟨clock,ps.map (·.2)⟩ o:=by unfold qCk;rw[if_neg h1,if_neg h2,if_neg h3,if_pos h4]
  rw[hM];refine(zJe e v clock ps o w h h4 _ _ _ _ (λw0 h0=>?_)).mono (λ_ _ h=>h.b);cases hf:qD9 ps o.id with
  | none =>
   have:qHh ⟨clock,ps.map (·.2)⟩ o=(⟨clock,ps.map (·.2)⟩,2,[]):=by unfold qHh;simp only;rw[hfind,hf];rfl
   rw[this];exact qYv n e v clock ps o w0 h0 hi hf
  | some p =>
   have:qHh ⟨clock,ps.map (·.2)⟩ o=(⟨clock,ps.map (·.2)⟩,qKt p.2.k p.2.c p.2.nt o.a (clock-p.2.c.lag)):=by unfold qHh;simp only;rw[hfind,hf];rfl
   rw[this];exact qXi n e v clock ps o w0 h0 hi hn p hf
 by_cases h5:o.kind=5
 ·have hM:qCk ⟨clock,ps.map (·.2)⟩ o=qHk ⟨clock,ps.map (·.2)⟩ o:=by unfold qCk;rw[if_neg h1,if_neg h2,if_neg h3,if_neg h4,if_pos h5]
  rw[hM];refine(zIi e v clock ps o w h h5 _ _ _ _ (λw0 h0=>?_)).mono (λ_ _ h=>h.b);cases hf:qD9 ps o.id with
  | none =>
   have:qHk ⟨clock,ps.map (·.2)⟩ o=(⟨clock,ps.map (·.2)⟩,2,[]):=by unfold qHk;simp only;rw[hfind,hf];rfl
   rw[this];exact zE8 n e v clock ps o w0 h0 hi hf
  | some p =>
   have:qHk ⟨clock,ps.map (·.2)⟩ o=(⟨clock,ps.map (·.2)⟩,0,qCu p.2):=by unfold qHk;simp only;rw[hfind,hf];rfl
   rw[this];exact zB1 n e v clock ps o w0 h0 hi p hf
 have hM:qCk ⟨clock,ps.map (·.2)⟩ o=(⟨clock,ps.map (·.2)⟩,1,[]):=by unfold qCk;rw[if_neg h1,if_neg h2,if_neg h3,if_neg h4,if_neg h5,if_neg h67.1,if_neg h67.2]
 rw[hM];exact(zGs e v clock ps o w h (by omega)).mono (λ_ _ h=>h.b)
def c0: Cfg:=⟨4,0,9,8,0,0,0,0,0,0,0,0,0,0,0,0,0,0,0,0⟩
def cz: Cfg:=⟨0,0,0,0,0,0,0,0,0,0,0,0,0,0,0,0,0,0,0,0⟩
def o1: OpM:=⟨1,7,0,0,0,c0,qAa⟩
def o2: OpM:=⟨2,7,3,0,0,cz,qAa⟩
def o3: OpM:=⟨3,0,5,0,0,cz,qAa⟩
def o4: OpM:=⟨2,7,5,0,0,cz,qAa⟩
def o5: OpM:=⟨4,7,0,0,0,cz,qAa⟩
def zA5: List OpM:=[o1,o2,o3,o4,o5]
def qF5: List Value:=o1.cells++(o2.cells++(o3.cells++(o4.cells++o5.cells)))
theorem zDj: qM7 ws0 zA5=[(0,[]),(0,[1]),(0,[0]),(6,[]),(0,[0,1,1])]:=by kernel_rfl
theorem qZ3(w:World): (qCv 32 #[(0,.int .i64 4),(2,.int .i64 9),(3,.int .i64 8)]).run Tryz.prog w=.ok (.value (.agg c0.cells.toArray)) w:=by kernel_rfl
theorem zFe(w:World): (qCv 34 #[(0,.int .i64 1),(1,.int .i64 7),(5,.agg c0.cells.toArray)]).run Tryz.prog w=.ok (.value (.agg o1.cells.toArray)) w:=by kernel_rfl
theorem zJs(w:World): (qCv 34 #[(0,.int .i64 2),(1,.int .i64 7),(2,.int .i64 3)]).run Tryz.prog w=.ok (.value (.agg o2.cells.toArray)) w:=by kernel_rfl
theorem zIt(w:World): (qCv 34 #[(0,.int .i64 3),(2,.int .i64 5)]).run Tryz.prog w=.ok (.value (.agg o3.cells.toArray)) w:=by kernel_rfl
theorem zJu(w:World): (qCv 34 #[(0,.int .i64 2),(1,.int .i64 7),(2,.int .i64 5)]).run Tryz.prog w=.ok (.value (.agg o4.cells.toArray)) w:=by kernel_rfl
theorem zFi(w:World): (qCv 34 #[(0,.int .i64 4),(1,.int .i64 7)]).run Tryz.prog w=.ok (.value (.agg o5.cells.toArray)) w:=by kernel_rfl
theorem qIj(ρ:Operand->Value)(dst:Option Tmp)(x:Array (Nat×Operand))(ty:TypeId)(pos:String)(after:Array Edge)(guard:Option (Nat×Bool)):
  execOp ρ { dst,op:=.build 32 x,type:=ty,pos,after,guard }=qCv 32 (x.map λ(i,y)=>(i,ρ y)):=rfl
theorem qFw(ρ:Operand->Value)(dst:Option Tmp)(x:Array (Nat×Operand))(ty:TypeId)(pos:String)(after:Array Edge)(guard:Option (Nat×Bool)):
  execOp ρ { dst,op:=.build 34 x,type:=ty,pos,after,guard }=qCv 34 (x.map λ(i,y)=>(i,ρ y)):=rfl
def qYl(ty:TypeId)(n:Nat)(ps:Array (Nat×Value)): Sem Next:=do pure (.value (<-Instr.buildSlice ty n ps))
theorem qGw(ρ:Operand->Value)(dst:Option Tmp)(n:Nat)(x:Array (Nat×Operand))(ty:TypeId)(pos:String)(after:Array Edge)(guard:Option (Nat×Bool)):
  execOp ρ { dst,op:=.buildSlice 22 n x,type:=ty,pos,after,guard }=qYl 22 n (x.map λ(i,y)=>(i,ρ y)):=rfl
theorem zJj(w:World): (qYl 22 5 #[(0,.agg o1.cells.toArray),(1,.agg o2.cells.toArray),(2,.agg o3.cells.toArray),(3,.agg o4.cells.toArray),(4,.agg o5.cells.toArray)]).run Tryz.prog w =
  .ok (.value (.slice (some ⟨w.heap.size,0,none⟩) 5 5)) (w.alloc (.cells qF5.toArray 34)):=by kernel_rfl
theorem qCs(ρ:Operand->Value)(dst:Option Tmp)(x y:Operand)(ty:TypeId)(pos:String)(after:Array Edge)(guard:Option (Nat×Bool)):
  execOp ρ { dst,op:=.store 32 x y,type:=ty,pos,after,guard }=qDr 32 (ρ x) (ρ y):=rfl
theorem qM3(w:World)(zs:List Value)(cs:List Value)(hz:zs.length=20)(hc:cs.length=20)(h1:cs.toArray.all (·.oneCell')=true):
  (qDr 32 (.pointer (some ⟨w.heap.size,0,none⟩)) (.agg cs.toArray)).run Tryz.prog (w.alloc (.cells zs.toArray 32))=.ok .skip (w.alloc (.cells cs.toArray 32)):=by
 unfold qDr;have ht:(w.alloc (.cells zs.toArray 32)).there w.heap.size 0 cs.toArray.size:=by
  intro j hj;have hj':j<20:=by simpa[hc] using hj
  rw[Nat.zero_add,World.cell?_alloc_new,World.frozen?_alloc_new];simp[hz,hj']
 rw[Sem.run_bind,run_storeAt_mid _ w.heap.size 0 32 cs.toArray ht (by rw[qOk];simp[hc]) h1];have h2:=qEs cs [] zs (by omega);simp only[List.nil_append,List.length_nil]at h2;rw[qG5,List.toList_toArray,h2];rfl
theorem zHl(w:World)(b:Nat)(h:Blk w b qF5 34): ScriptAt w b 0 zA5:=by
 intro i o ho;have hi:i<5:=(List.getElem?_eq_some_iff.1 ho).1;have hi':i=0\/i=1\/i=2\/i=3\/i=4:=by omega
 have hr:∀(off:Nat) (cs:List Value),(qF5.drop off).take 26=cs->w.rangeAt b off cs:=by
  intro off cs hcs j v hv;rw[<-hcs,List.getElem?_take]at hv
  split at hv
  ·exact h.cell (by simpa using hv)
  ·cases hv
 rcases hi' with h' | h' | h' | h' | h'
 all_goals
  subst h';injection ho with ho;subst ho
 ·exact hr 0 _ rfl
 ·exact hr 26 _ rfl
 ·exact hr 52 _ rfl
 ·exact hr 78 _ rfl
 ·exact hr 104 _ rfl
theorem Dr.swapL_all{P:Dr.It->Prop}(h0:P ⟨0,0,0,0,0⟩){l:List Dr.It}(h:∀y,y∈l->P y)(i j:Nat): ∀y,y∈Dr.swapL l i j->P y:=by
 have hat:∀i,P (Dr.itAt l i):=by
  intro i;unfold Dr.itAt;rw[List.getD_eq_getElem?_getD];cases hi:l[i]? with
  | none=>exact h0
  | some v=>exact h v (List.mem_of_getElem? hi)
 intro y hy;unfold Dr.swapL at hy;rcases List.mem_or_eq_of_mem_set hy with hy | hy
 ·rcases List.mem_or_eq_of_mem_set hy with hy | hy
  ·exact h y hy
  ·subst hy;exact hat j
 ·subst hy;exact hat i
theorem Dr.itAt_all{P:Dr.It->Prop}(h0:P ⟨0,0,0,0,0⟩){l:List Dr.It}(h:∀y,y∈l->P y)(i:Nat): P (Dr.itAt l i):=by
 unfold Dr.itAt;rw[List.getD_eq_getElem?_getD];cases hi:l[i]? with
 | none=>exact h0
 | some v=>exact h v (List.mem_of_getElem? hi)
theorem Dr.riseL_all{P:Dr.It->Prop}(h0:P ⟨0,0,0,0,0⟩)(f:Nat)(l:List Dr.It)(i:Nat)(h:∀y,y∈l->P y): ∀y,y∈Dr.riseL f l i->P y:=by
 induction f generalizing l i with
 | zero=>exact h
 | succ f ih =>
  unfold Dr.riseL
  split
  ·exact h
  ·split
   ·exact ih _ _ (Dr.swapL_all h0 h _ _)
   ·exact h
theorem Dr.sinkL_all{P:Dr.It->Prop}(h0:P ⟨0,0,0,0,0⟩)(f:Nat)(l:List Dr.It)(i:Nat)(h:∀y,y∈l->P y): ∀y,y∈Dr.sinkL f l i->P y:=by
 induction f generalizing l i with
 | zero=>exact h
 | succ f ih =>
  unfold Dr.sinkL
  split
  ·exact h
  ·split
   ·exact ih _ _ (Dr.swapL_all h0 h _ _)
   ·exact h
theorem Dr.takeL_all{P:Dr.It->Prop}(h0:P ⟨0,0,0,0,0⟩)(l:List Dr.It)(h:∀y,y∈l->P y): ∀y,y∈Dr.takeL l->P y:=by
 unfold Dr.takeL;refine Dr.sinkL_all h0 _ _ _ (λy hy=>?_);have hy:=List.mem_of_mem_take hy;rcases List.mem_or_eq_of_mem_set hy with hy | hy
 ·exact h y hy
 ·subst hy;exact Dr.itAt_all h0 h _
theorem Dr.allL_all{P:Dr.It->Prop}(h0:P ⟨0,0,0,0,0⟩): ∀(f:Nat) (l:List Dr.It),(∀y,y∈l->P y)->∀y,y∈Dr.allL f l->P y
 | 0,_,_=>λy hy=>by simp[Dr.allL]at hy
 | f+1,l,h=>λy hy=>by
  unfold Dr.allL at hy
  split at hy
  ·cases hy
  ·rcases List.mem_cons.1 hy with e | e
   ·rw[e];exact Dr.itAt_all h0 h 0
   ·exact Dr.allL_all h0 f _ (Dr.takeL_all h0 l h) y e
theorem Qi.allL_all{P:It->Prop}(h0:P ⟨0,0,0,0⟩): ∀(f:Nat) (l:List It),(∀y,y∈l->P y)->∀y,y∈Qi.allL f l->P y
 | 0,_,_=>λy hy=>by simp[Qi.allL]at hy
 | f+1,l,h=>λy hy=>by
  unfold Qi.allL at hy
  split at hy
  ·cases hy
  ·rcases List.mem_cons.1 hy with e | e
   ·rw[e];exact itAt_all h0 h 0
   ·exact Qi.allL_all h0 f _ (takeL_all h0 l h) y e
def qY7(z:Dr.It): Prop:=(0<=z.t/\z.t<=4611686018427387904)/\(0<=z.k/\z.k<=4611686018427387904)/\(0<=z.d/\z.d<=4611686018427387904)/\(0<=z.n/\z.n<=4611686018427387904)
structure NX (k:Nat) (nt:Note):Prop where
 bt:∀b∈nt.bs,0<=b.t/\b.t<=4611686018427387904
 rt:∀i,∀b∈nt.rg i,0<=b.sz/\b.sz<=4611686018427387904
 rf:∀i,Fall (nt.rg i)
 tt:k=5->∀z∈nt.tk,qY7 z
theorem qZg{P:Int->Prop}(h0:P 0)(K:Int)(f:Nat)(l:List Bk)(sz:Int)(e:Nat)(h:∀b∈l,P b.t): ∀b∈joinL K f l sz e,P b.t:=by
 induction f generalizing l sz e with
 | zero=>exact h
 | succ f ih =>
  unfold joinL
  split
  ·exact h
  ·refine ih _ _ _ (qKo (P:=λb=>P b.t) l _ _ h ?_)
   show P (qCf l _).t;unfold qCf;rw[List.getD_eq_getElem?_getD];cases hi:l[qCg l sz e+1]? with
   | none=>exact h0
   | some b=>exact h b (List.mem_of_getElem? hi)
theorem zA8{k:Nat}{c:Cfg}{nt:Note}(h:NX k nt)(y:It)(m:Int)(t0:0<=y.t)(t1:y.t<=4611686018427387904)(hy:k=5->(0<=y.k/\y.k<=4611686018427387904)/\(0<=y.d/\y.d<=4611686018427387904)/\(0<=y.n/\y.n<=4611686018427387904)): NX k (qWf k c nt y m):=by
 unfold qWf
 split
 ·exact⟨h.bt,h.rt,h.rf,h.tt⟩
 ·split
  ·refine⟨?_,h.rt,h.rf,h.tt⟩
   refine qZg (P:=λt=>0<=t/\t<=4611686018427387904) (by omega) _ _ _ _ _ (λb hb=>?_);unfold qTd at hb;rcases List.mem_append.1 hb with hb | hb
   ·exact h.bt b (List.mem_of_mem_drop hb)
   ·rw[List.mem_singleton]at hb;rw[hb];exact⟨t0,t1⟩
  ·split
   ·refine⟨h.bt,λi b hb=>?_,λi=>?_,h.tt⟩
    ·have hb':b∈qNx c (qFx c) nt.rg y m i:=hb
     unfold qNx at hb'
     split at hb'
     ·rcases qMd hb' with hb' | hb'
      ·exact h.rt i b (List.mem_of_mem_drop hb')
      ·rw[hb'];exact⟨t0,t1⟩
     ·exact h.rt i b hb'
    ·show Fall (qNx c (qFx c) nt.rg y m i)
     unfold qNx
     split
     ·exact qOw _ ((h.rf i).drop _)
     ·exact h.rf i
   ·split
    ·exact⟨h.bt,h.rt,h.rf,h.tt⟩
    ·split
     ·rename_i h5
      refine⟨h.bt,h.rt,h.rf,λ_=>?_⟩;have hz:qY7 ⟨0,0,0,0,0⟩:=⟨⟨by simp,by simp⟩,⟨by simp,by simp⟩,⟨by simp,by simp⟩,⟨by simp,by simp⟩⟩
      have h1:∀z,z∈Dr.riseL (nt.tk.length+1) (nt.tk++[tick c y]) nt.tk.length->qY7 z:=Dr.riseL_all hz _ _ _ (λz hz'=>by
         rcases List.mem_append.1 hz' with hz' | hz'
         ·exact h.tt h5 z hz'
         ·rw[List.mem_singleton]at hz';rw[hz'];exact⟨⟨t0,t1⟩,hy h5⟩)
      show ∀z∈qG1 c nt.tk y,qY7 z;unfold qG1
      split
      ·exact Dr.takeL_all hz _ h1
      ·exact h1
     ·exact h
structure SX (x:Ser):Prop where
 id0:0<=x.id/\x.id<=99
 accm:x.acc<=4611686018427387904
 nums:∀y,y∈x.l->0<=y.n/\y.n<=4611686018427387904
 refm:∀v,v∈x.ref->v<=4611686018427387904
 note:NX x.k x.nt
theorem qH5{c:Cfg}{k:Nat}{y:It}(h:qCy c k y=0)(hk:k=5): (0<=y.k/\y.k<=4611686018427387904)/\(0<=y.d/\y.d<=4611686018427387904):=by
 subst hk;have h2:qJg c y=0:=h;unfold qJg at h2
 split at h2
 ·split at h2
  ·rename_i h3
   split at h2
   ·rename_i h4
    have a:=qCq h3;have b:=qCq h4;omega
   ·omega
  ·omega
 ·omega
theorem zBw{n:Int}{x:Ser}(h:SX x)(hi:SInv n x)(hl:x.l≠[])(m:Int): SX (qFu x m):=by
 have hmem:=qGl hl;have ht:=hi.times _ hmem;refine⟨h.id0,h.accm,λy hy=>h.nums y (qJr hi.heap hl hy),h.refm,?_⟩
 exact zA8 h.note _ _ ht.1 ht.2 (λe=>by
    have hk:=qH5 (hi.fits _ hmem) e
    exact⟨hk.1,hk.2,h.nums _ hmem⟩)
theorem zH5(f:Nat){n:Int}{x:Ser}(h:SX x)(hi:SInv n x)(m:Int): SX (qGz f x m):=by
 induction f generalizing x with
 | zero=>exact h
 | succ f ih =>
  unfold qGz
  split
  ·exact h
  ·rename_i he
   have hl:x.l≠[]:=by simpa using he
   split
   ·exact h
   ·rename_i hm
    exact ih (zBw h hi hl m) (qHz hi hl m hm)
theorem zH4{x:Ser}(clock b:Int)(h:SX x): SX (zCn clock b x):=by
 refine⟨h.id0,h.accm,h.nums,h.refm,?_⟩;show NX x.k (qP8 x.k x.c x.nt (clock-x.c.lag) b).1;unfold qP8
 split
 ·exact⟨λz hz=>h.note.bt z (List.mem_of_mem_drop hz),h.note.rt,h.note.rf,h.note.tt⟩
 ·exact h.note
theorem zHy{n:Int}{x:Ser}(h:SX x)(hi:SInv n x)(y:It)(ha:x.acc<4611686018427387904): SX (qTc x y):=by
 have h0:=hi.acc0;have hp:=put_heap x.l (numbered y (x.acc+1)) hi.heap;refine⟨h.id0,by show x.acc+1<=_;omega,λz hz=>?_,h.refm,h.note⟩;rcases List.mem_cons.1 (hp.2.subset hz) with e | e
 ·rw[e];show 0<=x.acc+1/\x.acc+1<=_;omega
 ·exact h.nums z e
theorem zHp{x:Ser}(h:SX x)(c:Nat): SX (qVe x c):=by
 refine⟨h.id0,h.accm,h.nums,λv hv=>?_,h.note⟩;rcases List.mem_or_eq_of_mem_set hv with hv | hv
 ·exact h.refm v hv
 ·rw[hv];unfold zGy;split <;> omega
theorem qZs(id:Int)(c:Cfg)(k:Nat)(h:0<=id/\id<=99): SX (qCe id c k):=by
 refine⟨h,by show(0:Int)<=_;omega,λy hy=>(by cases hy),λv hv=>?_,⟨λb hb=>(by cases hb),λi b hb=>(by cases hb),λi=>List.Pairwise.nil,λ_ z hz=>(by cases hz)⟩⟩;have:v=0:=by simpa[qCe] using hv
 omega
def EX(s:WS): Prop:=∀x,x∈s.xs->SX x
def LoadX(o:OpM): Prop:=o.kind=7->∀s',zGp o.bytes=some s'->EX s'
theorem qWs{n:Int}{s:WS}(o:OpM)(h:EX s)(hi:EInv n s.clock s.xs)(hL:LoadX o): EX (qCk s o).1:=by
 unfold qCk
 split
 ·unfold qDj
  split
  ·rename_i hc
   split
   ·split
    ·intro x hx
     rcases List.mem_append.1 hx with hx | hx
     ·exact h x hx
     ·rw[List.mem_singleton]at hx;rw[hx];exact qZs _ _ _ (qCq hc.1)
    ·exact h
   ·exact h
  ·exact h
 ·split
  ·unfold qTg
   split
   ·exact h
   ·rename_i x hf
    have hx:x∈s.xs:=List.mem_of_find?_eq_some hf
    split
    ·rename_i hr
     obtain⟨_,_,_,_,_,_,ha⟩:=qJo hr;intro z hz;rcases qFr hz with hz | hz
     ·exact h z hz
     ·rw[hz];exact zHy (h x hx) (hi.sers x hx) _ ha
    ·intro z hz
     rcases qFr hz with hz | hz
     ·exact h z hz
     ·rw[hz];exact zHp (h x hx) _
  ·split
   ·unfold qJn
    split
    ·split
     ·refine qH8 (P:=SX) _ (λb x hx=>zH4 _ b hx) _ _ (λz hz=>?_)
      obtain⟨x,hx,rfl⟩:=List.mem_map.1 hz;exact zH5 _ (h x hx) (hi.sers x hx) _
     ·exact h
    ·exact h
   ·split
    ·unfold qHh
     split <;> exact h
    ·split
     ·unfold qHk
      split <;> exact h
     ·split
      ·exact h
      ·split
       ·rename_i h7
        unfold zEx
        split
        ·exact h
        ·rename_i s' hs'
         exact hL h7 s' hs'
       ·exact h
theorem qXf{c:Cfg}{k:Nat}(hv:qA5 c=true)(hk:c.kind=k)(k1:1<=k)(k5:k<=5): (∀n,n∈qBt k c->0<=n/\n<=9223372036854775807)/\0<=qA1 k c/\qA1 k c<=3:=by
 have hcm:0<=c.lag/\c.lag<=100/\0<=c.skew/\c.skew<=100/\1<=c.cap/\c.cap<=8:=by
  have:=hv;simp only[qA5,qDm,inB,Bool.and_eq_true,decide_eq_true_eq]at this;omega
 have hkn:c.kind.toNat=k:=by omega
 have hfit:qFn c k=true:=by
  have:=hv;simp only[qA5,Bool.and_eq_true]at this;rw[<-hkn];exact this.2.2
 rcases five k1 k5 with e | e | e | e | e <;> subst e
 ·obtain⟨a1,a2,a3,a4⟩:=qBy hv hk rfl
  refine⟨λn hn=>?_,by simp[qA1],by simp[qA1]⟩;simp[qBt,qBz,qA1,qBq,Cfg.num,Cfg.nums]at hn;omega
 ·obtain⟨⟨p1,p2,p3,p4⟩,a2,a3,a4,a5⟩:=qCa hv hk rfl
  refine⟨λn hn=>?_,by simp[qA1],by simp[qA1]⟩;simp[qBt,qBz,qA1,qBq,Cfg.num,Cfg.nums,List.range_succ]at hn;omega
 ·obtain⟨hp,hr,_⟩:=qBr hv hk rfl
  obtain⟨r0,r1,w0,w1,sd⟩:=hr;have q0:=hp.w0;have q1:=hp.w1;have q2:=hp.p0;have q3:=hp.p1
  refine⟨λn hn=>?_,by simp[qA1];omega,by simp[qA1];omega⟩;have hr3:c.rows=1\/c.rows=2\/c.rows=3:=by omega
  rcases hr3 with e | e | e
  ·have s0:=sd 0 (by omega)
   simp[qBt,qBz,qA1,qBq,Cfg.num,Cfg.nums,e,List.range_succ]at hn;simp[sdA,sdB]at s0;omega
  ·have s0:=sd 0 (by omega)
   have s1:=sd 1 (by omega);simp[qBt,qBz,qA1,qBq,Cfg.num,Cfg.nums,e,List.range_succ]at hn;simp[sdA,sdB]at s0 s1;omega
  ·have s0:=sd 0 (by omega)
   have s1:=sd 1 (by omega);have s2:=sd 2 (by omega);simp[qBt,qBz,qA1,qBq,Cfg.num,Cfg.nums,e,List.range_succ]at hn;simp[sdA,sdB]at s0 s1 s2;omega
 ·have hd:qIm c=true:=hfit
  simp only[qIm,inB,Bool.and_eq_true,decide_eq_true_eq]at hd;refine⟨λn hn=>?_,by simp[qA1],by simp[qA1]⟩;simp[qBt,qBz,qA1,qBq,Cfg.num,Cfg.nums]at hn;omega
 ·have hd:qKy c=true:=hfit
  simp only[qKy,qIm,inB,Bool.and_eq_true,decide_eq_true_eq]at hd;refine⟨λn hn=>?_,by simp[qA1],by simp[qA1]⟩;simp[qBt,qBz,qA1,qBq,Cfg.num,Cfg.nums]at hn;omega
theorem qPz{n:Int}{x:Ser}(h:SX x)(hi:SInv n x)(hn:x.rel<=4611686018427387904): SerOk x:=by
 obtain⟨a1,a2,a3⟩:=qXf hi.valid hi.kind hi.k1 hi.k5;have hcm:=hi.common;have hcap:=hi.cap;have hlen:x.l.length<=8:=by omega
 have hni:=hi.note;have hr0:=hi.rel0;have hfew:=hni.few hn;refine⟨by have:=h.id0;omega,a1,a2,a3,hi.reflen,λv hv=>by have h1:=hi.refn v hv;have h2:=h.refm v hv;omega,by omega,hlen,?_,?_,hi.valid,hi.kind,hi.k1,hi.k5⟩
 ·intro m hm
  unfold qG2 at hm;obtain⟨y,hy,hmy⟩:=List.mem_flatMap.1 hm
  have hP:=Qi.allL_all (P:=λy=>(0<=y.n/\y.n<=4611686018427387904)/\(0<=y.t/\y.t<=4611686018427387904)/\(x.k=2\/x.k=3\/x.k=5->0<=y.k/\y.k<=4611686018427387904)/\(x.k=5->0<=y.d/\y.d<=4611686018427387904)) (by simp) (x.l.length+1) x.l (λy hy=>⟨h.nums y hy,hi.times y hy,λhk=>by
       rcases hk with e | e | e
       ·have:=qLv (hi.fits y hy) (.inl e);omega
       ·have:=qLv (hi.fits y hy) (.inr e);omega
       ·exact(qH5 (hi.fits y hy) e).1,λe=>(qH5 (hi.fits y hy) e).2⟩) y hy
  obtain⟨p1,p2,p3,p4⟩:=hP;unfold qKe at hmy;rcases List.mem_cons.1 hmy with e | e
  ·rw[e];omega
  ·obtain⟨j,hj,rfl⟩:=List.mem_map.1 e
   have hk1:=hi.k1;have hk5:=hi.k5
   have hj':j=0\/(j=1/\(x.k=2\/x.k=3\/x.k=5))\/(j=2/\x.k=5):=by
    have hk:x.k=1\/x.k=2\/x.k=3\/x.k=4\/x.k=5:=by omega
    rcases hk with e | e | e | e | e <;> rw[e]at hj <;> simp[qB9]at hj <;> omega
   rcases hj' with e | ⟨e,hk⟩ | ⟨e,hk⟩
   ·subst e;show 0<=y.t/\y.t<=_;omega
   ·subst e;have:=p3 hk;show 0<=y.k/\y.k<=_;omega
   ·subst e;have:=p4 hk;show 0<=y.d/\y.d<=_;omega
 ·refine⟨by have:=hni.q0;have:=hni.qn;omega,by have:=hni.r0;have:=hni.r1;omega,by omega,λb hb=>⟨hni.one b hb,hfew.2 b hb⟩,λb hb=>by have:=h.note.bt b hb;omega,λi=>?_,λi b hb=>by have h1:=h.note.rt i b hb;have h2:=hni.rk i b hb;omega,λe=>?_,λe=>?_,λe m hm=>?_⟩
  ·have:=qGi (x.nt.rg i) 40 (h.note.rf i) (hni.rk i)
   omega
  ·obtain⟨b1,b2,b3,b4,b5⟩:=qBr hi.valid hi.kind e
   have ho:=hni.oi e;have hcl:x.nt.cl.length<=8:=by have:=ho.len;have:=b1.p1;omega
   exact⟨by omega,ho.okC hi.lastn b3 b4,ho.okO hi.lastn b3 b4,λz hz=>by have:=ho.cel.1 z hz;omega,λp hp z hz=>by have:=ho.cel.2 p hp z hz;omega⟩
  ·have h1:=hni.tl e
   have h2:=(qC4 hi.valid hi.kind e).2;omega
  ·unfold qLg at hm
   obtain⟨z,hz,hmz⟩:=List.mem_flatMap.1 hm;have hP:qY7 z:=Dr.allL_all (P:=qY7) ⟨⟨by simp,by simp⟩,⟨by simp,by simp⟩,⟨by simp,by simp⟩,⟨by simp,by simp⟩⟩ _ _ (h.note.tt e) z hz;obtain⟨z1,z2,z3,z4⟩:=hP;simp at hmz;rcases hmz with e | e | e | e <;> rw[e] <;> omega
end
section
open Go.RowKit
attribute [local go_sem ↓] qAd qAe qCs qIj qFw qGw
attribute [local go_sem] qAf qAl qAc qAb qAm qAn qAi qAj qZ3 zFe zJs zIt zJu zFi zJj
def qL3(ops:List OpM): Prop:=∀o,o∈ops->o.kind≠7
def zAn: Prop:=∀(sb so cap:Nat) (ops:List OpM) (w:World),ScriptAt w sb so ops->sb<w.heap.size->ops.length<=651562446090->Tab w->qL3 ops ->
  Calls Tryz.prog 11 #[.slice (some ⟨sb,so,none⟩) ops.length cap] w λr w'=>∃v l,r=.returned v/\ARep w' w.heap.size v l/\l.map (λx=>(x.code,x.nums))=qM7 ws0 ops/\l.map (·.bs)=qQ4 ws0 ops/\Keeps (λ_=>False) w w'
theorem zF9: qL3 zA5:=by
 intro o ho;simp[zA5,o1,o2,o3,o4,o5]at ho;rcases ho with h | h | h | h | h <;> subst h <;> simp
theorem qPg{w:World}{base:Nat}{v:Value}{l:List Ans}(h:ARep w base v l)(hl:l≠[]): ∃g cap,v=.slice (some ⟨g,0,none⟩) l.length cap/\∀i u,(qEt l)[i]?=some u->w.cell? ⟨g,i,none⟩=some u:=by
 rcases h.row.2 with ⟨_,h2⟩ | ⟨g,cap,cur,h1,_,h3,h4,h5,h6,h7⟩
 ·exact absurd (List.length_eq_zero_iff.1 h2) hl
 ·refine⟨g,cap,h1,λi u hu=>?_⟩
  have hi:i<l.length*3:=by have:=(List.getElem?_eq_some_iff.1 hu).1;have:=h.row.1;omega
  have:cur[i]?=some u:=by
   rw[<-h7,List.getElem?_take,if_pos hi]at hu;simpa using hu
  simp[World.cell?,h3,this]
theorem zBf{α:Type _}(l:List α)(h:l.length=5): ∃a b c d e,l=[a,b,c,d,e]:=by
 cases l with
 | nil=>cases h
 | cons a l =>
  cases l with
  | nil=>cases h
  | cons b l =>
   cases l with
   | nil=>cases h
   | cons c l =>
    cases l with
    | nil=>cases h
    | cons d l =>
     cases l with
     | nil=>cases h
     | cons e l =>
      cases l with
      | nil=>exact⟨a,b,c,d,e,rfl⟩
      | cons f l=>simp at h
theorem awake_of(HR:zAn)(w:World)(hT:Tab w): Calls Tryz.prog 7 #[] w λe w'=>e=.returned (.bool true)/\Keeps (λ_=>False) w w':=by
 have hst:∀zs:List Value,zs.length=20->(qDr 32 (.pointer (some ⟨w.heap.size,0,none⟩)) (.agg c0.cells.toArray)).run Tryz.prog (w.alloc (.cells zs.toArray 32))=.ok .skip (w.alloc (.cells c0.cells.toArray 32)):=λzs hz=>qM3 w zs c0.cells hz rfl (by simp[Cfg.cells,Value.oneCell'])
 have hv1:qAu (w.alloc (.cells c0.cells.toArray 32)) w.heap.size 0 20=.agg c0.cells.toArray:=qAh w c0.cells 32 20 rfl;have hh1:qA2 (w.alloc (.cells c0.cells.toArray 32)) w.heap.size 0 20=true:=qDq w c0.cells 32 20 rfl;have HK0:=hide (((Keeps.refl (λ_=>False) w).alloc (.cells c0.cells.toArray 32)).alloc (.cells qF5.toArray 34));have HB0:=hide (show Blk ((w.alloc (.cells c0.cells.toArray 32)).alloc (.cells qF5.toArray 34)) (w.heap.size+1) qF5 34 from Blk.newAt (by simp) _ _);have HTT:=hide hT;have HRA:=hide HR;clear hT HR;go_enter Tryz.func7,Tryz.ntmps7
 go_wp2_with fail
 refine(uh HRA (w.heap.size+1) 0 5 zA5 _ (zHl _ _ (uh HB0)) (uh HB0).lt (by decide) ((uh HTT).keeps (uh HK0) (λh=>h)) zF9).mono ?_;rintro r w1 ⟨v,l,rfl,hA,hM,_,hk1⟩;rw[zDj]at hM;obtain⟨x0,x1,x2,x3,x4,hl5⟩:=zBf l (by have:=congrArg List.length hM;simpa using this);subst hl5;simp only[List.map_cons,List.map_nil,List.cons.injEq,Prod.mk.injEq,and_true]at hM;obtain⟨⟨k0,m0⟩,⟨k1,m1⟩,⟨k2,m2⟩,⟨k3,m3⟩,k4,m4⟩:=hM;obtain⟨g,cap,hv,hc⟩:=qPg hA (by simp);have n1:=hA.nums x1 (by simp);have n4:=hA.nums x4 (by simp);rw[m1]at n1;rw[m4]at n4;rcases qHf n1 with ⟨h,_⟩ | ⟨g1,cp1,hv1',hn1⟩
 ·cases h
 rcases qHf n4 with ⟨h,_⟩ | ⟨g4,cp4,hv4',hn4⟩
 ·cases h
 have y0:w1.cell? ⟨g,0,none⟩=some (.int .i64 0):=(hc 0 _ rfl).trans (by rw[k0]);have y1:w1.cell? ⟨g,3,none⟩=some (.int .i64 0):=(hc 3 _ rfl).trans (by rw[k1]);have y2:w1.cell? ⟨g,6,none⟩=some (.int .i64 0):=(hc 6 _ rfl).trans (by rw[k2]);have y3:w1.cell? ⟨g,9,none⟩=some (.int .i64 6):=(hc 9 _ rfl).trans (by rw[k3]);have y4:w1.cell? ⟨g,12,none⟩=some (.int .i64 0):=(hc 12 _ rfl).trans (by rw[k4]);have z1:w1.cell? ⟨g,4,none⟩=some (.slice (some ⟨g1,0,none⟩) 1 cp1):=(hc 4 _ rfl).trans (by rw[hv1'];rfl);have z4:w1.cell? ⟨g,13,none⟩=some (.slice (some ⟨g4,0,none⟩) 3 cp4):=(hc 13 _ rfl).trans (by rw[hv4'];rfl);have p1:w1.cell? ⟨g1,0,none⟩=some (.int .i64 1):=hn1 0 (by simp);have q0:w1.cell? ⟨g4,0,none⟩=some (.int .i64 0):=hn4 0 (by simp);have q1:w1.cell? ⟨g4,1,none⟩=some (.int .i64 1):=hn4 1 (by simp);have q2:w1.cell? ⟨g4,2,none⟩=some (.int .i64 1):=hn4 2 (by simp);have HK1:=hide ((uh HK0).then hk1);rw[hv];clear hA hk1 hc n1 n4 hn1 hn4 hv hv1' hv4' k0 k1 k2 k3 k4 m0 m1 m2 m3 m4 hst hv1 hh1 HK0 HB0;show _;go_wp2
 go_ret
 exact⟨rfl,uh HK1⟩
end
section
open Go.RowKit
attribute [local go_sem ↓] qAd qAe qDy
attribute [local go_sem] qAf qAl qAc qAb qAm qAn qAi qAj
theorem zBt{n:Int}{s:WS}(o:OpM)(h:EInv n s.clock s.xs): (qCk s o).2.2.length<=17:=by
 unfold qCk
 split
 ·unfold qDj;(repeat' split) <;> simp
 split
 ·unfold qTg;(repeat' split) <;> simp
 split
 ·unfold qJn;(repeat' split) <;> simp
 split
 ·unfold qHh;split
  ·simp
  ·rename_i x hx
   have hi:=h.sers x (List.mem_of_find?_eq_some hx);show(qKt x.k x.c x.nt o.a (s.clock-x.c.lag)).2.length<=17;unfold qKt
   split
   ·simp
   split
   ·split <;> simp
   split
   ·rename_i h2
    obtain⟨_,_,b4,_,_⟩:=qCa hi.valid hi.kind h2;unfold zIp
    split
    ·show(qEq _ _ _++[_]).length<=17
     rw[List.length_append,qGn,List.length_singleton];have:qFx x.c<=16:=Nat.pow_le_pow_right (n:=2) (by omega) (show x.c.bits.toNat<=4 by omega);omega
    ·simp
   split
   ·split <;> simp
   split
   ·rename_i h5
    have hd:=qC4 hi.valid hi.kind h5;show(qT1 x.c x.nt.tk).length<=17;unfold qT1;simp only[List.length_append,qDl,List.length_take];simp;omega
   ·simp
 split
 ·unfold qHk;(repeat' split) <;> simp[qCu,qCp]
 split
 ·simp
 split
 ·unfold zEx;split <;> simp
 ·simp
theorem qZu{n:Int}{s:WS}(ops:List OpM)(hs:EInv n s.clock s.xs)(hn:0<=n)(hL:∀(i:Nat) o,ops[i]?=some o->qWp (n+i+1) o)(x:Int×List Int)(h:x∈qM7 s ops): x.2.length<=17:=by
 induction ops generalizing s n with
 | nil=>simp[qM7]at h
 | cons o r ih =>
  rcases List.mem_cons.1 h with h | h
  ·subst h;exact zBt o hs
  ·exact ih (qSi o hs hn (by have:=hL 0 o rfl;simpa using this)) (by omega) (λi o ho=>by
      have:=hL (i+1) o (by simpa using ho);rw[show n+1+(i:Int)+1=n+((i+1:Nat):Int)+1 by omega]
      exact this) h
theorem qYm(ops:List OpM)(hok:qL3 ops)(x:Int×List Int)(h:x∈qM7 ws0 ops): x.2.length<=17 :=
 qZu ops inv0 (by omega) (λ_ o ho=>qMm (hok o (List.mem_of_getElem? ho))) x h
theorem zB9(a:Option Addr)(cap:Nat)(w:World):
  Calls Tryz.prog 11 #[.slice a 0 cap] w λr w'=>∃v l,r=.returned v/\ARep w' w.heap.size v l/\l.map (λx=>(x.code,x.nums))=qM7 ws0 []/\l.map (·.bs)=qQ4 ws0 []/\Keeps (λ_=>False) w w':=by
 obtain⟨i0,hi0,hz0,hz1,hz2⟩:=info_parts zFb;go_enter Tryz.func11,Tryz.ntmps11
 go_wp2_with (at_make;refine wpList_make_own _ rfl _ _ _ rfl w.heap.size 38 i0 _ 3 Tryz.underlying26 hi0 hz0 hz1 _ _ _ 0 rfl rfl rfl (by rw[hz2];omega) (by unfold maxLen;omega) (by simp) ?_;intro w1 ho1 hg1)
 rw[World.size_alloc]at ho1;have hkw1:Keeps (λ_=>False) w w1:=((Keeps.refl (λ_=>False) w).alloc _).grown hg1 (λk hk=>by cases hk);have HA1:=hide (show ARep w1 w.heap.size (.slice (some ⟨w.heap.size+1,0,none⟩) 0 0) [] from⟨ho1,λx hx=>by simp at hx,λx hx=>by simp at hx⟩);have HK1:=hide hkw1;clear hg1 ho1 hkw1;go_loopw [4,12] (λav i wr=>i=.int .i64 0/\av=.slice (some ⟨w.heap.size+1,0,none⟩) 0 0/\wr=w1) (λ_ _ _=>0)
 case atStart=>exact⟨rfl,rfl,rfl⟩
 case round =>
  obtain⟨rfl,rfl,rfl⟩:=hrel;go_wp2
  go_ret
  exact⟨_,[],rfl,uh HA1,rfl,rfl,uh HK1⟩
end
section
open Go.RowKit
theorem qIx(l:List Ans)(i j:Nat)(x:Ans)(h:l[i]?=some x)(hj:j<3): (qEt l)[i*3+j]?=x.cells[j]?:=by
 induction l generalizing i with
 | nil=>simp at h
 | cons a l ih =>
  have hc:qEt (a::l)=a.cells++qEt l:=by simp[qEt]
  rw[hc];cases i with
  | zero =>
   have:a=x:=by simpa using h
   subst this;rw[List.getElem?_append_left (by simp[Ans.cells];omega)];simp
  | succ i =>
   rw[List.getElem?_append_right (by simp[Ans.cells];omega)];have:=ih i (by simpa using h);rw[<-this]
   congr 1
   simp[Ans.cells];omega
theorem qFj{w:World}{base T c:Nat}{v:Value}{n:Nat}{l:List Value}(h:w.ownsRow base T c v n l): ∃a cap,v=.slice a n cap:=by
 rcases h.2 with ⟨h1,h2⟩ | ⟨g,cap,cur,h1,_⟩
 ·exact⟨none,0,by rw[h1,h2]⟩
 ·exact⟨_,_,h1⟩
theorem qJf{w:World}{base:Nat}{a:Option Addr}{n cap:Nat}{l:List Ans}(h:ARep w base (.slice a n cap) l)(i:Nat)(x:Ans)(hx:l[i]?=some x):
  ∃g,a=some ⟨g,0,none⟩/\w.cell? ⟨g,i*3,none⟩=some (.int .i64 x.code)/\w.cell? ⟨g,i*3+1,none⟩=some x.nv/\w.cell? ⟨g,i*3+2,none⟩=some (.string x.bs):=by
 obtain⟨g,cap',hv,hc⟩:=qPg h (by intro h;rw[h]at hx;simp at hx);injection hv with h1 h2 h3;exact⟨g,h1,hc _ _ (qIx l i 0 x hx (by omega)),hc _ _ (qIx l i 1 x hx (by omega)),hc _ _ (qIx l i 2 x hx (by omega))⟩
end
section
open Go.ChangeShapes Go.WideShapes Go.ChangeAt Go.RowKit Go.Deep
def opOf(V:Nat->Int)(b:ByteArray): OpM:=⟨V 0,V 1,V 2,V 3,V 4,⟨V 5,V 6,V 7,V 8,V 9,V 10,V 11,V 12,V 13,V 14,V 15,V 16,V 17,V 18,V 19,V 20,V 21,V 22,V 23,V 24⟩,b⟩
theorem qX9(V:Nat->Int)(b:ByteArray): (opOf V b).cells=(List.range 25).map (λj=>.int .i64 (V j))++[.string b]:=rfl
theorem cells3: Tryz.prog.cellsOf 3=1:=by kernel_rfl
theorem zHm: Tryz.prog.cellsOf 29=2:=by kernel_rfl
theorem qVn: Tryz.prog.cellsOf 34=26:=by kernel_rfl
theorem zHn: Tryz.prog.bytesOf 34=216:=by kernel_rfl
section
variable {H:Type} {enc:TypeId×Value->H} {w:World} {base:Nat} {spare:Nat->Bool} {held:Bool}
def IntAt(cs:List Value)(i:Nat): Prop:=∃n,cs[i]?=some (.int .i64 n)/\(Lit.int .i64 n).wf=true
theorem zFw{cs:List Value}{off n i:Nat}{v:Value}(h:((cs.drop off).take n)[i]?=some v): cs[off+i]?=some v:=by
 rw[List.getElem?_take]at h
 split at h
 ·rw[List.getElem?_drop]at h;exact h
 ·cases h
theorem IntAt.sub{cs:List Value}{off n i:Nat}(h:IntAt ((cs.drop off).take n) i): IntAt cs (off+i):=by
 obtain⟨k,h1,h2⟩:=h;exact⟨k,zFw h1,h2⟩
theorem zCe{m:Nat}{cs:List Value}{x:DataW H×List MemPlace}(h:DataW.trod enc Tryz.prog w base spare held m 3 cs=some x): IntAt cs 0:=by
 obtain⟨n,rfl,_,hw⟩:=DataW.trod_int Tryz.underlying3 h;exact⟨n,rfl,hw⟩
theorem qIq{α:Type}{xs:List α}{n i:Nat}(h:xs.length=n)(hi:i<n): ∃x,xs[i]?=some x:=⟨xs[i],List.getElem?_eq_getElem (by omega)⟩
theorem zH1{m:Nat}{cs:List Value}{x:DataW H×List MemPlace}(h:DataW.trod enc Tryz.prog w base spare held m 29 cs=some x)(i:Nat)(hi:i<2): IntAt cs i:=by
 obtain⟨xs,k,_,_,_,hl,hx⟩:=DataW.trod_array Tryz.underlying29 h;obtain⟨y,hy⟩:=qIq hl hi;have h1:=hx i hi;rw[hy,cells3,Nat.mul_one]at h1;have:=(zCe h1).sub;simpa using this
theorem zHo{m:Nat}{cs:List Value}{x:DataW H×List MemPlace}(h:DataW.trod enc Tryz.prog w base spare held m 30 cs=some x)(i:Nat)(hi:i<6): IntAt cs i:=by
 obtain⟨xs,k,_,_,_,hl,hx⟩:=DataW.trod_array Tryz.underlying30 h;have hq:i/2<3:=by omega
 obtain⟨y,hy⟩:=qIq hl hq;have h1:=hx (i/2) hq;rw[hy,zHm]at h1;have:=(zH1 h1 (i%2) (by omega)).sub
 rwa [show i/2*2+i%2=i by omega]at this
theorem zIs{m:Nat}{cs:List Value}{x:DataW H×List MemPlace}(h:DataW.trod enc Tryz.prog w base spare held m 32 cs=some x)(i:Nat)(hi:i<20): IntAt cs i:=by
 obtain⟨xs,k,_,_,_,hl,hx⟩:=DataW.trod_struct Tryz.underlying32 h;have hl15:xs.length=15:=hl;have one:∀(j:Nat) (f:Field),(Option.map (λf:Field=>(f.type,f.offset)) (some f))=some (3,j)->j<14->DataW.trod enc Tryz.prog w base spare held k f.type ((cs.drop f.offset).take (Tryz.prog.cellsOf f.type))=xs[j]?->IntAt cs j:=by
  intro j f hf hj h1;obtain⟨y,hy⟩:=qIq hl15 (show j<15 by omega);simp only[Option.map_some,Option.some.injEq,Prod.mk.injEq]at hf;rw[hf.1,hf.2,hy]at h1;have:=(zCe h1).sub;simpa using this
 by_cases h14:i<14
 ·have hc:i=0\/i=1\/i=2\/i=3\/i=4\/i=5\/i=6\/i=7\/i=8\/i=9\/i=10\/i=11\/i=12\/i=13:=by omega
  rcases hc with rfl | rfl | rfl | rfl | rfl | rfl | rfl | rfl | rfl | rfl | rfl | rfl | rfl | rfl <;> exact one _ _ rfl h14 (hx _ _ rfl)
 ·obtain⟨y,hy⟩:=qIq hl15 (show 14<15 by omega)
  have h1:DataW.trod enc Tryz.prog w base spare held k 30 ((cs.drop 14).take (Tryz.prog.cellsOf 30))=xs[14]?:=hx 14 _ rfl;rw[hy]at h1;have:=(zHo h1 (i-14) (by omega)).sub
  rwa [show 14+(i-14)=i by omega]at this
theorem zG5{m:Nat}{cs:List Value}{x:DataW H×List MemPlace}(h:DataW.trod enc Tryz.prog w base spare held m 34 cs=some x):
  ∃(V:Nat->Int) (b:ByteArray),cs=(opOf V b).cells/\(∀i,i<25->(Lit.int .i64 (V i)).wf=true)/\b.size<=maxLen:=by
 obtain⟨xs,k,_,_,hlen,hl,hx⟩:=DataW.trod_struct Tryz.underlying34 h;rw[qVn]at hlen;have hl7:xs.length=7:=hl;have one:∀(j:Nat) (f:Field),(Option.map (λf:Field=>(f.type,f.offset)) (some f))=some (3,j)->j<5->DataW.trod enc Tryz.prog w base spare held k f.type ((cs.drop f.offset).take (Tryz.prog.cellsOf f.type))=xs[j]?->IntAt cs j:=by
  intro j f hf hj h1;obtain⟨y,hy⟩:=qIq hl7 (show j<7 by omega);simp only[Option.map_some,Option.some.injEq,Prod.mk.injEq]at hf;rw[hf.1,hf.2,hy]at h1;have:=(zCe h1).sub;simpa using this
 have hints:∀i,i<25->IntAt cs i:=by
  intro i hi
  by_cases h5:i<5
  ·have hc:i=0\/i=1\/i=2\/i=3\/i=4:=by omega
   rcases hc with rfl | rfl | rfl | rfl | rfl <;> exact one _ _ rfl h5 (hx _ _ rfl)
  ·obtain⟨y,hy⟩:=qIq hl7 (show 5<7 by omega)
   have h1:DataW.trod enc Tryz.prog w base spare held k 32 ((cs.drop 5).take (Tryz.prog.cellsOf 32))=xs[5]?:=hx 5 _ rfl;rw[hy]at h1;have:=(zIs h1 (i-5) (by omega)).sub
   rwa [show 5+(i-5)=i by omega]at this
 obtain⟨V,hV⟩:=choose_lt (α:=Int) hints;obtain⟨y,hy⟩:=qIq hl7 (show 6<7 by omega);have h1:DataW.trod enc Tryz.prog w base spare held k 9 ((cs.drop 25).take (Tryz.prog.cellsOf 9))=xs[6]?:=hx 6 _ rfl;rw[hy]at h1;obtain⟨b,hb,_,hbz⟩:=DataW.trod_string Tryz.underlying9 h1;have hb':cs[25]?=some (.string b):=zFw (off:=25) (i:=0) (by rw[hb];rfl);refine⟨V,b,?_,λi hi=>(hV i hi).2,hbz⟩;rw[qX9];apply List.ext_getElem?;intro j
 by_cases hj:j<25
 ·rw[(hV j hj).1,List.getElem?_append_left (by simpa using hj)]
  simp[hj]
 ·by_cases hj2:j=25
  ·subst hj2;rw[hb'];rfl
  ·rw[List.getElem?_eq_none (by omega),List.getElem?_eq_none (by simp;omega)]
end
end
section
open Go.ChangeShapes Go.WideShapes Go.ChangeAt Go.RowKit Go.Deep
theorem Tryz.own: ownKnob Tryz.prog.godebug=none:=by kernel_rfl
theorem Tryz.laidOut: laidOutB Tryz.prog=true:=by kernel_rfl
theorem Keeps.below{w w':World}(h:Keeps (λ_=>False) w w'): Below w.heap.size w w':=⟨h.os,h.tape,h.output,h.size,λk hk=>h.block k hk (λh=>h)⟩
theorem zA7{x:Int}(h:(Lit.int .i64 x).wf=true): -9223372036854775808<=x/\x<=9223372036854775807:=by
 simp[Lit.wf,IntKind.min,IntKind.max,IntKind.signed,IntKind.bits]at h;omega
end
section
open Go.RowKit
def qEp(l:List OpM): List Value:=l.flatMap OpM.cells
theorem qP4(a b:List OpM): qEp (a++b)=qEp a++qEp b:=by simp[qEp]
theorem qJx(l:List OpM): (qEp l).length=l.length*26:=by
 induction l with
 | nil=>rfl
 | cons a l ih =>
  have hc:qEp (a::l)=a.cells++qEp l:=by simp[qEp]
  rw[hc,List.length_append,ih,List.length_cons];have:a.cells.length=26:=rfl;omega
theorem qOe(l:List OpM)(i j:Nat)(x:OpM)(h:l[i]?=some x)(hj:j<26): (qEp l)[i*26+j]?=x.cells[j]?:=by
 induction l generalizing i with
 | nil=>simp at h
 | cons a l ih =>
  have hc:qEp (a::l)=a.cells++qEp l:=by simp[qEp]
  have hl:a.cells.length=26:=rfl;rw[hc];cases i with
  | zero =>
   have:a=x:=by simpa using h
   subst this;rw[List.getElem?_append_left (by omega)];simp
  | succ i =>
   rw[List.getElem?_append_right (by omega)];have:=ih i (by simpa using h);rw[<-this]
   congr 1
   omega
theorem qX0(l:List OpM)(u:Value)(h:u∈qEp l): u.oneCell'=true:=by
 obtain⟨o,_,hu⟩:=List.mem_flatMap.1 h;have:=qOy o;simp only[List.all_toArray,List.all_eq_true]at this;exact this u hu
abbrev zBi(w:World)(base:Nat)(v:Value)(ops:List OpM): Prop:=w.ownsRow base 34 26 v ops.length (qEp ops)
def ScriptW(w:World)(v:Value)(ops:List OpM): Prop:=((∃a c,v=.slice a 0 c)/\ops=[])\/∃sb so cap,v=.slice (some ⟨sb,so,none⟩) ops.length cap/\ops.length<=cap/\ScriptAt w sb so ops/\sb<w.heap.size
theorem ScriptAt.keeps{w w':World}{sb so:Nat}{ops:List OpM}(h:ScriptAt w sb so ops)(hk:Keeps (λ_=>False) w w'): ScriptAt w' sb so ops :=
 λi o ho j u hu=>hk.cell (h i o ho j u hu) (λh=>h)
theorem ScriptW.keeps{w w':World}{v:Value}{ops:List OpM}(h:ScriptW w v ops)(hk:Keeps (λ_=>False) w w'): ScriptW w' v ops:=by
 rcases h with h | ⟨sb,so,cap,h1,h2,h3,h4⟩
 ·exact .inl h
 ·exact .inr ⟨sb,so,cap,h1,h2,h3.keeps hk,by have:=hk.size;omega⟩
theorem qOd{w:World}{base:Nat}{v:Value}{ops:List OpM}(h:zBi w base v ops): (v=.slice none 0 0/\ops=[])\/∃g cap,v=.slice (some ⟨g,0,none⟩) ops.length cap/\ops.length<=cap/\ScriptAt w g 0 ops/\g<w.heap.size/\base<=g/\cap<=maxLen:=by
 rcases h.2 with ⟨h1,h2⟩ | ⟨g,cap,cur,h1,h2,h3,h4,h5,h6,h7⟩
 ·exact .inl ⟨h1,List.length_eq_zero_iff.1 h2⟩
 ·refine .inr ⟨g,cap,h1,h4,?_,(Array.getElem?_eq_some_iff.1 h3).1,h2,h5⟩
  intro i o ho j u hu;have hj:j<26:=by have:=(List.getElem?_eq_some_iff.1 hu).1;exact this
  have hi:i<ops.length:=(List.getElem?_eq_some_iff.1 ho).1;have hf:=qOe ops i j o ho hj;have hc:cur[i*26+j]?=some u:=by
   rw[<-h7,List.getElem?_take,if_pos (by omega),hu]at hf;simpa using hf
  rw[Nat.zero_add];simp[World.cell?,h3,hc]
theorem qIu{w:World}{base:Nat}{v:Value}{ops:List OpM}(h:zBi w base v ops): ScriptW w v ops:=by
 rcases qOd h with ⟨h1,h2⟩ | ⟨g,cap,h1,h2,h3,h4,_,_⟩
 ·exact .inl ⟨⟨_,_,h1⟩,h2⟩
 ·exact .inr ⟨g,0,cap,h1,h2,h3,h4⟩
def cz0: List Value:=(⟨0,0,0,0,0,cz,qAa⟩:OpM).cells
theorem zI5: (Tryz.prog.info? 34).map (λi=>(i.zero,i.size,i.bytes))=some (some (.agg cz0.toArray),26,216):=by kernel_rfl
end
section
open Go.RowKit
attribute [local go_sem ↓] qAd qAe qDy qGw
attribute [local go_sem] qAf qAl qAc qAb qAm qAn qAi qAj
theorem qEr{w:World}{ops:Array Oper}{rest:List Oper}{o:Oper}{a:Act}{Q:Exit->Act->World->Prop}(hgd:o.guard=none)(s x:Operand)(ho:o.op=.call { callee:=.builtin .append,args:=#[s,x],argTypes:=#[22,22] })(base:Nat)(v:Value)(A:List OpM)(hs:a.eval s=v)(hown:zBi w base v A)(u:Value)(B:List OpM)(hx:a.eval x=u)(hB:ScriptW w u B)(hlen:A.length+B.length<=651562446089)(hbase:base<=w.heap.size)(h:∀ad c w',zBi w' base (.slice ad (A.length+B.length) c) (A++B)->Keeps (λi=>v.ownBlock=some i) w w'->(∀i,(Value.slice ad (A.length+B.length) c).ownBlock=some i->v.ownBlock=some i\/w.heap.size<=i)->wpList Tryz.prog ops Q rest (a.put o.dst (.slice ad (A.length+B.length) c)) w'): wpList Tryz.prog ops Q (o::rest) a w:=by
 obtain⟨i0,hi0,hz0,hz1,hz2⟩:=info_parts zI5
 by_cases hb:B=[]
 ·subst hb
  have hu:∃ad c,u=.slice ad 0 c:=by
   rcases hB with ⟨h,_⟩ | ⟨sb,so,cap,h,_⟩
   ·exact h
   ·exact⟨_,_,h⟩
  obtain⟨ad,c,rfl⟩:=hu;obtain⟨av,ac,hv⟩:=qFj hown;refine qEl hgd s x 22 ho base 34 i0 26 Tryz.underlying22 hi0 v A.length (qEp A) hs hown ad c hx ?_;have:=h av ac w (by rw[List.append_nil];rw[hv]at hown;exact hown) (Keeps.refl _ _) (by rw[hv];exact λi hi=>.inl hi);rw[hv];exact this
 ·rcases hB with ⟨_,h0⟩ | ⟨sb,so,cap,rfl,hcap,hsc,hlt⟩
  ·exact absurd h0 hb
  ·have hpos:0<B.length:=List.length_pos_iff.2 hb
   refine wpList_append_lies w hgd s x 22 ho base 34 i0 (.agg cz0.toArray) 26 216 Tryz.underlying22 hi0 hz0 hz1 hz2 (by rfl) (by omega) v A.length (qEp A) hs hown ⟨sb,so,none⟩ B.length cap (qEp B) hx (qJx B) ?_ (qX0 B) hpos (by unfold maxLen;omega) (by omega) hbase w.heap.size rfl ?_
   ·intro j z hz
    have hj:j<B.length*26:=by have:=(List.getElem?_eq_some_iff.1 hz).1;rwa [qJx]at this
    have hq:j/26<B.length:=by omega
    have hf:=qOe B (j/26) (j%26) B[j/26] (List.getElem?_eq_getElem hq) (by omega);rw[show j/26*26+j%26=j by omega,hz]at hf;have:=hsc (j/26) B[j/26] (List.getElem?_eq_getElem hq) (j%26) z hf.symm;rw[Go.WideShapes.add_plain,show so+j=so+j/26*26+j%26 by omega];exact this
   ·intro g c w' hown' hgrow hat hlt'
    refine h (some ⟨g,0,none⟩) c w' ?_ ?_ ?_
    ·show w'.ownsRow base 34 26 _ (A++B).length (qEp (A++B))
     rw[qP4,List.length_append];exact hown'
    ·exact⟨hgrow.os,hgrow.tape,hgrow.output,hgrow.size,λk hk hn=>hgrow.block k hk (λh=>hn h.symm)⟩
    ·intro i hi
     have:g=i:=by simpa[Value.ownBlock] using hi
     subst this;rcases hat with h1 | h1
     ·exact .inl h1
     ·exact .inr (by omega)
theorem qWm(v1 v2:Value)(A B:List OpM)(w:World)(h1:ScriptW w v1 A)(h2:ScriptW w v2 B)(hlen:A.length+B.length<=651562446089):
  Calls Tryz.prog 12 #[v1,v2] w λr w'=>∃v,r=.returned v/\zBi w' w.heap.size v (A++B)/\Keeps (λ_=>False) w w':=by
 have HA:=hide h1;have HB:=hide h2;clear h1 h2;go_enter Tryz.func12,Tryz.ntmps12
 go_wp2_with (at_builtin;first
    | (refine qEr rfl _ _ rfl w.heap.size (.slice none 0 0) [] rfl (World.ownsRow_nil _ _ _ _) v1 A rfl (uh HA) (by simp;omega) (by omega) ?_;intro ad c w1 hown1 hk1 hat1;have HO1:=hide (show zBi w1 w.heap.size (.slice ad A.length c) A by simpa using hown1);have HK1:=hide (show Keeps (λ_=>False) w w1 from hk1.mono (λi _ h=>by simp[Value.ownBlock]at h));clear hown1 hk1)
    | (refine qEr rfl _ _ rfl w.heap.size (.slice ad A.length c) A rfl (uh HO1) v2 B rfl ((uh HB).keeps (uh HK1)) hlen (uh HK1).size ?_;intro ad2 c2 w2 hown2 hk2 hat2))
 go_ret
 refine⟨_,rfl,hown2,(uh HK1).trans hk2 (λi hi hlt=>?_)⟩;have:=((uh HO1).lt i hi).1;omega
def OpM.noLoad(o:OpM): Bool:=o.kind !=7
theorem zAl(w:World)(o:OpM): (qYl 22 1 #[(0,.agg o.cells.toArray)]).run Tryz.prog w=.ok (.value (.slice (some ⟨w.heap.size,0,none⟩) 1 1)) (w.alloc (.cells o.cells.toArray 34)):=by kernel_rfl
theorem qX4{w:World}{b:Nat}{o:OpM}(h:Blk w b o.cells 34): ScriptW w (.slice (some ⟨b,0,none⟩) 1 1) [o]:=by
 refine .inr ⟨b,0,1,rfl,by simp,?_,h.lt⟩;intro i x hx j u hu;have hi:i=0:=by have:=(List.getElem?_eq_some_iff.1 hx).1;simp at this;omega
 subst hi;have:o=x:=by simpa using hx
 subst this;have:=h.cell hu;simpa using this
attribute [local go_sem] zAl
theorem qUi(v:Value)(ops:List OpM)(w:World)(h:ScriptW w v ops)(hlen:ops.length<=651562446089):
  Calls Tryz.prog 9 #[v,.int .i64 7] w λr w'=>∃v',r=.returned v'/\zBi w' w.heap.size v' (ops.filter OpM.noLoad)/\Keeps (λ_=>False) w w'/\(ops.filter OpM.noLoad=[]->v'=.slice none 0 0):=by
 by_cases h0:ops=[]
 ·subst h0
  have hv:∃a c,v=.slice a 0 c:=by
   rcases h with ⟨h,_⟩ | ⟨sb,so,cap,h,_⟩
   ·exact h
   ·exact⟨_,_,h⟩
  obtain⟨a,c,rfl⟩:=hv;clear h;go_enter Tryz.func9,Tryz.ntmps9
  go_wp2
  go_loopw [5,6] (λl i wr=>l=.slice none 0 0/\i=.int .i64 0/\wr=w) (λ_ _ _=>0)
  case atStart=>exact⟨rfl,rfl,rfl⟩
  case round =>
   obtain⟨rfl,rfl,rfl⟩:=hrel;go_wp2
   go_ret
   exact⟨_,rfl,World.ownsRow_nil _ _ _ _,Keeps.refl _ _,λ_=>rfl⟩
 rcases h with ⟨_,h⟩ | ⟨sb,so,cap,rfl,hcap,hsc,hlt⟩
 ·exact absurd h h0
 have HSC:=hide hsc;clear hsc;generalize hn:ops.length=n at *;have HN:=hide hn;clear hn;go_enter Tryz.func9,Tryz.ntmps9
 go_wp2_with fail
 go_loopw [5,6] (λl i wr=>∃(k m c:Nat) (ad:Option Addr),k<=n/\i=.int .i64 k/\l=.slice ad m c/\Hid (zBi wr w.heap.size l ((ops.take k).filter OpM.noLoad))/\Hid (Keeps (λ_=>False) w wr)/\Hid ((ops.take k).filter OpM.noLoad=[]->l=.slice none 0 0)) (λ_ i _=>n-(intOf i).toNat)
 case atStart=>exact⟨0,0,0,none,by omega,rfl,rfl,World.ownsRow_nil _ _ _ _,Keeps.refl _ _,λ_=>rfl⟩
 case round =>
  obtain⟨k,m,c,ad,hk,rfl,rfl,HO,HK,HE⟩:=hrel
  by_cases hkn:k<n
  ·obtain⟨o,ho⟩:∃o,ops[k]?=some o:=⟨ops[k]'(by rw[uh HN];exact hkn),List.getElem?_eq_getElem _⟩
   have hrange:=(uh HSC).keeps (uh HK) k o ho;have hsb:=qAq hrange;have hv0:qAu wr sb (so+k*26) 26=.agg o.cells.toArray:=by
    unfold qAu;have:=hsb.1;rw[show o.cells.length=26 from rfl]at this;rw[this]
   have hh0:qA2 wr sb (so+k*26) 26=true:=hsb.2;have hkind:wr.cell? ⟨sb,so+k*26,none⟩=some (.int .i64 o.kind):=hrange 0 _ rfl;have htk:ops.take (k+1)=ops.take k++[o]:=by rw[List.take_add_one,ho];rfl
   have hk0:(0:Int)<=(k:Int):=by omega
   have hkn':(k:Int)<(n:Int):=by omega
   have hl0:((ops.take k).filter OpM.noLoad).length<=k:=by
    have h1:=List.length_filter_le OpM.noLoad (ops.take k);rw[List.length_take]at h1;omega
   have HFL:=hide (show(ops.take (k+1)).filter OpM.noLoad=(ops.take k).filter OpM.noLoad++[o].filter OpM.noLoad by rw[htk,List.filter_append]);clear hrange hsb htk ho
   by_cases h7:o.kind=7
   ·have hne:(o.kind !=7)=false:=by simp[h7]
    have HF1:=hide (show[o].filter OpM.noLoad=[] by simp[OpM.noLoad,hne]);rw[h7]at hkind;clear h7 hne hv0 hh0;go_wp2_with fail
    go_roundw
    case rel=>exact⟨k+1,m,c,ad,by omega,by go_num,rfl,by show zBi _ _ _ _;rw[uh HFL,uh HF1,List.append_nil];exact uh HO,HK,by show _->_;rw[uh HFL,uh HF1,List.append_nil];exact uh HE⟩
    case measure=>simp[intOf];omega
   ·have hne:(o.kind !=7)=true:=by simp[h7]
    have HF1:=hide (show[o].filter OpM.noLoad=[o] by simp[OpM.noLoad,hne]);have hm:m=((ops.take k).filter OpM.noLoad).length:=by
     obtain⟨_,_,e⟩:=qFj (uh HO);injection e
    generalize(ops.take k).filter OpM.noLoad=A at *;go_wp2_with (at_builtin;refine qEr rfl _ _ rfl w.heap.size (.slice ad m c) A rfl (by exact qBk (uh HO) ((Keeps.refl (λ_=>False) wr).alloc _) (λ_ _ h=>h)) _ [o] rfl (by exact qX4 (Blk.new wr o.cells 34)) (by simp;omega) (by have:=(uh HK).size;simp;omega) ?_;intro ad2 c2 w2 hown2 hk2 hat2)
    go_roundw
    case rel =>
     refine⟨k+1,A.length+1,c2,ad2,by omega,by go_num,rfl,?_,?_,?_⟩
     ·show zBi _ _ _ _;rw[uh HFL,uh HF1];exact hown2
     ·refine(((uh HK).alloc _).trans hk2 (λi hi hlt=>?_))
      have:=((uh HO).lt i hi).1;omega
     ·show _->_;rw[uh HFL,uh HF1];intro h;simp at h
    case measure=>simp[intOf];omega
  ·have hkk:k=n:=by omega
   subst hkk;go_wp2
   go_ret
   have h1:=uh HO;have h2:=uh HE;rw[List.take_of_length_le (by rw[uh HN];omega)]at h1 h2;exact⟨_,rfl,h1,uh HK,h2⟩
end
section
open Go.ChangeShapes Go.WideShapes Go.ChangeAt Go.RowKit Go.Deep
theorem gTab: Tryz.prog.globalNamed "math/bits.deBruijn64tab"=some 2:=by kernel_rfl
theorem zDu: (Tryz.prog.globals[2]?).map (·.type)=some 290:=by kernel_rfl
theorem zGo: Tryz.prog.cellsOf 290=64:=by kernel_rfl
theorem zGl: Tryz.prog.cellsOf 5=1:=by kernel_rfl
theorem zGw: Tryz.prog.underlying 5=some (.int .u8):=by kernel_rfl
def qQ1: List Int:=Lib.deBruijn64tab.map λ(n:Nat)=>(n:Int)
def zF1: Array Value:=(qQ1.map (.int .u8 ·)).toArray
theorem zIz{W:World}(h:laidMetH Tryz.prog [("math/bits.deBruijn64tab",Rows.laid_math_bits_deBruijn64tab)] W): Tab W:=by
 have ht:Lib.TabIs Tryz.prog W "math/bits.deBruijn64tab" .u8 qQ1:=Lib.tabIs_of_head (rest:=[]) gTab zDu Tryz.underlying290 zGw zGl zGo h
 intro j hj;have h1:=ht.cell gTab j (by simpa[qQ1] using hj);rw[h1];unfold qQ1;rw[List.getD_eq_getElem?_getD,List.getD_eq_getElem?_getD,List.getElem?_map,List.getElem?_eq_getElem hj];rfl
noncomputable def qL9(os:Os): World :=
 { World.holding Tryz.prog os ⟨#[],#[],[]⟩ with heap:=(World.holding Tryz.prog os ⟨#[],#[],[]⟩).heap.modify 2 fun
     | .cells _ t frozen=>.cells zF1 t frozen
     | o=>o }
theorem qSy{H:Type}{enc:TypeId×Value->H}{W:World}{fuel:Nat}{a0:Option Addr}{len cap:Nat}{d:DataW H}{p:List MemPlace}(hf:DataW.trod enc Tryz.prog W 0 (λ_=>true) true fuel 22 (Value.slice a0 len cap).cells.toList=some (d,p))(hlt:∀x∈p,x.block<W.heap.size):
  ∃ops,ScriptW W (.slice a0 len cap) ops/\ops.length=len/\(len≠0->∃elems spare,d=.slice elems spare/\len<=elems.length+spare.length)/\∀o,o∈ops->o.bytes.size<=9223372036854775807:=by
 by_cases hl0:len=0
 ·subst hl0
  exact⟨[],.inl ⟨⟨_,_,rfl⟩,rfl⟩,rfl,λh=>absurd rfl h,λo ho=>by cases ho⟩
 ·rcases open_slice Tryz.underlying22 hf with ⟨hcs,hx⟩ | ⟨a,len',cap',k,n,D,Pl,hcs,_,hl,hm,hk,hx,hcell⟩
  ·simp[Value.cells]at hcs
   exact absurd hcs.2.1 hl0
  ·simp[Value.cells]at hcs
   obtain⟨rfl,rfl,rfl⟩:=hcs;simp only[Prod.mk.injEq]at hx;obtain⟨rfl,rfl⟩:=hx;simp only[if_true]at hk;subst k;rw[qVn]at hcell;obtain⟨b,off,spot⟩:=a;have hspot:spot=none:=by
    obtain⟨cs',h1,_⟩:=hcell 0 (by omega);obtain⟨_,h2,h3⟩:=World.cells?_some h1;have h4:=h3 0 (by omega);rw[List.getElem?_eq_getElem (by omega)]at h4;simpa[Addr.add] using World.cell?_spot h4
   subst hspot;have hbW:b<W.heap.size:=hlt (.cell b off) (List.mem_append_left _ (MemPlace.mem_row.2 ⟨0,by rw[qVn];omega,by simp⟩));have hops:∀i,i<len->∃o:OpM,W.rangeAt b (off+i*26) o.cells/\o.bytes.size<=9223372036854775807:=by
    intro i hi;obtain⟨cs',h1,h2⟩:=hcell i (by omega);obtain⟨V,bs,rfl,_,hbz⟩:=zG5 h2;obtain⟨_,h3,h4⟩:=World.cells?_some h1;refine⟨opOf V bs,λj v hv=>?_,hbz⟩;have hj:j<26:=by have:=(List.getElem?_eq_some_iff.1 hv).1;omega
    have:=h4 j hj;rw[add_add,add_plain,hv,<-Nat.add_assoc]at this;exact this
   haveI:Inhabited OpM:=⟨o1⟩
   obtain⟨O,hO⟩:=choose_lt (α:=OpM) hops;refine⟨(List.range len).map O,.inr ⟨b,off,cap,by simp,by simpa using hl,?_,hbW⟩,by simp,λ_=>⟨_,_,rfl,by simp⟩,λo ho=>?_⟩
   ·intro i o ho
    have hi:i<len:=by have:=(List.getElem?_eq_some_iff.1 ho).1;simpa using this
    have:O i=o:=by simpa[hi] using ho
    rw[<-this];exact(hO i hi).1
   ·obtain⟨i,hi,rfl⟩:=List.mem_map.1 ho
    exact(hO i (List.mem_range.1 hi)).2
theorem qU4{H:Type}{enc:TypeId×Value->H}{W:World}{fuel:Nat}{a0:Option Addr}{len cap:Nat}{d:DataW H}{p:List MemPlace}(hf:DataW.trod enc Tryz.prog W 0 (λ_=>true) true fuel 22 (Value.slice a0 len cap).cells.toList=some (d,p))(hlt:∀x∈p,x.block<W.heap.size):
  ∃ops,ScriptW W (.slice a0 len cap) ops/\ops.length=len/\(len≠0->∃elems spare,d=.slice elems spare/\len<=elems.length+spare.length):=by
 obtain⟨ops,h1,h2,h3,_⟩:=qSy hf hlt;exact⟨ops,h1,h2,h3⟩
end
end Go.Proofs.YtahnliehdjncdabGreatDoor
