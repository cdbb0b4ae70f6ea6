import Derived.Test.YtahnliehdjncdabGreatDoorXBG
import Derived.Test.YtahnliehdjncdabGreatDoorXBI
import Derived.Test.YtahnliehdjncdabGreatDoorXBH
import Derived.Laws.AppendOwnNone
import Derived.Test.YtahnliehdjncdabGreatDoorXAW
import Derived.Test.YtahnliehdjncdabGreatDoorXBC
import Derived.Laws.IdiomCopy
import Derived.Test.YtahnliehdjncdabGreatDoorXAH
import Derived.Test.YtahnliehdjncdabGreatDoorXBD
set_option maxRecDepth 100000
set_option maxHeartbeats 16000000
namespace Go.Proofs.YtahnliehdjncdabGreatDoor
section
open Go.RowKit
attribute [local go_sem ↓] qAd qAe
attribute [local go_sem] qAg qAm qAb qAc qAn qAo qAi qAh qAf qAl
theorem zGo(e:Nat)(v:Value)(clock:Int)(ps:List (SB×Ser))(o:OpM)(w:World)(h:ERep w e v clock ps)(hkind:o.kind=6)(hok:∀x,x∈ps.map (·.2)->SerOk x)(six:ps.length<=6)(c0:0<=clock)(c1:clock<=4611686018427387904):
  Calls Tryz.prog 23 #[.pointer (some ⟨e,0,none⟩),o.val] w λr w'=>qGd w e v ps clock (ps.map (·.2)) 0 [] (qD1 clock (ps.map (·.2))) r w':=by
 have h0:o.cells[0]?=some (.int .i64 o.kind):=rfl
 have hn1:(o.kind==1)=false:=by simp[hkind]
 have hn2:(o.kind==2)=false:=by simp[hkind]
 have hn3:(o.kind==3)=false:=by simp[hkind]
 have hn4:(o.kind==4)=false:=by simp[hkind]
 have hn5:(o.kind==5)=false:=by simp[hkind]
 have hn6:(o.kind==6)=true:=by simp[hkind]
 have HE:=hide h
 have HOK:=hide hok
 clear h hkind hok
 unfold OpM.val
 go_enter Tryz.func23,Tryz.ntmps23
 go_wp2_with fail
 have hk0:Keeps (λ_=>False) w ((w.alloc (.cells o.cells.toArray 34)).alloc (.cells #[.int .i64 0,.slice none 0 0,.string ⟨#[]⟩] 38)):=((Keeps.refl (λ_=>False) w).alloc _).alloc _
 have HR0:=hide (show Blk ((w.alloc (.cells o.cells.toArray 34)).alloc (.cells #[.int .i64 0,.slice none 0 0,.string ⟨#[]⟩] 38)) (w.heap.size+1) [.int .i64 0,.slice none 0 0,.string qAa] 38 from Blk.newAt (by simp) [_,_,_] 38)
 have HE0:=hide ((uh HE).still hk0)
 have HK0:=hide hk0
 clear hk0
 generalize(w.alloc (.cells o.cells.toArray 34)).alloc (.cells #[.int .i64 0,.slice none 0 0,.string ⟨#[]⟩] 38)=w0 at *
 generalize hob:w.heap.size=ob at *
 have HOB:=hide hob
 clear hob
 refine(qQ6 e v clock ps w0 (uh HE0) (uh HOK) six c0 c1).mono ?_
 rintro r w1 ⟨rfl,hk1⟩
 have HR1:=hide ((uh HR0).keeps hk1 (λh=>h))
 have HK1:=hide ((uh HK0).then hk1)
 clear hk1
 obtain⟨bb,hbb⟩:∃bb,qD1 clock (ps.map (·.2))=bb:=⟨_,rfl⟩
 rw[hbb]
 have HBB:=hide hbb
 clear hbb
 have r0:w1.cell? ⟨ob+1,0,none⟩=some (.int .i64 0):=(uh HR1).cell rfl
 have r1:w1.cell? ⟨ob+1,1,none⟩=some (.slice none 0 0):=(uh HR1).cell rfl
 have r2:w1.cell? ⟨ob+1,2,none⟩=some (.string qAa):=(uh HR1).cell rfl
 have rf:=(uh HR1).frozen
 go_wp2
 have hbf:=(((uh HR1).setCell 0 (.int .i64 0)).setCell 1 (.slice none 0 0)).setCell 2 (.string bb)
 have HKF:=hide ((((Keeps.refl (λi=>i=ob+1) w1).setCell (p:=⟨ob+1,0,none⟩) (Or.inl rfl) (.int .i64 0)).setCell (p:=⟨ob+1,1,none⟩) (Or.inl rfl) (.slice none 0 0)).setCell (p:=⟨ob+1,2,none⟩) (Or.inl rfl) (.string bb))
 generalize(((w1.setCell ⟨ob+1,0,none⟩ (.int .i64 0)).setCell ⟨ob+1,1,none⟩ (.slice none 0 0)).setCell ⟨ob+1,2,none⟩ (.string bb))=w9 at *
 have q0:w9.cell? ⟨ob+1,0,none⟩=some (.int .i64 0):=hbf.cell rfl
 have q1:w9.cell? ⟨ob+1,1,none⟩=some (.slice none 0 0):=hbf.cell rfl
 have q2:w9.cell? ⟨ob+1,2,none⟩=some (.string bb):=hbf.cell rfl
 refine bodyPost_ret (v:=zGg 0 (.slice none 0 0) bb) (by simp[results,Tryz.results23,go_sem,q0,q1,q2,zGg]) rfl ?_
 have hkf:=uh HKF
 have hob:=uh HOB
 have hkk:Keeps (λ_=>False) w w9:=(uh HK1).trans hkf (λi hi hlt=>by omega)
 exact⟨.slice none 0 0,v,ps,by rw[uh HBB],(uh HE).still hkk,rfl,World.ownsRow_nil _ _ _ _,hkk.mono (λ_ _ h=>h.elim),λi hi=>.inl hi,λi hi=>by cases hi⟩
end
section
open Go.RowKit
theorem qVp(n:Int)(e:Nat)(v:Value)(clock:Int)(ps:List (SB×Ser))(o:OpM)(w:World)(h:ERep w e v clock ps)(hi:EInv n clock (ps.map (·.2)))(hn:n<=651562446200)(hT:Tab w)(hT0:¬EFoot e v ps 2)(h7:o.kind≠7)(h6:o.kind=6->∀x,x∈ps.map (·.2)->SerOk x):
  Calls Tryz.prog 23 #[.pointer (some ⟨e,0,none⟩),o.val] w λr w' =>
   qGd w e v ps (qBq ⟨clock,ps.map (·.2)⟩ o).1.clock (qBq ⟨clock,ps.map (·.2)⟩ o).1.xs (qBq ⟨clock,ps.map (·.2)⟩ o).2.1 (qBq ⟨clock,ps.map (·.2)⟩ o).2.2 (qCu ⟨clock,ps.map (·.2)⟩ o) r w':=by
 by_cases h6':o.kind=6
 ·have hM:qBq ⟨clock,ps.map (·.2)⟩ o=(⟨clock,ps.map (·.2)⟩,0,[]):=by unfold qBq;rw[if_neg (by omega),if_neg (by omega),if_neg (by omega),if_neg (by omega),if_neg (by omega),if_pos h6']
  have hB:qCu ⟨clock,ps.map (·.2)⟩ o=qD1 clock (ps.map (·.2)):=by unfold qCu qFj;rw[if_pos h6']
  rw[hM,hB]
  exact zGo e v clock ps o w h h6' (h6 h6') (by have:=hi.six;rw[List.length_map]at this;exact this) hi.c0 hi.c1
 have h67:o.kind≠6/\o.kind≠7:=⟨h6',h7⟩
 have hby:qCu ⟨clock,ps.map (·.2)⟩ o=qAa:=by unfold qCu;rw[if_neg h67.1]
 rw[hby]
 have hfind:=qUd ps o.id
 by_cases h1:o.kind=1
 ·have hM:qBq ⟨clock,ps.map (·.2)⟩ o=qDa ⟨clock,ps.map (·.2)⟩ o:=by unfold qBq;rw[if_pos h1]
  rw[hM]
  refine(zGe e v clock ps o w h h1 _ _ _ _ (λw0 h0=>?_)).mono (λ_ _ h=>h.b)
  cases hid:inB o.id 0 99
  ·have:qDa ⟨clock,ps.map (·.2)⟩ o=(⟨clock,ps.map (·.2)⟩,2,[]):=by unfold qDa;rw[if_neg (by rw[hid];simp)]
   rw[this]
   exact qXz n e v clock ps o w0 h0 hi hid
  ·cases hf:qEh ps o.id with
   | some p =>
    have:qDa ⟨clock,ps.map (·.2)⟩ o=(⟨clock,ps.map (·.2)⟩,2,[]):=by unfold qDa;rw[if_neg (by simp only;rw[hfind,hf];simp)]
    rw[this]
    exact qSb n e v clock ps o w0 h0 hi hid p hf
   | none =>
    have hc:(inB o.id 0 99=true/\(qFd (⟨clock,ps.map (·.2)⟩:WS).xs o.id).isNone=true):=⟨hid,by simp only;rw[hfind,hf];rfl⟩
    cases hv:qA7 o.cfg
    ·have:qDa ⟨clock,ps.map (·.2)⟩ o=(⟨clock,ps.map (·.2)⟩,3,[]):=by unfold qDa;rw[if_pos hc,if_neg (by rw[hv];simp)]
     rw[this]
     exact qOw n e v clock ps o w0 h0 hi hid hf hv
    ·by_cases h6:ps.length<6
     ·have:qDa ⟨clock,ps.map (·.2)⟩ o=(⟨clock,ps.map (·.2)++[qBk o.id o.cfg o.cfg.kind.toNat]⟩,0,[]):=by unfold qDa;rw[if_pos hc,if_pos hv,if_pos (by simpa using h6)]
      rw[this]
      exact qV5 n e v clock ps o w0 h0 hi hid hf hv h6
     ·have:qDa ⟨clock,ps.map (·.2)⟩ o=(⟨clock,ps.map (·.2)⟩,4,[]):=by unfold qDa;rw[if_pos hc,if_pos hv,if_neg (by simpa using h6)]
      rw[this]
      have h6':ps.length=6:=by have:=hi.six;rw[List.length_map]at this;omega
      exact qTx n e v clock ps o w0 h0 hi hid hf hv h6'
 by_cases h2:o.kind=2
 ·have hM:qBq ⟨clock,ps.map (·.2)⟩ o=qSp ⟨clock,ps.map (·.2)⟩ o:=by unfold qBq;rw[if_neg h1,if_pos h2]
  rw[hM]
  refine(zF6 e v clock ps o w h h2 _ _ _ _ (λw0 h0=>?_)).mono (λ_ _ h=>h.b)
  cases hf:qEh ps o.id with
  | none =>
   have:qSp ⟨clock,ps.map (·.2)⟩ o=(⟨clock,ps.map (·.2)⟩,2,[]):=by unfold qSp;simp only;rw[hfind,hf];rfl
   rw[this]
   exact zBn n e v clock ps o w0 h0 hi hf
  | some p =>
   by_cases hr:refE p.2 clock o.item=0
   ·have:qSp ⟨clock,ps.map (·.2)⟩ o=(⟨clock,qKs (ps.map (·.2)) o.id (accS p.2 o.item)⟩,0,[p.2.acc+1]):=by unfold qSp;simp only;rw[hfind,hf];simp only[Option.map_some];rw[if_pos hr]
    rw[this]
    exact zEm n e v clock ps o w0 h0 hi p hf hr (by omega)
   ·have:qSp ⟨clock,ps.map (·.2)⟩ o=(⟨clock,qKs (ps.map (·.2)) o.id (refS p.2 (refE p.2 clock o.item).toNat)⟩,refE p.2 clock o.item,[]):=by unfold qSp;simp only;rw[hfind,hf];simp only[Option.map_some];rw[if_neg hr]
    rw[this]
    have hrr:=qKg p.2 clock o.item
    obtain⟨cd,hcd⟩:=Int.eq_ofNat_of_zero_le hrr.1
    rw[hcd,Int.toNat_natCast]
    exact zG3 n e v clock ps o w0 h0 hi p cd hf hcd (by omega) (by omega)
 by_cases h3:o.kind=3
 ·have hM:qBq ⟨clock,ps.map (·.2)⟩ o=qIt ⟨clock,ps.map (·.2)⟩ o:=by unfold qBq;rw[if_neg h1,if_neg h2,if_pos h3]
  rw[hM]
  refine(zF8 e v clock ps o w h h3 _ _ _ _ (λw0 h0 hk0=>?_)).mono (λ_ _ h=>h.b)
  cases ha:inB o.a 0 4611686018427387904
  ·have:qIt ⟨clock,ps.map (·.2)⟩ o=(⟨clock,ps.map (·.2)⟩,5,[]):=by unfold qIt;rw[if_neg (by rw[ha];simp)]
   rw[this]
   exact qYk n e v clock ps o w0 h0 hi ha
  ·cases hb:inB o.b 0 100
   ·have:qIt ⟨clock,ps.map (·.2)⟩ o=(⟨clock,ps.map (·.2)⟩,12,[]):=by unfold qIt;rw[if_pos ha,if_neg (by rw[hb];simp)]
    rw[this]
    exact qUm n e v clock ps o w0 h0 hi ha hb
   ·have:qIt ⟨clock,ps.map (·.2)⟩ o=(⟨qH1 clock o.a,(qCj (qH1 clock o.a) o.b ((ps.map (·.2)).map (qCh (qH1 clock o.a)))).1⟩,0,[(qCj (qH1 clock o.a) o.b ((ps.map (·.2)).map (qCh (qH1 clock o.a)))).2]):=by unfold qIt;rw[if_pos ha,if_pos hb]
    rw[this]
    exact zA9 n e v clock ps o w0 h0 hi ha hb hn (hT.keeps hk0 (λh=>h)) hT0
 by_cases h4:o.kind=4
 ·have hM:qBq ⟨clock,ps.map (·.2)⟩ o=qG2 ⟨clock,ps.map (·.2)⟩ o:=by unfold qBq;rw[if_neg h1,if_neg h2,if_neg h3,if_pos h4]
  rw[hM]
  refine(zGd e v clock ps o w h h4 _ _ _ _ (λw0 h0=>?_)).mono (λ_ _ h=>h.b)
  cases hf:qEh ps o.id with
  | none =>
   have:qG2 ⟨clock,ps.map (·.2)⟩ o=(⟨clock,ps.map (·.2)⟩,2,[]):=by unfold qG2;simp only;rw[hfind,hf];rfl
   rw[this]
   exact qVx n e v clock ps o w0 h0 hi hf
  | some p =>
   have:qG2 ⟨clock,ps.map (·.2)⟩ o=(⟨clock,ps.map (·.2)⟩,qHl p.2.k p.2.c p.2.nt o.a (clock-p.2.c.lag)):=by unfold qG2;simp only;rw[hfind,hf];rfl
   rw[this]
   exact qWk n e v clock ps o w0 h0 hi hn p hf
 by_cases h5:o.kind=5
 ·have hM:qBq ⟨clock,ps.map (·.2)⟩ o=qG3 ⟨clock,ps.map (·.2)⟩ o:=by unfold qBq;rw[if_neg h1,if_neg h2,if_neg h3,if_neg h4,if_pos h5]
  rw[hM]
  refine(zF2 e v clock ps o w h h5 _ _ _ _ (λw0 h0=>?_)).mono (λ_ _ h=>h.b)
  cases hf:qEh ps o.id with
  | none =>
   have:qG3 ⟨clock,ps.map (·.2)⟩ o=(⟨clock,ps.map (·.2)⟩,2,[]):=by unfold qG3;simp only;rw[hfind,hf];rfl
   rw[this]
   exact zCo n e v clock ps o w0 h0 hi hf
  | some p =>
   have:qG3 ⟨clock,ps.map (·.2)⟩ o=(⟨clock,ps.map (·.2)⟩,0,qCg p.2):=by unfold qG3;simp only;rw[hfind,hf];rfl
   rw[this]
   exact zAg n e v clock ps o w0 h0 hi p hf
 have hM:qBq ⟨clock,ps.map (·.2)⟩ o=(⟨clock,ps.map (·.2)⟩,1,[]):=by unfold qBq;rw[if_neg h1,if_neg h2,if_neg h3,if_neg h4,if_neg h5,if_neg h67.1,if_neg h67.2]
 rw[hM]
 exact(zDm e v clock ps o w h (by omega)).mono (λ_ _ h=>h.b)
def c0: Cfg:=⟨4,0,9,8,0,0,0,0,0,0,0,0,0,0,0,0,0,0,0,0⟩
def cz: Cfg:=⟨0,0,0,0,0,0,0,0,0,0,0,0,0,0,0,0,0,0,0,0⟩
def o1: OpM:=⟨1,7,0,0,0,c0,qAa⟩
def o2: OpM:=⟨2,7,3,0,0,cz,qAa⟩
def o3: OpM:=⟨3,0,5,0,0,cz,qAa⟩
def o4: OpM:=⟨2,7,5,0,0,cz,qAa⟩
def o5: OpM:=⟨4,7,0,0,0,cz,qAa⟩
def qY4: List OpM:=[o1,o2,o3,o4,o5]
def qF1: List Value:=o1.cells++(o2.cells++(o3.cells++(o4.cells++o5.cells)))
theorem zBq: qG7 ws0 qY4=[(0,[]),(0,[1]),(0,[0]),(6,[]),(0,[0,1,1])]:=by kernel_rfl
theorem qYu(w:World): (qCr 32 #[(0,.int .i64 4),(2,.int .i64 9),(3,.int .i64 8)]).run Tryz.prog w=.ok (.value (.agg c0.cells.toArray)) w:=by kernel_rfl
theorem zC8(w:World): (qCr 34 #[(0,.int .i64 1),(1,.int .i64 7),(5,.agg c0.cells.toArray)]).run Tryz.prog w=.ok (.value (.agg o1.cells.toArray)) w:=by kernel_rfl
theorem zF0(w:World): (qCr 34 #[(0,.int .i64 2),(1,.int .i64 7),(2,.int .i64 3)]).run Tryz.prog w=.ok (.value (.agg o2.cells.toArray)) w:=by kernel_rfl
theorem zFt(w:World): (qCr 34 #[(0,.int .i64 3),(2,.int .i64 5)]).run Tryz.prog w=.ok (.value (.agg o3.cells.toArray)) w:=by kernel_rfl
theorem zGf(w:World): (qCr 34 #[(0,.int .i64 2),(1,.int .i64 7),(2,.int .i64 5)]).run Tryz.prog w=.ok (.value (.agg o4.cells.toArray)) w:=by kernel_rfl
theorem zC0(w:World): (qCr 34 #[(0,.int .i64 4),(1,.int .i64 7)]).run Tryz.prog w=.ok (.value (.agg o5.cells.toArray)) w:=by kernel_rfl
theorem qId(ρ:Operand->Value)(dst:Option Tmp)(x:Array (Nat×Operand))(ty:TypeId)(pos:String)(after:Array Edge)(guard:Option (Nat×Bool)):
  execOp ρ { dst,op:=.build 32 x,type:=ty,pos,after,guard }=qCr 32 (x.map λ(i,y)=>(i,ρ y)):=rfl
theorem qFz(ρ:Operand->Value)(dst:Option Tmp)(x:Array (Nat×Operand))(ty:TypeId)(pos:String)(after:Array Edge)(guard:Option (Nat×Bool)):
  execOp ρ { dst,op:=.build 34 x,type:=ty,pos,after,guard }=qCr 34 (x.map λ(i,y)=>(i,ρ y)):=rfl
def qVz(ty:TypeId)(n:Nat)(ps:Array (Nat×Value)): Sem Next:=do pure (.value (<-Instr.buildSlice ty n ps))
theorem qGq(ρ:Operand->Value)(dst:Option Tmp)(n:Nat)(x:Array (Nat×Operand))(ty:TypeId)(pos:String)(after:Array Edge)(guard:Option (Nat×Bool)):
  execOp ρ { dst,op:=.buildSlice 22 n x,type:=ty,pos,after,guard }=qVz 22 n (x.map λ(i,y)=>(i,ρ y)):=rfl
theorem zGv(w:World): (qVz 22 5 #[(0,.agg o1.cells.toArray),(1,.agg o2.cells.toArray),(2,.agg o3.cells.toArray),(3,.agg o4.cells.toArray),(4,.agg o5.cells.toArray)]).run Tryz.prog w =
  .ok (.value (.slice (some ⟨w.heap.size,0,none⟩) 5 5)) (w.alloc (.cells qF1.toArray 34)):=by kernel_rfl
theorem qC9(ρ:Operand->Value)(dst:Option Tmp)(x y:Operand)(ty:TypeId)(pos:String)(after:Array Edge)(guard:Option (Nat×Bool)):
  execOp ρ { dst,op:=.store 32 x y,type:=ty,pos,after,guard }=qDc 32 (ρ x) (ρ y):=rfl
theorem qLt(w:World)(zs:List Value)(cs:List Value)(hz:zs.length=20)(hc:cs.length=20)(h1:cs.toArray.all (·.oneCell')=true):
  (qDc 32 (.pointer (some ⟨w.heap.size,0,none⟩)) (.agg cs.toArray)).run Tryz.prog (w.alloc (.cells zs.toArray 32))=.ok .skip (w.alloc (.cells cs.toArray 32)):=by
 unfold qDc
 have ht:(w.alloc (.cells zs.toArray 32)).there w.heap.size 0 cs.toArray.size:=by
  intro j hj
  have hj':j<20:=by simpa[hc] using hj
  rw[Nat.zero_add,World.cell?_alloc_new,World.frozen?_alloc_new]
  simp[hz,hj']
 rw[Sem.run_bind,run_storeAt_mid _ w.heap.size 0 32 cs.toArray ht (by rw[qVv];simp[hc]) h1]
 have h2:=qEo cs [] zs (by omega)
 simp only[List.nil_append,List.length_nil]at h2
 rw[qHx,List.toList_toArray,h2]
 rfl
theorem zEq(w:World)(b:Nat)(h:Blk w b qF1 34): ScriptAt w b 0 qY4:=by
 intro i o ho
 have hi:i<5:=(List.getElem?_eq_some_iff.1 ho).1
 have hi':i=0\/i=1\/i=2\/i=3\/i=4:=by omega
 have hr:∀(off:Nat) (cs:List Value),(qF1.drop off).take 26=cs->w.rangeAt b off cs:=by
  intro off cs hcs j v hv
  rw[<-hcs,List.getElem?_take]at hv
  split at hv
  ·exact h.cell (by simpa using hv)
  ·cases hv
 rcases hi' with h' | h' | h' | h' | h'
 all_goals
  subst h'
  injection ho with ho
  subst ho
 ·exact hr 0 _ rfl
 ·exact hr 26 _ rfl
 ·exact hr 52 _ rfl
 ·exact hr 78 _ rfl
 ·exact hr 104 _ rfl
theorem Dr.swapL_all{P:Dr.It->Prop}(h0:P ⟨0,0,0,0,0⟩){l:List Dr.It}(h:∀y,y∈l->P y)(i j:Nat): ∀y,y∈Dr.swapL l i j->P y:=by
 have hat:∀i,P (Dr.itAt l i):=by
  intro i
  unfold Dr.itAt
  rw[List.getD_eq_getElem?_getD]
  cases hi:l[i]? with
  | none=>exact h0
  | some v=>exact h v (List.mem_of_getElem? hi)
 intro y hy
 unfold Dr.swapL at hy
 rcases List.mem_or_eq_of_mem_set hy with hy | hy
 ·rcases List.mem_or_eq_of_mem_set hy with hy | hy
  ·exact h y hy
  ·subst hy;exact hat j
 ·subst hy;exact hat i
theorem Dr.itAt_all{P:Dr.It->Prop}(h0:P ⟨0,0,0,0,0⟩){l:List Dr.It}(h:∀y,y∈l->P y)(i:Nat): P (Dr.itAt l i):=by
 unfold Dr.itAt
 rw[List.getD_eq_getElem?_getD]
 cases hi:l[i]? with
 | none=>exact h0
 | some v=>exact h v (List.mem_of_getElem? hi)
theorem Dr.riseL_all{P:Dr.It->Prop}(h0:P ⟨0,0,0,0,0⟩)(f:Nat)(l:List Dr.It)(i:Nat)(h:∀y,y∈l->P y): ∀y,y∈Dr.riseL f l i->P y:=by
 induction f generalizing l i with
 | zero=>exact h
 | succ f ih =>
  unfold Dr.riseL
  split
  ·exact h
  ·split
   ·exact ih _ _ (Dr.swapL_all h0 h _ _)
   ·exact h
theorem Dr.sinkL_all{P:Dr.It->Prop}(h0:P ⟨0,0,0,0,0⟩)(f:Nat)(l:List Dr.It)(i:Nat)(h:∀y,y∈l->P y): ∀y,y∈Dr.sinkL f l i->P y:=by
 induction f generalizing l i with
 | zero=>exact h
 | succ f ih =>
  unfold Dr.sinkL
  split
  ·exact h
  ·split
   ·exact ih _ _ (Dr.swapL_all h0 h _ _)
   ·exact h
theorem Dr.takeL_all{P:Dr.It->Prop}(h0:P ⟨0,0,0,0,0⟩)(l:List Dr.It)(h:∀y,y∈l->P y): ∀y,y∈Dr.takeL l->P y:=by
 unfold Dr.takeL
 refine Dr.sinkL_all h0 _ _ _ (λy hy=>?_)
 have hy:=List.mem_of_mem_take hy
 rcases List.mem_or_eq_of_mem_set hy with hy | hy
 ·exact h y hy
 ·subst hy;exact Dr.itAt_all h0 h _
theorem Dr.allL_all{P:Dr.It->Prop}(h0:P ⟨0,0,0,0,0⟩): ∀(f:Nat) (l:List Dr.It),(∀y,y∈l->P y)->∀y,y∈Dr.allL f l->P y
 | 0,_,_=>λy hy=>by simp[Dr.allL]at hy
 | f+1,l,h=>λy hy=>by
  unfold Dr.allL at hy
  split at hy
  ·cases hy
  ·rcases List.mem_cons.1 hy with e | e
   ·rw[e];exact Dr.itAt_all h0 h 0
   ·exact Dr.allL_all h0 f _ (Dr.takeL_all h0 l h) y e
theorem Qi.allL_all{P:It->Prop}(h0:P ⟨0,0,0,0⟩): ∀(f:Nat) (l:List It),(∀y,y∈l->P y)->∀y,y∈Qi.allL f l->P y
 | 0,_,_=>λy hy=>by simp[Qi.allL]at hy
 | f+1,l,h=>λy hy=>by
  unfold Qi.allL at hy
  split at hy
  ·cases hy
  ·rcases List.mem_cons.1 hy with e | e
   ·rw[e];exact itAt_all h0 h 0
   ·exact Qi.allL_all h0 f _ (takeL_all h0 l h) y e
def Fall(l:List Bk): Prop:=l.Pairwise (λa b=>b.t<a.t)
theorem Fall.take{l:List Bk}(h:Fall l)(k:Nat): Fall (l.take k):=List.Pairwise.sublist (List.take_sublist k l) h
theorem Fall.drop{l:List Bk}(h:Fall l)(k:Nat): Fall (l.drop k):=List.Pairwise.sublist (List.drop_sublist k l) h
theorem qVr(r:Int): ∀(n:Nat) (l:List Bk),l.length=n->Fall l->∀b,b∈qCw r l->r<b.t
 | 0,l,hn,_=>λb hb=>by
  have:l=[]:=List.length_eq_zero_iff.1 hn
  subst this
  rw[qQt]at hb
  cases hb
 | n+1,l,hn,hf=>λb hb=>by
  have hp:0<l.length:=by omega
  by_cases hc:(qB7 l (l.length-1)).t<=r
  ·rw[qJ4 hp hc]at hb
   exact qVr r n (l.take (l.length-1)) (by rw[List.length_take];omega) (hf.take _) b hb
  ·rw[qJs hp hc]at hb
   rw[qF9 l hp]at hb hf
   rcases List.mem_append.1 hb with h1 | h1
   ·have:=(List.pairwise_append.1 hf).2.2 b h1 _ (List.mem_singleton.2 rfl)
    omega
   ·rw[List.mem_singleton]at h1;rw[h1];omega
theorem qW8{l:List Bk}(x:Bk)(h:Fall l): Fall (qG5 l x):=by
 obtain⟨k,hk,_⟩:=qJa x.t l
 unfold qG5
 split
 ·rw[hk];exact h.take k
 ·refine List.pairwise_append.2 ⟨by rw[hk];exact h.take k,List.pairwise_singleton _ _,λa ha b hb=>?_⟩
  rw[List.mem_singleton]at hb
  rw[hb]
  exact qVr x.t l.length l rfl h a ha
theorem qIl: ∀(l:List Bk) (m:Int),Fall l->(∀b∈l,1<=b.t/\b.t<=m)->(l.length:Int)<=max m 0
 | [],m,_,_=>by simp;omega
 | a::l,m,h,hb=>by
  have h1:=hb a (by simp)
  have h2:=List.pairwise_cons.1 h
  have h3:=qIl l (a.t-1) h2.2 (λb hb'=>⟨(hb b (by simp[hb'])).1,by have:=h2.1 b hb';omega⟩)
  rw[List.length_cons]
  omega
def zFo(z:Dr.It): Prop:=(0<=z.t/\z.t<=4611686018427387904)/\(0<=z.k/\z.k<=4611686018427387904)/\(0<=z.d/\z.d<=4611686018427387904)/\(0<=z.n/\z.n<=4611686018427387904)
structure NX (k:Nat) (nt:Note):Prop where
 bt:∀b∈nt.bs,0<=b.t/\b.t<=4611686018427387904
 rt:∀i,∀b∈nt.rg i,0<=b.sz/\b.sz<=4611686018427387904
 rf:∀i,Fall (nt.rg i)
 tt:k=5->∀z∈nt.tk,zFo z
theorem qYv{P:Int->Prop}(h0:P 0)(K:Int)(f:Nat)(l:List Bk)(sz:Int)(e:Nat)(h:∀b∈l,P b.t): ∀b∈joinL K f l sz e,P b.t:=by
 induction f generalizing l sz e with
 | zero=>exact h
 | succ f ih =>
  unfold joinL
  split
  ·exact h
  ·refine ih _ _ _ (qJ1 (P:=λb=>P b.t) l _ _ h ?_)
   show P (qB7 l _).t
   unfold qB7
   rw[List.getD_eq_getElem?_getD]
   cases hi:l[qCe l sz e+1]? with
   | none=>exact h0
   | some b=>exact h b (List.mem_of_getElem? hi)
theorem zDs{k:Nat}{c:Cfg}{nt:Note}(h:NX k nt)(y:It)(m:Int)(t0:0<=y.t)(t1:y.t<=4611686018427387904)(hy:k=5->(0<=y.k/\y.k<=4611686018427387904)/\(0<=y.d/\y.d<=4611686018427387904)/\(0<=y.n/\y.n<=4611686018427387904)): NX k (qLf k c nt y m):=by
 unfold qLf
 split
 ·exact⟨h.bt,h.rt,h.rf,h.tt⟩
 ·split
  ·refine⟨?_,h.rt,h.rf,h.tt⟩
   refine qYv (P:=λt=>0<=t/\t<=4611686018427387904) (by omega) _ _ _ _ _ (λb hb=>?_)
   unfold qSq at hb
   rcases List.mem_append.1 hb with hb | hb
   ·exact h.bt b (List.mem_of_mem_drop hb)
   ·rw[List.mem_singleton]at hb;rw[hb];exact⟨t0,t1⟩
  ·split
   ·refine⟨h.bt,λi b hb=>?_,λi=>?_,h.tt⟩
    ·have hb':b∈qM4 c (qG6 c) nt.rg y m i:=hb
     unfold qM4 at hb'
     split at hb'
     ·rcases qL7 hb' with hb' | hb'
      ·exact h.rt i b (List.mem_of_mem_drop hb')
      ·rw[hb'];exact⟨t0,t1⟩
     ·exact h.rt i b hb'
    ·show Fall (qM4 c (qG6 c) nt.rg y m i)
     unfold qM4
     split
     ·exact qW8 _ ((h.rf i).drop _)
     ·exact h.rf i
   ·split
    ·exact⟨h.bt,h.rt,h.rf,h.tt⟩
    ·split
     ·rename_i h5
      refine⟨h.bt,h.rt,h.rf,λ_=>?_⟩
      have hz:zFo ⟨0,0,0,0,0⟩:=⟨⟨by simp,by simp⟩,⟨by simp,by simp⟩,⟨by simp,by simp⟩,⟨by simp,by simp⟩⟩
      have h1:∀z,z∈Dr.riseL (nt.tk.length+1) (nt.tk++[tick c y]) nt.tk.length->zFo z:=Dr.riseL_all hz _ _ _ (λz hz'=>by
         rcases List.mem_append.1 hz' with hz' | hz'
         ·exact h.tt h5 z hz'
         ·rw[List.mem_singleton]at hz';rw[hz'];exact⟨⟨t0,t1⟩,hy h5⟩)
      show ∀z∈qGm c nt.tk y,zFo z
      unfold qGm
      split
      ·exact Dr.takeL_all hz _ h1
      ·exact h1
     ·exact h
structure SX (x:Ser):Prop where
 id0:0<=x.id/\x.id<=99
 accm:x.acc<=4611686018427387904
 nums:∀y,y∈x.l->0<=y.n/\y.n<=4611686018427387904
 refm:∀v,v∈x.ref->v<=4611686018427387904
 note:NX x.k x.nt
theorem qKf{c:Cfg}{k:Nat}{y:It}(h:qDb c k y=0)(hk:k=5): (0<=y.k/\y.k<=4611686018427387904)/\(0<=y.d/\y.d<=4611686018427387904):=by
 subst hk
 have h2:qIy c y=0:=h
 unfold qIy at h2
 split at h2
 ·split at h2
  ·rename_i h3
   split at h2
   ·rename_i h4
    have a:=qDp h3
    have b:=qDp h4
    omega
   ·omega
  ·omega
 ·omega
theorem qYg{n:Int}{x:Ser}(h:SX x)(hi:SInv n x)(hl:x.l≠[])(m:Int): SX (qEx x m):=by
 have hmem:=qFt hl
 have ht:=hi.times _ hmem
 refine⟨h.id0,h.accm,λy hy=>h.nums y (qJn hi.heap hl hy),h.refm,?_⟩
 exact zDs h.note _ _ ht.1 ht.2 (λe=>by
    have hk:=qKf (hi.fits _ hmem) e
    exact⟨hk.1,hk.2,h.nums _ hmem⟩)
theorem zEy(f:Nat){n:Int}{x:Ser}(h:SX x)(hi:SInv n x)(m:Int): SX (relS f x m):=by
 induction f generalizing x with
 | zero=>exact h
 | succ f ih =>
  unfold relS
  split
  ·exact h
  ·rename_i he
   have hl:x.l≠[]:=by simpa using he
   split
   ·exact h
   ·rename_i hm
    exact ih (qYg h hi hl m) (qE1 hi hl m hm)
theorem zDl{x:Ser}(clock b:Int)(h:SX x): SX (qWw clock b x):=by
 refine⟨h.id0,h.accm,h.nums,h.refm,?_⟩
 show NX x.k (qIx x.k x.c x.nt (clock-x.c.lag) b).1
 unfold qIx
 split
 ·exact⟨λz hz=>h.note.bt z (List.mem_of_mem_drop hz),h.note.rt,h.note.rf,h.note.tt⟩
 ·exact h.note
theorem zDi{n:Int}{x:Ser}(h:SX x)(hi:SInv n x)(y:It)(ha:x.acc<4611686018427387904): SX (accS x y):=by
 have h0:=hi.acc0
 have hp:=put_heap x.l (numbered y (x.acc+1)) hi.heap
 refine⟨h.id0,by show x.acc+1<=_;omega,λz hz=>?_,h.refm,h.note⟩
 rcases List.mem_cons.1 (hp.2.subset hz) with e | e
 ·rw[e];show 0<=x.acc+1/\x.acc+1<=_;omega
 ·exact h.nums z e
theorem zEt{x:Ser}(h:SX x)(c:Nat): SX (refS x c):=by
 refine⟨h.id0,h.accm,h.nums,λv hv=>?_,h.note⟩
 rcases List.mem_or_eq_of_mem_set hv with hv | hv
 ·exact h.refm v hv
 ·rw[hv];unfold zEl;split <;> omega
theorem qX8(id:Int)(c:Cfg)(k:Nat)(h:0<=id/\id<=99): SX (qBk id c k):=by
 refine⟨h,by show(0:Int)<=_;omega,λy hy=>(by cases hy),λv hv=>?_,⟨λb hb=>(by cases hb),λi b hb=>(by cases hb),λi=>List.Pairwise.nil,λ_ z hz=>(by cases hz)⟩⟩
 have:v=0:=by simpa[qBk] using hv
 omega
def EX(s:WS): Prop:=∀x,x∈s.xs->SX x
def LoadX(o:OpM): Prop:=o.kind=7->∀s',zDe o.bytes=some s'->EX s'
theorem qLc{n:Int}{s:WS}(o:OpM)(h:EX s)(hi:EInv n s.clock s.xs)(hL:LoadX o): EX (qBq s o).1:=by
 unfold qBq
 split
 ·unfold qDa
  split
  ·rename_i hc
   split
   ·split
    ·intro x hx
     rcases List.mem_append.1 hx with hx | hx
     ·exact h x hx
     ·rw[List.mem_singleton]at hx;rw[hx];exact qX8 _ _ _ (qDp hc.1)
    ·exact h
   ·exact h
  ·exact h
 ·split
  ·unfold qSp
   split
   ·exact h
   ·rename_i x hf
    have hx:x∈s.xs:=List.mem_of_find?_eq_some hf
    split
    ·rename_i hr
     obtain⟨_,_,_,_,_,_,ha⟩:=qMc hr
     intro z hz
     rcases qFq hz with hz | hz
     ·exact h z hz
     ·rw[hz];exact zDi (h x hx) (hi.sers x hx) _ ha
    ·intro z hz
     rcases qFq hz with hz | hz
     ·exact h z hz
     ·rw[hz];exact zEt (h x hx) _
  ·split
   ·unfold qIt
    split
    ·split
     ·refine qH6 (P:=SX) _ (λb x hx=>zDl _ b hx) _ _ (λz hz=>?_)
      obtain⟨x,hx,rfl⟩:=List.mem_map.1 hz
      exact zEy _ (h x hx) (hi.sers x hx) _
     ·exact h
    ·exact h
   ·split
    ·unfold qG2
     split <;> exact h
    ·split
     ·unfold qG3
      split <;> exact h
     ·split
      ·exact h
      ·split
       ·rename_i h7
        unfold zBp
        split
        ·exact h
        ·rename_i s' hs'
         exact hL h7 s' hs'
       ·exact h
theorem qWs{c:Cfg}{k:Nat}(hv:qA7 c=true)(hk:c.kind=k)(k1:1<=k)(k5:k<=5): (∀n,n∈qBo k c->0<=n/\n<=9223372036854775807)/\0<=qBt k c/\qBt k c<=3:=by
 have hcm:0<=c.lag/\c.lag<=100/\0<=c.skew/\c.skew<=100/\1<=c.cap/\c.cap<=8:=by
  have:=hv
  simp only[qA7,qDk,inB,Bool.and_eq_true,decide_eq_true_eq]at this
  omega
 have hkn:c.kind.toNat=k:=by omega
 have hfit:qFr c k=true:=by
  have:=hv
  simp only[qA7,Bool.and_eq_true]at this
  rw[<-hkn];exact this.2.2
 rcases five k1 k5 with e | e | e | e | e <;> subst e
 ·obtain⟨a1,a2,a3,a4⟩:=qC3 hv hk rfl
  refine⟨λn hn=>?_,by simp[qBt],by simp[qBt]⟩
  simp[qBo,qCp,qBt,qBs,Cfg.num,Cfg.nums]at hn
  omega
 ·obtain⟨⟨p1,p2,p3,p4⟩,a2,a3,a4,a5⟩:=qCa hv hk rfl
  refine⟨λn hn=>?_,by simp[qBt],by simp[qBt]⟩
  simp[qBo,qCp,qBt,qBs,Cfg.num,Cfg.nums,List.range_succ]at hn
  omega
 ·obtain⟨hp,hr,_⟩:=qBp hv hk rfl
  obtain⟨r0,r1,w0,w1,sd⟩:=hr
  have q0:=hp.w0;have q1:=hp.w1;have q2:=hp.p0;have q3:=hp.p1
  refine⟨λn hn=>?_,by simp[qBt];omega,by simp[qBt];omega⟩
  have hr3:c.rows=1\/c.rows=2\/c.rows=3:=by omega
  rcases hr3 with e | e | e
  ·have s0:=sd 0 (by omega)
   simp[qBo,qCp,qBt,qBs,Cfg.num,Cfg.nums,e,List.range_succ]at hn
   simp[sdA,sdB]at s0
   omega
  ·have s0:=sd 0 (by omega)
   have s1:=sd 1 (by omega)
   simp[qBo,qCp,qBt,qBs,Cfg.num,Cfg.nums,e,List.range_succ]at hn
   simp[sdA,sdB]at s0 s1
   omega
  ·have s0:=sd 0 (by omega)
   have s1:=sd 1 (by omega)
   have s2:=sd 2 (by omega)
   simp[qBo,qCp,qBt,qBs,Cfg.num,Cfg.nums,e,List.range_succ]at hn
   simp[sdA,sdB]at s0 s1 s2
   omega
 ·have hd:qIj c=true:=hfit
  simp only[qIj,inB,Bool.and_eq_true,decide_eq_true_eq]at hd
  refine⟨λn hn=>?_,by simp[qBt],by simp[qBt]⟩
  simp[qBo,qCp,qBt,qBs,Cfg.num,Cfg.nums]at hn
  omega
 ·have hd:qKp c=true:=hfit
  simp only[qKp,qIj,inB,Bool.and_eq_true,decide_eq_true_eq]at hd
  refine⟨λn hn=>?_,by simp[qBt],by simp[qBt]⟩
  simp[qBo,qCp,qBt,qBs,Cfg.num,Cfg.nums]at hn
  omega
theorem qJd{n:Int}{x:Ser}(h:SX x)(hi:SInv n x)(hn:x.rel<=1000000000000): SerOk x:=by
 obtain⟨a1,a2,a3⟩:=qWs hi.valid hi.kind hi.k1 hi.k5
 have hcm:=hi.common
 have hcap:=hi.cap
 have hlen:x.l.length<=8:=by omega
 have hni:=hi.note
 have hr0:=hi.rel0
 have hone:=qIf hni.one
 have hsum:=hni.sum
 refine⟨by have:=h.id0;omega,a1,a2,a3,hi.reflen,λv hv=>by have h1:=hi.refn v hv;have h2:=h.refm v hv;omega,by omega,hlen,?_,?_,hi.valid,hi.kind,hi.k1,hi.k5⟩
 ·intro m hm
  unfold qGr at hm
  obtain⟨y,hy,hmy⟩:=List.mem_flatMap.1 hm
  have hP:=Qi.allL_all (P:=λy=>(0<=y.n/\y.n<=4611686018427387904)/\(0<=y.t/\y.t<=4611686018427387904)/\(x.k=2\/x.k=3\/x.k=5->0<=y.k/\y.k<=4611686018427387904)/\(x.k=5->0<=y.d/\y.d<=4611686018427387904)) (by simp) (x.l.length+1) x.l (λy hy=>⟨h.nums y hy,hi.times y hy,λhk=>by
       rcases hk with e | e | e
       ·have:=qMr (hi.fits y hy) (.inl e);omega
       ·have:=qMr (hi.fits y hy) (.inr e);omega
       ·exact(qKf (hi.fits y hy) e).1,λe=>(qKf (hi.fits y hy) e).2⟩) y hy
  obtain⟨p1,p2,p3,p4⟩:=hP
  unfold qK8 at hmy
  rcases List.mem_cons.1 hmy with e | e
  ·rw[e];omega
  ·obtain⟨j,hj,rfl⟩:=List.mem_map.1 e
   have hk1:=hi.k1;have hk5:=hi.k5
   have hj':j=0\/(j=1/\(x.k=2\/x.k=3\/x.k=5))\/(j=2/\x.k=5):=by
    have hk:x.k=1\/x.k=2\/x.k=3\/x.k=4\/x.k=5:=by omega
    rcases hk with e | e | e | e | e <;> rw[e]at hj <;> simp[qD2]at hj <;> omega
   rcases hj' with e | ⟨e,hk⟩ | ⟨e,hk⟩
   ·subst e;show 0<=y.t/\y.t<=_;omega
   ·subst e;have:=p3 hk;show 0<=y.k/\y.k<=_;omega
   ·subst e;have:=p4 hk;show 0<=y.d/\y.d<=_;omega
 ·refine⟨by have:=hni.q0;have:=hni.qn;omega,by have:=hni.r0;have:=hni.r1;omega,by omega,λb hb=>⟨hni.one b hb,?_⟩,λb hb=>by have:=h.note.bt b hb;omega,λi=>?_,λi b hb=>by have h1:=h.note.rt i b hb;have h2:=hni.rk i b hb;omega,λe=>?_,λe=>?_,λe m hm=>?_⟩
  ·have:b.sz<=qDx x.nt.bs:=by
    have h1:=List.append_of_mem hb
    obtain⟨s,t,hst⟩:=h1
    rw[hst,qDn]
    have h2:=qB2 (l:=s) (λz hz=>hni.one z (by rw[hst];simp[hz]))
    have h3:=qB2 (l:=t) (λz hz=>hni.one z (by rw[hst];simp[hz]))
    simp only[qDx];omega
   omega
  ·have:=qIl (x.nt.rg i) 40 (h.note.rf i) (hni.rk i)
   omega
  ·obtain⟨b1,b2,b3,b4,b5⟩:=qBp hi.valid hi.kind e
   have ho:=hni.oi e
   have hcl:x.nt.cl.length<=8:=by have:=ho.len;have:=b1.p1;omega
   exact⟨by omega,ho.okC hi.lastn b3 b4,ho.okO hi.lastn b3 b4,λz hz=>by have:=ho.ocs z hz;omega,λp hp z hz=>by have:=ho.ccs p hp z hz;omega⟩
  ·have h1:=hni.tl e
   have h2:=(qDf hi.valid hi.kind e).2
   omega
  ·unfold qK6 at hm
   obtain⟨z,hz,hmz⟩:=List.mem_flatMap.1 hm
   have hP:zFo z:=Dr.allL_all (P:=zFo) ⟨⟨by simp,by simp⟩,⟨by simp,by simp⟩,⟨by simp,by simp⟩,⟨by simp,by simp⟩⟩ _ _ (h.note.tt e) z hz
   obtain⟨z1,z2,z3,z4⟩:=hP
   simp at hmz
   rcases hmz with e | e | e | e <;> rw[e] <;> omega
end
section
open Go.RowKit
attribute [local go_sem ↓] qAd qAe qC9 qId qFz qGq
attribute [local go_sem] qAg qAm qAb qAc qAn qAo qAi qAh qYu zC8 zF0 zFt zGf zC0 zGv
def qG8(ops:List OpM): Prop:=∀o,o∈ops->o.kind≠7
theorem zEb{n:Int}{s:WS}(l:List OpM)(h:EX s)(hi:EInv n s.clock s.xs)(hn:0<=n)(hok:qG8 l): EX (qG4 s l):=by
 induction l generalizing s n with
 | nil=>exact h
 | cons a l ih =>
  have ha:=hok a (by simp)
  exact ih (qLc a h hi (λe=>(ha e).elim)) (qHv a hi hn (qFe ha)) (by omega) (λo ho=>hok o (by simp[ho]))
theorem qTz(sb so cap:Nat)(ops:List OpM)(w:World)(hsc:ScriptAt w sb so ops)(hlt:sb<w.heap.size)(hlen:ops.length<=651562446090)(hT:Tab w)(hok:qG8 ops):
  Calls Tryz.prog 11 #[.slice (some ⟨sb,so,none⟩) ops.length cap] w λr w'=>∃v l,r=.returned v/\ARep w' w.heap.size v l/\l.map (λx=>(x.code,x.nums))=qG7 ws0 ops/\l.map (·.bs)=qIo ws0 ops/\Keeps (λ_=>False) w w' :=
 zEp sb so cap ops w hsc hlt hlen hT (λ_ o ho=>qFe (hok o (List.mem_of_getElem? ho))) (λi e v clock ps o w ho hs h hi hn hT hT0=>qVp i e v clock ps o w h hi hn hT hT0 (hok o (List.mem_of_getElem? ho)) (λ_ x hx=>by
      have hex:EX (qG4 ws0 (ops.take i)):=zEb (ops.take i) (λx hx=>by simp[ws0]at hx) inv0 (by omega) (λo ho=>hok o (List.mem_of_mem_take ho))
      rw[<-hs]at hex
      have hsi:=hi.sers x hx
      exact qJd (hex x hx) hsi (by have h1:=hsi.rela;have h2:=hsi.accn;omega)))
theorem zE7: qG8 qY4:=by
 intro o ho
 simp[qY4,o1,o2,o3,o4,o5]at ho
 rcases ho with h | h | h | h | h <;> subst h <;> simp
theorem qOr{w:World}{base:Nat}{v:Value}{l:List Ans}(h:ARep w base v l)(hl:l≠[]): ∃g cap,v=.slice (some ⟨g,0,none⟩) l.length cap/\∀i u,(qD9 l)[i]?=some u->w.cell? ⟨g,i,none⟩=some u:=by
 rcases h.row.2 with ⟨_,h2⟩ | ⟨g,cap,cur,h1,_,h3,h4,h5,h6,h7⟩
 ·exact absurd (List.length_eq_zero_iff.1 h2) hl
 ·refine⟨g,cap,h1,λi u hu=>?_⟩
  have hi:i<l.length*3:=by have:=(List.getElem?_eq_some_iff.1 hu).1;have:=h.row.1;omega
  have:cur[i]?=some u:=by
   rw[<-h7,List.getElem?_take,if_pos hi]at hu
   simpa using hu
  simp[World.cell?,h3,this]
theorem qZp{α:Type _}(l:List α)(h:l.length=5): ∃a b c d e,l=[a,b,c,d,e]:=by
 cases l with
 | nil=>cases h
 | cons a l =>
  cases l with
  | nil=>cases h
  | cons b l =>
   cases l with
   | nil=>cases h
   | cons c l =>
    cases l with
    | nil=>cases h
    | cons d l =>
     cases l with
     | nil=>cases h
     | cons e l =>
      cases l with
      | nil=>exact⟨a,b,c,d,e,rfl⟩
      | cons f l=>simp at h
theorem qYw(w:World)(hT:Tab w): Calls Tryz.prog 7 #[] w λe w'=>e=.returned (.bool true)/\Keeps (λ_=>False) w w':=by
 have hst:∀zs:List Value,zs.length=20->(qDc 32 (.pointer (some ⟨w.heap.size,0,none⟩)) (.agg c0.cells.toArray)).run Tryz.prog (w.alloc (.cells zs.toArray 32))=.ok .skip (w.alloc (.cells c0.cells.toArray 32)):=λzs hz=>qLt w zs c0.cells hz rfl (by simp[Cfg.cells,Value.oneCell'])
 have hv1:qAv (w.alloc (.cells c0.cells.toArray 32)) w.heap.size 0 20=.agg c0.cells.toArray:=qAf w c0.cells 32 20 rfl
 have hh1:qA3 (w.alloc (.cells c0.cells.toArray 32)) w.heap.size 0 20=true:=qC8 w c0.cells 32 20 rfl
 have HK0:=hide (((Keeps.refl (λ_=>False) w).alloc (.cells c0.cells.toArray 32)).alloc (.cells qF1.toArray 34))
 have HB0:=hide (show Blk ((w.alloc (.cells c0.cells.toArray 32)).alloc (.cells qF1.toArray 34)) (w.heap.size+1) qF1 34 from Blk.newAt (by simp) _ _)
 have HTT:=hide hT
 clear hT
 go_enter Tryz.func7,Tryz.ntmps7
 go_wp2_with fail
 refine(qTz (w.heap.size+1) 0 5 qY4 _ (zEq _ _ (uh HB0)) (uh HB0).lt (by decide) ((uh HTT).keeps (uh HK0) (λh=>h)) zE7).mono ?_
 rintro r w1 ⟨v,l,rfl,hA,hM,_,hk1⟩
 rw[zBq]at hM
 obtain⟨x0,x1,x2,x3,x4,hl5⟩:=qZp l (by have:=congrArg List.length hM;simpa using this)
 subst hl5
 simp only[List.map_cons,List.map_nil,List.cons.injEq,Prod.mk.injEq,and_true]at hM
 obtain⟨⟨k0,m0⟩,⟨k1,m1⟩,⟨k2,m2⟩,⟨k3,m3⟩,k4,m4⟩:=hM
 obtain⟨g,cap,hv,hc⟩:=qOr hA (by simp)
 have n1:=hA.nums x1 (by simp)
 have n4:=hA.nums x4 (by simp)
 rw[m1]at n1
 rw[m4]at n4
 rcases qHb n1 with ⟨h,_⟩ | ⟨g1,cp1,hv1',hn1⟩
 ·cases h
 rcases qHb n4 with ⟨h,_⟩ | ⟨g4,cp4,hv4',hn4⟩
 ·cases h
 have y0:w1.cell? ⟨g,0,none⟩=some (.int .i64 0):=(hc 0 _ rfl).trans (by rw[k0])
 have y1:w1.cell? ⟨g,3,none⟩=some (.int .i64 0):=(hc 3 _ rfl).trans (by rw[k1])
 have y2:w1.cell? ⟨g,6,none⟩=some (.int .i64 0):=(hc 6 _ rfl).trans (by rw[k2])
 have y3:w1.cell? ⟨g,9,none⟩=some (.int .i64 6):=(hc 9 _ rfl).trans (by rw[k3])
 have y4:w1.cell? ⟨g,12,none⟩=some (.int .i64 0):=(hc 12 _ rfl).trans (by rw[k4])
 have z1:w1.cell? ⟨g,4,none⟩=some (.slice (some ⟨g1,0,none⟩) 1 cp1):=(hc 4 _ rfl).trans (by rw[hv1'];rfl)
 have z4:w1.cell? ⟨g,13,none⟩=some (.slice (some ⟨g4,0,none⟩) 3 cp4):=(hc 13 _ rfl).trans (by rw[hv4'];rfl)
 have p1:w1.cell? ⟨g1,0,none⟩=some (.int .i64 1):=hn1 0 (by simp)
 have q0:w1.cell? ⟨g4,0,none⟩=some (.int .i64 0):=hn4 0 (by simp)
 have q1:w1.cell? ⟨g4,1,none⟩=some (.int .i64 1):=hn4 1 (by simp)
 have q2:w1.cell? ⟨g4,2,none⟩=some (.int .i64 1):=hn4 2 (by simp)
 have HK1:=hide ((uh HK0).then hk1)
 rw[hv]
 clear hA hk1 hc n1 n4 hn1 hn4 hv hv1' hv4' k0 k1 k2 k3 k4 m0 m1 m2 m3 m4 hst hv1 hh1 HK0 HB0
 show _
 go_wp2
 go_ret
 exact⟨rfl,uh HK1⟩
end
section
open Go.RowKit
attribute [local go_sem ↓] qAd qAe qC7
attribute [local go_sem] qAg qAm qAb qAc qAn qAo qAi qAh
theorem qXx{n:Int}{s:WS}(o:OpM)(h:EInv n s.clock s.xs): (qBq s o).2.2.length<=17:=by
 unfold qBq
 split
 ·unfold qDa;(repeat' split) <;> simp
 split
 ·unfold qSp;(repeat' split) <;> simp
 split
 ·unfold qIt;(repeat' split) <;> simp
 split
 ·unfold qG2;split
  ·simp
  ·rename_i x hx
   have hi:=h.sers x (List.mem_of_find?_eq_some hx)
   show(qHl x.k x.c x.nt o.a (s.clock-x.c.lag)).2.length<=17
   unfold qHl
   split
   ·simp
   split
   ·split <;> simp
   split
   ·rename_i h2
    obtain⟨_,_,b4,_,_⟩:=qCa hi.valid hi.kind h2
    unfold zCs
    split
    ·show(qDy _ _ _++[_]).length<=17
     rw[List.length_append,qGn,List.length_singleton]
     have:qG6 x.c<=16:=Nat.pow_le_pow_right (n:=2) (by omega) (show x.c.bits.toNat<=4 by omega)
     omega
    ·simp
   split
   ·split <;> simp
   split
   ·rename_i h5
    have hd:=qDf hi.valid hi.kind h5
    show(qQh x.c x.nt.tk).length<=17
    unfold qQh
    simp only[List.length_append,qDi,List.length_take]
    simp
    omega
   ·simp
 split
 ·unfold qG3;(repeat' split) <;> simp[qCg,qB1]
 split
 ·simp
 split
 ·unfold zBp;split <;> simp
 ·simp
theorem qYx{n:Int}{s:WS}(ops:List OpM)(hs:EInv n s.clock s.xs)(hn:0<=n)(hL:∀(i:Nat) o,ops[i]?=some o->qRx (n+i+1) o)(x:Int×List Int)(h:x∈qG7 s ops): x.2.length<=17:=by
 induction ops generalizing s n with
 | nil=>simp[qG7]at h
 | cons o r ih =>
  rcases List.mem_cons.1 h with h | h
  ·subst h;exact qXx o hs
  ·exact ih (qHv o hs hn (by have:=hL 0 o rfl;simpa using this)) (by omega) (λi o ho=>by
      have:=hL (i+1) o (by simpa using ho)
      rw[show n+1+(i:Int)+1=n+((i+1:Nat):Int)+1 by omega]
      exact this) h
theorem qWe(ops:List OpM)(hok:qG8 ops)(x:Int×List Int)(h:x∈qG7 ws0 ops): x.2.length<=17 :=
 qYx ops inv0 (by omega) (λ_ o ho=>qFe (hok o (List.mem_of_getElem? ho))) x h
theorem zDj(a:Option Addr)(cap:Nat)(w:World):
  Calls Tryz.prog 11 #[.slice a 0 cap] w λr w'=>∃v l,r=.returned v/\ARep w' w.heap.size v l/\l.map (λx=>(x.code,x.nums))=qG7 ws0 []/\l.map (·.bs)=qIo ws0 []/\Keeps (λ_=>False) w w':=by
 obtain⟨i0,hi0,hz0,hz1,hz2⟩:=info_parts qYi
 go_enter Tryz.func11,Tryz.ntmps11
 go_wp2_with (at_make;refine wpList_make_own _ rfl _ _ _ rfl w.heap.size 38 i0 _ 3 Tryz.underlying26 hi0 hz0 hz1 _ _ _ 0 rfl rfl rfl (by rw[hz2];omega) (by unfold maxLen;omega) (by simp) ?_;intro w1 ho1 hg1)
 rw[World.size_alloc]at ho1
 have hkw1:Keeps (λ_=>False) w w1:=((Keeps.refl (λ_=>False) w).alloc _).grown hg1 (λk hk=>by cases hk)
 have HA1:=hide (show ARep w1 w.heap.size (.slice (some ⟨w.heap.size+1,0,none⟩) 0 0) [] from⟨ho1,λx hx=>by simp at hx,λx hx=>by simp at hx⟩)
 have HK1:=hide hkw1
 clear hg1 ho1 hkw1
 go_loopw [4,12] (λav i wr=>i=.int .i64 0/\av=.slice (some ⟨w.heap.size+1,0,none⟩) 0 0/\wr=w1) (λ_ _ _=>0)
 case atStart=>exact⟨rfl,rfl,rfl⟩
 case round =>
  obtain⟨rfl,rfl,rfl⟩:=hrel
  go_wp2
  go_ret
  exact⟨_,[],rfl,uh HA1,rfl,rfl,uh HK1⟩
end
section
open Go.RowKit
theorem qIq(l:List Ans)(i j:Nat)(x:Ans)(h:l[i]?=some x)(hj:j<3): (qD9 l)[i*3+j]?=x.cells[j]?:=by
 induction l generalizing i with
 | nil=>simp at h
 | cons a l ih =>
  have hc:qD9 (a::l)=a.cells++qD9 l:=by simp[qD9]
  rw[hc]
  cases i with
  | zero =>
   have:a=x:=by simpa using h
   subst this
   rw[List.getElem?_append_left (by simp[Ans.cells];omega)]
   simp
  | succ i =>
   rw[List.getElem?_append_right (by simp[Ans.cells];omega)]
   have:=ih i (by simpa using h)
   rw[<-this]
   congr 1
   simp[Ans.cells];omega
theorem qEj{w:World}{base T c:Nat}{v:Value}{n:Nat}{l:List Value}(h:w.ownsRow base T c v n l): ∃a cap,v=.slice a n cap:=by
 rcases h.2 with ⟨h1,h2⟩ | ⟨g,cap,cur,h1,_⟩
 ·exact⟨none,0,by rw[h1,h2]⟩
 ·exact⟨_,_,h1⟩
theorem qHr{w:World}{base:Nat}{a:Option Addr}{n cap:Nat}{l:List Ans}(h:ARep w base (.slice a n cap) l)(i:Nat)(x:Ans)(hx:l[i]?=some x):
  ∃g,a=some ⟨g,0,none⟩/\w.cell? ⟨g,i*3,none⟩=some (.int .i64 x.code)/\w.cell? ⟨g,i*3+1,none⟩=some x.nv/\w.cell? ⟨g,i*3+2,none⟩=some (.string x.bs):=by
 obtain⟨g,cap',hv,hc⟩:=qOr h (by intro h;rw[h]at hx;simp at hx)
 injection hv with h1 h2 h3
 exact⟨g,h1,hc _ _ (qIq l i 0 x hx (by omega)),hc _ _ (qIq l i 1 x hx (by omega)),hc _ _ (qIq l i 2 x hx (by omega))⟩
def qEk(l:List OpM): List Value:=l.flatMap OpM.cells
theorem qP3(a b:List OpM): qEk (a++b)=qEk a++qEk b:=by simp[qEk]
theorem qJh(l:List OpM): (qEk l).length=l.length*26:=by
 induction l with
 | nil=>rfl
 | cons a l ih =>
  have hc:qEk (a::l)=a.cells++qEk l:=by simp[qEk]
  rw[hc,List.length_append,ih,List.length_cons]
  have:a.cells.length=26:=rfl
  omega
theorem qNy(l:List OpM)(i j:Nat)(x:OpM)(h:l[i]?=some x)(hj:j<26): (qEk l)[i*26+j]?=x.cells[j]?:=by
 induction l generalizing i with
 | nil=>simp at h
 | cons a l ih =>
  have hc:qEk (a::l)=a.cells++qEk l:=by simp[qEk]
  have hl:a.cells.length=26:=rfl
  rw[hc]
  cases i with
  | zero =>
   have:a=x:=by simpa using h
   subst this
   rw[List.getElem?_append_left (by omega)]
   simp
  | succ i =>
   rw[List.getElem?_append_right (by omega)]
   have:=ih i (by simpa using h)
   rw[<-this]
   congr 1
   omega
theorem qWm(l:List OpM)(u:Value)(h:u∈qEk l): u.oneCell'=true:=by
 obtain⟨o,_,hu⟩:=List.mem_flatMap.1 h
 have:=qJ6 o
 simp only[List.all_toArray,List.all_eq_true]at this
 exact this u hu
abbrev qZ8(w:World)(base:Nat)(v:Value)(ops:List OpM): Prop:=w.ownsRow base 34 26 v ops.length (qEk ops)
def ScriptW(w:World)(v:Value)(ops:List OpM): Prop:=((∃a c,v=.slice a 0 c)/\ops=[])\/∃sb so cap,v=.slice (some ⟨sb,so,none⟩) ops.length cap/\ops.length<=cap/\ScriptAt w sb so ops/\sb<w.heap.size
theorem ScriptAt.keeps{w w':World}{sb so:Nat}{ops:List OpM}(h:ScriptAt w sb so ops)(hk:Keeps (λ_=>False) w w'): ScriptAt w' sb so ops :=
 λi o ho j u hu=>hk.cell (h i o ho j u hu) (λh=>h)
theorem ScriptW.keeps{w w':World}{v:Value}{ops:List OpM}(h:ScriptW w v ops)(hk:Keeps (λ_=>False) w w'): ScriptW w' v ops:=by
 rcases h with h | ⟨sb,so,cap,h1,h2,h3,h4⟩
 ·exact .inl h
 ·exact .inr ⟨sb,so,cap,h1,h2,h3.keeps hk,by have:=hk.size;omega⟩
theorem qLh(v:Value)(ops:List OpM)(w:World)(h:ScriptW w v ops)(hlen:ops.length<=651562446090)(hT:Tab w)(hok:qG8 ops):
  Calls Tryz.prog 11 #[v] w λr w'=>∃v l,r=.returned v/\ARep w' w.heap.size v l/\l.map (λx=>(x.code,x.nums))=qG7 ws0 ops/\l.map (·.bs)=qIo ws0 ops/\Keeps (λ_=>False) w w':=by
 rcases h with ⟨⟨a,c,rfl⟩,rfl⟩ | ⟨sb,so,cap,rfl,h2,h3,h4⟩
 ·exact zDj a c w
 ·exact qTz sb so cap ops w h3 h4 hlen hT hok
theorem qNz{w:World}{base:Nat}{v:Value}{ops:List OpM}(h:qZ8 w base v ops): (v=.slice none 0 0/\ops=[])\/∃g cap,v=.slice (some ⟨g,0,none⟩) ops.length cap/\ops.length<=cap/\ScriptAt w g 0 ops/\g<w.heap.size/\base<=g/\cap<=maxLen:=by
 rcases h.2 with ⟨h1,h2⟩ | ⟨g,cap,cur,h1,h2,h3,h4,h5,h6,h7⟩
 ·exact .inl ⟨h1,List.length_eq_zero_iff.1 h2⟩
 ·refine .inr ⟨g,cap,h1,h4,?_,(Array.getElem?_eq_some_iff.1 h3).1,h2,h5⟩
  intro i o ho j u hu
  have hj:j<26:=by have:=(List.getElem?_eq_some_iff.1 hu).1;exact this
  have hi:i<ops.length:=(List.getElem?_eq_some_iff.1 ho).1
  have hf:=qNy ops i j o ho hj
  have hc:cur[i*26+j]?=some u:=by
   rw[<-h7,List.getElem?_take,if_pos (by omega),hu]at hf
   simpa using hf
  rw[Nat.zero_add]
  simp[World.cell?,h3,hc]
theorem qFi{w:World}{base:Nat}{v:Value}{ops:List OpM}(h:qZ8 w base v ops): ScriptW w v ops:=by
 rcases qNz h with ⟨h1,h2⟩ | ⟨g,cap,h1,h2,h3,h4,_,_⟩
 ·exact .inl ⟨⟨_,_,h1⟩,h2⟩
 ·exact .inr ⟨g,0,cap,h1,h2,h3,h4⟩
def cz0: List Value:=(⟨0,0,0,0,0,cz,qAa⟩:OpM).cells
theorem zGk: (Tryz.prog.info? 34).map (λi=>(i.zero,i.size,i.bytes))=some (some (.agg cz0.toArray),26,216):=by kernel_rfl
end
section
open Go.RowKit
attribute [local go_sem ↓] qAd qAe qC7 qGq
attribute [local go_sem] qAg qAm qAb qAc qAn qAo qAi qAh
theorem qEp{w:World}{ops:Array Oper}{rest:List Oper}{o:Oper}{a:Act}{Q:Exit->Act->World->Prop}(hgd:o.guard=none)(s x:Operand)(ho:o.op=.call { callee:=.builtin .append,args:=#[s,x],argTypes:=#[22,22] })(base:Nat)(v:Value)(A:List OpM)(hs:a.eval s=v)(hown:qZ8 w base v A)(u:Value)(B:List OpM)(hx:a.eval x=u)(hB:ScriptW w u B)(hlen:A.length+B.length<=651562446089)(hbase:base<=w.heap.size)(h:∀ad c w',qZ8 w' base (.slice ad (A.length+B.length) c) (A++B)->Keeps (λi=>v.ownBlock=some i) w w'->(∀i,(Value.slice ad (A.length+B.length) c).ownBlock=some i->v.ownBlock=some i\/w.heap.size<=i)->wpList Tryz.prog ops Q rest (a.put o.dst (.slice ad (A.length+B.length) c)) w'): wpList Tryz.prog ops Q (o::rest) a w:=by
 obtain⟨i0,hi0,hz0,hz1,hz2⟩:=info_parts zGk
 by_cases hb:B=[]
 ·subst hb
  have hu:∃ad c,u=.slice ad 0 c:=by
   rcases hB with ⟨h,_⟩ | ⟨sb,so,cap,h,_⟩
   ·exact h
   ·exact⟨_,_,h⟩
  obtain⟨ad,c,rfl⟩:=hu
  obtain⟨av,ac,hv⟩:=qEj hown
  refine qEe hgd s x 22 ho base 34 i0 26 Tryz.underlying22 hi0 v A.length (qEk A) hs hown ad c hx ?_
  have:=h av ac w (by rw[List.append_nil];rw[hv]at hown;exact hown) (Keeps.refl _ _) (by rw[hv];exact λi hi=>.inl hi)
  rw[hv]
  exact this
 ·rcases hB with ⟨_,h0⟩ | ⟨sb,so,cap,rfl,hcap,hsc,hlt⟩
  ·exact absurd h0 hb
  ·have hpos:0<B.length:=List.length_pos_iff.2 hb
   refine wpList_append_lies w hgd s x 22 ho base 34 i0 (.agg cz0.toArray) 26 216 Tryz.underlying22 hi0 hz0 hz1 hz2 (by rfl) (by omega) v A.length (qEk A) hs hown ⟨sb,so,none⟩ B.length cap (qEk B) hx (qJh B) ?_ (qWm B) hpos (by unfold maxLen;omega) (by omega) hbase w.heap.size rfl ?_
   ·intro j z hz
    have hj:j<B.length*26:=by have:=(List.getElem?_eq_some_iff.1 hz).1;rwa [qJh]at this
    have hq:j/26<B.length:=by omega
    have hf:=qNy B (j/26) (j%26) B[j/26] (List.getElem?_eq_getElem hq) (by omega)
    rw[show j/26*26+j%26=j by omega,hz]at hf
    have:=hsc (j/26) B[j/26] (List.getElem?_eq_getElem hq) (j%26) z hf.symm
    rw[Go.WideShapes.add_plain,show so+j=so+j/26*26+j%26 by omega]
    exact this
   ·intro g c w' hown' hgrow hat hlt'
    refine h (some ⟨g,0,none⟩) c w' ?_ ?_ ?_
    ·show w'.ownsRow base 34 26 _ (A++B).length (qEk (A++B))
     rw[qP3,List.length_append];exact hown'
    ·exact⟨hgrow.os,hgrow.tape,hgrow.output,hgrow.size,λk hk hn=>hgrow.block k hk (λh=>hn h.symm)⟩
    ·intro i hi
     have:g=i:=by simpa[Value.ownBlock] using hi
     subst this
     rcases hat with h1 | h1
     ·exact .inl h1
     ·exact .inr (by omega)
theorem qQb(v1 v2:Value)(A B:List OpM)(w:World)(h1:ScriptW w v1 A)(h2:ScriptW w v2 B)(hlen:A.length+B.length<=651562446089):
  Calls Tryz.prog 12 #[v1,v2] w λr w'=>∃v,r=.returned v/\qZ8 w' w.heap.size v (A++B)/\Keeps (λ_=>False) w w':=by
 have HA:=hide h1
 have HB:=hide h2
 clear h1 h2
 go_enter Tryz.func12,Tryz.ntmps12
 go_wp2_with (at_builtin;first
    | (refine qEp rfl _ _ rfl w.heap.size (.slice none 0 0) [] rfl (World.ownsRow_nil _ _ _ _) v1 A rfl (uh HA) (by simp;omega) (by omega) ?_;intro ad c w1 hown1 hk1 hat1;have HO1:=hide (show qZ8 w1 w.heap.size (.slice ad A.length c) A by simpa using hown1);have HK1:=hide (show Keeps (λ_=>False) w w1 from hk1.mono (λi _ h=>by simp[Value.ownBlock]at h));clear hown1 hk1)
    | (refine qEp rfl _ _ rfl w.heap.size (.slice ad A.length c) A rfl (uh HO1) v2 B rfl ((uh HB).keeps (uh HK1)) hlen (uh HK1).size ?_;intro ad2 c2 w2 hown2 hk2 hat2))
 go_ret
 refine⟨_,rfl,hown2,(uh HK1).trans hk2 (λi hi hlt=>?_)⟩
 have:=((uh HO1).lt i hi).1
 omega
def OpM.noLoad(o:OpM): Bool:=o.kind !=7
theorem qYt(w:World)(o:OpM): (qVz 22 1 #[(0,.agg o.cells.toArray)]).run Tryz.prog w=.ok (.value (.slice (some ⟨w.heap.size,0,none⟩) 1 1)) (w.alloc (.cells o.cells.toArray 34)):=by kernel_rfl
theorem qOb{w:World}{b:Nat}{o:OpM}(h:Blk w b o.cells 34): ScriptW w (.slice (some ⟨b,0,none⟩) 1 1) [o]:=by
 refine .inr ⟨b,0,1,rfl,by simp,?_,h.lt⟩
 intro i x hx j u hu
 have hi:i=0:=by have:=(List.getElem?_eq_some_iff.1 hx).1;simp at this;omega
 subst hi
 have:o=x:=by simpa using hx
 subst this
 have:=h.cell hu
 simpa using this
attribute [local go_sem] qYt
theorem qMk(v:Value)(ops:List OpM)(w:World)(h:ScriptW w v ops)(hlen:ops.length<=651562446089):
  Calls Tryz.prog 9 #[v,.int .i64 7] w λr w'=>∃v',r=.returned v'/\qZ8 w' w.heap.size v' (ops.filter OpM.noLoad)/\Keeps (λ_=>False) w w'/\(ops.filter OpM.noLoad=[]->v'=.slice none 0 0):=by
 by_cases h0:ops=[]
 ·subst h0
  have hv:∃a c,v=.slice a 0 c:=by
   rcases h with ⟨h,_⟩ | ⟨sb,so,cap,h,_⟩
   ·exact h
   ·exact⟨_,_,h⟩
  obtain⟨a,c,rfl⟩:=hv
  clear h
  go_enter Tryz.func9,Tryz.ntmps9
  go_wp2
  go_loopw [5,6] (λl i wr=>l=.slice none 0 0/\i=.int .i64 0/\wr=w) (λ_ _ _=>0)
  case atStart=>exact⟨rfl,rfl,rfl⟩
  case round =>
   obtain⟨rfl,rfl,rfl⟩:=hrel
   go_wp2
   go_ret
   exact⟨_,rfl,World.ownsRow_nil _ _ _ _,Keeps.refl _ _,λ_=>rfl⟩
 rcases h with ⟨_,h⟩ | ⟨sb,so,cap,rfl,hcap,hsc,hlt⟩
 ·exact absurd h h0
 have HSC:=hide hsc
 clear hsc
 generalize hn:ops.length=n at *
 have HN:=hide hn
 clear hn
 go_enter Tryz.func9,Tryz.ntmps9
 go_wp2_with fail
 go_loopw [5,6] (λl i wr=>∃(k m c:Nat) (ad:Option Addr),k<=n/\i=.int .i64 k/\l=.slice ad m c/\Hid (qZ8 wr w.heap.size l ((ops.take k).filter OpM.noLoad))/\Hid (Keeps (λ_=>False) w wr)/\Hid ((ops.take k).filter OpM.noLoad=[]->l=.slice none 0 0)) (λ_ i _=>n-(intOf i).toNat)
 case atStart=>exact⟨0,0,0,none,by omega,rfl,rfl,World.ownsRow_nil _ _ _ _,Keeps.refl _ _,λ_=>rfl⟩
 case round =>
  obtain⟨k,m,c,ad,hk,rfl,rfl,HO,HK,HE⟩:=hrel
  by_cases hkn:k<n
  ·obtain⟨o,ho⟩:∃o,ops[k]?=some o:=⟨ops[k]'(by rw[uh HN];exact hkn),List.getElem?_eq_getElem _⟩
   have hrange:=(uh HSC).keeps (uh HK) k o ho
   have hsb:=qAp hrange
   have hv0:qAv wr sb (so+k*26) 26=.agg o.cells.toArray:=by
    unfold qAv
    have:=hsb.1
    rw[show o.cells.length=26 from rfl]at this
    rw[this]
   have hh0:qA3 wr sb (so+k*26) 26=true:=hsb.2
   have hkind:wr.cell? ⟨sb,so+k*26,none⟩=some (.int .i64 o.kind):=hrange 0 _ rfl
   have htk:ops.take (k+1)=ops.take k++[o]:=by rw[List.take_add_one,ho];rfl
   have hk0:(0:Int)<=(k:Int):=by omega
   have hkn':(k:Int)<(n:Int):=by omega
   have hl0:((ops.take k).filter OpM.noLoad).length<=k:=by
    have h1:=List.length_filter_le OpM.noLoad (ops.take k)
    rw[List.length_take]at h1
    omega
   have HFL:=hide (show(ops.take (k+1)).filter OpM.noLoad=(ops.take k).filter OpM.noLoad++[o].filter OpM.noLoad by rw[htk,List.filter_append])
   clear hrange hsb htk ho
   by_cases h7:o.kind=7
   ·have hne:(o.kind !=7)=false:=by simp[h7]
    have HF1:=hide (show[o].filter OpM.noLoad=[] by simp[OpM.noLoad,hne])
    rw[h7]at hkind
    clear h7 hne hv0 hh0
    go_wp2_with fail
    go_roundw
    case rel=>exact⟨k+1,m,c,ad,by omega,by go_num,rfl,by show qZ8 _ _ _ _;rw[uh HFL,uh HF1,List.append_nil];exact uh HO,HK,by show _->_;rw[uh HFL,uh HF1,List.append_nil];exact uh HE⟩
    case measure=>simp[intOf];omega
   ·have hne:(o.kind !=7)=true:=by simp[h7]
    have HF1:=hide (show[o].filter OpM.noLoad=[o] by simp[OpM.noLoad,hne])
    have hm:m=((ops.take k).filter OpM.noLoad).length:=by
     obtain⟨_,_,e⟩:=qEj (uh HO)
     injection e
    generalize(ops.take k).filter OpM.noLoad=A at *
    go_wp2_with (at_builtin;refine qEp rfl _ _ rfl w.heap.size (.slice ad m c) A rfl (by exact qBd (uh HO) ((Keeps.refl (λ_=>False) wr).alloc _) (λ_ _ h=>h)) _ [o] rfl (by exact qOb (Blk.new wr o.cells 34)) (by simp;omega) (by have:=(uh HK).size;simp;omega) ?_;intro ad2 c2 w2 hown2 hk2 hat2)
    go_roundw
    case rel =>
     refine⟨k+1,A.length+1,c2,ad2,by omega,by go_num,rfl,?_,?_,?_⟩
     ·show qZ8 _ _ _ _;rw[uh HFL,uh HF1];exact hown2
     ·refine(((uh HK).alloc _).trans hk2 (λi hi hlt=>?_))
      have:=((uh HO).lt i hi).1
      omega
     ·show _->_;rw[uh HFL,uh HF1];intro h;simp at h
    case measure=>simp[intOf];omega
  ·have hkk:k=n:=by omega
   subst hkk
   go_wp2
   go_ret
   have h1:=uh HO
   have h2:=uh HE
   rw[List.take_of_length_le (by rw[uh HN];omega)]at h1 h2
   exact⟨_,rfl,h1,uh HK,h2⟩
end
section
open Go.RowKit
theorem qU3(f m:Nat): 1<=(qIe f m).length:=by
 cases f with
 | zero=>simp[qIe]
 | succ f=>unfold qIe;split <;> simp
theorem qZj(f:Nat): ∀m,m<128 ^ (f+1)->m<128 ^ (qIe f m).length/\∀i,i<(qIe f m).length->(qIe f m).getD i 0%128=m/128 ^ i%128/\((qIe f m).getD i 0<128↔i+1=(qIe f m).length)/\(qIe f m).getD i 0<256:=by
 induction f with
 | zero =>
  intro m hm
  have hm':m<128:=by simpa using hm
  refine⟨by simpa[qIe] using hm',λi hi=>?_⟩
  have h0:i=0:=by simp[qIe]at hi;exact hi
  subst h0
  simp[qIe]
  omega
 | succ f ih =>
  intro m hm
  unfold qIe
  split
  ·rename_i h
   refine⟨by simp;omega,λi hi=>?_⟩
   have h0:i=0:=by simp at hi;exact hi
   subst h0
   simp
   omega
  ·rename_i h
   have hm2:m/128<128 ^ (f+1):=(Nat.div_lt_iff_lt_mul (by omega)).2 (by rw[Nat.pow_succ]at hm;exact hm)
   obtain⟨h1,h2⟩:=ih (m/128) hm2
   have hp:=qU3 f (m/128)
   refine⟨?_,λi hi=>?_⟩
   ·rw[List.length_cons,Nat.pow_succ]
    exact(Nat.div_lt_iff_lt_mul (by omega)).1 h1
   ·cases i with
    | zero =>
     rw[List.getD_cons_zero,List.length_cons,Nat.pow_zero,Nat.div_one]
     omega
    | succ i =>
     rw[List.length_cons]at hi
     obtain⟨a,b,c⟩:=h2 i (by omega)
     rw[List.getD_cons_succ,List.length_cons]
     refine⟨?_,by rw[b];omega,c⟩
     rw[a,Nat.div_div_eq_div_mul,Nat.pow_succ,Nat.mul_comm]
theorem zB2(f:Nat): ∀k m,1<=k->m<128 ^ k->(qIe f m).length<=k:=by
 induction f with
 | zero=>intro k m h1 _;simp[qIe];exact h1
 | succ f ih =>
  intro k m h1 h2
  unfold qIe
  split
  ·simp;exact h1
  ·rename_i h
   have hk:2<=k:=by
    rcases Nat.lt_or_ge k 2 with h3 | h3
    ·have:k=1:=by omega
     subst this
     simp at h2;omega
    ·exact h3
   obtain⟨j,rfl⟩:∃j,k=j+1:=⟨k-1,by omega⟩
   have:=ih j (m/128) (by omega) ((Nat.div_lt_iff_lt_mul (by omega)).2 (by rw[Nat.pow_succ]at h2;exact h2))
   simp;omega
theorem zBa(n:Int)(h:n<=9223372036854775807): (enc n).length<=9 :=
 zB2 9 9 _ (by omega) (by have:(128:Nat) ^ 9=9223372036854775808:=(by decide);rw[this];omega)
theorem qR6(m i:Nat): m%128 ^ (i+1)=m%128 ^ i+(m/128 ^ i%128)*128 ^ i:=by
 rw[Nat.pow_succ,Nat.mod_mul,Nat.mul_comm]
theorem zGs(m i:Nat): m%128 ^ i ||| (m/128 ^ i%128)*128 ^ i=m%128 ^ (i+1):=by
 have e:(128:Nat) ^ i=2 ^ (7*i):=by rw[Nat.pow_mul]
 have hlt:m%128 ^ i<2 ^ (7*i):=by rw[<-e];exact Nat.mod_lt _ (Nat.pow_pos (by omega))
 rw[qR6]
 have:=Nat.shiftLeft_add_eq_or_of_lt hlt (m/128 ^ i%128)
 rw[Nat.shiftLeft_eq,<-e]at this
 rw[Nat.or_comm,<-this,Nat.add_comm]
theorem qGe(l:List Nat): (qFk l).size=l.length:=by
 unfold qFk strOfNums
 show(List.toArray _).size=_
 simp
theorem zAs(l:List Nat)(i:Nat)(hi:i<l.length)(hb:l.getD i 0<256)(h:i<(qFk l).size): (((qFk l)[i]'h).toNat:Int)=((l.getD i 0:Nat):Int):=by
 have e:(qFk l)[i]'h=UInt8.ofNat (l.getD i 0):=by
  show(qFk l).data[i]=_
  unfold qFk strOfNums
  simp[List.getD_eq_getElem?_getD,List.getElem?_eq_getElem hi]
 rw[e,UInt8.toNat_ofNat']
 omega
theorem qR4(l:List Nat)(k:Nat): (qFk l).extract k (qFk l).size=qFk (l.drop k):=by
 rw[qGe]
 unfold qFk strOfNums
 rw[ByteArray.extract_mk]
 congr 2
 rw[List.map_drop,List.map_drop]
 rw[List.take_of_length_le (by simp)]
theorem qW6(a b:Nat)(ha:a<9223372036854775808)(hb:b<9223372036854775808): bits .or .i64 (a:Int) (b:Int)=((a ||| b:Nat):Int):=by
 have hx:a ||| b<2 ^ 63:=Nat.or_lt_two_pow (by omega) (by omega)
 show IntKind.i64.wrap ((BitVec.ofInt 64 (a:Int) ||| BitVec.ofInt 64 (b:Int)).toNat:Int)=_
 rw[BitVec.toNat_or,ofInt_u64 a (by omega),ofInt_u64 b (by omega),IntKind.wrap_i64]
 omega
structure RdRep (w:World) (r:Nat) (l:List Nat):Prop where
 blk:Blk w r [.string (qFk l),.bool false] 176
 len:l.length<=140737488355328
theorem RdRep.keeps{M:Nat->Prop}{w w':World}{r:Nat}{l:List Nat}(h:RdRep w r l)(hk:Keeps M w w')(hn:¬M r): RdRep w' r l:=⟨h.blk.keeps hk hn,h.len⟩
theorem zCg(r:Nat)(n:Int)(tl:List Nat)(w:World)(h:RdRep w r (enc n++tl))(n0:0<=n)(n1:n<=9223372036854775807):
  Calls Tryz.prog 134 #[.pointer (some ⟨r,0,none⟩)] w λe w'=>e=.returned (.tuple #[.int .i64 n,.bool true])/\RdRep w' r tl/\Keeps (λi=>i=r) w w':=by
 obtain⟨m,rfl⟩:=Int.eq_ofNat_of_zero_le n0
 have hE:enc (m:Int)=qIe 9 m:=by unfold enc;rw[Int.toNat_natCast]
 have hm9:m<128 ^ 9:=by have:(128:Nat) ^ 9=9223372036854775808:=(by decide);omega
 have hmlt:m<9223372036854775808:=by omega
 have hl9:=zBa (m:Int) n1
 have hsp:=qZj 9 m (by have:(128:Nat) ^ (9+1)=1180591620717411303424:=(by decide);omega)
 rw[<-hE]at hsp
 have hpos:=qU3 9 m
 rw[<-hE]at hpos
 have c0:w.cell? ⟨r,0,none⟩=some (.string (qFk (enc (m:Int)++tl))):=h.blk.cell rfl
 have fz:=h.blk.frozen
 have hsz:(qFk (enc (m:Int)++tl)).size=(enc (m:Int)).length+tl.length:=by rw[qGe,List.length_append]
 have hln:=h.len
 rw[List.length_append]at hln
 have HG:=hide (show ∀i,i<(enc (m:Int)).length->∀h:i<(qFk (enc (m:Int)++tl)).size,(((qFk (enc (m:Int)++tl))[i]'h).toNat:Int)=(((enc (m:Int)).getD i 0:Nat):Int) from λi hi hb=>by
    have e:(enc (m:Int)++tl).getD i 0=(enc (m:Int)).getD i 0:=by
     rw[List.getD_eq_getElem?_getD,List.getD_eq_getElem?_getD,List.getElem?_append_left hi]
    rw[zAs _ i (by rw[List.length_append];omega) (by rw[e];exact(hsp.2 i hi).2.2),e])
 have HD:=hide (show ∀i,i+1=(enc (m:Int)).length->(qFk (enc (m:Int)++tl)).extract (i+1) (qFk (enc (m:Int)++tl)).size=qFk tl from λi hi=>by
    rw[qR4,hi,List.drop_left])
 have HSP:=hide hsp
 have HB:=hide h.blk
 have HTL:=hide (show tl.length<=140737488355328 by omega)
 clear h hE hsp
 generalize enc (m:Int)=en at *
 generalize hLn:en.length=L at *
 generalize hTn:tl.length=T at *
 generalize qFk (en++tl)=st at *
 obtain⟨SZ,hSZ⟩:∃SZ:Nat,SZ=L+T:=⟨_,rfl⟩
 rw[<-hSZ]at hsz
 have HSZ:=hide hSZ
 have HTN:=hide hTn
 clear hSZ hLn hTn
 go_enter Tryz.func134,Tryz.ntmps134
 by_cases h9:(SZ:Int)<9
 all_goals
  go_wp2
  clear h9
  go_loopw [4,13] (λnv iv wr=>∃i:Nat,i<L/\iv=.int .i64 i/\nv=.int .i64 ((m%128 ^ i:Nat):Int)/\wr=w) (λ_ iv _=>9-(intOf iv).toNat)
  case atStart=>exact⟨0,by omega,rfl,by rw[Nat.pow_zero,Nat.mod_one];rfl,rfl⟩
  case round =>
   obtain⟨i,hi,rfl,rfl,rfl⟩:=hrel
   have hSZ:=uh HSZ
   have hiK:(i:Int)<(SZ:Int):=by omega
   have hi9:(i:Int)<9:=by omega
   have hi0:(0:Int)<=(i:Int):=by omega
   have w7:IntKind.i64.wrap (7*(i:Int))=((7*i:Nat):Int):=by rw[IntKind.wrap_i64];omega
   have hib:=uh HG i hi (by omega)
   obtain⟨x,hx⟩:∃x,en.getD i 0=x:=⟨_,rfl⟩
   obtain⟨hx1,hx2,hx3⟩:=(uh HSP).2 i hi
   rw[hx]at hx1 hx2 hx3 hib
   obtain⟨A,hA⟩:∃A,m%128 ^ i=A:=⟨_,rfl⟩
   obtain⟨B,hB⟩:∃B,x%128=B:=⟨_,rfl⟩
   obtain⟨Z,hZ⟩:∃Z,m%128 ^ (i+1)=Z:=⟨_,rfl⟩
   obtain⟨Y,hY⟩:∃Y,B*128 ^ i=Y:=⟨_,rfl⟩
   have hor:=zGs m i
   rw[<-hx1,hB,hY,hA,hZ]at hor
   have hAm:A<=m:=by rw[<-hA];exact Nat.mod_le _ _
   have hYm:Y<=m:=by
    rw[<-hY,<-hB,hx1]
    exact Nat.le_trans (Nat.mul_le_mul_right _ (Nat.mod_le _ _)) (Nat.div_mul_le_self _ _)
   have a7:bits BinOp.and IntKind.u8 (x:Int) 127=(B:Int):=by
    have:=u8_and_nat x 127 hx3 (by omega)
    rw[nat_mask7,hB]at this
    exact this
   have hsh:wrap64 ((B:Int)*2 ^ (7*i))=(Y:Int):=by
    have e:((B:Int)*2 ^ (7*i))=(Y:Int):=by
     rw[<-hY,Int.natCast_mul,Int.natCast_pow]
     congr 1
     rw[Int.pow_mul];rfl
    rw[e]
    have:=IntKind.wrap_i64 (Y:Int)
    unfold wrap64
    have h9:(Y:Int)<9223372036854775808:=Int.ofNat_lt.2 (Nat.lt_of_le_of_lt hYm hmlt)
    clear e hor
    omega
   have hwB:wrap64 (B:Int)=(B:Int):=by
    have h1:B<128:=by rw[<-hB];exact Nat.mod_lt _ (by omega)
    have:=IntKind.wrap_i64 (B:Int)
    unfold wrap64
    clear hor hsh
    omega
   have hbo:=qW6 A Y (Nat.lt_of_le_of_lt hAm hmlt) (Nat.lt_of_le_of_lt hYm hmlt)
   rw[hor]at hbo
   have HEX:=hide (show i+1=L->st.extract (i+1) SZ=qFk tl from λh=>by rw[<-hsz];exact uh HD i h)
   have HZL:=hide (show i+1=L->Z=m from λh=>by rw[<-hZ,h];exact Nat.mod_eq_of_lt (uh HSP).1)
   have HZ:=hide hZ
   rw[hA]
   clear hx1 hA hB hZ hY hor hx hSZ
   by_cases hxl:x<128
   ·have hiL:=hx2.1 hxl
    have hex:=uh HEX hiL
    have hzl:=uh HZL hiL
    subst hzl
    have hxi:(x:Int)<128:=by omega
    have HBN:=hide ((uh HB).setCell 0 (.string (qFk tl)))
    have HKN:=hide ((Keeps.refl (λi=>i=r) wr).setCell (p:=⟨r,0,none⟩) (Or.inl rfl) (.string (qFk tl)))
    clear hx2 hiL hm9
    go_wp2
    refine bodyPost_ret (v:=.tuple #[.int .i64 Z,.bool true]) (by simp[results,Tryz.results134,go_sem]) rfl ?_
    exact⟨rfl,⟨uh HBN,by rw[uh HTN];exact uh HTL⟩,uh HKN⟩
   ·have hxi:decide ((x:Int)<128)=false:=by simp;omega
    have hiL:i+1<L:=by
     have:¬(i+1=L):=λh=>hxl (hx2.2 h)
     omega
    clear hx2
    go_wp2
    go_roundw
    case rel=>exact⟨i+1,hiL,by go_num,by first | (rw[uh HZ];done) | simp[uh HZ],by trivial⟩
    case measure=>simp[intOf];omega
theorem qEr(r:Nat)(w:World): Calls Tryz.prog 135 #[.pointer (some ⟨r,0,none⟩),.bool true] w λe w'=>e=.returned (.tuple #[])/\w'=w:=by
 go_enter Tryz.func135,Tryz.ntmps135
 go_wp2
 go_end0
 exact⟨rfl,rfl⟩
theorem qB3(r:Nat)(n lo hi:Int)(tl:List Nat)(w:World)(h:RdRep w r (enc n++tl))(n0:0<=n)(n1:n<=9223372036854775807)(h1:lo<=n)(h2:n<=hi):
  Calls Tryz.prog 88 #[.pointer (some ⟨r,0,none⟩),.int .i64 lo,.int .i64 hi] w λe w'=>e=.returned (.int .i64 n)/\RdRep w' r tl/\Keeps (λi=>i=r) w w':=by
 have hb:inB n lo hi=true:=by simp[inB,h1,h2]
 go_enter Tryz.func88,Tryz.ntmps88
 go_wp2_with fail
 refine(zCg r n tl w h n0 n1).mono ?_
 rintro e w1 ⟨rfl,hr1,hk1⟩
 have HR:=hide hr1
 have HK:=hide hk1
 have hc:w1.cell? ⟨r,1,none⟩=some (.bool false):=hr1.blk.cell rfl
 clear h hr1 hk1
 go_wp2_with fail
 refine(qAj n lo hi _).mono ?_
 rintro e w2 ⟨rfl,hw2⟩
 rw[hw2,hb]
 clear hw2 w2
 go_wp2_with fail
 refine(qEr r _).mono ?_
 rintro e w2 ⟨rfl,hw2⟩
 rw[hw2]
 clear hw2 w2
 go_wp2
 go_ret
 exact⟨rfl,uh HR,uh HK⟩
def qQi: List Value->List Nat->List Int->List Value
 | cs,o::os,n::ns=>qQi (cs.set o (.int .i64 n)) os ns
 | cs,_,_=>cs
theorem qUn(os:List Nat): ∀(cs:List Value) (ns:List Int),(qQi cs os ns).length=cs.length:=by
 induction os with
 | nil=>intro cs ns;rfl
 | cons o os ih =>
  intro cs ns
  cases ns with
  | nil=>rfl
  | cons n ns=>show(qQi (cs.set o (.int .i64 n)) os ns).length=_;rw[ih];simp
theorem qZ6(os:List Nat): ∀(cs:List Value) (ns:List Int) (o:Nat) (n:Int),os.length=ns.length->qQi cs (os++[o]) (ns++[n])=(qQi cs os ns).set o (.int .i64 n):=by
 induction os with
 | nil =>
  intro cs ns o n h
  cases ns with
  | nil=>rfl
  | cons a ns=>simp at h
 | cons a os ih =>
  intro cs ns o n h
  cases ns with
  | nil=>simp at h
  | cons b ns =>
   show qQi (cs.set a (.int .i64 b)) (os++[o]) (ns++[n])=(qQi (cs.set a (.int .i64 b)) os ns).set o (.int .i64 n)
   exact ih _ _ _ _ (by simpa using h)
theorem qJx(r cb:Nat)(os:List Nat)(ns:List Int)(cs:List Value)(T:TypeId)(pv:Value)(base:Nat)(tl:List Nat)(w:World)(h:RdRep w r (qBe ns++tl))(hp:w.ownsRow base 170 1 pv os.length (qDh (at' cb os)))(hb:Blk w cb cs T)(hlen:os.length=ns.length)(ho:∀o,o∈os->o<cs.length)(hne:cb≠r)(hpv:∀i,pv.ownBlock=some i->i≠r/\i≠cb)(hn:∀n,n∈ns->0<=n/\n<=9223372036854775807)(hl2:os.length<=1000):
  Calls Tryz.prog 139 #[.pointer (some ⟨r,0,none⟩),pv] w λe w'=>e=.returned (.tuple #[])/\RdRep w' r tl/\Blk w' cb (qQi cs os ns) T/\Keeps (λi=>i=r\/i=cb) w w':=by
 have HR:=hide h
 have HP:=hide hp
 have HB:=hide hb
 have HO:=hide ho
 have HPV:=hide hpv
 have HN:=hide hn
 obtain⟨va,vcap,hv,hva⟩:=qCi hp
 have HVA:=hide hva
 clear h hp hb ho hpv hn hva
 subst hv
 generalize hm:os.length=m at *
 have HM:=hide hm
 have HLM:=hide hlen
 clear hm hlen
 go_enter Tryz.func139,Tryz.ntmps139
 go_wp2
 go_loopw [8] (λi wr=>∃k:Nat,i=.int .i64 k/\k<=m/\Hid (RdRep wr r (qBe (ns.drop k)++tl))/\Hid (Blk wr cb (qQi cs (os.take k) (ns.take k)) T)/\Hid (Keeps (λi=>i=r\/i=cb) w wr)) (λi _=>m-(intOf i).toNat)
 case atStart=>exact⟨0,rfl,Nat.zero_le _,HR,HB,Keeps.refl _ _⟩
 case round =>
  obtain⟨k,rfl,hk,HRr,HBr,HKr⟩:=hrel
  by_cases hlk:k<m
  ·obtain⟨g,hg,hgb⟩:=uh HVA (by omega)
   subst hg
   have hkp:k<os.length:=by rw[uh HM];exact hlk
   have hkn:k<ns.length:=by rw[<-uh HLM];exact hlk
   obtain⟨o,hok⟩:∃o,os[k]?=some o:=⟨_,List.getElem?_eq_getElem hkp⟩
   obtain⟨n,hnk⟩:∃n,ns[k]?=some n:=⟨_,List.getElem?_eq_getElem hkn⟩
   have hrow:=qNq (uh HP) (uh HKr) (λi hi he=>by have:=uh HPV i hi;rcases he with e | e <;> omega)
   have hck:wr.cell? ⟨g,k,none⟩=some (.pointer (some ⟨cb,o,none⟩)):=by
    rcases qJy hrow with ⟨h0,_⟩ | ⟨g',cap',hv',hc⟩
    ·omega
    ·cases hv';exact hc k _ (by unfold qDh at';rw[List.getElem?_map,List.getElem?_map,hok];rfl)
   obtain⟨n0,n1⟩:=uh HN n (List.mem_of_getElem? hnk)
   have hol:=uh HO o (List.mem_of_getElem? hok)
   have HNX:=hide (show RdRep wr r (enc n++(qBe (ns.drop (k+1))++tl)) by
      have:=uh HRr
      rw[List.drop_eq_getElem_cons hkn,qAy,List.append_assoc]at this
      rw[List.getElem?_eq_getElem hkn]at hnk
      cases hnk
      exact this)
   have HTK:=hide (show qQi cs (os.take (k+1)) (ns.take (k+1))=(qQi cs (os.take k) (ns.take k)).set o (.int .i64 n) by
      rw[List.take_add_one,List.take_add_one,hok,hnk]
      exact qZ6 _ _ _ _ _ (by rw[List.length_take,List.length_take,uh HM,<-uh HLM]))
   have hk0:(0:Int)<=(k:Int):=by omega
   have hkm:(k:Int)<(m:Int):=by omega
   clear hrow hok hnk hkp hkn
   go_wp2_with fail
   refine(qB3 r n 0 9223372036854775807 _ wr (uh HNX) n0 n1 n0 n1).mono ?_
   rintro e w1 ⟨rfl,hr1,hk1⟩
   have HR1:=hide hr1
   have HB1:=hide ((uh HBr).keeps hk1 hne)
   have HK1:=hide ((uh HKr).trans hk1 (λi hi _=>.inl hi))
   clear hr1 hk1 hck
   obtain⟨u,hu⟩:∃u,(qQi cs (os.take k) (ns.take k))[o]?=some u:=⟨_,List.getElem?_eq_getElem (by rw[qUn];exact hol)⟩
   have hcu:=(uh HB1).cell hu
   have hfz:=(uh HB1).frozen o
   have HB2:=hide ((uh HB1).setCell o (.int .i64 n))
   have HR2:=hide ((uh HR1).keeps ((Keeps.refl (λi=>i=cb) w1).setCell (p:=⟨cb,o,none⟩) (Or.inl rfl) (.int .i64 n)) (λe=>hne e.symm))
   have HK2:=hide ((uh HK1).setCell (p:=⟨cb,o,none⟩) (Or.inl (.inr rfl)) (.int .i64 n))
   clear hu
   go_wp2
   go_roundw
   case rel=>exact⟨k+1,by go_num,by omega,HR2,hide (by rw[uh HTK];exact uh HB2),HK2⟩
   case measure=>simp[intOf];omega
  ·have hkm:k=m:=by omega
   subst hkm
   have h1:os.take k=os:=List.take_of_length_le (by rw[uh HM];exact Nat.le_refl _)
   have h2:ns.take k=ns:=List.take_of_length_le (by rw[<-uh HLM];exact Nat.le_refl _)
   have h3:ns.drop k=[]:=List.drop_eq_nil_iff.2 (by rw[<-uh HLM];exact Nat.le_refl _)
   rw[h1,h2]at HBr
   rw[h3]at HRr
   go_wp2
   go_end0
   exact⟨rfl,uh HRr,uh HBr,uh HKr⟩
theorem qKo(w:World)(ty:TypeId)(b dLen dCap:Nat)(s:ByteArray)(cs:List Value)(hcs:cs=((s.extract 0 (Nat.min s.size dLen)).data.map λ(b:UInt8)=>Value.int .u8 (b.toNat:Int)).toList)(hc:∀j,j<cs.length->(w.cell? ⟨b,j,none⟩).isSome=true)(hf:∀j,j<cs.length->w.frozen? ⟨b,j,none⟩=false):
  (Builtin.copy_ #[136,9] ty #[.slice (some ⟨b,0,none⟩) dLen dCap,.string s]).run Tryz.prog w=.ok (goInt (Nat.min s.size dLen)) (w.setCells b 0 cs):=by
 obtain⟨i0,hi0,hz0,hz1,hz2⟩:=info_parts zCq
 have hst:=run_storeCells_cells (P:=Tryz.prog) b 0 cs 0 w (by simpa using hc) (by simpa using hf) (λv hv=>by
    rw[hcs,Array.toList_map]at hv
    obtain⟨a,_,rfl⟩:=List.mem_map.1 hv
    rfl)
 subst hcs
 simp[Builtin.copy_,run_underlying Tryz.underlying136,Builtin.lenOf,Builtin.firstCells,sizeOf,typeInfo,hi0]
 simp at hst
 rw[hst]
 rfl
theorem qU5: (Tryz.prog.info? 173).map (·.size)=some 8:=by kernel_rfl
theorem qZ1(rest:List Nat): qB5 qC0=(((qFk (qC0++rest)).extract 0 (Nat.min (qFk (qC0++rest)).size 8)).data.map λ(b:UInt8)=>Value.int .u8 (b.toNat:Int)).toList:=by
 have h8:Nat.min (qFk (qC0++rest)).size 8=8:=by
  rw[qGe,List.length_append]
  exact Nat.min_eq_right (by show 8<=8+rest.length;omega)
 rw[h8]
 unfold qFk strOfNums
 rw[ByteArray.extract_mk]
 rw[List.map_append,List.map_append,List.drop_zero]
 rw[List.take_append_of_le_length (by simp[qC0])]
 clear h8
 simp[qC0,qB5]
theorem qIp(rest:List Nat)(w:World): Calls Tryz.prog 133 #[.string (qFk (qC0++rest))] w λe w'=>e=.returned (.agg (qB5 qC0).toArray)/\Keeps (λ_=>False) w w':=by
 go_enter Tryz.func133,Tryz.ntmps133
 have HW0:=hide (show Blk ((w.alloc (.cells #[.int .u8 0,.int .u8 0,.int .u8 0,.int .u8 0,.int .u8 0,.int .u8 0,.int .u8 0,.int .u8 0] 173)).alloc (.cells #[.int .u8 0,.int .u8 0,.int .u8 0,.int .u8 0,.int .u8 0,.int .u8 0,.int .u8 0,.int .u8 0] 173)) (w.heap.size+1) [.int .u8 0,.int .u8 0,.int .u8 0,.int .u8 0,.int .u8 0,.int .u8 0,.int .u8 0,.int .u8 0] 173 from Blk.newAt (by simp) _ _)
 have HR0:=hide (show Blk ((w.alloc (.cells #[.int .u8 0,.int .u8 0,.int .u8 0,.int .u8 0,.int .u8 0,.int .u8 0,.int .u8 0,.int .u8 0] 173)).alloc (.cells #[.int .u8 0,.int .u8 0,.int .u8 0,.int .u8 0,.int .u8 0,.int .u8 0,.int .u8 0,.int .u8 0] 173)) w.heap.size [.int .u8 0,.int .u8 0,.int .u8 0,.int .u8 0,.int .u8 0,.int .u8 0,.int .u8 0,.int .u8 0] 173 from(Blk.new w _ _).alloc _)
 have HK0:=hide (show Keeps (λ_=>False) w ((w.alloc (.cells #[.int .u8 0,.int .u8 0,.int .u8 0,.int .u8 0,.int .u8 0,.int .u8 0,.int .u8 0,.int .u8 0] 173)).alloc (.cells #[.int .u8 0,.int .u8 0,.int .u8 0,.int .u8 0,.int .u8 0,.int .u8 0,.int .u8 0,.int .u8 0] 173)) from((Keeps.refl _ _).alloc _).alloc _)
 obtain⟨W0,hW0⟩:∃W0,((w.alloc (.cells #[.int .u8 0,.int .u8 0,.int .u8 0,.int .u8 0,.int .u8 0,.int .u8 0,.int .u8 0,.int .u8 0] 173)).alloc (.cells #[.int .u8 0,.int .u8 0,.int .u8 0,.int .u8 0,.int .u8 0,.int .u8 0,.int .u8 0,.int .u8 0] 173))=W0:=⟨_,rfl⟩
 rw[hW0]at HW0 HR0 HK0
 obtain⟨W1,hW1⟩:∃W1,W0.setCells (w.heap.size+1) 0 (qB5 qC0)=W1:=⟨_,rfl⟩
 have hcp:(Builtin.copy_ #[136,9] 3 #[.slice (some ⟨w.heap.size+1,0,none⟩) 8 8,.string (qFk (qC0++rest))]).run Tryz.prog ((w.alloc (.cells #[.int .u8 0,.int .u8 0,.int .u8 0,.int .u8 0,.int .u8 0,.int .u8 0,.int .u8 0,.int .u8 0] 173)).alloc (.cells #[.int .u8 0,.int .u8 0,.int .u8 0,.int .u8 0,.int .u8 0,.int .u8 0,.int .u8 0,.int .u8 0] 173))=.ok (goInt (Nat.min (qFk (qC0++rest)).size 8)) W1:=by
  rw[hW0,<-hW1]
  exact qKo W0 3 (w.heap.size+1) 8 8 _ _ (qZ1 rest) (λj hj=>by rw[(uh HW0).cell (v:=.int .u8 0) (by have:j<8:=hj;match j,this with | 0,_=>rfl | 1,_=>rfl | 2,_=>rfl | 3,_=>rfl | 4,_=>rfl | 5,_=>rfl | 6,_=>rfl | 7,_=>rfl)];rfl) (λj _=>(uh HW0).frozen j)
 have HB1:=hide (show Blk W1 (w.heap.size+1) (qB5 qC0) 173 by
    rw[<-hW1]
    exact((((((((uh HW0).setCell 0 (.int .u8 115)).setCell 1 (.int .u8 107)).setCell 2 (.int .u8 101)).setCell 3 (.int .u8 116)).setCell 4 (.int .u8 99)).setCell 5 (.int .u8 104)).setCell 6 (.int .u8 32)).setCell 7 (.int .u8 49))
 have hk1:Keeps (λi=>i=w.heap.size+1) W0 W1:=by rw[<-hW1];exact Keeps.setCells (M:=λi=>i=w.heap.size+1) (b:=w.heap.size+1) (Or.inl rfl) _ _ _ (Keeps.refl _ _)
 have HK1:=hide ((uh HK0).trans hk1 (λi hi hlt=>by omega))
 have HR1:=hide ((uh HR0).keeps hk1 (by omega))
 have a0:=(uh HB1).cell (i:=0) rfl
 have a1:=(uh HB1).cell (i:=1) rfl
 have a2:=(uh HB1).cell (i:=2) rfl
 have a3:=(uh HB1).cell (i:=3) rfl
 have a4:=(uh HB1).cell (i:=4) rfl
 have a5:=(uh HB1).cell (i:=5) rfl
 have a6:=(uh HB1).cell (i:=6) rfl
 have a7:=(uh HB1).cell (i:=7) rfl
 have b0:=(uh HR1).cell (i:=0) rfl
 have b1:=(uh HR1).cell (i:=1) rfl
 have b2:=(uh HR1).cell (i:=2) rfl
 have b3:=(uh HR1).cell (i:=3) rfl
 have b4:=(uh HR1).cell (i:=4) rfl
 have b5:=(uh HR1).cell (i:=5) rfl
 have b6:=(uh HR1).cell (i:=6) rfl
 have b7:=(uh HR1).cell (i:=7) rfl
 have bf:=(uh HR1).frozen
 have HK2:=hide ((((((((((uh HK1).setCell (p:=⟨w.heap.size,0,none⟩) (Or.inr (Nat.le_refl _)) (.int .u8 115)).setCell (p:=⟨w.heap.size,1,none⟩) (Or.inr (Nat.le_refl _)) (.int .u8 107)).setCell (p:=⟨w.heap.size,2,none⟩) (Or.inr (Nat.le_refl _)) (.int .u8 101)).setCell (p:=⟨w.heap.size,3,none⟩) (Or.inr (Nat.le_refl _)) (.int .u8 116)).setCell (p:=⟨w.heap.size,4,none⟩) (Or.inr (Nat.le_refl _)) (.int .u8 99)).setCell (p:=⟨w.heap.size,5,none⟩) (Or.inr (Nat.le_refl _)) (.int .u8 104)).setCell (p:=⟨w.heap.size,6,none⟩) (Or.inr (Nat.le_refl _)) (.int .u8 32)).setCell (p:=⟨w.heap.size,7,none⟩) (Or.inr (Nat.le_refl _)) (.int .u8 49)))
 have HF:=hide (show Blk _ w.heap.size (qB5 qC0) 173 from((((((((uh HR1).setCell 0 (.int .u8 115)).setCell 1 (.int .u8 107)).setCell 2 (.int .u8 101)).setCell 3 (.int .u8 116)).setCell 4 (.int .u8 99)).setCell 5 (.int .u8 104)).setCell 6 (.int .u8 32)).setCell 7 (.int .u8 49))
 clear hW0 hW1 hk1
 go_wp2
 clear a0 a1 a2 a3 a4 a5 a6 a7 b0 b1 b2 b3 b4 b5 b6 b7 bf HB1 HR1 hcp
 generalize(((((((W1.setCell ⟨w.heap.size,0,none⟩ (.int .u8 115)).setCell ⟨w.heap.size,1,none⟩ (.int .u8 107)).setCell ⟨w.heap.size,2,none⟩ (.int .u8 101)).setCell ⟨w.heap.size,3,none⟩ (.int .u8 116)).setCell ⟨w.heap.size,4,none⟩ (.int .u8 99)).setCell ⟨w.heap.size,5,none⟩ (.int .u8 104)).setCell ⟨w.heap.size,6,none⟩ (.int .u8 32)).setCell ⟨w.heap.size,7,none⟩ (.int .u8 49)=W2 at *
 have HLV:=hide (show(loadVar 173 ⟨w.heap.size,0,none⟩).run Tryz.prog W2=.ok (.agg (qB5 qC0).toArray) W2 from run_loadVar_mid W2 w.heap.size 0 173 (qB5 qC0) _ (λj v hv=>by rw[Nat.zero_add];exact(uh HF).cell hv) Tryz.underlying173 rfl (by rw[qU5];rfl))
 refine bodyPost_ret (v:=.agg (qB5 qC0).toArray) (by simp[results,Tryz.results133,asAddr,uh HLV]) rfl ?_
 exact⟨rfl,uh HK2⟩
theorem qZx(w:World): (Op.equalIn 10000 173 (.agg (qB5 qC0).toArray) (.agg (qB5 qC0).toArray)).run Tryz.prog w=.ok true w:=by kernel_rfl
theorem qPx(rest:List Nat)(w:World)(hl:rest.length<=140737488355328): Calls Tryz.prog 87 #[.string (qFk (qC0++rest))] w λe w'=>∃r,e=.returned (.pointer (some ⟨r,0,none⟩))/\w.heap.size<=r/\RdRep w' r rest/\Keeps (λ_=>False) w w':=by
 have hdr:(qFk (qC0++rest)).extract 8 (qFk (qC0++rest)).size=qFk rest:=by
  rw[qR4];rfl
 have hsz:(qFk (qC0++rest)).size=8+rest.length:=by rw[qGe,List.length_append];rfl
 go_enter Tryz.func87,Tryz.ntmps87
 go_wp2_with fail
 refine(qIp rest w).mono ?_
 rintro e w1 ⟨rfl,hk1⟩
 have HK1:=hide hk1
 clear hk1
 go_wp2_with fail
 have hF:(Value.string ⟨#[115,107,101,116,99,104,32,49]⟩)=.string (qFk (qC0++[])):=by kernel_rfl
 rw[hF]
 refine(qIp [] w1).mono ?_
 rintro e w2 ⟨rfl,hk2⟩
 have HK2:=hide ((uh HK1).then hk2)
 have hs:=qZx w2
 clear hk2 HK1 hF
 obtain⟨st,hst⟩:∃st,qFk (qC0++rest)=st:=⟨_,rfl⟩
 rw[hst]at hdr hsz
 rw[hst]
 clear hst
 have HHL:=hide hl
 obtain⟨rl,hrl⟩:∃rl,rest.length=rl:=⟨_,rfl⟩
 rw[hrl]at hsz hl
 clear hrl
 rw[hsz]at hdr
 have HRB:=hide (Blk.new w2 [.string (qFk rest),.bool false] 176)
 have HK3:=hide ((uh HK2).alloc (.cells #[.string (qFk rest),.bool false] 176))
 have hle:=(uh HK2).size
 go_wp2
 go_ret
 exact⟨_,rfl,hle,⟨uh HRB,uh HHL⟩,uh HK3⟩
def qU1: Cfg:=⟨0,0,0,0,0,0,0,0,0,0,0,0,0,0,0,0,0,0,0,0⟩
end
end Go.Proofs.YtahnliehdjncdabGreatDoor
