import Derived.Test.YtahnliehdjncdaaGreatDoorXBF
import Derived.Test.YtahnliehdjncdaaGreatDoorXBH
import Derived.Test.YtahnliehdjncdaaGreatDoorXBG
import Derived.Deep.Slices
import Derived.OpenShut
import Derived.ProofKit
import Derived.SizedLaws
import Derived.Test.YtahnliehdjncdaaGreatDoorRows
import Derived.Laws.AppendOwnNone
import Derived.Test.YtahnliehdjncdaaGreatDoorXAW
set_option maxRecDepth 100000
set_option maxHeartbeats 16000000
namespace Go.Proofs.YtahnliehdjncdaaGreatDoor
section
open Go.RowKit
attribute [local go_sem ↓] qAd qAe
attribute [local go_sem] qAf qAl qAc qAb qAn qAm qAi qAj qAg qAk
theorem zEq(e:Nat)(v:Value)(clock:Int)(ps:List (SB×Ser))(o:OpM)(w:World)(h:ERep w e v clock ps)(hkind:o.kind=6)(hok:∀x,x∈ps.map (·.2)->SerOk x)(six:ps.length<=6)(c0:0<=clock)(c1:clock<=4611686018427387904):
  Calls Tryz.prog 35 #[.pointer (some ⟨e,0,none⟩),o.val] w λr w'=>qFe w e v ps clock (ps.map (·.2)) 0 [] (qGy clock (ps.map (·.2))) r w':=by
 have h0:o.cells[0]?=some (.int .i64 o.kind):=rfl
 have hn1:(o.kind==1)=false:=by simp[hkind]
 have hn2:(o.kind==2)=false:=by simp[hkind]
 have hn3:(o.kind==3)=false:=by simp[hkind]
 have hn4:(o.kind==4)=false:=by simp[hkind]
 have hn5:(o.kind==5)=false:=by simp[hkind]
 have hn6:(o.kind==6)=true:=by simp[hkind]
 have HE:=hide h
 have HOK:=hide hok
 clear h hkind hok
 unfold OpM.val
 go_enter Tryz.func35,Tryz.ntmps35
 go_wp2_with fail
 have hk0:Keeps (λ_=>False) w ((w.alloc (.cells o.cells.toArray 40)).alloc (.cells #[.int .i64 0,.slice none 0 0,.string ⟨#[]⟩] 33)):=((Keeps.refl (λ_=>False) w).alloc _).alloc _
 have HR0:=hide (show Blk ((w.alloc (.cells o.cells.toArray 40)).alloc (.cells #[.int .i64 0,.slice none 0 0,.string ⟨#[]⟩] 33)) (w.heap.size+1) [.int .i64 0,.slice none 0 0,.string qAa] 33 from Blk.newAt (by simp) [_,_,_] 33)
 have HE0:=hide ((uh HE).still hk0)
 have HK0:=hide hk0
 clear hk0
 generalize(w.alloc (.cells o.cells.toArray 40)).alloc (.cells #[.int .i64 0,.slice none 0 0,.string ⟨#[]⟩] 33)=w0 at *
 generalize hob:w.heap.size=ob at *
 have HOB:=hide hob
 clear hob
 refine(qRa e v clock ps w0 (uh HE0) (uh HOK) six c0 c1).mono ?_
 rintro r w1 ⟨rfl,hk1⟩
 have HR1:=hide ((uh HR0).keeps hk1 (λh=>h))
 have HK1:=hide ((uh HK0).then hk1)
 clear hk1
 obtain⟨bb,hbb⟩:∃bb,qGy clock (ps.map (·.2))=bb:=⟨_,rfl⟩
 rw[hbb]
 have HBB:=hide hbb
 clear hbb
 have r0:w1.cell? ⟨ob+1,0,none⟩=some (.int .i64 0):=(uh HR1).cell rfl
 have r1:w1.cell? ⟨ob+1,1,none⟩=some (.slice none 0 0):=(uh HR1).cell rfl
 have r2:w1.cell? ⟨ob+1,2,none⟩=some (.string qAa):=(uh HR1).cell rfl
 have rf:=(uh HR1).frozen
 go_wp2
 have hbf:=(((uh HR1).setCell 0 (.int .i64 0)).setCell 1 (.slice none 0 0)).setCell 2 (.string bb)
 have HKF:=hide ((((Keeps.refl (λi=>i=ob+1) w1).setCell (p:=⟨ob+1,0,none⟩) (Or.inl rfl) (.int .i64 0)).setCell (p:=⟨ob+1,1,none⟩) (Or.inl rfl) (.slice none 0 0)).setCell (p:=⟨ob+1,2,none⟩) (Or.inl rfl) (.string bb))
 generalize(((w1.setCell ⟨ob+1,0,none⟩ (.int .i64 0)).setCell ⟨ob+1,1,none⟩ (.slice none 0 0)).setCell ⟨ob+1,2,none⟩ (.string bb))=w9 at *
 have q0:w9.cell? ⟨ob+1,0,none⟩=some (.int .i64 0):=hbf.cell rfl
 have q1:w9.cell? ⟨ob+1,1,none⟩=some (.slice none 0 0):=hbf.cell rfl
 have q2:w9.cell? ⟨ob+1,2,none⟩=some (.string bb):=hbf.cell rfl
 refine bodyPost_ret (v:=zEt 0 (.slice none 0 0) bb) (by simp[results,Tryz.results35,go_sem,q0,q1,q2,zEt]) rfl ?_
 have hkf:=uh HKF
 have hob:=uh HOB
 have hkk:Keeps (λ_=>False) w w9:=(uh HK1).trans hkf (λi hi hlt=>by omega)
 exact⟨.slice none 0 0,v,ps,by rw[uh HBB],(uh HE).still hkk,rfl,World.ownsRow_nil _ _ _ _,hkk.mono (λ_ _ h=>h.elim),λi hi=>.inl hi,λi hi=>by cases hi⟩
end
section
open Go.RowKit
theorem qUn(n:Int)(e:Nat)(v:Value)(clock:Int)(ps:List (SB×Ser))(o:OpM)(w:World)(h:ERep w e v clock ps)(hi:EInv n clock (ps.map (·.2)))(hn:n<=4611686018427387904)(hT:Tab w)(hT0:¬EFoot e v ps 2)(h7:o.kind≠7)(h6:o.kind=6->∀x,x∈ps.map (·.2)->SerOk x):
  Calls Tryz.prog 35 #[.pointer (some ⟨e,0,none⟩),o.val] w λr w' =>
   qFe w e v ps (qBi ⟨clock,ps.map (·.2)⟩ o).1.clock (qBi ⟨clock,ps.map (·.2)⟩ o).1.xs (qBi ⟨clock,ps.map (·.2)⟩ o).2.1 (qBi ⟨clock,ps.map (·.2)⟩ o).2.2 (qD6 ⟨clock,ps.map (·.2)⟩ o) r w':=by
 by_cases h6':o.kind=6
 ·have hM:qBi ⟨clock,ps.map (·.2)⟩ o=(⟨clock,ps.map (·.2)⟩,0,[]):=by unfold qBi;rw[if_neg (by omega),if_neg (by omega),if_neg (by omega),if_neg (by omega),if_neg (by omega),if_pos h6']
  have hB:qD6 ⟨clock,ps.map (·.2)⟩ o=qGy clock (ps.map (·.2)):=by unfold qD6 zDw;rw[if_pos h6']
  rw[hM,hB]
  exact zEq e v clock ps o w h h6' (h6 h6') (by have:=hi.six;rw[List.length_map]at this;exact this) hi.c0 hi.c1
 have h67:o.kind≠6/\o.kind≠7:=⟨h6',h7⟩
 have hby:qD6 ⟨clock,ps.map (·.2)⟩ o=qAa:=by unfold qD6;rw[if_neg h67.1]
 rw[hby]
 have hfind:=qSf ps o.id
 by_cases h1:o.kind=1
 ·have hM:qBi ⟨clock,ps.map (·.2)⟩ o=qC2 ⟨clock,ps.map (·.2)⟩ o:=by unfold qBi;rw[if_pos h1]
  rw[hM]
  refine(zFp e v clock ps o w h h1 _ _ _ _ (λw0 h0=>?_)).mono (λ_ _ h=>h.b)
  cases hid:inB o.id 0 99
  ·have:qC2 ⟨clock,ps.map (·.2)⟩ o=(⟨clock,ps.map (·.2)⟩,2,[]):=by unfold qC2;rw[if_neg (by rw[hid];simp)]
   rw[this]
   exact qZv n e v clock ps o w0 h0 hi hid
  ·cases hf:qDo ps o.id with
   | some p =>
    have:qC2 ⟨clock,ps.map (·.2)⟩ o=(⟨clock,ps.map (·.2)⟩,2,[]):=by unfold qC2;rw[if_neg (by simp only;rw[hfind,hf];simp)]
    rw[this]
    exact qPy n e v clock ps o w0 h0 hi hid p hf
   | none =>
    have hc:(inB o.id 0 99=true/\(qEh (⟨clock,ps.map (·.2)⟩:WS).xs o.id).isNone=true):=⟨hid,by simp only;rw[hfind,hf];rfl⟩
    cases hv:qBg o.cfg
    ·have:qC2 ⟨clock,ps.map (·.2)⟩ o=(⟨clock,ps.map (·.2)⟩,3,[]):=by unfold qC2;rw[if_pos hc,if_neg (by rw[hv];simp)]
     rw[this]
     exact qOr n e v clock ps o w0 h0 hi hid hf hv
    ·by_cases h6:ps.length<6
     ·have:qC2 ⟨clock,ps.map (·.2)⟩ o=(⟨clock,ps.map (·.2)++[qCj o.id o.cfg o.cfg.kind.toNat]⟩,0,[]):=by unfold qC2;rw[if_pos hc,if_pos hv,if_pos (by simpa using h6)]
      rw[this]
      exact qWw n e v clock ps o w0 h0 hi hid hf hv h6
     ·have:qC2 ⟨clock,ps.map (·.2)⟩ o=(⟨clock,ps.map (·.2)⟩,4,[]):=by unfold qC2;rw[if_pos hc,if_pos hv,if_neg (by simpa using h6)]
      rw[this]
      have h6':ps.length=6:=by have:=hi.six;rw[List.length_map]at this;omega
      exact qTx n e v clock ps o w0 h0 hi hid hf hv h6'
 by_cases h2:o.kind=2
 ·have hM:qBi ⟨clock,ps.map (·.2)⟩ o=qUt ⟨clock,ps.map (·.2)⟩ o:=by unfold qBi;rw[if_neg h1,if_pos h2]
  rw[hM]
  refine(zF1 e v clock ps o w h h2 _ _ _ _ (λw0 h0=>?_)).mono (λ_ _ h=>h.b)
  cases hf:qDo ps o.id with
  | none =>
   have:qUt ⟨clock,ps.map (·.2)⟩ o=(⟨clock,ps.map (·.2)⟩,2,[]):=by unfold qUt;simp only;rw[hfind,hf];rfl
   rw[this]
   exact zAh n e v clock ps o w0 h0 hi hf
  | some p =>
   by_cases hr:qJu p.2 clock o.item=0
   ·have:qUt ⟨clock,ps.map (·.2)⟩ o=(⟨clock,qHt (ps.map (·.2)) o.id (qV9 p.2 o.item)⟩,0,[p.2.acc+1]):=by unfold qUt;simp only;rw[hfind,hf];simp only[Option.map_some];rw[if_pos hr]
    rw[this]
    exact zDr n e v clock ps o w0 h0 hi p hf hr (by omega)
   ·have:qUt ⟨clock,ps.map (·.2)⟩ o=(⟨clock,qHt (ps.map (·.2)) o.id (qSa p.2 (qJu p.2 clock o.item).toNat)⟩,qJu p.2 clock o.item,[]):=by unfold qUt;simp only;rw[hfind,hf];simp only[Option.map_some];rw[if_neg hr]
    rw[this]
    have hrr:=qJb p.2 clock o.item
    obtain⟨cd,hcd⟩:=Int.eq_ofNat_of_zero_le hrr.1
    rw[hcd,Int.toNat_natCast]
    exact zE3 n e v clock ps o w0 h0 hi p cd hf hcd (by omega) (by omega)
 by_cases h3:o.kind=3
 ·have hM:qBi ⟨clock,ps.map (·.2)⟩ o=qIb ⟨clock,ps.map (·.2)⟩ o:=by unfold qBi;rw[if_neg h1,if_neg h2,if_pos h3]
  rw[hM]
  refine(zEs e v clock ps o w h h3 _ _ _ _ (λw0 h0 hk0=>?_)).mono (λ_ _ h=>h.b)
  cases ha:inB o.a 0 4611686018427387904
  ·have:qIb ⟨clock,ps.map (·.2)⟩ o=(⟨clock,ps.map (·.2)⟩,5,[]):=by unfold qIb;rw[if_neg (by rw[ha];simp)]
   rw[this]
   exact qY6 n e v clock ps o w0 h0 hi ha
  ·cases hb:inB o.b 0 100
   ·have:qIb ⟨clock,ps.map (·.2)⟩ o=(⟨clock,ps.map (·.2)⟩,12,[]):=by unfold qIb;rw[if_pos ha,if_neg (by rw[hb];simp)]
    rw[this]
    exact qSm n e v clock ps o w0 h0 hi ha hb
   ·have:qIb ⟨clock,ps.map (·.2)⟩ o=(⟨qF4 clock o.a,(qBy (qF4 clock o.a) o.b ((ps.map (·.2)).map (qB8 (qF4 clock o.a)))).1⟩,0,[(qBy (qF4 clock o.a) o.b ((ps.map (·.2)).map (qB8 (qF4 clock o.a)))).2]):=by unfold qIb;rw[if_pos ha,if_pos hb]
    rw[this]
    exact zBu n e v clock ps o w0 h0 hi ha hb hn (hT.keeps hk0 (λh=>h)) hT0
 by_cases h4:o.kind=4
 ·have hM:qBi ⟨clock,ps.map (·.2)⟩ o=qGh ⟨clock,ps.map (·.2)⟩ o:=by unfold qBi;rw[if_neg h1,if_neg h2,if_neg h3,if_pos h4]
  rw[hM]
  refine(zE5 e v clock ps o w h h4 _ _ _ _ (λw0 h0=>?_)).mono (λ_ _ h=>h.b)
  cases hf:qDo ps o.id with
  | none =>
   have:qGh ⟨clock,ps.map (·.2)⟩ o=(⟨clock,ps.map (·.2)⟩,2,[]):=by unfold qGh;simp only;rw[hfind,hf];rfl
   rw[this]
   exact qV5 n e v clock ps o w0 h0 hi hf
  | some p =>
   have:qGh ⟨clock,ps.map (·.2)⟩ o=(⟨clock,ps.map (·.2)⟩,qJd p.2.k p.2.c p.2.nt o.a (clock-p.2.c.lag)):=by unfold qGh;simp only;rw[hfind,hf];rfl
   rw[this]
   exact qVq n e v clock ps o w0 h0 hi hn p hf
 by_cases h5:o.kind=5
 ·have hM:qBi ⟨clock,ps.map (·.2)⟩ o=qGn ⟨clock,ps.map (·.2)⟩ o:=by unfold qBi;rw[if_neg h1,if_neg h2,if_neg h3,if_neg h4,if_pos h5]
  rw[hM]
  refine(zEl e v clock ps o w h h5 _ _ _ _ (λw0 h0=>?_)).mono (λ_ _ h=>h.b)
  cases hf:qDo ps o.id with
  | none =>
   have:qGn ⟨clock,ps.map (·.2)⟩ o=(⟨clock,ps.map (·.2)⟩,2,[]):=by unfold qGn;simp only;rw[hfind,hf];rfl
   rw[this]
   exact zBm n e v clock ps o w0 h0 hi hf
  | some p =>
   have:qGn ⟨clock,ps.map (·.2)⟩ o=(⟨clock,ps.map (·.2)⟩,0,qCf p.2):=by unfold qGn;simp only;rw[hfind,hf];rfl
   rw[this]
   exact qXl n e v clock ps o w0 h0 hi p hf
 have hM:qBi ⟨clock,ps.map (·.2)⟩ o=(⟨clock,ps.map (·.2)⟩,1,[]):=by unfold qBi;rw[if_neg h1,if_neg h2,if_neg h3,if_neg h4,if_neg h5,if_neg h67.1,if_neg h67.2]
 rw[hM]
 exact(zDd e v clock ps o w h (by omega)).mono (λ_ _ h=>h.b)
def c0: Cfg:=⟨4,0,9,8,0,0,0,0,0,0,0,0,0,0,0,0,0,0,0,0⟩
def cz: Cfg:=⟨0,0,0,0,0,0,0,0,0,0,0,0,0,0,0,0,0,0,0,0⟩
def o1: OpM:=⟨1,7,0,0,0,c0,qAa⟩
def o2: OpM:=⟨2,7,3,0,0,cz,qAa⟩
def o3: OpM:=⟨3,0,5,0,0,cz,qAa⟩
def o4: OpM:=⟨2,7,5,0,0,cz,qAa⟩
def o5: OpM:=⟨4,7,0,0,0,cz,qAa⟩
def qZw: List OpM:=[o1,o2,o3,o4,o5]
def qFf: List Value:=o1.cells++(o2.cells++(o3.cells++(o4.cells++o5.cells)))
theorem zAu: qF5 ws0 qZw=[(0,[]),(0,[1]),(0,[0]),(6,[]),(0,[0,1,1])]:=by kernel_rfl
theorem zDk(w:World): (qDy 38 #[(0,.int .i64 4),(2,.int .i64 9),(3,.int .i64 8)]).run Tryz.prog w=.ok (.value (.agg c0.cells.toArray)) w:=by kernel_rfl
theorem zF0(w:World): (qDy 40 #[(0,.int .i64 1),(1,.int .i64 7),(5,.agg c0.cells.toArray)]).run Tryz.prog w=.ok (.value (.agg o1.cells.toArray)) w:=by kernel_rfl
theorem zFg(w:World): (qDy 40 #[(0,.int .i64 2),(1,.int .i64 7),(2,.int .i64 3)]).run Tryz.prog w=.ok (.value (.agg o2.cells.toArray)) w:=by kernel_rfl
theorem zE4(w:World): (qDy 40 #[(0,.int .i64 3),(2,.int .i64 5)]).run Tryz.prog w=.ok (.value (.agg o3.cells.toArray)) w:=by kernel_rfl
theorem zFx(w:World): (qDy 40 #[(0,.int .i64 2),(1,.int .i64 7),(2,.int .i64 5)]).run Tryz.prog w=.ok (.value (.agg o4.cells.toArray)) w:=by kernel_rfl
theorem zE8(w:World): (qDy 40 #[(0,.int .i64 4),(1,.int .i64 7)]).run Tryz.prog w=.ok (.value (.agg o5.cells.toArray)) w:=by kernel_rfl
theorem qLu(ρ:Operand->Value)(dst:Option Tmp)(x:Array (Nat×Operand))(ty:TypeId)(pos:String)(after:Array Edge)(guard:Option (Nat×Bool)):
  execOp ρ { dst,op:=.build 38 x,type:=ty,pos,after,guard }=qDy 38 (x.map λ(i,y)=>(i,ρ y)):=rfl
theorem qLn(ρ:Operand->Value)(dst:Option Tmp)(x:Array (Nat×Operand))(ty:TypeId)(pos:String)(after:Array Edge)(guard:Option (Nat×Bool)):
  execOp ρ { dst,op:=.build 40 x,type:=ty,pos,after,guard }=qDy 40 (x.map λ(i,y)=>(i,ρ y)):=rfl
def zDt(ty:TypeId)(n:Nat)(ps:Array (Nat×Value)): Sem Next:=do pure (.value (<-Instr.buildSlice ty n ps))
theorem qHq(ρ:Operand->Value)(dst:Option Tmp)(n:Nat)(x:Array (Nat×Operand))(ty:TypeId)(pos:String)(after:Array Edge)(guard:Option (Nat×Bool)):
  execOp ρ { dst,op:=.buildSlice 22 n x,type:=ty,pos,after,guard }=zDt 22 n (x.map λ(i,y)=>(i,ρ y)):=rfl
theorem zFh(w:World): (zDt 22 5 #[(0,.agg o1.cells.toArray),(1,.agg o2.cells.toArray),(2,.agg o3.cells.toArray),(3,.agg o4.cells.toArray),(4,.agg o5.cells.toArray)]).run Tryz.prog w =
  .ok (.value (.slice (some ⟨w.heap.size,0,none⟩) 5 5)) (w.alloc (.cells qFf.toArray 40)):=by kernel_rfl
theorem qCw(ρ:Operand->Value)(dst:Option Tmp)(x y:Operand)(ty:TypeId)(pos:String)(after:Array Edge)(guard:Option (Nat×Bool)):
  execOp ρ { dst,op:=.store 38 x y,type:=ty,pos,after,guard }=qDd 38 (ρ x) (ρ y):=rfl
theorem qTy(w:World)(zs:List Value)(cs:List Value)(hz:zs.length=20)(hc:cs.length=20)(h1:cs.toArray.all (·.oneCell')=true):
  (qDd 38 (.pointer (some ⟨w.heap.size,0,none⟩)) (.agg cs.toArray)).run Tryz.prog (w.alloc (.cells zs.toArray 38))=.ok .skip (w.alloc (.cells cs.toArray 38)):=by
 unfold qDd
 have ht:(w.alloc (.cells zs.toArray 38)).there w.heap.size 0 cs.toArray.size:=by
  intro j hj
  have hj':j<20:=by simpa[hc] using hj
  rw[Nat.zero_add,World.cell?_alloc_new,World.frozen?_alloc_new]
  simp[hz,hj']
 rw[Sem.run_bind,run_storeAt_mid _ w.heap.size 0 38 cs.toArray ht (by rw[qMl];simp[hc]) h1]
 have h2:=qEa cs [] zs (by omega)
 simp only[List.nil_append,List.length_nil]at h2
 rw[qF9,List.toList_toArray,h2]
 rfl
theorem zC2(w:World)(b:Nat)(h:Blk w b qFf 40): ScriptAt w b 0 qZw:=by
 intro i o ho
 have hi:i<5:=(List.getElem?_eq_some_iff.1 ho).1
 have hi':i=0\/i=1\/i=2\/i=3\/i=4:=by omega
 have hr:∀(off:Nat) (cs:List Value),(qFf.drop off).take 26=cs->w.rangeAt b off cs:=by
  intro off cs hcs j v hv
  rw[<-hcs,List.getElem?_take]at hv
  split at hv
  ·exact h.cell (by simpa using hv)
  ·cases hv
 rcases hi' with h' | h' | h' | h' | h'
 all_goals
  subst h'
  injection ho with ho
  subst ho
 ·exact hr 0 _ rfl
 ·exact hr 26 _ rfl
 ·exact hr 52 _ rfl
 ·exact hr 78 _ rfl
 ·exact hr 104 _ rfl
theorem Dr.swapL_all{P:Dr.It->Prop}(h0:P ⟨0,0,0,0,0⟩){l:List Dr.It}(h:∀y,y∈l->P y)(i j:Nat): ∀y,y∈Dr.swapL l i j->P y:=by
 have hat:∀i,P (Dr.itAt l i):=by
  intro i
  unfold Dr.itAt
  rw[List.getD_eq_getElem?_getD]
  cases hi:l[i]? with
  | none=>exact h0
  | some v=>exact h v (List.mem_of_getElem? hi)
 intro y hy
 unfold Dr.swapL at hy
 rcases List.mem_or_eq_of_mem_set hy with hy | hy
 ·rcases List.mem_or_eq_of_mem_set hy with hy | hy
  ·exact h y hy
  ·subst hy;exact hat j
 ·subst hy;exact hat i
theorem Dr.itAt_all{P:Dr.It->Prop}(h0:P ⟨0,0,0,0,0⟩){l:List Dr.It}(h:∀y,y∈l->P y)(i:Nat): P (Dr.itAt l i):=by
 unfold Dr.itAt
 rw[List.getD_eq_getElem?_getD]
 cases hi:l[i]? with
 | none=>exact h0
 | some v=>exact h v (List.mem_of_getElem? hi)
theorem Dr.riseL_all{P:Dr.It->Prop}(h0:P ⟨0,0,0,0,0⟩)(f:Nat)(l:List Dr.It)(i:Nat)(h:∀y,y∈l->P y): ∀y,y∈Dr.riseL f l i->P y:=by
 induction f generalizing l i with
 | zero=>exact h
 | succ f ih =>
  unfold Dr.riseL
  split
  ·exact h
  ·split
   ·exact ih _ _ (Dr.swapL_all h0 h _ _)
   ·exact h
theorem Dr.sinkL_all{P:Dr.It->Prop}(h0:P ⟨0,0,0,0,0⟩)(f:Nat)(l:List Dr.It)(i:Nat)(h:∀y,y∈l->P y): ∀y,y∈Dr.sinkL f l i->P y:=by
 induction f generalizing l i with
 | zero=>exact h
 | succ f ih =>
  unfold Dr.sinkL
  split
  ·exact h
  ·split
   ·exact ih _ _ (Dr.swapL_all h0 h _ _)
   ·exact h
theorem Dr.takeL_all{P:Dr.It->Prop}(h0:P ⟨0,0,0,0,0⟩)(l:List Dr.It)(h:∀y,y∈l->P y): ∀y,y∈Dr.takeL l->P y:=by
 unfold Dr.takeL
 refine Dr.sinkL_all h0 _ _ _ (λy hy=>?_)
 have hy:=List.mem_of_mem_take hy
 rcases List.mem_or_eq_of_mem_set hy with hy | hy
 ·exact h y hy
 ·subst hy;exact Dr.itAt_all h0 h _
theorem Dr.allL_all{P:Dr.It->Prop}(h0:P ⟨0,0,0,0,0⟩): ∀(f:Nat) (l:List Dr.It),(∀y,y∈l->P y)->∀y,y∈Dr.allL f l->P y
 | 0,_,_=>λy hy=>by simp[Dr.allL]at hy
 | f+1,l,h=>λy hy=>by
  unfold Dr.allL at hy
  split at hy
  ·cases hy
  ·rcases List.mem_cons.1 hy with e | e
   ·rw[e];exact Dr.itAt_all h0 h 0
   ·exact Dr.allL_all h0 f _ (Dr.takeL_all h0 l h) y e
theorem Qi.allL_all{P:It->Prop}(h0:P ⟨0,0,0,0⟩): ∀(f:Nat) (l:List It),(∀y,y∈l->P y)->∀y,y∈Qi.allL f l->P y
 | 0,_,_=>λy hy=>by simp[Qi.allL]at hy
 | f+1,l,h=>λy hy=>by
  unfold Qi.allL at hy
  split at hy
  ·cases hy
  ·rcases List.mem_cons.1 hy with e | e
   ·rw[e];exact itAt_all h0 h 0
   ·exact Qi.allL_all h0 f _ (takeL_all h0 l h) y e
def qWx(z:Dr.It): Prop:=(0<=z.t/\z.t<=4611686018427387904)/\(0<=z.k/\z.k<=4611686018427387904)/\(0<=z.d/\z.d<=4611686018427387904)/\(0<=z.n/\z.n<=4611686018427387904)
structure NX (k:Nat) (nt:Note):Prop where
 bt:∀b∈nt.bs,0<=b.t/\b.t<=4611686018427387904
 rt:∀i,∀b∈nt.rg i,0<=b.sz/\b.sz<=4611686018427387904
 rf:∀i,Fall (nt.rg i)
 tt:k=5->∀z∈nt.tk,qWx z
theorem qXx{P:Int->Prop}(h0:P 0)(K:Int)(f:Nat)(l:List Bk)(sz:Int)(e:Nat)(h:∀b∈l,P b.t): ∀b∈joinL K f l sz e,P b.t:=by
 induction f generalizing l sz e with
 | zero=>exact h
 | succ f ih =>
  unfold joinL
  split
  ·exact h
  ·refine ih _ _ _ (qI4 (P:=λb=>P b.t) l _ _ h ?_)
   show P (qCc l _).t
   unfold qCc
   rw[List.getD_eq_getElem?_getD]
   cases hi:l[qB4 l sz e+1]? with
   | none=>exact h0
   | some b=>exact h b (List.mem_of_getElem? hi)
theorem qY4{k:Nat}{c:Cfg}{nt:Note}(h:NX k nt)(y:It)(m:Int)(t0:0<=y.t)(t1:y.t<=4611686018427387904)(hy:k=5->(0<=y.k/\y.k<=4611686018427387904)/\(0<=y.d/\y.d<=4611686018427387904)/\(0<=y.n/\y.n<=4611686018427387904)): NX k (zDb k c nt y m):=by
 unfold zDb
 split
 ·exact⟨h.bt,h.rt,h.rf,h.tt⟩
 ·split
  ·refine⟨?_,h.rt,h.rf,h.tt⟩
   refine qXx (P:=λt=>0<=t/\t<=4611686018427387904) (by omega) _ _ _ _ _ (λb hb=>?_)
   unfold qRq at hb
   rcases List.mem_append.1 hb with hb | hb
   ·exact h.bt b (List.mem_of_mem_drop hb)
   ·rw[List.mem_singleton]at hb;rw[hb];exact⟨t0,t1⟩
  ·split
   ·refine⟨h.bt,λi b hb=>?_,λi=>?_,h.tt⟩
    ·have hb':b∈qUs c (qMm c) nt.rg y m i:=hb
     unfold qUs at hb'
     split at hb'
     ·rcases qQj hb' with hb' | hb'
      ·exact h.rt i b (List.mem_of_mem_drop hb')
      ·rw[hb'];exact⟨t0,t1⟩
     ·exact h.rt i b hb'
    ·show Fall (qUs c (qMm c) nt.rg y m i)
     unfold qUs
     split
     ·exact qM8 _ ((h.rf i).drop _)
     ·exact h.rf i
   ·split
    ·exact⟨h.bt,h.rt,h.rf,h.tt⟩
    ·split
     ·rename_i h5
      refine⟨h.bt,h.rt,h.rf,λ_=>?_⟩
      have hz:qWx ⟨0,0,0,0,0⟩:=⟨⟨by simp,by simp⟩,⟨by simp,by simp⟩,⟨by simp,by simp⟩,⟨by simp,by simp⟩⟩
      have h1:∀z,z∈Dr.riseL (nt.tk.length+1) (nt.tk++[tick c y]) nt.tk.length->qWx z:=Dr.riseL_all hz _ _ _ (λz hz'=>by
         rcases List.mem_append.1 hz' with hz' | hz'
         ·exact h.tt h5 z hz'
         ·rw[List.mem_singleton]at hz';rw[hz'];exact⟨⟨t0,t1⟩,hy h5⟩)
      show ∀z∈qPa c nt.tk y,qWx z
      unfold qPa
      split
      ·exact Dr.takeL_all hz _ h1
      ·exact h1
     ·exact h
structure SX (x:Ser):Prop where
 id0:0<=x.id/\x.id<=99
 accm:x.acc<=4611686018427387904
 nums:∀y,y∈x.l->0<=y.n/\y.n<=4611686018427387904
 refm:∀v,v∈x.ref->v<=4611686018427387904
 note:NX x.k x.nt
theorem qG7{c:Cfg}{k:Nat}{y:It}(h:qEi c k y=0)(hk:k=5): (0<=y.k/\y.k<=4611686018427387904)/\(0<=y.d/\y.d<=4611686018427387904):=by
 subst hk
 have h2:qMp c y=0:=h
 unfold qMp at h2
 split at h2
 ·split at h2
  ·rename_i h3
   split at h2
   ·rename_i h4
    have a:=qCi h3
    have b:=qCi h4
    omega
   ·omega
  ·omega
 ·omega
theorem qZx{n:Int}{x:Ser}(h:SX x)(hi:SInv n x)(hl:x.l≠[])(m:Int): SX (qEq x m):=by
 have hmem:=qOj hl
 have ht:=hi.times _ hmem
 refine⟨h.id0,h.accm,λy hy=>h.nums y (qH6 hi.heap hl hy),h.refm,?_⟩
 exact qY4 h.note _ _ ht.1 ht.2 (λe=>by
    have hk:=qG7 (hi.fits _ hmem) e
    exact⟨hk.1,hk.2,h.nums _ hmem⟩)
theorem zDn(f:Nat){n:Int}{x:Ser}(h:SX x)(hi:SInv n x)(m:Int): SX (qIp f x m):=by
 induction f generalizing x with
 | zero=>exact h
 | succ f ih =>
  unfold qIp
  split
  ·exact h
  ·rename_i he
   have hl:x.l≠[]:=by simpa using he
   split
   ·exact h
   ·rename_i hm
    exact ih (qZx h hi hl m) (qI8 hi hl m hm)
theorem zDq{x:Ser}(clock b:Int)(h:SX x): SX (qXt clock b x):=by
 refine⟨h.id0,h.accm,h.nums,h.refm,?_⟩
 show NX x.k (qT9 x.k x.c x.nt (clock-x.c.lag) b).1
 unfold qT9
 split
 ·exact⟨λz hz=>h.note.bt z (List.mem_of_mem_drop hz),h.note.rt,h.note.rf,h.note.tt⟩
 ·exact h.note
theorem zC4{n:Int}{x:Ser}(h:SX x)(hi:SInv n x)(y:It)(ha:x.acc<4611686018427387904): SX (qV9 x y):=by
 have h0:=hi.acc0
 have hp:=qOn x.l (numbered y (x.acc+1)) hi.heap
 refine⟨h.id0,by show x.acc+1<=_;omega,λz hz=>?_,h.refm,h.note⟩
 rcases List.mem_cons.1 (hp.2.subset hz) with e | e
 ·rw[e];show 0<=x.acc+1/\x.acc+1<=_;omega
 ·exact h.nums z e
theorem zD3{x:Ser}(h:SX x)(c:Nat): SX (qSa x c):=by
 refine⟨h.id0,h.accm,h.nums,λv hv=>?_,h.note⟩
 rcases List.mem_or_eq_of_mem_set hv with hv | hv
 ·exact h.refm v hv
 ·rw[hv];unfold zDu;split <;> omega
theorem qZd(id:Int)(c:Cfg)(k:Nat)(h:0<=id/\id<=99): SX (qCj id c k):=by
 refine⟨h,by show(0:Int)<=_;omega,λy hy=>(by cases hy),λv hv=>?_,⟨λb hb=>(by cases hb),λi b hb=>(by cases hb),λi=>List.Pairwise.nil,λ_ z hz=>(by cases hz)⟩⟩
 have:v=0:=by simpa[qCj] using hv
 omega
def EX(s:WS): Prop:=∀x,x∈s.xs->SX x
def LoadX(o:OpM): Prop:=o.kind=7->∀s',zDp o.bytes=some s'->EX s'
theorem qUl{n:Int}{s:WS}(o:OpM)(h:EX s)(hi:EInv n s.clock s.xs)(hL:LoadX o): EX (qBi s o).1:=by
 unfold qBi
 split
 ·unfold qC2
  split
  ·rename_i hc
   split
   ·split
    ·intro x hx
     rcases List.mem_append.1 hx with hx | hx
     ·exact h x hx
     ·rw[List.mem_singleton]at hx;rw[hx];exact qZd _ _ _ (qCi hc.1)
    ·exact h
   ·exact h
  ·exact h
 ·split
  ·unfold qUt
   split
   ·exact h
   ·rename_i x hf
    have hx:x∈s.xs:=List.mem_of_find?_eq_some hf
    split
    ·rename_i hr
     obtain⟨_,_,_,_,_,_,ha⟩:=qKl hr
     intro z hz
     rcases qG3 hz with hz | hz
     ·exact h z hz
     ·rw[hz];exact zC4 (h x hx) (hi.sers x hx) _ ha
    ·intro z hz
     rcases qG3 hz with hz | hz
     ·exact h z hz
     ·rw[hz];exact zD3 (h x hx) _
  ·split
   ·unfold qIb
    split
    ·split
     ·refine qI6 (P:=SX) _ (λb x hx=>zDq _ b hx) _ _ (λz hz=>?_)
      obtain⟨x,hx,rfl⟩:=List.mem_map.1 hz
      exact zDn _ (h x hx) (hi.sers x hx) _
     ·exact h
    ·exact h
   ·split
    ·unfold qGh
     split <;> exact h
    ·split
     ·unfold qGn
      split <;> exact h
     ·split
      ·exact h
      ·split
       ·rename_i h7
        unfold zAf
        split
        ·exact h
        ·rename_i s' hs'
         exact hL h7 s' hs'
       ·exact h
theorem qVp{c:Cfg}{k:Nat}(hv:qBg c=true)(hk:c.kind=k)(k1:1<=k)(k5:k<=5): (∀n,n∈qCk k c->0<=n/\n<=9223372036854775807)/\0<=qBj k c/\qBj k c<=3:=by
 have hcm:0<=c.lag/\c.lag<=100/\0<=c.skew/\c.skew<=100/\1<=c.cap/\c.cap<=8:=by
  have:=hv
  simp only[qBg,qD9,inB,Bool.and_eq_true,decide_eq_true_eq]at this
  omega
 have hkn:c.kind.toNat=k:=by omega
 have hfit:qE7 c k=true:=by
  have:=hv
  simp only[qBg,Bool.and_eq_true]at this
  rw[<-hkn];exact this.2.2
 rcases five k1 k5 with e | e | e | e | e <;> subst e
 ·obtain⟨a1,a2,a3,a4⟩:=qCq hv hk rfl
  refine⟨λn hn=>?_,by simp[qBj],by simp[qBj]⟩
  simp[qCk,qB5,qBj,qBt,Cfg.num,Cfg.nums]at hn
  omega
 ·obtain⟨⟨p1,p2,p3,p4⟩,a2,a3,a4,a5⟩:=qB0 hv hk rfl
  refine⟨λn hn=>?_,by simp[qBj],by simp[qBj]⟩
  simp[qCk,qB5,qBj,qBt,Cfg.num,Cfg.nums,List.range_succ]at hn
  omega
 ·obtain⟨hp,hr,_⟩:=qCd hv hk rfl
  obtain⟨r0,r1,w0,w1,sd⟩:=hr
  have q0:=hp.w0;have q1:=hp.w1;have q2:=hp.p0;have q3:=hp.p1
  refine⟨λn hn=>?_,by simp[qBj];omega,by simp[qBj];omega⟩
  have hr3:c.rows=1\/c.rows=2\/c.rows=3:=by omega
  rcases hr3 with e | e | e
  ·have s0:=sd 0 (by omega)
   simp[qCk,qB5,qBj,qBt,Cfg.num,Cfg.nums,e,List.range_succ]at hn
   simp[sdA,sdB]at s0
   omega
  ·have s0:=sd 0 (by omega)
   have s1:=sd 1 (by omega)
   simp[qCk,qB5,qBj,qBt,Cfg.num,Cfg.nums,e,List.range_succ]at hn
   simp[sdA,sdB]at s0 s1
   omega
  ·have s0:=sd 0 (by omega)
   have s1:=sd 1 (by omega)
   have s2:=sd 2 (by omega)
   simp[qCk,qB5,qBj,qBt,Cfg.num,Cfg.nums,e,List.range_succ]at hn
   simp[sdA,sdB]at s0 s1 s2
   omega
 ·have hd:qHl c=true:=hfit
  simp only[qHl,inB,Bool.and_eq_true,decide_eq_true_eq]at hd
  refine⟨λn hn=>?_,by simp[qBj],by simp[qBj]⟩
  simp[qCk,qB5,qBj,qBt,Cfg.num,Cfg.nums]at hn
  omega
 ·have hd:qJg c=true:=hfit
  simp only[qJg,qHl,inB,Bool.and_eq_true,decide_eq_true_eq]at hd
  refine⟨λn hn=>?_,by simp[qBj],by simp[qBj]⟩
  simp[qCk,qB5,qBj,qBt,Cfg.num,Cfg.nums]at hn
  omega
theorem qNu{n:Int}{x:Ser}(h:SX x)(hi:SInv n x)(hn:x.rel<=4611686018427387904): SerOk x:=by
 obtain⟨a1,a2,a3⟩:=qVp hi.valid hi.kind hi.k1 hi.k5
 have hcm:=hi.common
 have hcap:=hi.cap
 have hlen:x.l.length<=8:=by omega
 have hni:=hi.note
 have hr0:=hi.rel0
 have hfew:=hni.few hn
 refine⟨by have:=h.id0;omega,a1,a2,a3,hi.reflen,λv hv=>by have h1:=hi.refn v hv;have h2:=h.refm v hv;omega,by omega,hlen,?_,?_,hi.valid,hi.kind,hi.k1,hi.k5⟩
 ·intro m hm
  unfold qLm at hm
  obtain⟨y,hy,hmy⟩:=List.mem_flatMap.1 hm
  have hP:=Qi.allL_all (P:=λy=>(0<=y.n/\y.n<=4611686018427387904)/\(0<=y.t/\y.t<=4611686018427387904)/\(x.k=2\/x.k=3\/x.k=5->0<=y.k/\y.k<=4611686018427387904)/\(x.k=5->0<=y.d/\y.d<=4611686018427387904)) (by simp) (x.l.length+1) x.l (λy hy=>⟨h.nums y hy,hi.times y hy,λhk=>by
       rcases hk with e | e | e
       ·have:=qK1 (hi.fits y hy) (.inl e);omega
       ·have:=qK1 (hi.fits y hy) (.inr e);omega
       ·exact(qG7 (hi.fits y hy) e).1,λe=>(qG7 (hi.fits y hy) e).2⟩) y hy
  obtain⟨p1,p2,p3,p4⟩:=hP
  unfold qNp at hmy
  rcases List.mem_cons.1 hmy with e | e
  ·rw[e];omega
  ·obtain⟨j,hj,rfl⟩:=List.mem_map.1 e
   have hk1:=hi.k1;have hk5:=hi.k5
   have hj':j=0\/(j=1/\(x.k=2\/x.k=3\/x.k=5))\/(j=2/\x.k=5):=by
    have hk:x.k=1\/x.k=2\/x.k=3\/x.k=4\/x.k=5:=by omega
    rcases hk with e | e | e | e | e <;> rw[e]at hj <;> simp[qCo]at hj <;> omega
   rcases hj' with e | ⟨e,hk⟩ | ⟨e,hk⟩
   ·subst e;show 0<=y.t/\y.t<=_;omega
   ·subst e;have:=p3 hk;show 0<=y.k/\y.k<=_;omega
   ·subst e;have:=p4 hk;show 0<=y.d/\y.d<=_;omega
 ·refine⟨by have:=hni.q0;have:=hni.qn;omega,by have:=hni.r0;have:=hni.r1;omega,by omega,λb hb=>⟨hni.one b hb,hfew.2 b hb⟩,λb hb=>by have:=h.note.bt b hb;omega,λi=>?_,λi b hb=>by have h1:=h.note.rt i b hb;have h2:=hni.rk i b hb;omega,λe=>?_,λe=>?_,λe m hm=>?_⟩
  ·have:=qHy (x.nt.rg i) 40 (h.note.rf i) (hni.rk i)
   omega
  ·obtain⟨b1,b2,b3,b4,b5⟩:=qCd hi.valid hi.kind e
   have ho:=hni.oi e
   have hcl:x.nt.cl.length<=8:=by have:=ho.len;have:=b1.p1;omega
   exact⟨by omega,ho.okC hi.lastn b3 b4,ho.okO hi.lastn b3 b4,λz hz=>by have:=ho.cel.1 z hz;omega,λp hp z hz=>by have:=ho.cel.2 p hp z hz;omega⟩
  ·have h1:=hni.tl e
   have h2:=(qDr hi.valid hi.kind e).2
   omega
  ·unfold qL1 at hm
   obtain⟨z,hz,hmz⟩:=List.mem_flatMap.1 hm
   have hP:qWx z:=Dr.allL_all (P:=qWx) ⟨⟨by simp,by simp⟩,⟨by simp,by simp⟩,⟨by simp,by simp⟩,⟨by simp,by simp⟩⟩ _ _ (h.note.tt e) z hz
   obtain⟨z1,z2,z3,z4⟩:=hP
   simp at hmz
   rcases hmz with e | e | e | e <;> rw[e] <;> omega
end
section
open Go.RowKit
attribute [local go_sem ↓] qAd qAe qCw qLu qLn qHq
attribute [local go_sem] qAf qAl qAc qAb qAn qAm qAi qAj zDk zF0 zFg zE4 zFx zE8 zFh
def qK6(ops:List OpM): Prop:=∀o,o∈ops->o.kind≠7
theorem zCn{n:Int}{s:WS}(l:List OpM)(h:EX s)(hi:EInv n s.clock s.xs)(hn:0<=n)(hok:qK6 l): EX (qF1 s l):=by
 induction l generalizing s n with
 | nil=>exact h
 | cons a l ih =>
  have ha:=hok a (by simp)
  exact ih (qUl a h hi (λe=>(ha e).elim)) (qLg a hi hn (qHs ha)) (by omega) (λo ho=>hok o (by simp[ho]))
theorem qW6(sb so cap:Nat)(ops:List OpM)(w:World)(hsc:ScriptAt w sb so ops)(hlt:sb<w.heap.size)(hlen:ops.length<=651562446090)(hT:Tab w)(hok:qK6 ops):
  Calls Tryz.prog 19 #[.slice (some ⟨sb,so,none⟩) ops.length cap] w λr w'=>∃v l,r=.returned v/\ARep w' w.heap.size v l/\l.map (λx=>(x.code,x.nums))=qF5 ws0 ops/\l.map (·.bs)=qV4 ws0 ops/\Keeps (λ_=>False) w w' :=
 zEe sb so cap ops w hsc hlt hlen hT (λ_ o ho=>qHs (hok o (List.mem_of_getElem? ho))) (λi e v clock ps o w ho hs h hi hn hT hT0=>qUn i e v clock ps o w h hi (by omega) hT hT0 (hok o (List.mem_of_getElem? ho)) (λ_ x hx=>by
      have hex:EX (qF1 ws0 (ops.take i)):=zCn (ops.take i) (λx hx=>by simp[ws0]at hx) inv0 (by omega) (λo ho=>hok o (List.mem_of_mem_take ho))
      rw[<-hs]at hex
      have hsi:=hi.sers x hx
      exact qNu (hex x hx) hsi (by have h1:=hsi.rela;have h2:=hsi.accn;omega)))
theorem zDa: qK6 qZw:=by
 intro o ho
 simp[qZw,o1,o2,o3,o4,o5]at ho
 rcases ho with h | h | h | h | h <;> subst h <;> simp
theorem qZj{w:World}{base:Nat}{v:Value}{l:List Ans}(h:ARep w base v l)(hl:l≠[]): ∃g cap,v=.slice (some ⟨g,0,none⟩) l.length cap/\∀i u,(qDn l)[i]?=some u->w.cell? ⟨g,i,none⟩=some u:=by
 rcases h.row.2 with ⟨_,h2⟩ | ⟨g,cap,cur,h1,_,h3,h4,h5,h6,h7⟩
 ·exact absurd (List.length_eq_zero_iff.1 h2) hl
 ·refine⟨g,cap,h1,λi u hu=>?_⟩
  have hi:i<l.length*3:=by have:=(List.getElem?_eq_some_iff.1 hu).1;have:=h.row.1;omega
  have:cur[i]?=some u:=by
   rw[<-h7,List.getElem?_take,if_pos hi]at hu
   simpa using hu
  simp[World.cell?,h3,this]
theorem qXn{α:Type _}(l:List α)(h:l.length=5): ∃a b c d e,l=[a,b,c,d,e]:=by
 cases l with
 | nil=>cases h
 | cons a l =>
  cases l with
  | nil=>cases h
  | cons b l =>
   cases l with
   | nil=>cases h
   | cons c l =>
    cases l with
    | nil=>cases h
    | cons d l =>
     cases l with
     | nil=>cases h
     | cons e l =>
      cases l with
      | nil=>exact⟨a,b,c,d,e,rfl⟩
      | cons f l=>simp at h
theorem qXr(w:World)(hT:Tab w): Calls Tryz.prog 17 #[] w λe w'=>e=.returned (.bool true)/\Keeps (λ_=>False) w w':=by
 have hst:∀zs:List Value,zs.length=20->(qDd 38 (.pointer (some ⟨w.heap.size,0,none⟩)) (.agg c0.cells.toArray)).run Tryz.prog (w.alloc (.cells zs.toArray 38))=.ok .skip (w.alloc (.cells c0.cells.toArray 38)):=λzs hz=>qTy w zs c0.cells hz rfl (by simp[Cfg.cells,Value.oneCell'])
 have hv1:qAp (w.alloc (.cells c0.cells.toArray 38)) w.heap.size 0 20=.agg c0.cells.toArray:=qAg w c0.cells 38 20 rfl
 have hh1:qAu (w.alloc (.cells c0.cells.toArray 38)) w.heap.size 0 20=true:=qC9 w c0.cells 38 20 rfl
 have HK0:=hide (((Keeps.refl (λ_=>False) w).alloc (.cells c0.cells.toArray 38)).alloc (.cells qFf.toArray 40))
 have HB0:=hide (show Blk ((w.alloc (.cells c0.cells.toArray 38)).alloc (.cells qFf.toArray 40)) (w.heap.size+1) qFf 40 from Blk.newAt (by simp) _ _)
 have HTT:=hide hT
 clear hT
 go_enter Tryz.func17,Tryz.ntmps17
 go_wp2_with fail
 refine(qW6 (w.heap.size+1) 0 5 qZw _ (zC2 _ _ (uh HB0)) (uh HB0).lt (by decide) ((uh HTT).keeps (uh HK0) (λh=>h)) zDa).mono ?_
 rintro r w1 ⟨v,l,rfl,hA,hM,_,hk1⟩
 rw[zAu]at hM
 obtain⟨x0,x1,x2,x3,x4,hl5⟩:=qXn l (by have:=congrArg List.length hM;simpa using this)
 subst hl5
 simp only[List.map_cons,List.map_nil,List.cons.injEq,Prod.mk.injEq,and_true]at hM
 obtain⟨⟨k0,m0⟩,⟨k1,m1⟩,⟨k2,m2⟩,⟨k3,m3⟩,k4,m4⟩:=hM
 obtain⟨g,cap,hv,hc⟩:=qZj hA (by simp)
 have n1:=hA.nums x1 (by simp)
 have n4:=hA.nums x4 (by simp)
 rw[m1]at n1
 rw[m4]at n4
 rcases qEs n1 with ⟨h,_⟩ | ⟨g1,cp1,hv1',hn1⟩
 ·cases h
 rcases qEs n4 with ⟨h,_⟩ | ⟨g4,cp4,hv4',hn4⟩
 ·cases h
 have y0:w1.cell? ⟨g,0,none⟩=some (.int .i64 0):=(hc 0 _ rfl).trans (by rw[k0])
 have y1:w1.cell? ⟨g,3,none⟩=some (.int .i64 0):=(hc 3 _ rfl).trans (by rw[k1])
 have y2:w1.cell? ⟨g,6,none⟩=some (.int .i64 0):=(hc 6 _ rfl).trans (by rw[k2])
 have y3:w1.cell? ⟨g,9,none⟩=some (.int .i64 6):=(hc 9 _ rfl).trans (by rw[k3])
 have y4:w1.cell? ⟨g,12,none⟩=some (.int .i64 0):=(hc 12 _ rfl).trans (by rw[k4])
 have z1:w1.cell? ⟨g,4,none⟩=some (.slice (some ⟨g1,0,none⟩) 1 cp1):=(hc 4 _ rfl).trans (by rw[hv1'];rfl)
 have z4:w1.cell? ⟨g,13,none⟩=some (.slice (some ⟨g4,0,none⟩) 3 cp4):=(hc 13 _ rfl).trans (by rw[hv4'];rfl)
 have p1:w1.cell? ⟨g1,0,none⟩=some (.int .i64 1):=hn1 0 (by simp)
 have q0:w1.cell? ⟨g4,0,none⟩=some (.int .i64 0):=hn4 0 (by simp)
 have q1:w1.cell? ⟨g4,1,none⟩=some (.int .i64 1):=hn4 1 (by simp)
 have q2:w1.cell? ⟨g4,2,none⟩=some (.int .i64 1):=hn4 2 (by simp)
 have HK1:=hide ((uh HK0).then hk1)
 rw[hv]
 clear hA hk1 hc n1 n4 hn1 hn4 hv hv1' hv4' k0 k1 k2 k3 k4 m0 m1 m2 m3 m4 hst hv1 hh1 HK0 HB0
 show _
 go_wp2
 go_ret
 exact⟨rfl,uh HK1⟩
end
section
open Go.RowKit
attribute [local go_sem ↓] qAd qAe qCx
attribute [local go_sem] qAf qAl qAc qAb qAn qAm qAi qAj
theorem qPs{n:Int}{s:WS}(o:OpM)(h:EInv n s.clock s.xs): (qBi s o).2.2.length<=17:=by
 unfold qBi
 split
 ·unfold qC2;(repeat' split) <;> simp
 split
 ·unfold qUt;(repeat' split) <;> simp
 split
 ·unfold qIb;(repeat' split) <;> simp
 split
 ·unfold qGh;split
  ·simp
  ·rename_i x hx
   have hi:=h.sers x (List.mem_of_find?_eq_some hx)
   show(qJd x.k x.c x.nt o.a (s.clock-x.c.lag)).2.length<=17
   unfold qJd
   split
   ·simp
   split
   ·split <;> simp
   split
   ·rename_i h2
    obtain⟨_,_,b4,_,_⟩:=qB0 hi.valid hi.kind h2
    unfold zE7
    split
    ·show(qD7 _ _ _++[_]).length<=17
     rw[List.length_append,qFt,List.length_singleton]
     have:qMm x.c<=16:=Nat.pow_le_pow_right (n:=2) (by omega) (show x.c.bits.toNat<=4 by omega)
     omega
    ·simp
   split
   ·split <;> simp
   split
   ·rename_i h5
    have hd:=qDr hi.valid hi.kind h5
    show(qSe x.c x.nt.tk).length<=17
    unfold qSe
    simp only[List.length_append,qC5,List.length_take]
    simp
    omega
   ·simp
 split
 ·unfold qGn;(repeat' split) <;> simp[qCf,qC6]
 split
 ·simp
 split
 ·unfold zAf;split <;> simp
 ·simp
theorem qY5{n:Int}{s:WS}(ops:List OpM)(hs:EInv n s.clock s.xs)(hn:0<=n)(hL:∀(i:Nat) o,ops[i]?=some o->qM4 (n+i+1) o)(x:Int×List Int)(h:x∈qF5 s ops): x.2.length<=17:=by
 induction ops generalizing s n with
 | nil=>simp[qF5]at h
 | cons o r ih =>
  rcases List.mem_cons.1 h with h | h
  ·subst h;exact qPs o hs
  ·exact ih (qLg o hs hn (by have:=hL 0 o rfl;simpa using this)) (by omega) (λi o ho=>by
      have:=hL (i+1) o (by simpa using ho)
      rw[show n+1+(i:Int)+1=n+((i+1:Nat):Int)+1 by omega]
      exact this) h
theorem qMs(ops:List OpM)(hok:qK6 ops)(x:Int×List Int)(h:x∈qF5 ws0 ops): x.2.length<=17 :=
 qY5 ops inv0 (by omega) (λ_ o ho=>qHs (hok o (List.mem_of_getElem? ho))) x h
theorem qXj(a:Option Addr)(cap:Nat)(w:World):
  Calls Tryz.prog 19 #[.slice a 0 cap] w λr w'=>∃v l,r=.returned v/\ARep w' w.heap.size v l/\l.map (λx=>(x.code,x.nums))=qF5 ws0 []/\l.map (·.bs)=qV4 ws0 []/\Keeps (λ_=>False) w w':=by
 obtain⟨i0,hi0,hz0,hz1,hz2⟩:=info_parts qYz
 go_enter Tryz.func19,Tryz.ntmps19
 go_wp2_with (at_make;refine wpList_make_own _ rfl _ _ _ rfl w.heap.size 33 i0 _ 3 Tryz.underlying27 hi0 hz0 hz1 _ _ _ 0 rfl rfl rfl (by rw[hz2];omega) (by unfold maxLen;omega) (by simp) ?_;intro w1 ho1 hg1)
 rw[World.size_alloc]at ho1
 have hkw1:Keeps (λ_=>False) w w1:=((Keeps.refl (λ_=>False) w).alloc _).grown hg1 (λk hk=>by cases hk)
 have HA1:=hide (show ARep w1 w.heap.size (.slice (some ⟨w.heap.size+1,0,none⟩) 0 0) [] from⟨ho1,λx hx=>by simp at hx,λx hx=>by simp at hx⟩)
 have HK1:=hide hkw1
 clear hg1 ho1 hkw1
 go_loopw [4,12] (λav i wr=>i=.int .i64 0/\av=.slice (some ⟨w.heap.size+1,0,none⟩) 0 0/\wr=w1) (λ_ _ _=>0)
 case atStart=>exact⟨rfl,rfl,rfl⟩
 case round =>
  obtain⟨rfl,rfl,rfl⟩:=hrel
  go_wp2
  go_ret
  exact⟨_,[],rfl,uh HA1,rfl,rfl,uh HK1⟩
end
section
open Go.RowKit
theorem qHw(l:List Ans)(i j:Nat)(x:Ans)(h:l[i]?=some x)(hj:j<3): (qDn l)[i*3+j]?=x.cells[j]?:=by
 induction l generalizing i with
 | nil=>simp at h
 | cons a l ih =>
  have hc:qDn (a::l)=a.cells++qDn l:=by simp[qDn]
  rw[hc]
  cases i with
  | zero =>
   have:a=x:=by simpa using h
   subst this
   rw[List.getElem?_append_left (by simp[Ans.cells];omega)]
   simp
  | succ i =>
   rw[List.getElem?_append_right (by simp[Ans.cells];omega)]
   have:=ih i (by simpa using h)
   rw[<-this]
   congr 1
   simp[Ans.cells];omega
theorem qCu{w:World}{base T c:Nat}{v:Value}{n:Nat}{l:List Value}(h:w.ownsRow base T c v n l): ∃a cap,v=.slice a n cap:=by
 rcases h.2 with ⟨h1,h2⟩ | ⟨g,cap,cur,h1,_⟩
 ·exact⟨none,0,by rw[h1,h2]⟩
 ·exact⟨_,_,h1⟩
theorem qGe{w:World}{base:Nat}{a:Option Addr}{n cap:Nat}{l:List Ans}(h:ARep w base (.slice a n cap) l)(i:Nat)(x:Ans)(hx:l[i]?=some x):
  ∃g,a=some ⟨g,0,none⟩/\w.cell? ⟨g,i*3,none⟩=some (.int .i64 x.code)/\w.cell? ⟨g,i*3+1,none⟩=some x.nv/\w.cell? ⟨g,i*3+2,none⟩=some (.string x.bs):=by
 obtain⟨g,cap',hv,hc⟩:=qZj h (by intro h;rw[h]at hx;simp at hx)
 injection hv with h1 h2 h3
 exact⟨g,h1,hc _ _ (qHw l i 0 x hx (by omega)),hc _ _ (qHw l i 1 x hx (by omega)),hc _ _ (qHw l i 2 x hx (by omega))⟩
end
section
open Go.ChangeShapes Go.WideShapes Go.ChangeAt Go.RowKit Go.Deep
def zFb(V:Nat->Int)(b:ByteArray): OpM:=⟨V 0,V 1,V 2,V 3,V 4,⟨V 5,V 6,V 7,V 8,V 9,V 10,V 11,V 12,V 13,V 14,V 15,V 16,V 17,V 18,V 19,V 20,V 21,V 22,V 23,V 24⟩,b⟩
theorem qV2(V:Nat->Int)(b:ByteArray): (zFb V b).cells=(List.range 25).map (λj=>.int .i64 (V j))++[.string b]:=rfl
theorem cells3: Tryz.prog.cellsOf 3=1:=by kernel_rfl
theorem zDo: Tryz.prog.cellsOf 35=2:=by kernel_rfl
theorem qRt: Tryz.prog.cellsOf 40=26:=by kernel_rfl
theorem zEb: Tryz.prog.bytesOf 40=216:=by kernel_rfl
section
variable {H:Type} {enc:TypeId×Value->H} {w:World} {base:Nat} {spare:Nat->Bool} {held:Bool}
def IntAt(cs:List Value)(i:Nat): Prop:=∃n,cs[i]?=some (.int .i64 n)/\(Lit.int .i64 n).wf=true
theorem zCf{cs:List Value}{off n i:Nat}{v:Value}(h:((cs.drop off).take n)[i]?=some v): cs[off+i]?=some v:=by
 rw[List.getElem?_take]at h
 split at h
 ·rw[List.getElem?_drop]at h;exact h
 ·cases h
theorem IntAt.sub{cs:List Value}{off n i:Nat}(h:IntAt ((cs.drop off).take n) i): IntAt cs (off+i):=by
 obtain⟨k,h1,h2⟩:=h
 exact⟨k,zCf h1,h2⟩
theorem qXd{m:Nat}{cs:List Value}{x:DataW H×List MemPlace}(h:DataW.trod enc Tryz.prog w base spare held m 3 cs=some x): IntAt cs 0:=by
 obtain⟨n,rfl,_,hw⟩:=DataW.trod_int Tryz.underlying3 h
 exact⟨n,rfl,hw⟩
theorem qHv{α:Type}{xs:List α}{n i:Nat}(h:xs.length=n)(hi:i<n): ∃x,xs[i]?=some x:=⟨xs[i],List.getElem?_eq_getElem (by omega)⟩
theorem zDf{m:Nat}{cs:List Value}{x:DataW H×List MemPlace}(h:DataW.trod enc Tryz.prog w base spare held m 35 cs=some x)(i:Nat)(hi:i<2): IntAt cs i:=by
 obtain⟨xs,k,_,_,_,hl,hx⟩:=DataW.trod_array Tryz.underlying35 h
 obtain⟨y,hy⟩:=qHv hl hi
 have h1:=hx i hi
 rw[hy,cells3,Nat.mul_one]at h1
 have:=(qXd h1).sub
 simpa using this
theorem zC0{m:Nat}{cs:List Value}{x:DataW H×List MemPlace}(h:DataW.trod enc Tryz.prog w base spare held m 36 cs=some x)(i:Nat)(hi:i<6): IntAt cs i:=by
 obtain⟨xs,k,_,_,_,hl,hx⟩:=DataW.trod_array Tryz.underlying36 h
 have hq:i/2<3:=by omega
 obtain⟨y,hy⟩:=qHv hl hq
 have h1:=hx (i/2) hq
 rw[hy,zDo]at h1
 have:=(zDf h1 (i%2) (by omega)).sub
 rwa [show i/2*2+i%2=i by omega]at this
theorem zFw{m:Nat}{cs:List Value}{x:DataW H×List MemPlace}(h:DataW.trod enc Tryz.prog w base spare held m 38 cs=some x)(i:Nat)(hi:i<20): IntAt cs i:=by
 obtain⟨xs,k,_,_,_,hl,hx⟩:=DataW.trod_struct Tryz.underlying38 h
 have hl15:xs.length=15:=hl
 have one:∀(j:Nat) (f:Field),(Option.map (λf:Field=>(f.type,f.offset)) (some f))=some (3,j)->j<14->DataW.trod enc Tryz.prog w base spare held k f.type ((cs.drop f.offset).take (Tryz.prog.cellsOf f.type))=xs[j]?->IntAt cs j:=by
  intro j f hf hj h1
  obtain⟨y,hy⟩:=qHv hl15 (show j<15 by omega)
  simp only[Option.map_some,Option.some.injEq,Prod.mk.injEq]at hf
  rw[hf.1,hf.2,hy]at h1
  have:=(qXd h1).sub
  simpa using this
 by_cases h14:i<14
 ·have hc:i=0\/i=1\/i=2\/i=3\/i=4\/i=5\/i=6\/i=7\/i=8\/i=9\/i=10\/i=11\/i=12\/i=13:=by omega
  rcases hc with rfl | rfl | rfl | rfl | rfl | rfl | rfl | rfl | rfl | rfl | rfl | rfl | rfl | rfl <;> exact one _ _ rfl h14 (hx _ _ rfl)
 ·obtain⟨y,hy⟩:=qHv hl15 (show 14<15 by omega)
  have h1:DataW.trod enc Tryz.prog w base spare held k 36 ((cs.drop 14).take (Tryz.prog.cellsOf 36))=xs[14]?:=hx 14 _ rfl
  rw[hy]at h1
  have:=(zC0 h1 (i-14) (by omega)).sub
  rwa [show 14+(i-14)=i by omega]at this
theorem qZl{m:Nat}{cs:List Value}{x:DataW H×List MemPlace}(h:DataW.trod enc Tryz.prog w base spare held m 40 cs=some x):
  ∃(V:Nat->Int) (b:ByteArray),cs=(zFb V b).cells/\(∀i,i<25->(Lit.int .i64 (V i)).wf=true)/\b.size<=maxLen:=by
 obtain⟨xs,k,_,_,hlen,hl,hx⟩:=DataW.trod_struct Tryz.underlying40 h
 rw[qRt]at hlen
 have hl7:xs.length=7:=hl
 have one:∀(j:Nat) (f:Field),(Option.map (λf:Field=>(f.type,f.offset)) (some f))=some (3,j)->j<5->DataW.trod enc Tryz.prog w base spare held k f.type ((cs.drop f.offset).take (Tryz.prog.cellsOf f.type))=xs[j]?->IntAt cs j:=by
  intro j f hf hj h1
  obtain⟨y,hy⟩:=qHv hl7 (show j<7 by omega)
  simp only[Option.map_some,Option.some.injEq,Prod.mk.injEq]at hf
  rw[hf.1,hf.2,hy]at h1
  have:=(qXd h1).sub
  simpa using this
 have hints:∀i,i<25->IntAt cs i:=by
  intro i hi
  by_cases h5:i<5
  ·have hc:i=0\/i=1\/i=2\/i=3\/i=4:=by omega
   rcases hc with rfl | rfl | rfl | rfl | rfl <;> exact one _ _ rfl h5 (hx _ _ rfl)
  ·obtain⟨y,hy⟩:=qHv hl7 (show 5<7 by omega)
   have h1:DataW.trod enc Tryz.prog w base spare held k 38 ((cs.drop 5).take (Tryz.prog.cellsOf 38))=xs[5]?:=hx 5 _ rfl
   rw[hy]at h1
   have:=(zFw h1 (i-5) (by omega)).sub
   rwa [show 5+(i-5)=i by omega]at this
 obtain⟨V,hV⟩:=choose_lt (α:=Int) hints
 obtain⟨y,hy⟩:=qHv hl7 (show 6<7 by omega)
 have h1:DataW.trod enc Tryz.prog w base spare held k 9 ((cs.drop 25).take (Tryz.prog.cellsOf 9))=xs[6]?:=hx 6 _ rfl
 rw[hy]at h1
 obtain⟨b,hb,_,hbz⟩:=DataW.trod_string Tryz.underlying9 h1
 have hb':cs[25]?=some (.string b):=zCf (off:=25) (i:=0) (by rw[hb];rfl)
 refine⟨V,b,?_,λi hi=>(hV i hi).2,hbz⟩
 rw[qV2]
 apply List.ext_getElem?
 intro j
 by_cases hj:j<25
 ·rw[(hV j hj).1,List.getElem?_append_left (by simpa using hj)]
  simp[hj]
 ·by_cases hj2:j=25
  ·subst hj2;rw[hb'];rfl
  ·rw[List.getElem?_eq_none (by omega),List.getElem?_eq_none (by simp;omega)]
end
end
section
open Go.ChangeShapes Go.WideShapes Go.ChangeAt Go.RowKit Go.Deep
theorem Tryz.own: ownKnob Tryz.prog.godebug=none:=by kernel_rfl
theorem Tryz.laidOut: laidOutB Tryz.prog=true:=by kernel_rfl
theorem Keeps.below{w w':World}(h:Keeps (λ_=>False) w w'): Below w.heap.size w w':=⟨h.os,h.tape,h.output,h.size,λk hk=>h.block k hk (λh=>h)⟩
theorem qYt{x:Int}(h:(Lit.int .i64 x).wf=true): -9223372036854775808<=x/\x<=9223372036854775807:=by
 simp[Lit.wf,IntKind.min,IntKind.max,IntKind.signed,IntKind.bits]at h
 omega
end
section
open Go.RowKit
def qD5(l:List OpM): List Value:=l.flatMap OpM.cells
theorem qOh(a b:List OpM): qD5 (a++b)=qD5 a++qD5 b:=by simp[qD5]
theorem qId(l:List OpM): (qD5 l).length=l.length*26:=by
 induction l with
 | nil=>rfl
 | cons a l ih =>
  have hc:qD5 (a::l)=a.cells++qD5 l:=by simp[qD5]
  rw[hc,List.length_append,ih,List.length_cons]
  have:a.cells.length=26:=rfl
  omega
theorem qNb(l:List OpM)(i j:Nat)(x:OpM)(h:l[i]?=some x)(hj:j<26): (qD5 l)[i*26+j]?=x.cells[j]?:=by
 induction l generalizing i with
 | nil=>simp at h
 | cons a l ih =>
  have hc:qD5 (a::l)=a.cells++qD5 l:=by simp[qD5]
  have hl:a.cells.length=26:=rfl
  rw[hc]
  cases i with
  | zero =>
   have:a=x:=by simpa using h
   subst this
   rw[List.getElem?_append_left (by omega)]
   simp
  | succ i =>
   rw[List.getElem?_append_right (by omega)]
   have:=ih i (by simpa using h)
   rw[<-this]
   congr 1
   omega
theorem qWg(l:List OpM)(u:Value)(h:u∈qD5 l): u.oneCell'=true:=by
 obtain⟨o,_,hu⟩:=List.mem_flatMap.1 h
 have:=qIx o
 simp only[List.all_toArray,List.all_eq_true]at this
 exact this u hu
abbrev qYf(w:World)(base:Nat)(v:Value)(ops:List OpM): Prop:=w.ownsRow base 40 26 v ops.length (qD5 ops)
def ScriptW(w:World)(v:Value)(ops:List OpM): Prop:=((∃a c,v=.slice a 0 c)/\ops=[])\/∃sb so cap,v=.slice (some ⟨sb,so,none⟩) ops.length cap/\ops.length<=cap/\ScriptAt w sb so ops/\sb<w.heap.size
theorem ScriptAt.keeps{w w':World}{sb so:Nat}{ops:List OpM}(h:ScriptAt w sb so ops)(hk:Keeps (λ_=>False) w w'): ScriptAt w' sb so ops :=
 λi o ho j u hu=>hk.cell (h i o ho j u hu) (λh=>h)
theorem ScriptW.keeps{w w':World}{v:Value}{ops:List OpM}(h:ScriptW w v ops)(hk:Keeps (λ_=>False) w w'): ScriptW w' v ops:=by
 rcases h with h | ⟨sb,so,cap,h1,h2,h3,h4⟩
 ·exact .inl h
 ·exact .inr ⟨sb,so,cap,h1,h2,h3.keeps hk,by have:=hk.size;omega⟩
theorem qR5(v:Value)(ops:List OpM)(w:World)(h:ScriptW w v ops)(hlen:ops.length<=651562446090)(hT:Tab w)(hok:qK6 ops):
  Calls Tryz.prog 19 #[v] w λr w'=>∃v l,r=.returned v/\ARep w' w.heap.size v l/\l.map (λx=>(x.code,x.nums))=qF5 ws0 ops/\l.map (·.bs)=qV4 ws0 ops/\Keeps (λ_=>False) w w':=by
 rcases h with ⟨⟨a,c,rfl⟩,rfl⟩ | ⟨sb,so,cap,rfl,h2,h3,h4⟩
 ·exact qXj a c w
 ·exact qW6 sb so cap ops w h3 h4 hlen hT hok
theorem qIw{w:World}{base:Nat}{v:Value}{ops:List OpM}(h:qYf w base v ops): (v=.slice none 0 0/\ops=[])\/∃g cap,v=.slice (some ⟨g,0,none⟩) ops.length cap/\ops.length<=cap/\ScriptAt w g 0 ops/\g<w.heap.size/\base<=g/\cap<=maxLen:=by
 rcases h.2 with ⟨h1,h2⟩ | ⟨g,cap,cur,h1,h2,h3,h4,h5,h6,h7⟩
 ·exact .inl ⟨h1,List.length_eq_zero_iff.1 h2⟩
 ·refine .inr ⟨g,cap,h1,h4,?_,(Array.getElem?_eq_some_iff.1 h3).1,h2,h5⟩
  intro i o ho j u hu
  have hj:j<26:=by have:=(List.getElem?_eq_some_iff.1 hu).1;exact this
  have hi:i<ops.length:=(List.getElem?_eq_some_iff.1 ho).1
  have hf:=qNb ops i j o ho hj
  have hc:cur[i*26+j]?=some u:=by
   rw[<-h7,List.getElem?_take,if_pos (by omega),hu]at hf
   simpa using hf
  rw[Nat.zero_add]
  simp[World.cell?,h3,hc]
theorem qHr{w:World}{base:Nat}{v:Value}{ops:List OpM}(h:qYf w base v ops): ScriptW w v ops:=by
 rcases qIw h with ⟨h1,h2⟩ | ⟨g,cap,h1,h2,h3,h4,_,_⟩
 ·exact .inl ⟨⟨_,_,h1⟩,h2⟩
 ·exact .inr ⟨g,0,cap,h1,h2,h3,h4⟩
def cz0: List Value:=(⟨0,0,0,0,0,cz,qAa⟩:OpM).cells
theorem zFo: (Tryz.prog.info? 40).map (λi=>(i.zero,i.size,i.bytes))=some (some (.agg cz0.toArray),26,216):=by kernel_rfl
end
end Go.Proofs.YtahnliehdjncdaaGreatDoor
