import Derived.Test.YtahnliehdjncdaaGreatDoorXBI
import Derived.Test.YtahnliehdjncdaaGreatDoorXBH
import Derived.Test.YtahnliehdjncdaaGreatDoorXBJ
import Derived.Deep.Slices
import Derived.OpenShut
import Derived.ProofKit
import Derived.SizedLaws
import Derived.Test.YtahnliehdjncdaaGreatDoorRows
set_option maxRecDepth 100000
set_option maxHeartbeats 16000000
namespace Go.Proofs.YtahnliehdjncdaaGreatDoor
section
open Go.RowKit
attribute [local go_sem ↓] qAd qAe
attribute [local go_sem] qAh qAl qAb qAc qAm qAn qAi qAj qAg qAk
theorem zEf(e:Nat)(v:Value)(clock:Int)(ps:List (SB×Ser))(o:OpM)(w:World)(h:ERep w e v clock ps)(hkind:o.kind=6)(hok:∀x,x∈ps.map (·.2)->SerOk x)(six:ps.length<=6)(c0:0<=clock)(c1:clock<=4611686018427387904):
  Calls Tryz.prog 35 #[.pointer (some ⟨e,0,none⟩),o.val] w λr w'=>qFk w e v ps clock (ps.map (·.2)) 0 [] (qGk clock (ps.map (·.2))) r w':=by
 have h0:o.cells[0]?=some (.int .i64 o.kind):=rfl
 have hn1:(o.kind==1)=false:=by simp[hkind]
 have hn2:(o.kind==2)=false:=by simp[hkind]
 have hn3:(o.kind==3)=false:=by simp[hkind]
 have hn4:(o.kind==4)=false:=by simp[hkind]
 have hn5:(o.kind==5)=false:=by simp[hkind]
 have hn6:(o.kind==6)=true:=by simp[hkind]
 have HE:=hide h
 have HOK:=hide hok
 clear h hkind hok
 unfold OpM.val
 go_enter Tryz.func35,Tryz.ntmps35
 go_wp2_with fail
 have hk0:Keeps (λ_=>False) w ((w.alloc (.cells o.cells.toArray 40)).alloc (.cells #[.int .i64 0,.slice none 0 0,.string ⟨#[]⟩] 33)):=((Keeps.refl (λ_=>False) w).alloc _).alloc _
 have HR0:=hide (show Blk ((w.alloc (.cells o.cells.toArray 40)).alloc (.cells #[.int .i64 0,.slice none 0 0,.string ⟨#[]⟩] 33)) (w.heap.size+1) [.int .i64 0,.slice none 0 0,.string qAa] 33 from Blk.newAt (by simp) [_,_,_] 33)
 have HE0:=hide ((uh HE).still hk0)
 have HK0:=hide hk0
 clear hk0
 generalize(w.alloc (.cells o.cells.toArray 40)).alloc (.cells #[.int .i64 0,.slice none 0 0,.string ⟨#[]⟩] 33)=w0 at *
 generalize hob:w.heap.size=ob at *
 have HOB:=hide hob
 clear hob
 refine(qP0 e v clock ps w0 (uh HE0) (uh HOK) six c0 c1).mono ?_
 rintro r w1 ⟨rfl,hk1⟩
 have HR1:=hide ((uh HR0).keeps hk1 (λh=>h))
 have HK1:=hide ((uh HK0).then hk1)
 clear hk1
 obtain⟨bb,hbb⟩:∃bb,qGk clock (ps.map (·.2))=bb:=⟨_,rfl⟩
 rw[hbb]
 have HBB:=hide hbb
 clear hbb
 have r0:w1.cell? ⟨ob+1,0,none⟩=some (.int .i64 0):=(uh HR1).cell rfl
 have r1:w1.cell? ⟨ob+1,1,none⟩=some (.slice none 0 0):=(uh HR1).cell rfl
 have r2:w1.cell? ⟨ob+1,2,none⟩=some (.string qAa):=(uh HR1).cell rfl
 have rf:=(uh HR1).frozen
 go_wp2
 have hbf:=(((uh HR1).setCell 0 (.int .i64 0)).setCell 1 (.slice none 0 0)).setCell 2 (.string bb)
 have HKF:=hide ((((Keeps.refl (λi=>i=ob+1) w1).setCell (p:=⟨ob+1,0,none⟩) (Or.inl rfl) (.int .i64 0)).setCell (p:=⟨ob+1,1,none⟩) (Or.inl rfl) (.slice none 0 0)).setCell (p:=⟨ob+1,2,none⟩) (Or.inl rfl) (.string bb))
 generalize(((w1.setCell ⟨ob+1,0,none⟩ (.int .i64 0)).setCell ⟨ob+1,1,none⟩ (.slice none 0 0)).setCell ⟨ob+1,2,none⟩ (.string bb))=w9 at *
 have q0:w9.cell? ⟨ob+1,0,none⟩=some (.int .i64 0):=hbf.cell rfl
 have q1:w9.cell? ⟨ob+1,1,none⟩=some (.slice none 0 0):=hbf.cell rfl
 have q2:w9.cell? ⟨ob+1,2,none⟩=some (.string bb):=hbf.cell rfl
 refine bodyPost_ret (v:=zEw 0 (.slice none 0 0) bb) (by simp[results,Tryz.results35,go_sem,q0,q1,q2,zEw]) rfl ?_
 have hkf:=uh HKF
 have hob:=uh HOB
 have hkk:Keeps (λ_=>False) w w9:=(uh HK1).trans hkf (λi hi hlt=>by omega)
 exact⟨.slice none 0 0,v,ps,by rw[uh HBB],(uh HE).still hkk,rfl,World.ownsRow_nil _ _ _ _,hkk.mono (λ_ _ h=>h.elim),λi hi=>.inl hi,λi hi=>by cases hi⟩
end
section
open Go.RowKit
theorem qTp(n:Int)(e:Nat)(v:Value)(clock:Int)(ps:List (SB×Ser))(o:OpM)(w:World)(h:ERep w e v clock ps)(hi:EInv n clock (ps.map (·.2)))(hn:n<=4611686018427387904)(hT:Tab w)(hT0:¬EFoot e v ps 2)(h7:o.kind≠7)(h6:o.kind=6->∀x,x∈ps.map (·.2)->SerOk x):
  Calls Tryz.prog 35 #[.pointer (some ⟨e,0,none⟩),o.val] w λr w' =>
   qFk w e v ps (qCd ⟨clock,ps.map (·.2)⟩ o).1.clock (qCd ⟨clock,ps.map (·.2)⟩ o).1.xs (qCd ⟨clock,ps.map (·.2)⟩ o).2.1 (qCd ⟨clock,ps.map (·.2)⟩ o).2.2 (qD3 ⟨clock,ps.map (·.2)⟩ o) r w':=by
 by_cases h6':o.kind=6
 ·have hM:qCd ⟨clock,ps.map (·.2)⟩ o=(⟨clock,ps.map (·.2)⟩,0,[]):=by unfold qCd;rw[if_neg (by omega),if_neg (by omega),if_neg (by omega),if_neg (by omega),if_neg (by omega),if_pos h6']
  have hB:qD3 ⟨clock,ps.map (·.2)⟩ o=qGk clock (ps.map (·.2)):=by unfold qD3 zCv;rw[if_pos h6']
  rw[hM,hB]
  exact zEf e v clock ps o w h h6' (h6 h6') (by have:=hi.six;rw[List.length_map]at this;exact this) hi.c0 hi.c1
 have h67:o.kind≠6/\o.kind≠7:=⟨h6',h7⟩
 have hby:qD3 ⟨clock,ps.map (·.2)⟩ o=qAa:=by unfold qD3;rw[if_neg h67.1]
 rw[hby]
 have hfind:=qSx ps o.id
 by_cases h1:o.kind=1
 ·have hM:qCd ⟨clock,ps.map (·.2)⟩ o=qDr ⟨clock,ps.map (·.2)⟩ o:=by unfold qCd;rw[if_pos h1]
  rw[hM]
  refine(zD6 e v clock ps o w h h1 _ _ _ _ (λw0 h0=>?_)).mono (λ_ _ h=>h.b)
  cases hid:inB o.id 0 99
  ·have:qDr ⟨clock,ps.map (·.2)⟩ o=(⟨clock,ps.map (·.2)⟩,2,[]):=by unfold qDr;rw[if_neg (by rw[hid];simp)]
   rw[this]
   exact qW6 n e v clock ps o w0 h0 hi hid
  ·cases hf:qDq ps o.id with
   | some p =>
    have:qDr ⟨clock,ps.map (·.2)⟩ o=(⟨clock,ps.map (·.2)⟩,2,[]):=by unfold qDr;rw[if_neg (by simp only;rw[hfind,hf];simp)]
    rw[this]
    exact qO4 n e v clock ps o w0 h0 hi hid p hf
   | none =>
    have hc:(inB o.id 0 99=true/\(qRs (⟨clock,ps.map (·.2)⟩:WS).xs o.id).isNone=true):=⟨hid,by simp only;rw[hfind,hf];rfl⟩
    cases hv:qBg o.cfg
    ·have:qDr ⟨clock,ps.map (·.2)⟩ o=(⟨clock,ps.map (·.2)⟩,3,[]):=by unfold qDr;rw[if_pos hc,if_neg (by rw[hv];simp)]
     rw[this]
     exact qN7 n e v clock ps o w0 h0 hi hid hf hv
    ·by_cases h6:ps.length<6
     ·have:qDr ⟨clock,ps.map (·.2)⟩ o=(⟨clock,ps.map (·.2)++[qCe o.id o.cfg o.cfg.kind.toNat]⟩,0,[]):=by unfold qDr;rw[if_pos hc,if_pos hv,if_pos (by simpa using h6)]
      rw[this]
      exact qUu n e v clock ps o w0 h0 hi hid hf hv h6
     ·have:qDr ⟨clock,ps.map (·.2)⟩ o=(⟨clock,ps.map (·.2)⟩,4,[]):=by unfold qDr;rw[if_pos hc,if_pos hv,if_neg (by simpa using h6)]
      rw[this]
      have h6':ps.length=6:=by have:=hi.six;rw[List.length_map]at this;omega
      exact qRm n e v clock ps o w0 h0 hi hid hf hv h6'
 by_cases h2:o.kind=2
 ·have hM:qCd ⟨clock,ps.map (·.2)⟩ o=qYf ⟨clock,ps.map (·.2)⟩ o:=by unfold qCd;rw[if_neg h1,if_pos h2]
  rw[hM]
  refine(zD3 e v clock ps o w h h2 _ _ _ _ (λw0 h0=>?_)).mono (λ_ _ h=>h.b)
  cases hf:qDq ps o.id with
  | none =>
   have:qYf ⟨clock,ps.map (·.2)⟩ o=(⟨clock,ps.map (·.2)⟩,2,[]):=by unfold qYf;simp only;rw[hfind,hf];rfl
   rw[this]
   exact qZ5 n e v clock ps o w0 h0 hi hf
  | some p =>
   by_cases hr:qJq p.2 clock o.item=0
   ·have:qYf ⟨clock,ps.map (·.2)⟩ o=(⟨clock,qPu (ps.map (·.2)) o.id (qYv p.2 o.item)⟩,0,[p.2.acc+1]):=by unfold qYf;simp only;rw[hfind,hf];simp only[Option.map_some];rw[if_pos hr]
    rw[this]
    exact zCt n e v clock ps o w0 h0 hi p hf hr (by omega)
   ·have:qYf ⟨clock,ps.map (·.2)⟩ o=(⟨clock,qPu (ps.map (·.2)) o.id (qV3 p.2 (qJq p.2 clock o.item).toNat)⟩,qJq p.2 clock o.item,[]):=by unfold qYf;simp only;rw[hfind,hf];simp only[Option.map_some];rw[if_neg hr]
    rw[this]
    have hrr:=qIp p.2 clock o.item
    obtain⟨cd,hcd⟩:=Int.eq_ofNat_of_zero_le hrr.1
    rw[hcd,Int.toNat_natCast]
    exact zEj n e v clock ps o w0 h0 hi p cd hf hcd (by omega) (by omega)
 by_cases h3:o.kind=3
 ·have hM:qCd ⟨clock,ps.map (·.2)⟩ o=qKy ⟨clock,ps.map (·.2)⟩ o:=by unfold qCd;rw[if_neg h1,if_neg h2,if_pos h3]
  rw[hM]
  refine(zEk e v clock ps o w h h3 _ _ _ _ (λw0 h0 hk0=>?_)).mono (λ_ _ h=>h.b)
  cases ha:inB o.a 0 4611686018427387904
  ·have:qKy ⟨clock,ps.map (·.2)⟩ o=(⟨clock,ps.map (·.2)⟩,5,[]):=by unfold qKy;rw[if_neg (by rw[ha];simp)]
   rw[this]
   exact qYn n e v clock ps o w0 h0 hi ha
  ·cases hb:inB o.b 0 100
   ·have:qKy ⟨clock,ps.map (·.2)⟩ o=(⟨clock,ps.map (·.2)⟩,12,[]):=by unfold qKy;rw[if_pos ha,if_neg (by rw[hb];simp)]
    rw[this]
    exact qSs n e v clock ps o w0 h0 hi ha hb
   ·have:qKy ⟨clock,ps.map (·.2)⟩ o=(⟨qIr clock o.a,(qDa (qIr clock o.a) o.b ((ps.map (·.2)).map (qDb (qIr clock o.a)))).1⟩,0,[(qDa (qIr clock o.a) o.b ((ps.map (·.2)).map (qDb (qIr clock o.a)))).2]):=by unfold qKy;rw[if_pos ha,if_pos hb]
    rw[this]
    exact qZ1 n e v clock ps o w0 h0 hi ha hb hn (hT.keeps hk0 (λh=>h)) hT0
 by_cases h4:o.kind=4
 ·have hM:qCd ⟨clock,ps.map (·.2)⟩ o=qH0 ⟨clock,ps.map (·.2)⟩ o:=by unfold qCd;rw[if_neg h1,if_neg h2,if_neg h3,if_pos h4]
  rw[hM]
  refine(zEi e v clock ps o w h h4 _ _ _ _ (λw0 h0=>?_)).mono (λ_ _ h=>h.b)
  cases hf:qDq ps o.id with
  | none =>
   have:qH0 ⟨clock,ps.map (·.2)⟩ o=(⟨clock,ps.map (·.2)⟩,2,[]):=by unfold qH0;simp only;rw[hfind,hf];rfl
   rw[this]
   exact qVv n e v clock ps o w0 h0 hi hf
  | some p =>
   have:qH0 ⟨clock,ps.map (·.2)⟩ o=(⟨clock,ps.map (·.2)⟩,qIg p.2.k p.2.c p.2.nt o.a (clock-p.2.c.lag)):=by unfold qH0;simp only;rw[hfind,hf];rfl
   rw[this]
   exact qUl n e v clock ps o w0 h0 hi hn p hf
 by_cases h5:o.kind=5
 ·have hM:qCd ⟨clock,ps.map (·.2)⟩ o=qHo ⟨clock,ps.map (·.2)⟩ o:=by unfold qCd;rw[if_neg h1,if_neg h2,if_neg h3,if_neg h4,if_pos h5]
  rw[hM]
  refine(zEq e v clock ps o w h h5 _ _ _ _ (λw0 h0=>?_)).mono (λ_ _ h=>h.b)
  cases hf:qDq ps o.id with
  | none =>
   have:qHo ⟨clock,ps.map (·.2)⟩ o=(⟨clock,ps.map (·.2)⟩,2,[]):=by unfold qHo;simp only;rw[hfind,hf];rfl
   rw[this]
   exact qZf n e v clock ps o w0 h0 hi hf
  | some p =>
   have:qHo ⟨clock,ps.map (·.2)⟩ o=(⟨clock,ps.map (·.2)⟩,0,qCc p.2):=by unfold qHo;simp only;rw[hfind,hf];rfl
   rw[this]
   exact qW3 n e v clock ps o w0 h0 hi p hf
 have hM:qCd ⟨clock,ps.map (·.2)⟩ o=(⟨clock,ps.map (·.2)⟩,1,[]):=by unfold qCd;rw[if_neg h1,if_neg h2,if_neg h3,if_neg h4,if_neg h5,if_neg h67.1,if_neg h67.2]
 rw[hM]
 exact(zDf e v clock ps o w h (by omega)).mono (λ_ _ h=>h.b)
def c0: Cfg:=⟨4,0,9,8,0,0,0,0,0,0,0,0,0,0,0,0,0,0,0,0⟩
def cz: Cfg:=⟨0,0,0,0,0,0,0,0,0,0,0,0,0,0,0,0,0,0,0,0⟩
def o1: OpM:=⟨1,7,0,0,0,c0,qAa⟩
def o2: OpM:=⟨2,7,3,0,0,cz,qAa⟩
def o3: OpM:=⟨3,0,5,0,0,cz,qAa⟩
def o4: OpM:=⟨2,7,5,0,0,cz,qAa⟩
def o5: OpM:=⟨4,7,0,0,0,cz,qAa⟩
def qXe: List OpM:=[o1,o2,o3,o4,o5]
def qE8: List Value:=o1.cells++(o2.cells++(o3.cells++(o4.cells++o5.cells)))
theorem zAn: qUq ws0 qXe=[(0,[]),(0,[1]),(0,[0]),(6,[]),(0,[0,1,1])]:=by kernel_rfl
theorem zDi(w:World): (qDx 38 #[(0,.int .i64 4),(2,.int .i64 9),(3,.int .i64 8)]).run Tryz.prog w=.ok (.value (.agg c0.cells.toArray)) w:=by kernel_rfl
theorem zE3(w:World): (qDx 40 #[(0,.int .i64 1),(1,.int .i64 7),(5,.agg c0.cells.toArray)]).run Tryz.prog w=.ok (.value (.agg o1.cells.toArray)) w:=by kernel_rfl
theorem zE1(w:World): (qDx 40 #[(0,.int .i64 2),(1,.int .i64 7),(2,.int .i64 3)]).run Tryz.prog w=.ok (.value (.agg o2.cells.toArray)) w:=by kernel_rfl
theorem zEl(w:World): (qDx 40 #[(0,.int .i64 3),(2,.int .i64 5)]).run Tryz.prog w=.ok (.value (.agg o3.cells.toArray)) w:=by kernel_rfl
theorem zDw(w:World): (qDx 40 #[(0,.int .i64 2),(1,.int .i64 7),(2,.int .i64 5)]).run Tryz.prog w=.ok (.value (.agg o4.cells.toArray)) w:=by kernel_rfl
theorem zEn(w:World): (qDx 40 #[(0,.int .i64 4),(1,.int .i64 7)]).run Tryz.prog w=.ok (.value (.agg o5.cells.toArray)) w:=by kernel_rfl
theorem qLi(ρ:Operand->Value)(dst:Option Tmp)(x:Array (Nat×Operand))(ty:TypeId)(pos:String)(after:Array Edge)(guard:Option (Nat×Bool)):
  execOp ρ { dst,op:=.build 38 x,type:=ty,pos,after,guard }=qDx 38 (x.map λ(i,y)=>(i,ρ y)):=rfl
theorem qLo(ρ:Operand->Value)(dst:Option Tmp)(x:Array (Nat×Operand))(ty:TypeId)(pos:String)(after:Array Edge)(guard:Option (Nat×Bool)):
  execOp ρ { dst,op:=.build 40 x,type:=ty,pos,after,guard }=qDx 40 (x.map λ(i,y)=>(i,ρ y)):=rfl
def zEy(ty:TypeId)(n:Nat)(ps:Array (Nat×Value)): Sem Next:=do pure (.value (<-Instr.buildSlice ty n ps))
theorem qR4(ρ:Operand->Value)(dst:Option Tmp)(n:Nat)(x:Array (Nat×Operand))(ty:TypeId)(pos:String)(after:Array Edge)(guard:Option (Nat×Bool)):
  execOp ρ { dst,op:=.buildSlice 22 n x,type:=ty,pos,after,guard }=zEy 22 n (x.map λ(i,y)=>(i,ρ y)):=rfl
theorem zD0(w:World): (zEy 22 5 #[(0,.agg o1.cells.toArray),(1,.agg o2.cells.toArray),(2,.agg o3.cells.toArray),(3,.agg o4.cells.toArray),(4,.agg o5.cells.toArray)]).run Tryz.prog w =
  .ok (.value (.slice (some ⟨w.heap.size,0,none⟩) 5 5)) (w.alloc (.cells qE8.toArray 40)):=by kernel_rfl
theorem qCt(ρ:Operand->Value)(dst:Option Tmp)(x y:Operand)(ty:TypeId)(pos:String)(after:Array Edge)(guard:Option (Nat×Bool)):
  execOp ρ { dst,op:=.store 38 x y,type:=ty,pos,after,guard }=qC7 38 (ρ x) (ρ y):=rfl
theorem qRz(w:World)(zs:List Value)(cs:List Value)(hz:zs.length=20)(hc:cs.length=20)(h1:cs.toArray.all (·.oneCell')=true):
  (qC7 38 (.pointer (some ⟨w.heap.size,0,none⟩)) (.agg cs.toArray)).run Tryz.prog (w.alloc (.cells zs.toArray 38))=.ok .skip (w.alloc (.cells cs.toArray 38)):=by
 unfold qC7
 have ht:(w.alloc (.cells zs.toArray 38)).there w.heap.size 0 cs.toArray.size:=by
  intro j hj
  have hj':j<20:=by simpa[hc] using hj
  rw[Nat.zero_add,World.cell?_alloc_new,World.frozen?_alloc_new]
  simp[hz,hj']
 rw[Sem.run_bind,run_storeAt_mid _ w.heap.size 0 38 cs.toArray ht (by rw[qL7];simp[hc]) h1]
 have h2:=qD8 cs [] zs (by omega)
 simp only[List.nil_append,List.length_nil]at h2
 rw[qGj,List.toList_toArray,h2]
 rfl
theorem zB3(w:World)(b:Nat)(h:Blk w b qE8 40): ScriptAt w b 0 qXe:=by
 intro i o ho
 have hi:i<5:=(List.getElem?_eq_some_iff.1 ho).1
 have hi':i=0\/i=1\/i=2\/i=3\/i=4:=by omega
 have hr:∀(off:Nat) (cs:List Value),(qE8.drop off).take 26=cs->w.rangeAt b off cs:=by
  intro off cs hcs j v hv
  rw[<-hcs,List.getElem?_take]at hv
  split at hv
  ·exact h.cell (by simpa using hv)
  ·cases hv
 rcases hi' with h' | h' | h' | h' | h'
 all_goals
  subst h'
  injection ho with ho
  subst ho
 ·exact hr 0 _ rfl
 ·exact hr 26 _ rfl
 ·exact hr 52 _ rfl
 ·exact hr 78 _ rfl
 ·exact hr 104 _ rfl
theorem Dr.swapL_all{P:Dr.It->Prop}(h0:P ⟨0,0,0,0,0⟩){l:List Dr.It}(h:∀y,y∈l->P y)(i j:Nat): ∀y,y∈Dr.swapL l i j->P y:=by
 have hat:∀i,P (Dr.itAt l i):=by
  intro i
  unfold Dr.itAt
  rw[List.getD_eq_getElem?_getD]
  cases hi:l[i]? with
  | none=>exact h0
  | some v=>exact h v (List.mem_of_getElem? hi)
 intro y hy
 unfold Dr.swapL at hy
 rcases List.mem_or_eq_of_mem_set hy with hy | hy
 ·rcases List.mem_or_eq_of_mem_set hy with hy | hy
  ·exact h y hy
  ·subst hy;exact hat j
 ·subst hy;exact hat i
theorem Dr.itAt_all{P:Dr.It->Prop}(h0:P ⟨0,0,0,0,0⟩){l:List Dr.It}(h:∀y,y∈l->P y)(i:Nat): P (Dr.itAt l i):=by
 unfold Dr.itAt
 rw[List.getD_eq_getElem?_getD]
 cases hi:l[i]? with
 | none=>exact h0
 | some v=>exact h v (List.mem_of_getElem? hi)
theorem Dr.riseL_all{P:Dr.It->Prop}(h0:P ⟨0,0,0,0,0⟩)(f:Nat)(l:List Dr.It)(i:Nat)(h:∀y,y∈l->P y): ∀y,y∈Dr.riseL f l i->P y:=by
 induction f generalizing l i with
 | zero=>exact h
 | succ f ih =>
  unfold Dr.riseL
  split
  ·exact h
  ·split
   ·exact ih _ _ (Dr.swapL_all h0 h _ _)
   ·exact h
theorem Dr.sinkL_all{P:Dr.It->Prop}(h0:P ⟨0,0,0,0,0⟩)(f:Nat)(l:List Dr.It)(i:Nat)(h:∀y,y∈l->P y): ∀y,y∈Dr.sinkL f l i->P y:=by
 induction f generalizing l i with
 | zero=>exact h
 | succ f ih =>
  unfold Dr.sinkL
  split
  ·exact h
  ·split
   ·exact ih _ _ (Dr.swapL_all h0 h _ _)
   ·exact h
theorem Dr.takeL_all{P:Dr.It->Prop}(h0:P ⟨0,0,0,0,0⟩)(l:List Dr.It)(h:∀y,y∈l->P y): ∀y,y∈Dr.takeL l->P y:=by
 unfold Dr.takeL
 refine Dr.sinkL_all h0 _ _ _ (λy hy=>?_)
 have hy:=List.mem_of_mem_take hy
 rcases List.mem_or_eq_of_mem_set hy with hy | hy
 ·exact h y hy
 ·subst hy;exact Dr.itAt_all h0 h _
theorem Dr.allL_all{P:Dr.It->Prop}(h0:P ⟨0,0,0,0,0⟩): ∀(f:Nat) (l:List Dr.It),(∀y,y∈l->P y)->∀y,y∈Dr.allL f l->P y
 | 0,_,_=>λy hy=>by simp[Dr.allL]at hy
 | f+1,l,h=>λy hy=>by
  unfold Dr.allL at hy
  split at hy
  ·cases hy
  ·rcases List.mem_cons.1 hy with e | e
   ·rw[e];exact Dr.itAt_all h0 h 0
   ·exact Dr.allL_all h0 f _ (Dr.takeL_all h0 l h) y e
theorem Qi.allL_all{P:It->Prop}(h0:P ⟨0,0,0,0⟩): ∀(f:Nat) (l:List It),(∀y,y∈l->P y)->∀y,y∈Qi.allL f l->P y
 | 0,_,_=>λy hy=>by simp[Qi.allL]at hy
 | f+1,l,h=>λy hy=>by
  unfold Qi.allL at hy
  split at hy
  ·cases hy
  ·rcases List.mem_cons.1 hy with e | e
   ·rw[e];exact itAt_all h0 h 0
   ·exact Qi.allL_all h0 f _ (takeL_all h0 l h) y e
def qV2(z:Dr.It): Prop:=(0<=z.t/\z.t<=4611686018427387904)/\(0<=z.k/\z.k<=4611686018427387904)/\(0<=z.d/\z.d<=4611686018427387904)/\(0<=z.n/\z.n<=4611686018427387904)
structure NX (k:Nat) (nt:Note):Prop where
 bt:∀b∈nt.bs,0<=b.t/\b.t<=4611686018427387904
 rt:∀i,∀b∈nt.rg i,0<=b.sz/\b.sz<=4611686018427387904
 rf:∀i,Fall (nt.rg i)
 tt:k=5->∀z∈nt.tk,qV2 z
theorem qWi{P:Int->Prop}(h0:P 0)(K:Int)(f:Nat)(l:List Bk)(sz:Int)(e:Nat)(h:∀b∈l,P b.t): ∀b∈joinL K f l sz e,P b.t:=by
 induction f generalizing l sz e with
 | zero=>exact h
 | succ f ih =>
  unfold joinL
  split
  ·exact h
  ·refine ih _ _ _ (qIh (P:=λb=>P b.t) l _ _ h ?_)
   show P (qB8 l _).t
   unfold qB8
   rw[List.getD_eq_getElem?_getD]
   cases hi:l[qB1 l sz e+1]? with
   | none=>exact h0
   | some b=>exact h b (List.mem_of_getElem? hi)
theorem qYx{k:Nat}{c:Cfg}{nt:Note}(h:NX k nt)(y:It)(m:Int)(t0:0<=y.t)(t1:y.t<=4611686018427387904)(hy:k=5->(0<=y.k/\y.k<=4611686018427387904)/\(0<=y.d/\y.d<=4611686018427387904)/\(0<=y.n/\y.n<=4611686018427387904)): NX k (zCn k c nt y m):=by
 unfold zCn
 split
 ·exact⟨h.bt,h.rt,h.rf,h.tt⟩
 ·split
  ·refine⟨?_,h.rt,h.rf,h.tt⟩
   refine qWi (P:=λt=>0<=t/\t<=4611686018427387904) (by omega) _ _ _ _ _ (λb hb=>?_)
   unfold qQ1 at hb
   rcases List.mem_append.1 hb with hb | hb
   ·exact h.bt b (List.mem_of_mem_drop hb)
   ·rw[List.mem_singleton]at hb;rw[hb];exact⟨t0,t1⟩
  ·split
   ·refine⟨h.bt,λi b hb=>?_,λi=>?_,h.tt⟩
    ·have hb':b∈qTv c (qMi c) nt.rg y m i:=hb
     unfold qTv at hb'
     split at hb'
     ·rcases qO2 hb' with hb' | hb'
      ·exact h.rt i b (List.mem_of_mem_drop hb')
      ·rw[hb'];exact⟨t0,t1⟩
     ·exact h.rt i b hb'
    ·show Fall (qTv c (qMi c) nt.rg y m i)
     unfold qTv
     split
     ·exact qL4 _ ((h.rf i).drop _)
     ·exact h.rf i
   ·split
    ·exact⟨h.bt,h.rt,h.rf,h.tt⟩
    ·split
     ·rename_i h5
      refine⟨h.bt,h.rt,h.rf,λ_=>?_⟩
      have hz:qV2 ⟨0,0,0,0,0⟩:=⟨⟨by simp,by simp⟩,⟨by simp,by simp⟩,⟨by simp,by simp⟩,⟨by simp,by simp⟩⟩
      have h1:∀z,z∈Dr.riseL (nt.tk.length+1) (nt.tk++[tick c y]) nt.tk.length->qV2 z:=Dr.riseL_all hz _ _ _ (λz hz'=>by
         rcases List.mem_append.1 hz' with hz' | hz'
         ·exact h.tt h5 z hz'
         ·rw[List.mem_singleton]at hz';rw[hz'];exact⟨⟨t0,t1⟩,hy h5⟩)
      show ∀z∈qOk c nt.tk y,qV2 z
      unfold qOk
      split
      ·exact Dr.takeL_all hz _ h1
      ·exact h1
     ·exact h
structure SX (x:Ser):Prop where
 id0:0<=x.id/\x.id<=99
 accm:x.acc<=4611686018427387904
 nums:∀y,y∈x.l->0<=y.n/\y.n<=4611686018427387904
 refm:∀v,v∈x.ref->v<=4611686018427387904
 note:NX x.k x.nt
theorem qGy{c:Cfg}{k:Nat}{y:It}(h:qEb c k y=0)(hk:k=5): (0<=y.k/\y.k<=4611686018427387904)/\(0<=y.d/\y.d<=4611686018427387904):=by
 subst hk
 have h2:qMe c y=0:=h
 unfold qMe at h2
 split at h2
 ·split at h2
  ·rename_i h3
   split at h2
   ·rename_i h4
    have a:=qCh h3
    have b:=qCh h4
    omega
   ·omega
  ·omega
 ·omega
theorem qWm{n:Int}{x:Ser}(h:SX x)(hi:SInv n x)(hl:x.l≠[])(m:Int): SX (qGp x m):=by
 have hmem:=qOg hl
 have ht:=hi.times _ hmem
 refine⟨h.id0,h.accm,λy hy=>h.nums y (qId hi.heap hl hy),h.refm,?_⟩
 exact qYx h.note _ _ ht.1 ht.2 (λe=>by
    have hk:=qGy (hi.fits _ hmem) e
    exact⟨hk.1,hk.2,h.nums _ hmem⟩)
theorem zDh(f:Nat){n:Int}{x:Ser}(h:SX x)(hi:SInv n x)(m:Int): SX (qK2 f x m):=by
 induction f generalizing x with
 | zero=>exact h
 | succ f ih =>
  unfold qK2
  split
  ·exact h
  ·rename_i he
   have hl:x.l≠[]:=by simpa using he
   split
   ·exact h
   ·rename_i hm
    exact ih (qWm h hi hl m) (qIn hi hl m hm)
theorem zB9{x:Ser}(clock b:Int)(h:SX x): SX (qZd clock b x):=by
 refine⟨h.id0,h.accm,h.nums,h.refm,?_⟩
 show NX x.k (qTh x.k x.c x.nt (clock-x.c.lag) b).1
 unfold qTh
 split
 ·exact⟨λz hz=>h.note.bt z (List.mem_of_mem_drop hz),h.note.rt,h.note.rf,h.note.tt⟩
 ·exact h.note
theorem zBk{n:Int}{x:Ser}(h:SX x)(hi:SInv n x)(y:It)(ha:x.acc<4611686018427387904): SX (qYv x y):=by
 have h0:=hi.acc0
 have hp:=qNi x.l (numbered y (x.acc+1)) hi.heap
 refine⟨h.id0,by show x.acc+1<=_;omega,λz hz=>?_,h.refm,h.note⟩
 rcases List.mem_cons.1 (hp.2.subset hz) with e | e
 ·rw[e];show 0<=x.acc+1/\x.acc+1<=_;omega
 ·exact h.nums z e
theorem zCy{x:Ser}(h:SX x)(c:Nat): SX (qV3 x c):=by
 refine⟨h.id0,h.accm,h.nums,λv hv=>?_,h.note⟩
 rcases List.mem_or_eq_of_mem_set hv with hv | hv
 ·exact h.refm v hv
 ·rw[hv];unfold zCm;split <;> omega
theorem qYt(id:Int)(c:Cfg)(k:Nat)(h:0<=id/\id<=99): SX (qCe id c k):=by
 refine⟨h,by show(0:Int)<=_;omega,λy hy=>(by cases hy),λv hv=>?_,⟨λb hb=>(by cases hb),λi b hb=>(by cases hb),λi=>List.Pairwise.nil,λ_ z hz=>(by cases hz)⟩⟩
 have:v=0:=by simpa[qCe] using hv
 omega
def EX(s:WS): Prop:=∀x,x∈s.xs->SX x
def LoadX(o:OpM): Prop:=o.kind=7->∀s',zB1 o.bytes=some s'->EX s'
theorem qTj{n:Int}{s:WS}(o:OpM)(h:EX s)(hi:EInv n s.clock s.xs)(hL:LoadX o): EX (qCd s o).1:=by
 unfold qCd
 split
 ·unfold qDr
  split
  ·rename_i hc
   split
   ·split
    ·intro x hx
     rcases List.mem_append.1 hx with hx | hx
     ·exact h x hx
     ·rw[List.mem_singleton]at hx;rw[hx];exact qYt _ _ _ (qCh hc.1)
    ·exact h
   ·exact h
  ·exact h
 ·split
  ·unfold qYf
   split
   ·exact h
   ·rename_i x hf
    have hx:x∈s.xs:=List.mem_of_find?_eq_some hf
    split
    ·rename_i hr
     obtain⟨_,_,_,_,_,_,ha⟩:=qJ0 hr
     intro z hz
     rcases qG4 hz with hz | hz
     ·exact h z hz
     ·rw[hz];exact zBk (h x hx) (hi.sers x hx) _ ha
    ·intro z hz
     rcases qG4 hz with hz | hz
     ·exact h z hz
     ·rw[hz];exact zCy (h x hx) _
  ·split
   ·unfold qKy
    split
    ·split
     ·refine qIe (P:=SX) _ (λb x hx=>zB9 _ b hx) _ _ (λz hz=>?_)
      obtain⟨x,hx,rfl⟩:=List.mem_map.1 hz
      exact zDh _ (h x hx) (hi.sers x hx) _
     ·exact h
    ·exact h
   ·split
    ·unfold qH0
     split <;> exact h
    ·split
     ·unfold qHo
      split <;> exact h
     ·split
      ·exact h
      ·split
       ·rename_i h7
        unfold zAl
        split
        ·exact h
        ·rename_i s' hs'
         exact hL h7 s' hs'
       ·exact h
theorem qVj{c:Cfg}{k:Nat}(hv:qBg c=true)(hk:c.kind=k)(k1:1<=k)(k5:k<=5): (∀n,n∈qCg k c->0<=n/\n<=9223372036854775807)/\0<=qBi k c/\qBi k c<=3:=by
 have hcm:0<=c.lag/\c.lag<=100/\0<=c.skew/\c.skew<=100/\1<=c.cap/\c.cap<=8:=by
  have:=hv
  simp only[qBg,qD7,inB,Bool.and_eq_true,decide_eq_true_eq]at this
  omega
 have hkn:c.kind.toNat=k:=by omega
 have hfit:qE0 c k=true:=by
  have:=hv
  simp only[qBg,Bool.and_eq_true]at this
  rw[<-hkn];exact this.2.2
 rcases five k1 k5 with e | e | e | e | e <;> subst e
 ·obtain⟨a1,a2,a3,a4⟩:=qCo hv hk rfl
  refine⟨λn hn=>?_,by simp[qBi],by simp[qBi]⟩
  simp[qCg,qB2,qBi,qBr,Cfg.num,Cfg.nums]at hn
  omega
 ·obtain⟨⟨p1,p2,p3,p4⟩,a2,a3,a4,a5⟩:=qBx hv hk rfl
  refine⟨λn hn=>?_,by simp[qBi],by simp[qBi]⟩
  simp[qCg,qB2,qBi,qBr,Cfg.num,Cfg.nums,List.range_succ]at hn
  omega
 ·obtain⟨hp,hr,_⟩:=qB9 hv hk rfl
  obtain⟨r0,r1,w0,w1,sd⟩:=hr
  have q0:=hp.w0;have q1:=hp.w1;have q2:=hp.p0;have q3:=hp.p1
  refine⟨λn hn=>?_,by simp[qBi];omega,by simp[qBi];omega⟩
  have hr3:c.rows=1\/c.rows=2\/c.rows=3:=by omega
  rcases hr3 with e | e | e
  ·have s0:=sd 0 (by omega)
   simp[qCg,qB2,qBi,qBr,Cfg.num,Cfg.nums,e,List.range_succ]at hn
   simp[sdA,sdB]at s0
   omega
  ·have s0:=sd 0 (by omega)
   have s1:=sd 1 (by omega)
   simp[qCg,qB2,qBi,qBr,Cfg.num,Cfg.nums,e,List.range_succ]at hn
   simp[sdA,sdB]at s0 s1
   omega
  ·have s0:=sd 0 (by omega)
   have s1:=sd 1 (by omega)
   have s2:=sd 2 (by omega)
   simp[qCg,qB2,qBi,qBr,Cfg.num,Cfg.nums,e,List.range_succ]at hn
   simp[sdA,sdB]at s0 s1 s2
   omega
 ·have hd:qHf c=true:=hfit
  simp only[qHf,inB,Bool.and_eq_true,decide_eq_true_eq]at hd
  refine⟨λn hn=>?_,by simp[qBi],by simp[qBi]⟩
  simp[qCg,qB2,qBi,qBr,Cfg.num,Cfg.nums]at hn
  omega
 ·have hd:qIy c=true:=hfit
  simp only[qIy,qHf,inB,Bool.and_eq_true,decide_eq_true_eq]at hd
  refine⟨λn hn=>?_,by simp[qBi],by simp[qBi]⟩
  simp[qCg,qB2,qBi,qBr,Cfg.num,Cfg.nums]at hn
  omega
theorem qNt{n:Int}{x:Ser}(h:SX x)(hi:SInv n x)(hn:x.rel<=4611686018427387904): SerOk x:=by
 obtain⟨a1,a2,a3⟩:=qVj hi.valid hi.kind hi.k1 hi.k5
 have hcm:=hi.common
 have hcap:=hi.cap
 have hlen:x.l.length<=8:=by omega
 have hni:=hi.note
 have hr0:=hi.rel0
 have hfew:=hni.few hn
 refine⟨by have:=h.id0;omega,a1,a2,a3,hi.reflen,λv hv=>by have h1:=hi.refn v hv;have h2:=h.refm v hv;omega,by omega,hlen,?_,?_,hi.valid,hi.kind,hi.k1,hi.k5⟩
 ·intro m hm
  unfold qLb at hm
  obtain⟨y,hy,hmy⟩:=List.mem_flatMap.1 hm
  have hP:=Qi.allL_all (P:=λy=>(0<=y.n/\y.n<=4611686018427387904)/\(0<=y.t/\y.t<=4611686018427387904)/\(x.k=2\/x.k=3\/x.k=5->0<=y.k/\y.k<=4611686018427387904)/\(x.k=5->0<=y.d/\y.d<=4611686018427387904)) (by simp) (x.l.length+1) x.l (λy hy=>⟨h.nums y hy,hi.times y hy,λhk=>by
       rcases hk with e | e | e
       ·have:=qJr (hi.fits y hy) (.inl e);omega
       ·have:=qJr (hi.fits y hy) (.inr e);omega
       ·exact(qGy (hi.fits y hy) e).1,λe=>(qGy (hi.fits y hy) e).2⟩) y hy
  obtain⟨p1,p2,p3,p4⟩:=hP
  unfold qNp at hmy
  rcases List.mem_cons.1 hmy with e | e
  ·rw[e];omega
  ·obtain⟨j,hj,rfl⟩:=List.mem_map.1 e
   have hk1:=hi.k1;have hk5:=hi.k5
   have hj':j=0\/(j=1/\(x.k=2\/x.k=3\/x.k=5))\/(j=2/\x.k=5):=by
    have hk:x.k=1\/x.k=2\/x.k=3\/x.k=4\/x.k=5:=by omega
    rcases hk with e | e | e | e | e <;> rw[e]at hj <;> simp[qCn]at hj <;> omega
   rcases hj' with e | ⟨e,hk⟩ | ⟨e,hk⟩
   ·subst e;show 0<=y.t/\y.t<=_;omega
   ·subst e;have:=p3 hk;show 0<=y.k/\y.k<=_;omega
   ·subst e;have:=p4 hk;show 0<=y.d/\y.d<=_;omega
 ·refine⟨by have:=hni.q0;have:=hni.qn;omega,by have:=hni.r0;have:=hni.r1;omega,by omega,λb hb=>⟨hni.one b hb,hfew.2 b hb⟩,λb hb=>by have:=h.note.bt b hb;omega,λi=>?_,λi b hb=>by have h1:=h.note.rt i b hb;have h2:=hni.rk i b hb;omega,λe=>?_,λe=>?_,λe m hm=>?_⟩
  ·have:=qHg (x.nt.rg i) 40 (h.note.rf i) (hni.rk i)
   omega
  ·obtain⟨b1,b2,b3,b4,b5⟩:=qB9 hi.valid hi.kind e
   have ho:=hni.oi e
   have hcl:x.nt.cl.length<=8:=by have:=ho.len;have:=b1.p1;omega
   exact⟨by omega,ho.okC hi.lastn b3 b4,ho.okO hi.lastn b3 b4,λz hz=>by have:=ho.cel.1 z hz;omega,λp hp z hz=>by have:=ho.cel.2 p hp z hz;omega⟩
  ·have h1:=hni.tl e
   have h2:=(qDl hi.valid hi.kind e).2
   omega
  ·unfold qK4 at hm
   obtain⟨z,hz,hmz⟩:=List.mem_flatMap.1 hm
   have hP:qV2 z:=Dr.allL_all (P:=qV2) ⟨⟨by simp,by simp⟩,⟨by simp,by simp⟩,⟨by simp,by simp⟩,⟨by simp,by simp⟩⟩ _ _ (h.note.tt e) z hz
   obtain⟨z1,z2,z3,z4⟩:=hP
   simp at hmz
   rcases hmz with e | e | e | e <;> rw[e] <;> omega
end
section
open Go.RowKit
attribute [local go_sem ↓] qAd qAe qCt qLi qLo qR4
attribute [local go_sem] qAh qAl qAb qAc qAm qAn qAi qAj zDi zE3 zE1 zEl zDw zEn zD0
def zC0(ops:List OpM): Prop:=∀o,o∈ops->o.kind≠7
theorem zCo{n:Int}{s:WS}(l:List OpM)(h:EX s)(hi:EInv n s.clock s.xs)(hn:0<=n)(hok:zC0 l): EX (qJf s l):=by
 induction l generalizing s n with
 | nil=>exact h
 | cons a l ih =>
  have ha:=hok a (by simp)
  exact ih (qTj a h hi (λe=>(ha e).elim)) (qQs a hi hn (qJw ha)) (by omega) (λo ho=>hok o (by simp[ho]))
theorem zB2(sb so cap:Nat)(ops:List OpM)(w:World)(hsc:ScriptAt w sb so ops)(hlt:sb<w.heap.size)(hlen:ops.length<=651562446090)(hT:Tab w)(hok:zC0 ops):
  Calls Tryz.prog 19 #[.slice (some ⟨sb,so,none⟩) ops.length cap] w λr w'=>∃v l,r=.returned v/\ARep w' w.heap.size v l/\l.map (λx=>(x.code,x.nums))=qUq ws0 ops/\l.map (·.bs)=qYz ws0 ops/\Keeps (λ_=>False) w w' :=
 zB8 sb so cap ops w hsc hlt hlen hT (λ_ o ho=>qJw (hok o (List.mem_of_getElem? ho))) (λi e v clock ps o w ho hs h hi hn hT hT0=>qTp i e v clock ps o w h hi (by omega) hT hT0 (hok o (List.mem_of_getElem? ho)) (λ_ x hx=>by
      have hex:EX (qJf ws0 (ops.take i)):=zCo (ops.take i) (λx hx=>by simp[ws0]at hx) inv0 (by omega) (λo ho=>hok o (List.mem_of_mem_take ho))
      rw[<-hs]at hex
      have hsi:=hi.sers x hx
      exact qNt (hex x hx) hsi (by have h1:=hsi.rela;have h2:=hsi.accn;omega)))
theorem zBw: zC0 qXe:=by
 intro o ho
 simp[qXe,o1,o2,o3,o4,o5]at ho
 rcases ho with h | h | h | h | h <;> subst h <;> simp
theorem qWu{w:World}{base:Nat}{v:Value}{l:List Ans}(h:ARep w base v l)(hl:l≠[]): ∃g cap,v=.slice (some ⟨g,0,none⟩) l.length cap/\∀i u,(qDp l)[i]?=some u->w.cell? ⟨g,i,none⟩=some u:=by
 rcases h.row.2 with ⟨_,h2⟩ | ⟨g,cap,cur,h1,_,h3,h4,h5,h6,h7⟩
 ·exact absurd (List.length_eq_zero_iff.1 h2) hl
 ·refine⟨g,cap,h1,λi u hu=>?_⟩
  have hi:i<l.length*3:=by have:=(List.getElem?_eq_some_iff.1 hu).1;have:=h.row.1;omega
  have:cur[i]?=some u:=by
   rw[<-h7,List.getElem?_take,if_pos hi]at hu
   simpa using hu
  simp[World.cell?,h3,this]
theorem qYr{α:Type _}(l:List α)(h:l.length=5): ∃a b c d e,l=[a,b,c,d,e]:=by
 cases l with
 | nil=>cases h
 | cons a l =>
  cases l with
  | nil=>cases h
  | cons b l =>
   cases l with
   | nil=>cases h
   | cons c l =>
    cases l with
    | nil=>cases h
    | cons d l =>
     cases l with
     | nil=>cases h
     | cons e l =>
      cases l with
      | nil=>exact⟨a,b,c,d,e,rfl⟩
      | cons f l=>simp at h
theorem qW8(w:World)(hT:Tab w): Calls Tryz.prog 17 #[] w λe w'=>e=.returned (.bool true)/\Keeps (λ_=>False) w w':=by
 have hst:∀zs:List Value,zs.length=20->(qC7 38 (.pointer (some ⟨w.heap.size,0,none⟩)) (.agg c0.cells.toArray)).run Tryz.prog (w.alloc (.cells zs.toArray 38))=.ok .skip (w.alloc (.cells c0.cells.toArray 38)):=λzs hz=>qRz w zs c0.cells hz rfl (by simp[Cfg.cells,Value.oneCell'])
 have hv1:qAq (w.alloc (.cells c0.cells.toArray 38)) w.heap.size 0 20=.agg c0.cells.toArray:=qAg w c0.cells 38 20 rfl
 have hh1:qAw (w.alloc (.cells c0.cells.toArray 38)) w.heap.size 0 20=true:=qC4 w c0.cells 38 20 rfl
 have HK0:=hide (((Keeps.refl (λ_=>False) w).alloc (.cells c0.cells.toArray 38)).alloc (.cells qE8.toArray 40))
 have HB0:=hide (show Blk ((w.alloc (.cells c0.cells.toArray 38)).alloc (.cells qE8.toArray 40)) (w.heap.size+1) qE8 40 from Blk.newAt (by simp) _ _)
 have HTT:=hide hT
 clear hT
 go_enter Tryz.func17,Tryz.ntmps17
 go_wp2_with fail
 refine(zB2 (w.heap.size+1) 0 5 qXe _ (zB3 _ _ (uh HB0)) (uh HB0).lt (by decide) ((uh HTT).keeps (uh HK0) (λh=>h)) zBw).mono ?_
 rintro r w1 ⟨v,l,rfl,hA,hM,_,hk1⟩
 rw[zAn]at hM
 obtain⟨x0,x1,x2,x3,x4,hl5⟩:=qYr l (by have:=congrArg List.length hM;simpa using this)
 subst hl5
 simp only[List.map_cons,List.map_nil,List.cons.injEq,Prod.mk.injEq,and_true]at hM
 obtain⟨⟨k0,m0⟩,⟨k1,m1⟩,⟨k2,m2⟩,⟨k3,m3⟩,k4,m4⟩:=hM
 obtain⟨g,cap,hv,hc⟩:=qWu hA (by simp)
 have n1:=hA.nums x1 (by simp)
 have n4:=hA.nums x4 (by simp)
 rw[m1]at n1
 rw[m4]at n4
 rcases qF1 n1 with ⟨h,_⟩ | ⟨g1,cp1,hv1',hn1⟩
 ·cases h
 rcases qF1 n4 with ⟨h,_⟩ | ⟨g4,cp4,hv4',hn4⟩
 ·cases h
 have y0:w1.cell? ⟨g,0,none⟩=some (.int .i64 0):=(hc 0 _ rfl).trans (by rw[k0])
 have y1:w1.cell? ⟨g,3,none⟩=some (.int .i64 0):=(hc 3 _ rfl).trans (by rw[k1])
 have y2:w1.cell? ⟨g,6,none⟩=some (.int .i64 0):=(hc 6 _ rfl).trans (by rw[k2])
 have y3:w1.cell? ⟨g,9,none⟩=some (.int .i64 6):=(hc 9 _ rfl).trans (by rw[k3])
 have y4:w1.cell? ⟨g,12,none⟩=some (.int .i64 0):=(hc 12 _ rfl).trans (by rw[k4])
 have z1:w1.cell? ⟨g,4,none⟩=some (.slice (some ⟨g1,0,none⟩) 1 cp1):=(hc 4 _ rfl).trans (by rw[hv1'];rfl)
 have z4:w1.cell? ⟨g,13,none⟩=some (.slice (some ⟨g4,0,none⟩) 3 cp4):=(hc 13 _ rfl).trans (by rw[hv4'];rfl)
 have p1:w1.cell? ⟨g1,0,none⟩=some (.int .i64 1):=hn1 0 (by simp)
 have q0:w1.cell? ⟨g4,0,none⟩=some (.int .i64 0):=hn4 0 (by simp)
 have q1:w1.cell? ⟨g4,1,none⟩=some (.int .i64 1):=hn4 1 (by simp)
 have q2:w1.cell? ⟨g4,2,none⟩=some (.int .i64 1):=hn4 2 (by simp)
 have HK1:=hide ((uh HK0).then hk1)
 rw[hv]
 clear hA hk1 hc n1 n4 hn1 hn4 hv hv1' hv4' k0 k1 k2 k3 k4 m0 m1 m2 m3 m4 hst hv1 hh1 HK0 HB0
 show _
 go_wp2
 go_ret
 exact⟨rfl,uh HK1⟩
end
section
open Go.RowKit
attribute [local go_sem ↓] qAd qAe qDe
attribute [local go_sem] qAh qAl qAb qAc qAm qAn qAi qAj
theorem qXm{n:Int}{s:WS}(o:OpM)(h:EInv n s.clock s.xs): (qCd s o).2.2.length<=17:=by
 unfold qCd
 split
 ·unfold qDr;(repeat' split) <;> simp
 split
 ·unfold qYf;(repeat' split) <;> simp
 split
 ·unfold qKy;(repeat' split) <;> simp
 split
 ·unfold qH0;split
  ·simp
  ·rename_i x hx
   have hi:=h.sers x (List.mem_of_find?_eq_some hx)
   show(qIg x.k x.c x.nt o.a (s.clock-x.c.lag)).2.length<=17
   unfold qIg
   split
   ·simp
   split
   ·split <;> simp
   split
   ·rename_i h2
    obtain⟨_,_,b4,_,_⟩:=qBx hi.valid hi.kind h2
    unfold zEg
    split
    ·show(qD4 _ _ _++[_]).length<=17
     rw[List.length_append,qFo,List.length_singleton]
     have:qMi x.c<=16:=Nat.pow_le_pow_right (n:=2) (by omega) (show x.c.bits.toNat<=4 by omega)
     omega
    ·simp
   split
   ·split <;> simp
   split
   ·rename_i h5
    have hd:=qDl hi.valid hi.kind h5
    show(qSd x.c x.nt.tk).length<=17
    unfold qSd
    simp only[List.length_append,qC2,List.length_take]
    simp
    omega
   ·simp
 split
 ·unfold qHo;(repeat' split) <;> simp[qCc,qCx]
 split
 ·simp
 split
 ·unfold zAl;split <;> simp
 ·simp
theorem zCw(a:Option Addr)(cap:Nat)(w:World):
  Calls Tryz.prog 19 #[.slice a 0 cap] w λr w'=>∃v l,r=.returned v/\ARep w' w.heap.size v l/\l.map (λx=>(x.code,x.nums))=qUq ws0 []/\l.map (·.bs)=qYz ws0 []/\Keeps (λ_=>False) w w':=by
 obtain⟨i0,hi0,hz0,hz1,hz2⟩:=info_parts qYd
 go_enter Tryz.func19,Tryz.ntmps19
 go_wp2_with (at_make;refine wpList_make_own _ rfl _ _ _ rfl w.heap.size 33 i0 _ 3 Tryz.underlying27 hi0 hz0 hz1 _ _ _ 0 rfl rfl rfl (by rw[hz2];omega) (by unfold maxLen;omega) (by simp) ?_;intro w1 ho1 hg1)
 rw[World.size_alloc]at ho1
 have hkw1:Keeps (λ_=>False) w w1:=((Keeps.refl (λ_=>False) w).alloc _).grown hg1 (λk hk=>by cases hk)
 have HA1:=hide (show ARep w1 w.heap.size (.slice (some ⟨w.heap.size+1,0,none⟩) 0 0) [] from⟨ho1,λx hx=>by simp at hx,λx hx=>by simp at hx⟩)
 have HK1:=hide hkw1
 clear hg1 ho1 hkw1
 go_loopw [4,12] (λav i wr=>i=.int .i64 0/\av=.slice (some ⟨w.heap.size+1,0,none⟩) 0 0/\wr=w1) (λ_ _ _=>0)
 case atStart=>exact⟨rfl,rfl,rfl⟩
 case round =>
  obtain⟨rfl,rfl,rfl⟩:=hrel
  go_wp2
  go_ret
  exact⟨_,[],rfl,uh HA1,rfl,rfl,uh HK1⟩
end
section
open Go.RowKit
theorem qHh(l:List Ans)(i j:Nat)(x:Ans)(h:l[i]?=some x)(hj:j<3): (qDp l)[i*3+j]?=x.cells[j]?:=by
 induction l generalizing i with
 | nil=>simp at h
 | cons a l ih =>
  have hc:qDp (a::l)=a.cells++qDp l:=by simp[qDp]
  rw[hc]
  cases i with
  | zero =>
   have:a=x:=by simpa using h
   subst this
   rw[List.getElem?_append_left (by simp[Ans.cells];omega)]
   simp
  | succ i =>
   rw[List.getElem?_append_right (by simp[Ans.cells];omega)]
   have:=ih i (by simpa using h)
   rw[<-this]
   congr 1
   simp[Ans.cells];omega
theorem qH7{w:World}{base T c:Nat}{v:Value}{n:Nat}{l:List Value}(h:w.ownsRow base T c v n l): ∃a cap,v=.slice a n cap:=by
 rcases h.2 with ⟨h1,h2⟩ | ⟨g,cap,cur,h1,_⟩
 ·exact⟨none,0,by rw[h1,h2]⟩
 ·exact⟨_,_,h1⟩
theorem qO5{w:World}{base:Nat}{a:Option Addr}{n cap:Nat}{l:List Ans}(h:ARep w base (.slice a n cap) l)(i:Nat)(x:Ans)(hx:l[i]?=some x):
  ∃g,a=some ⟨g,0,none⟩/\w.cell? ⟨g,i*3,none⟩=some (.int .i64 x.code)/\w.cell? ⟨g,i*3+1,none⟩=some x.nv/\w.cell? ⟨g,i*3+2,none⟩=some (.string x.bs):=by
 obtain⟨g,cap',hv,hc⟩:=qWu h (by intro h;rw[h]at hx;simp at hx)
 injection hv with h1 h2 h3
 exact⟨g,h1,hc _ _ (qHh l i 0 x hx (by omega)),hc _ _ (qHh l i 1 x hx (by omega)),hc _ _ (qHh l i 2 x hx (by omega))⟩
theorem zCb{la lb:List Ans}{r:List (Int×List Int)}{k i:Nat}(hA:la.map (λx=>(x.code,x.nums))=r)(hB:lb.map (λx=>(x.code,x.nums))=r.take k)(hi:i<k)(ha:i<la.length)(hb:i<lb.length):
  ∃xa xb,la[i]?=some xa/\lb[i]?=some xb/\xa.code=xb.code/\xa.nums=xb.nums:=by
 refine⟨la[i],lb[i],List.getElem?_eq_getElem ha,List.getElem?_eq_getElem hb,?_⟩
 have h1:(la.map (λx=>(x.code,x.nums)))[i]?=some (la[i].code,la[i].nums):=by rw[List.getElem?_map,List.getElem?_eq_getElem ha];rfl
 have h2:(lb.map (λx=>(x.code,x.nums)))[i]?=some (lb[i].code,lb[i].nums):=by rw[List.getElem?_map,List.getElem?_eq_getElem hb];rfl
 rw[hA]at h1
 rw[hB,List.getElem?_take,if_pos hi,h1]at h2
 injection h2 with h2
 injection h2 with h3 h4
 exact⟨h3,h4⟩
end
section
open Go.ChangeShapes Go.WideShapes Go.ChangeAt Go.RowKit Go.Deep
def opOf(V:Nat->Int)(b:ByteArray): OpM:=⟨V 0,V 1,V 2,V 3,V 4,⟨V 5,V 6,V 7,V 8,V 9,V 10,V 11,V 12,V 13,V 14,V 15,V 16,V 17,V 18,V 19,V 20,V 21,V 22,V 23,V 24⟩,b⟩
theorem qU0(V:Nat->Int)(b:ByteArray): (opOf V b).cells=(List.range 25).map (λj=>.int .i64 (V j))++[.string b]:=rfl
theorem cells3: Tryz.prog.cellsOf 3=1:=by kernel_rfl
theorem zBp: Tryz.prog.cellsOf 35=2:=by kernel_rfl
theorem qQ5: Tryz.prog.cellsOf 40=26:=by kernel_rfl
theorem zCs: Tryz.prog.bytesOf 40=216:=by kernel_rfl
section
variable {H:Type} {enc:TypeId×Value->H} {w:World} {base:Nat} {spare:Nat->Bool} {held:Bool}
def IntAt(cs:List Value)(i:Nat): Prop:=∃n,cs[i]?=some (.int .i64 n)/\(Lit.int .i64 n).wf=true
theorem zAz{cs:List Value}{off n i:Nat}{v:Value}(h:((cs.drop off).take n)[i]?=some v): cs[off+i]?=some v:=by
 rw[List.getElem?_take]at h
 split at h
 ·rw[List.getElem?_drop]at h;exact h
 ·cases h
theorem IntAt.sub{cs:List Value}{off n i:Nat}(h:IntAt ((cs.drop off).take n) i): IntAt cs (off+i):=by
 obtain⟨k,h1,h2⟩:=h
 exact⟨k,zAz h1,h2⟩
theorem qWl{m:Nat}{cs:List Value}{x:DataW H×List MemPlace}(h:DataW.trod enc Tryz.prog w base spare held m 3 cs=some x): IntAt cs 0:=by
 obtain⟨n,rfl,_,hw⟩:=DataW.trod_int Tryz.underlying3 h
 exact⟨n,rfl,hw⟩
theorem qHi{α:Type}{xs:List α}{n i:Nat}(h:xs.length=n)(hi:i<n): ∃x,xs[i]?=some x:=⟨xs[i],List.getElem?_eq_getElem (by omega)⟩
theorem zBl{m:Nat}{cs:List Value}{x:DataW H×List MemPlace}(h:DataW.trod enc Tryz.prog w base spare held m 35 cs=some x)(i:Nat)(hi:i<2): IntAt cs i:=by
 obtain⟨xs,k,_,_,_,hl,hx⟩:=DataW.trod_array Tryz.underlying35 h
 obtain⟨y,hy⟩:=qHi hl hi
 have h1:=hx i hi
 rw[hy,cells3,Nat.mul_one]at h1
 have:=(qWl h1).sub
 simpa using this
theorem zCl{m:Nat}{cs:List Value}{x:DataW H×List MemPlace}(h:DataW.trod enc Tryz.prog w base spare held m 36 cs=some x)(i:Nat)(hi:i<6): IntAt cs i:=by
 obtain⟨xs,k,_,_,_,hl,hx⟩:=DataW.trod_array Tryz.underlying36 h
 have hq:i/2<3:=by omega
 obtain⟨y,hy⟩:=qHi hl hq
 have h1:=hx (i/2) hq
 rw[hy,zBp]at h1
 have:=(zBl h1 (i%2) (by omega)).sub
 rwa [show i/2*2+i%2=i by omega]at this
theorem zDp{m:Nat}{cs:List Value}{x:DataW H×List MemPlace}(h:DataW.trod enc Tryz.prog w base spare held m 38 cs=some x)(i:Nat)(hi:i<20): IntAt cs i:=by
 obtain⟨xs,k,_,_,_,hl,hx⟩:=DataW.trod_struct Tryz.underlying38 h
 have hl15:xs.length=15:=hl
 have one:∀(j:Nat) (f:Field),(Option.map (λf:Field=>(f.type,f.offset)) (some f))=some (3,j)->j<14->DataW.trod enc Tryz.prog w base spare held k f.type ((cs.drop f.offset).take (Tryz.prog.cellsOf f.type))=xs[j]?->IntAt cs j:=by
  intro j f hf hj h1
  obtain⟨y,hy⟩:=qHi hl15 (show j<15 by omega)
  simp only[Option.map_some,Option.some.injEq,Prod.mk.injEq]at hf
  rw[hf.1,hf.2,hy]at h1
  have:=(qWl h1).sub
  simpa using this
 by_cases h14:i<14
 ·have hc:i=0\/i=1\/i=2\/i=3\/i=4\/i=5\/i=6\/i=7\/i=8\/i=9\/i=10\/i=11\/i=12\/i=13:=by omega
  rcases hc with rfl | rfl | rfl | rfl | rfl | rfl | rfl | rfl | rfl | rfl | rfl | rfl | rfl | rfl <;> exact one _ _ rfl h14 (hx _ _ rfl)
 ·obtain⟨y,hy⟩:=qHi hl15 (show 14<15 by omega)
  have h1:DataW.trod enc Tryz.prog w base spare held k 36 ((cs.drop 14).take (Tryz.prog.cellsOf 36))=xs[14]?:=hx 14 _ rfl
  rw[hy]at h1
  have:=(zCl h1 (i-14) (by omega)).sub
  rwa [show 14+(i-14)=i by omega]at this
theorem zC9{m:Nat}{cs:List Value}{x:DataW H×List MemPlace}(h:DataW.trod enc Tryz.prog w base spare held m 40 cs=some x):
  ∃(V:Nat->Int) (b:ByteArray),cs=(opOf V b).cells/\(∀i,i<25->(Lit.int .i64 (V i)).wf=true)/\b.size<=maxLen:=by
 obtain⟨xs,k,_,_,hlen,hl,hx⟩:=DataW.trod_struct Tryz.underlying40 h
 rw[qQ5]at hlen
 have hl7:xs.length=7:=hl
 have one:∀(j:Nat) (f:Field),(Option.map (λf:Field=>(f.type,f.offset)) (some f))=some (3,j)->j<5->DataW.trod enc Tryz.prog w base spare held k f.type ((cs.drop f.offset).take (Tryz.prog.cellsOf f.type))=xs[j]?->IntAt cs j:=by
  intro j f hf hj h1
  obtain⟨y,hy⟩:=qHi hl7 (show j<7 by omega)
  simp only[Option.map_some,Option.some.injEq,Prod.mk.injEq]at hf
  rw[hf.1,hf.2,hy]at h1
  have:=(qWl h1).sub
  simpa using this
 have hints:∀i,i<25->IntAt cs i:=by
  intro i hi
  by_cases h5:i<5
  ·have hc:i=0\/i=1\/i=2\/i=3\/i=4:=by omega
   rcases hc with rfl | rfl | rfl | rfl | rfl <;> exact one _ _ rfl h5 (hx _ _ rfl)
  ·obtain⟨y,hy⟩:=qHi hl7 (show 5<7 by omega)
   have h1:DataW.trod enc Tryz.prog w base spare held k 38 ((cs.drop 5).take (Tryz.prog.cellsOf 38))=xs[5]?:=hx 5 _ rfl
   rw[hy]at h1
   have:=(zDp h1 (i-5) (by omega)).sub
   rwa [show 5+(i-5)=i by omega]at this
 obtain⟨V,hV⟩:=choose_lt (α:=Int) hints
 obtain⟨y,hy⟩:=qHi hl7 (show 6<7 by omega)
 have h1:DataW.trod enc Tryz.prog w base spare held k 9 ((cs.drop 25).take (Tryz.prog.cellsOf 9))=xs[6]?:=hx 6 _ rfl
 rw[hy]at h1
 obtain⟨b,hb,_,hbz⟩:=DataW.trod_string Tryz.underlying9 h1
 have hb':cs[25]?=some (.string b):=zAz (off:=25) (i:=0) (by rw[hb];rfl)
 refine⟨V,b,?_,λi hi=>(hV i hi).2,hbz⟩
 rw[qU0]
 apply List.ext_getElem?
 intro j
 by_cases hj:j<25
 ·rw[(hV j hj).1,List.getElem?_append_left (by simpa using hj)]
  simp[hj]
 ·by_cases hj2:j=25
  ·subst hj2;rw[hb'];rfl
  ·rw[List.getElem?_eq_none (by omega),List.getElem?_eq_none (by simp;omega)]
end
end
section
open Go.ChangeShapes Go.WideShapes Go.ChangeAt Go.RowKit Go.Deep
theorem Tryz.own: ownKnob Tryz.prog.godebug=none:=by kernel_rfl
theorem Tryz.laidOut: laidOutB Tryz.prog=true:=by kernel_rfl
theorem Keeps.below{w w':World}(h:Keeps (λ_=>False) w w'): Below w.heap.size w w':=⟨h.os,h.tape,h.output,h.size,λk hk=>h.block k hk (λh=>h)⟩
theorem qXh{x:Int}(h:(Lit.int .i64 x).wf=true): -9223372036854775808<=x/\x<=9223372036854775807:=by
 simp[Lit.wf,IntKind.min,IntKind.max,IntKind.signed,IntKind.bits]at h
 omega
end
end Go.Proofs.YtahnliehdjncdaaGreatDoor
