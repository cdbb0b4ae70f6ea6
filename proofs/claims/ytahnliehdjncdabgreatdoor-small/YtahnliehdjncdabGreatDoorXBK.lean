import Derived.Test.YtahnliehdjncdabGreatDoorXBI
import Derived.Test.YtahnliehdjncdabGreatDoorXBJ
import Derived.Test.YtahnliehdjncdabGreatDoorXBE
import Derived.Test.YtahnliehdjncdabGreatDoorXAK
import Derived.Test.YtahnliehdjncdabGreatDoorXAL
import Derived.Test.YtahnliehdjncdabGreatDoorXBF
set_option maxRecDepth 100000
set_option maxHeartbeats 16000000
namespace Go.Proofs.YtahnliehdjncdabGreatDoor
section
open Go.RowKit
attribute [local go_sem ↓] qAb qAe
attribute [local go_sem] qAg qAl qAd qAc qAo qAn qAj qAk qAf qAi
theorem zD5(e:Nat)(v:Value)(clock:Int)(ps:List (SB×Ser))(o:OpM)(w:World)(h:ERep w e v clock ps)(hkind:o.kind=6)(hok:∀x,x∈ps.map (·.2)->SerOk x)(six:ps.length<=6)(c0:0<=clock)(c1:clock<=4611686018427387904):
  Calls Tryz.prog 23 #[.pointer (some ⟨e,0,none⟩),o.val] w λr w'=>qFc w e v ps clock (ps.map (·.2)) 0 [] (qD2 clock (ps.map (·.2))) r w':=by
 have h0:o.cells[0]?=some (.int .i64 o.kind):=rfl
 have hn1:(o.kind==1)=false:=by simp[hkind]
 have hn2:(o.kind==2)=false:=by simp[hkind]
 have hn3:(o.kind==3)=false:=by simp[hkind]
 have hn4:(o.kind==4)=false:=by simp[hkind]
 have hn5:(o.kind==5)=false:=by simp[hkind]
 have hn6:(o.kind==6)=true:=by simp[hkind]
 have HE:=hide h
 have HOK:=hide hok
 clear h hkind hok
 unfold OpM.val
 go_enter Tryz.func23,Tryz.ntmps23
 go_wp2_with fail
 have hk0:Keeps (λ_=>False) w ((w.alloc (.cells o.cells.toArray 34)).alloc (.cells #[.int .i64 0,.slice none 0 0,.string ⟨#[]⟩] 38)):=((Keeps.refl (λ_=>False) w).alloc _).alloc _
 have HR0:=hide (show Blk ((w.alloc (.cells o.cells.toArray 34)).alloc (.cells #[.int .i64 0,.slice none 0 0,.string ⟨#[]⟩] 38)) (w.heap.size+1) [.int .i64 0,.slice none 0 0,.string qAa] 38 from Blk.newAt (by simp) [_,_,_] 38)
 have HE0:=hide ((uh HE).still hk0)
 have HK0:=hide hk0
 clear hk0
 generalize(w.alloc (.cells o.cells.toArray 34)).alloc (.cells #[.int .i64 0,.slice none 0 0,.string ⟨#[]⟩] 38)=w0 at *
 generalize hob:w.heap.size=ob at *
 have HOB:=hide hob
 clear hob
 refine(qPg e v clock ps w0 (uh HE0) (uh HOK) six c0 c1).mono ?_
 rintro r w1 ⟨rfl,hk1⟩
 have HR1:=hide ((uh HR0).keeps hk1 (λh=>h))
 have HK1:=hide ((uh HK0).then hk1)
 clear hk1
 obtain⟨bb,hbb⟩:∃bb,qD2 clock (ps.map (·.2))=bb:=⟨_,rfl⟩
 rw[hbb]
 have HBB:=hide hbb
 clear hbb
 have r0:w1.cell? ⟨ob+1,0,none⟩=some (.int .i64 0):=(uh HR1).cell rfl
 have r1:w1.cell? ⟨ob+1,1,none⟩=some (.slice none 0 0):=(uh HR1).cell rfl
 have r2:w1.cell? ⟨ob+1,2,none⟩=some (.string qAa):=(uh HR1).cell rfl
 have rf:=(uh HR1).frozen
 go_wp2
 have hbf:=(((uh HR1).setCell 0 (.int .i64 0)).setCell 1 (.slice none 0 0)).setCell 2 (.string bb)
 have HKF:=hide ((((Keeps.refl (λi=>i=ob+1) w1).setCell (p:=⟨ob+1,0,none⟩) (Or.inl rfl) (.int .i64 0)).setCell (p:=⟨ob+1,1,none⟩) (Or.inl rfl) (.slice none 0 0)).setCell (p:=⟨ob+1,2,none⟩) (Or.inl rfl) (.string bb))
 generalize(((w1.setCell ⟨ob+1,0,none⟩ (.int .i64 0)).setCell ⟨ob+1,1,none⟩ (.slice none 0 0)).setCell ⟨ob+1,2,none⟩ (.string bb))=w9 at *
 have q0:w9.cell? ⟨ob+1,0,none⟩=some (.int .i64 0):=hbf.cell rfl
 have q1:w9.cell? ⟨ob+1,1,none⟩=some (.slice none 0 0):=hbf.cell rfl
 have q2:w9.cell? ⟨ob+1,2,none⟩=some (.string bb):=hbf.cell rfl
 refine bodyPost_ret (v:=zDl 0 (.slice none 0 0) bb) (by simp[results,Tryz.results23,go_sem,q0,q1,q2,zDl]) rfl ?_
 have hkf:=uh HKF
 have hob:=uh HOB
 have hkk:Keeps (λ_=>False) w w9:=(uh HK1).trans hkf (λi hi hlt=>by omega)
 exact⟨.slice none 0 0,v,ps,by rw[uh HBB],(uh HE).still hkk,rfl,World.ownsRow_nil _ _ _ _,hkk.mono (λ_ _ h=>h.elim),λi hi=>.inl hi,λi hi=>by cases hi⟩
end
section
open Go.RowKit
theorem qT1(n:Int)(e:Nat)(v:Value)(clock:Int)(ps:List (SB×Ser))(o:OpM)(w:World)(h:ERep w e v clock ps)(hi:EInv n clock (ps.map (·.2)))(hn:n<=651562446200)(hT:Tab w)(hT0:¬EFoot e v ps 2)(h7:o.kind≠7)(h6:o.kind=6->∀x,x∈ps.map (·.2)->SerOk x):
  Calls Tryz.prog 23 #[.pointer (some ⟨e,0,none⟩),o.val] w λr w' =>
   qFc w e v ps (qA5 ⟨clock,ps.map (·.2)⟩ o).1.clock (qA5 ⟨clock,ps.map (·.2)⟩ o).1.xs (qA5 ⟨clock,ps.map (·.2)⟩ o).2.1 (qA5 ⟨clock,ps.map (·.2)⟩ o).2.2 (qD7 ⟨clock,ps.map (·.2)⟩ o) r w':=by
 by_cases h6':o.kind=6
 ·have hM:qA5 ⟨clock,ps.map (·.2)⟩ o=(⟨clock,ps.map (·.2)⟩,0,[]):=by unfold qA5;rw[if_neg (by omega),if_neg (by omega),if_neg (by omega),if_neg (by omega),if_neg (by omega),if_pos h6']
  have hB:qD7 ⟨clock,ps.map (·.2)⟩ o=qD2 clock (ps.map (·.2)):=by unfold qD7 zEb;rw[if_pos h6']
  rw[hM,hB]
  exact zD5 e v clock ps o w h h6' (h6 h6') (by have:=hi.six;rw[List.length_map]at this;exact this) hi.c0 hi.c1
 have h67:o.kind≠6/\o.kind≠7:=⟨h6',h7⟩
 have hby:qD7 ⟨clock,ps.map (·.2)⟩ o=qAa:=by unfold qD7;rw[if_neg h67.1]
 rw[hby]
 have hfind:=qRz ps o.id
 by_cases h1:o.kind=1
 ·have hM:qA5 ⟨clock,ps.map (·.2)⟩ o=qCb ⟨clock,ps.map (·.2)⟩ o:=by unfold qA5;rw[if_pos h1]
  rw[hM]
  refine(zE1 e v clock ps o w h h1 _ _ _ _ (λw0 h0=>?_)).mono (λ_ _ h=>h.b)
  cases hid:inB o.id 0 99
  ·have:qCb ⟨clock,ps.map (·.2)⟩ o=(⟨clock,ps.map (·.2)⟩,2,[]):=by unfold qCb;rw[if_neg (by rw[hid];simp)]
   rw[this]
   exact qV8 n e v clock ps o w0 h0 hi hid
  ·cases hf:qDx ps o.id with
   | some p =>
    have:qCb ⟨clock,ps.map (·.2)⟩ o=(⟨clock,ps.map (·.2)⟩,2,[]):=by unfold qCb;rw[if_neg (by simp only;rw[hfind,hf];simp)]
    rw[this]
    exact qPe n e v clock ps o w0 h0 hi hid p hf
   | none =>
    have hc:(inB o.id 0 99=true/\(qCi (⟨clock,ps.map (·.2)⟩:WS).xs o.id).isNone=true):=⟨hid,by simp only;rw[hfind,hf];rfl⟩
    cases hv:qA6 o.cfg
    ·have:qCb ⟨clock,ps.map (·.2)⟩ o=(⟨clock,ps.map (·.2)⟩,3,[]):=by unfold qCb;rw[if_pos hc,if_neg (by rw[hv];simp)]
     rw[this]
     exact qOb n e v clock ps o w0 h0 hi hid hf hv
    ·by_cases h6:ps.length<6
     ·have:qCb ⟨clock,ps.map (·.2)⟩ o=(⟨clock,ps.map (·.2)++[qAy o.id o.cfg o.cfg.kind.toNat]⟩,0,[]):=by unfold qCb;rw[if_pos hc,if_pos hv,if_pos (by simpa using h6)]
      rw[this]
      exact qUa n e v clock ps o w0 h0 hi hid hf hv h6
     ·have:qCb ⟨clock,ps.map (·.2)⟩ o=(⟨clock,ps.map (·.2)⟩,4,[]):=by unfold qCb;rw[if_pos hc,if_pos hv,if_neg (by simpa using h6)]
      rw[this]
      have h6':ps.length=6:=by have:=hi.six;rw[List.length_map]at this;omega
      exact qRy n e v clock ps o w0 h0 hi hid hf hv h6'
 by_cases h2:o.kind=2
 ·have hM:qA5 ⟨clock,ps.map (·.2)⟩ o=qH2 ⟨clock,ps.map (·.2)⟩ o:=by unfold qA5;rw[if_neg h1,if_pos h2]
  rw[hM]
  refine(zEz e v clock ps o w h h2 _ _ _ _ (λw0 h0=>?_)).mono (λ_ _ h=>h.b)
  cases hf:qDx ps o.id with
  | none =>
   have:qH2 ⟨clock,ps.map (·.2)⟩ o=(⟨clock,ps.map (·.2)⟩,2,[]):=by unfold qH2;simp only;rw[hfind,hf];rfl
   rw[this]
   exact qY6 n e v clock ps o w0 h0 hi hf
  | some p =>
   by_cases hr:qJq p.2 clock o.item=0
   ·have:qH2 ⟨clock,ps.map (·.2)⟩ o=(⟨clock,qHd (ps.map (·.2)) o.id (qMw p.2 o.item)⟩,0,[p.2.acc+1]):=by unfold qH2;simp only;rw[hfind,hf];simp only[Option.map_some];rw[if_pos hr]
    rw[this]
    exact zCy n e v clock ps o w0 h0 hi p hf hr (by omega)
   ·have:qH2 ⟨clock,ps.map (·.2)⟩ o=(⟨clock,qHd (ps.map (·.2)) o.id (qQ7 p.2 (qJq p.2 clock o.item).toNat)⟩,qJq p.2 clock o.item,[]):=by unfold qH2;simp only;rw[hfind,hf];simp only[Option.map_some];rw[if_neg hr]
    rw[this]
    have hrr:=qIz p.2 clock o.item
    obtain⟨cd,hcd⟩:=Int.eq_ofNat_of_zero_le hrr.1
    rw[hcd,Int.toNat_natCast]
    exact zDb n e v clock ps o w0 h0 hi p cd hf hcd (by omega) (by omega)
 by_cases h3:o.kind=3
 ·have hM:qA5 ⟨clock,ps.map (·.2)⟩ o=qFv ⟨clock,ps.map (·.2)⟩ o:=by unfold qA5;rw[if_neg h1,if_neg h2,if_pos h3]
  rw[hM]
  refine(zD0 e v clock ps o w h h3 _ _ _ _ (λw0 h0 hk0=>?_)).mono (λ_ _ h=>h.b)
  cases ha:inB o.a 0 4611686018427387904
  ·have:qFv ⟨clock,ps.map (·.2)⟩ o=(⟨clock,ps.map (·.2)⟩,5,[]):=by unfold qFv;rw[if_neg (by rw[ha];simp)]
   rw[this]
   exact qX1 n e v clock ps o w0 h0 hi ha
  ·cases hb:inB o.b 0 100
   ·have:qFv ⟨clock,ps.map (·.2)⟩ o=(⟨clock,ps.map (·.2)⟩,12,[]):=by unfold qFv;rw[if_pos ha,if_neg (by rw[hb];simp)]
    rw[this]
    exact qR3 n e v clock ps o w0 h0 hi ha hb
   ·have:qFv ⟨clock,ps.map (·.2)⟩ o=(⟨qEh clock o.a,(qBv (qEh clock o.a) o.b ((ps.map (·.2)).map (qBg (qEh clock o.a)))).1⟩,0,[(qBv (qEh clock o.a) o.b ((ps.map (·.2)).map (qBg (qEh clock o.a)))).2]):=by unfold qFv;rw[if_pos ha,if_pos hb]
    rw[this]
    exact zAh n e v clock ps o w0 h0 hi ha hb hn (hT.keeps hk0 (λh=>h)) hT0
 by_cases h4:o.kind=4
 ·have hM:qA5 ⟨clock,ps.map (·.2)⟩ o=qF5 ⟨clock,ps.map (·.2)⟩ o:=by unfold qA5;rw[if_neg h1,if_neg h2,if_neg h3,if_pos h4]
  rw[hM]
  refine(zD8 e v clock ps o w h h4 _ _ _ _ (λw0 h0=>?_)).mono (λ_ _ h=>h.b)
  cases hf:qDx ps o.id with
  | none =>
   have:qF5 ⟨clock,ps.map (·.2)⟩ o=(⟨clock,ps.map (·.2)⟩,2,[]):=by unfold qF5;simp only;rw[hfind,hf];rfl
   rw[this]
   exact qU4 n e v clock ps o w0 h0 hi hf
  | some p =>
   have:qF5 ⟨clock,ps.map (·.2)⟩ o=(⟨clock,ps.map (·.2)⟩,qJl p.2.k p.2.c p.2.nt o.a (clock-p.2.c.lag)):=by unfold qF5;simp only;rw[hfind,hf];rfl
   rw[this]
   exact qVn n e v clock ps o w0 h0 hi hn p hf
 by_cases h5:o.kind=5
 ·have hM:qA5 ⟨clock,ps.map (·.2)⟩ o=qF6 ⟨clock,ps.map (·.2)⟩ o:=by unfold qA5;rw[if_neg h1,if_neg h2,if_neg h3,if_neg h4,if_pos h5]
  rw[hM]
  refine(zEa e v clock ps o w h h5 _ _ _ _ (λw0 h0=>?_)).mono (λ_ _ h=>h.b)
  cases hf:qDx ps o.id with
  | none =>
   have:qF6 ⟨clock,ps.map (·.2)⟩ o=(⟨clock,ps.map (·.2)⟩,2,[]):=by unfold qF6;simp only;rw[hfind,hf];rfl
   rw[this]
   exact qZo n e v clock ps o w0 h0 hi hf
  | some p =>
   have:qF6 ⟨clock,ps.map (·.2)⟩ o=(⟨clock,ps.map (·.2)⟩,0,qCe p.2):=by unfold qF6;simp only;rw[hfind,hf];rfl
   rw[this]
   exact qW0 n e v clock ps o w0 h0 hi p hf
 have hM:qA5 ⟨clock,ps.map (·.2)⟩ o=(⟨clock,ps.map (·.2)⟩,1,[]):=by unfold qA5;rw[if_neg h1,if_neg h2,if_neg h3,if_neg h4,if_neg h5,if_neg h67.1,if_neg h67.2]
 rw[hM]
 exact(zCm e v clock ps o w h (by omega)).mono (λ_ _ h=>h.b)
def c0: Cfg:=⟨4,0,9,8,0,0,0,0,0,0,0,0,0,0,0,0,0,0,0,0⟩
def cz: Cfg:=⟨0,0,0,0,0,0,0,0,0,0,0,0,0,0,0,0,0,0,0,0⟩
def o1: OpM:=⟨1,7,0,0,0,c0,qAa⟩
def o2: OpM:=⟨2,7,3,0,0,cz,qAa⟩
def o3: OpM:=⟨3,0,5,0,0,cz,qAa⟩
def o4: OpM:=⟨2,7,5,0,0,cz,qAa⟩
def o5: OpM:=⟨4,7,0,0,0,cz,qAa⟩
theorem zA7(w:World): (qBs 32 #[(0,.int .i64 4),(2,.int .i64 9),(3,.int .i64 8)]).run Tryz.prog w=.ok (.value (.agg c0.cells.toArray)) w:=by kernel_rfl
theorem zDs(w:World): (qBs 34 #[(0,.int .i64 1),(1,.int .i64 7),(5,.agg c0.cells.toArray)]).run Tryz.prog w=.ok (.value (.agg o1.cells.toArray)) w:=by kernel_rfl
theorem zE5(w:World): (qBs 34 #[(0,.int .i64 2),(1,.int .i64 7),(2,.int .i64 3)]).run Tryz.prog w=.ok (.value (.agg o2.cells.toArray)) w:=by kernel_rfl
theorem zE0(w:World): (qBs 34 #[(0,.int .i64 3),(2,.int .i64 5)]).run Tryz.prog w=.ok (.value (.agg o3.cells.toArray)) w:=by kernel_rfl
theorem zEw(w:World): (qBs 34 #[(0,.int .i64 4),(1,.int .i64 7)]).run Tryz.prog w=.ok (.value (.agg o5.cells.toArray)) w:=by kernel_rfl
theorem qE7(ρ:Operand->Value)(dst:Option Tmp)(x:Array (Nat×Operand))(ty:TypeId)(pos:String)(after:Array Edge)(guard:Option (Nat×Bool)):
  execOp ρ { dst,op:=.build 32 x,type:=ty,pos,after,guard }=qBs 32 (x.map λ(i,y)=>(i,ρ y)):=rfl
theorem qE9(ρ:Operand->Value)(dst:Option Tmp)(x:Array (Nat×Operand))(ty:TypeId)(pos:String)(after:Array Edge)(guard:Option (Nat×Bool)):
  execOp ρ { dst,op:=.build 34 x,type:=ty,pos,after,guard }=qBs 34 (x.map λ(i,y)=>(i,ρ y)):=rfl
def qWa(ty:TypeId)(n:Nat)(ps:Array (Nat×Value)): Sem Next:=do pure (.value (<-Instr.buildSlice ty n ps))
theorem qFz(ρ:Operand->Value)(dst:Option Tmp)(n:Nat)(x:Array (Nat×Operand))(ty:TypeId)(pos:String)(after:Array Edge)(guard:Option (Nat×Bool)):
  execOp ρ { dst,op:=.buildSlice 22 n x,type:=ty,pos,after,guard }=qWa 22 n (x.map λ(i,y)=>(i,ρ y)):=rfl
theorem qCy(ρ:Operand->Value)(dst:Option Tmp)(x y:Operand)(ty:TypeId)(pos:String)(after:Array Edge)(guard:Option (Nat×Bool)):
  execOp ρ { dst,op:=.store 32 x y,type:=ty,pos,after,guard }=qCp 32 (ρ x) (ρ y):=rfl
theorem qHp(w:World)(zs:List Value)(cs:List Value)(hz:zs.length=20)(hc:cs.length=20)(h1:cs.toArray.all (·.oneCell')=true):
  (qCp 32 (.pointer (some ⟨w.heap.size,0,none⟩)) (.agg cs.toArray)).run Tryz.prog (w.alloc (.cells zs.toArray 32))=.ok .skip (w.alloc (.cells cs.toArray 32)):=by
 unfold qCp
 have ht:(w.alloc (.cells zs.toArray 32)).there w.heap.size 0 cs.toArray.size:=by
  intro j hj
  have hj':j<20:=by simpa[hc] using hj
  rw[Nat.zero_add,World.cell?_alloc_new,World.frozen?_alloc_new]
  simp[hz,hj']
 rw[Sem.run_bind,run_storeAt_mid _ w.heap.size 0 32 cs.toArray ht (by rw[qTb];simp[hc]) h1]
 have h2:=qEa cs [] zs (by omega)
 simp only[List.nil_append,List.length_nil]at h2
 rw[qGa,List.toList_toArray,h2]
 rfl
def opAt(ops:List OpM)(i:Nat): OpM:=ops.getD i ⟨0,0,0,0,0,⟨0,0,0,0,0,0,0,0,0,0,0,0,0,0,0,0,0,0,0,0⟩,qAa⟩
def qGx(cs:List Int)(i:Nat): Int:=cs.getD i 1
def qWi(w:World)(g:Nat)(cs:List Int): Prop:=∀(i:Nat),i<cs.length->w.cell? ⟨g,i*3,none⟩=some (.int .i64 (qGx cs i))
def qMe(ops:List OpM)(cs:List Int): Nat->Int
 | 0=>0
 | n+1=>if (opAt ops n).kind=3/\qGx cs n=0/\qMe ops cs n<(opAt ops n).a then(opAt ops n).a else qMe ops cs n
theorem qSk(ops:List OpM)(cs:List Int)(n:Nat): qMe ops cs (n+1)=if (opAt ops n).kind=3/\qGx cs n=0/\qMe ops cs n<(opAt ops n).a then(opAt ops n).a else qMe ops cs n:=rfl
def qVw: Cfg:=⟨0,0,0,0,0,0,0,0,0,0,0,0,0,0,0,0,0,0,0,0⟩
end
section
open Go.RowKit
def cfgA(c:Cfg): Cfg:={ qVw with kind:=c.kind }
def zAr(c:Cfg): Cfg:={ qVw with kind:=c.kind,lag:=c.lag,skew:=c.skew,cap:=c.cap }
def qY2(k:Nat)(c:Cfg): Cfg:=match k with
 | 1=>{ zAr c with k:=c.k,window:=c.window }
 | 2=>{ zAr c with bits:=c.bits,window:=c.window }
 | 3=>{ zAr c with rows:=c.rows,width:=c.width,panes:=c.panes,window:=c.window }
 | 4=>{ zAr c with degree:=c.degree,half:=c.half,mark:=c.mark }
 | _=>{ zAr c with degree:=c.degree,half:=c.half,mark:=c.mark,size:=c.size }
def cfgP(p:Nat)(d c:Cfg): Cfg:={ d with s00:=if 1<=p then c.s00 else 0,s01:=if 1<=p then c.s01 else 0,s10:=if 2<=p then c.s10 else 0,s11:=if 2<=p then c.s11 else 0,s20:=if 3<=p then c.s20 else 0,s21:=if 3<=p then c.s21 else 0 }
def qJs(k:Nat)(c:Cfg): Cfg:=cfgP (qBp k c).toNat (qY2 k c) c
theorem qWv(c:Cfg): qQl qVw.cells [0] [c.kind]=(cfgA c).cells:=rfl
theorem qRu(c:Cfg): qQl (cfgA c).cells [1,2,3] ([1,2,3].map c.num)=(zAr c).cells:=rfl
theorem qU3(k:Nat)(c:Cfg)(h1:1<=k)(h5:k<=5): qQl (zAr c).cells (qCd k) ((qCd k).map c.num)=(qY2 k c).cells:=by
 rcases five h1 h5 with e | e | e | e | e <;> subst e <;> rfl
theorem qUu(k p:Nat)(c:Cfg)(h1:1<=k)(h5:k<=5)(hp:p<=3): qQl (qY2 k c).cells (qBt p) ((qBt p).map c.num)=(cfgP p (qY2 k c) c).cells:=by
 have hp':p=0\/p=1\/p=2\/p=3:=by omega
 rcases five h1 h5 with e | e | e | e | e <;> subst e <;> rcases hp' with e | e | e | e <;> subst e <;> rfl
theorem qRk(k:Nat)(c:Cfg)(h1:1<=k)(h5:k<=5): qBp k (qY2 k c)=qBp k c:=by
 rcases five h1 h5 with e | e | e | e | e <;> subst e <;> rfl
theorem zBo(k p:Nat)(c:Cfg)(hp:qBp k c=p): cfgP p (qY2 k c) c=qJs k c:=by unfold qJs;rw[hp];rfl
theorem qX4(c:Cfg): c.cells.toArray.all (·.oneCell')=true:=by simp[Cfg.cells,Value.oneCell']
theorem qJg{w:World}{b:Nat}{zs:List Value}(c:Cfg)(h:Blk w b zs 32)(hz:zs.length=20): (qCp 32 (.pointer (some ⟨b,0,none⟩)) (.agg c.cells.toArray)).run Tryz.prog w=.ok .skip (w.setCells b 0 c.cells):=by
 unfold qCp
 have ht:w.there b 0 c.cells.toArray.size:=by
  intro j hj
  have hj':j<20:=hj
  rw[Nat.zero_add]
  exact⟨h.some (by omega),h.frozen j⟩
 rw[Sem.run_bind,run_storeAt_mid _ b 0 32 c.cells.toArray ht (by rw[qTb];rfl) (qX4 c),List.toList_toArray]
 rfl
theorem zE6: (Tryz.prog.info? 83).map (·.size)=some 6:=by kernel_rfl
theorem qTf(cs:List Value): ∀zs:List Value,zs.length=cs.length->over zs 0 cs=cs:=λzs h=>by
 unfold over
 rw[List.take_zero,List.nil_append,Nat.zero_add,List.drop_eq_nil_iff.2 (by omega),List.append_nil]
structure LC (w:World) (r cb:Nat) (d:Cfg) (tl:List Nat) (w':World):Prop where
 cfg:Blk w' cb d.cells 32
 rcf:Blk w' w.heap.size qVw.cells 32
 rkd:Blk w' (w.heap.size+1) [.nilFunc,.nilFunc,.nilFunc,.nilFunc,.nilFunc,.nilFunc] 83
 rd:RdRep w' r tl
 kp:Keeps (λi=>i=r) w w'
 cbe:cb=w.heap.size+1+1
 rl:r<w.heap.size
theorem LC.still{w:World}{r cb:Nat}{d:Cfg}{tl:List Nat}{w' w'':World}(h:LC w r cb d tl w')(hk:Keeps (λ_=>False) w' w''): LC w r cb d tl w'' :=
 ⟨h.cfg.keeps hk (λh=>h),h.rcf.keeps hk (λh=>h),h.rkd.keeps hk (λh=>h),h.rd.keeps hk (λh=>h),h.kp.trans hk (λ_ h _=>h.elim),h.cbe,h.rl⟩
theorem qJw{w:World}{r cb:Nat}{d d':Cfg}{os:List Nat}{ns:List Int}{tl:List Nat}{w':World}{pv:Value}{base:Nat}(h:LC w r cb d (qB2 ns++tl) w')(hp:w'.ownsRow base 170 1 pv (at' cb os).length (qC4 (at' cb os)))(hd:qQl d.cells os ns=d'.cells)(hlen:os.length=ns.length)(ho:∀o,o∈os->o<20)(hpv:∀i,pv.ownBlock=some i->w.heap.size+1+1<i)(hn:∀n,n∈ns->0<=n/\n<=9223372036854775807)(hl:os.length<=1000):
  Calls Tryz.prog 139 #[.pointer (some ⟨r,0,none⟩),pv] w' λe w''=>e=.returned (.tuple #[])/\LC w r cb d' tl w''/\Keeps (λi=>i=r\/i=cb) w' w'':=by
 have h1:=h.rl
 have h2:=h.cbe
 refine(qUp r cb os ns d.cells 32 pv base tl w' h.rd (by have:=hp;unfold at' at this ⊢;rw[List.length_map]at this;exact this) h.cfg hlen (λo hm=>ho o hm) (by omega) (λi hi=>by have:=hpv i hi;omega) hn hl).mono ?_
 rintro e w2 ⟨rfl,hr,hb,hk⟩
 rw[hd]at hb
 exact⟨rfl,⟨hb,h.rcf.keeps hk (by omega),h.rkd.keeps hk (by omega),hr,h.kp.trans hk (λi hi hlt=>by omega),h.cbe,h.rl⟩,hk⟩
attribute [local go_sem ↓] qAb qCy
attribute [local go_sem] qAg
theorem qL6(r:Nat)(c:Cfg)(k:Nat)(tl:List Nat)(w:World)(h:RdRep w r (qB2 (qBu k c)++tl))(hkd:c.kind=k)(h1:1<=k)(h5:k<=5)(p0:0<=qBp k c)(p3:qBp k c<=3)(hn:∀n,n∈qBu k c->0<=n/\n<=9223372036854775807)(hv:qA6 (qJs k c)=true):
  Calls Tryz.prog 136 #[.pointer (some ⟨r,0,none⟩)] w λe w'=>e=.returned (.tuple #[(qJs k c).val,.agg (qA7 k).toArray,.bool true])/\RdRep w' r tl/\Keeps (λi=>i=r) w w':=by
 have HP:=hide (show ∃n:Nat,qBp k c=n/\n<=3 from⟨(qBp k c).toNat,by omega,by omega⟩)
 obtain⟨pn,hpn,hpn3⟩:=uh HP
 have HPN:=hide hpn
 have HC2:=hide (show qBu k c=[c.kind]++([1,2,3].map c.num++((qCd k).map c.num++(qBt pn).map c.num)) by unfold qBu;rw[hpn,Int.toNat_natCast];rfl)
 have HN:=hide hn
 have HV:=hide hv
 have HKD:=hide hkd
 obtain⟨W,hW⟩:∃W,W=(((w.alloc (.cells qVw.cells.toArray 32)).alloc (.cells #[.nilFunc,.nilFunc,.nilFunc,.nilFunc,.nilFunc,.nilFunc] 83)).alloc (.cells qVw.cells.toArray 32)).alloc (.cells (qC4 (at' (w.heap.size+1+1) [0])).toArray 170):=⟨_,rfl⟩
 have hkW:Keeps (λ_=>False) w W:=by rw[hW];exact((((Keeps.refl _ _).alloc _).alloc _).alloc _).alloc _
 have HLC:=hide (show LC w r (w.heap.size+1+1) qVw (qB2 [c.kind]++(qB2 ([1,2,3].map c.num++((qCd k).map c.num++(qBt pn).map c.num))++tl)) W from
    ⟨by rw[hW];exact(Blk.newAt (by simp) _ _).alloc _,by rw[hW];exact(((Blk.new w _ _).alloc _).alloc _).alloc _,by rw[hW];exact((Blk.newAt (by simp) _ _).alloc _).alloc _,by
       have:=h.keeps hkW (λh=>h)
       rw[uh HC2,qAr,List.append_assoc]at this
       exact this,hkW.mono (λ_ _ h=>h.elim),rfl,h.blk.lt⟩)
 have HOW:=hide (show W.ownsRow (w.heap.size+1+1+1) 170 1 (.slice (some ⟨w.heap.size+1+1+1,0,none⟩) 1 1) (at' (w.heap.size+1+1) [0]).length (qC4 (at' (w.heap.size+1+1) [0])) by
    have hz:(((w.alloc (.cells qVw.cells.toArray 32)).alloc (.cells #[.nilFunc,.nilFunc,.nilFunc,.nilFunc,.nilFunc,.nilFunc] 83)).alloc (.cells qVw.cells.toArray 32)).heap.size=w.heap.size+1+1+1:=by simp
    have:=qDz (w:=((w.alloc (.cells qVw.cells.toArray 32)).alloc (.cells #[.nilFunc,.nilFunc,.nilFunc,.nilFunc,.nilFunc,.nilFunc] 83)).alloc (.cells qVw.cells.toArray 32)) (w':=W) (ps:=at' (w.heap.size+1+1) [0]) (n:=1) rfl (by omega) (by rw[hW];exact heap_alloc_new _ _)
    rw[hz]at this
    exact this)
 have HW0:=hide (show(((w.alloc (.cells #[.int .i64 0,.int .i64 0,.int .i64 0,.int .i64 0,.int .i64 0,.int .i64 0,.int .i64 0,.int .i64 0,.int .i64 0,.int .i64 0,.int .i64 0,.int .i64 0,.int .i64 0,.int .i64 0,.int .i64 0,.int .i64 0,.int .i64 0,.int .i64 0,.int .i64 0,.int .i64 0] 32)).alloc (.cells #[.nilFunc,.nilFunc,.nilFunc,.nilFunc,.nilFunc,.nilFunc] 83)).alloc (.cells #[.int .i64 0,.int .i64 0,.int .i64 0,.int .i64 0,.int .i64 0,.int .i64 0,.int .i64 0,.int .i64 0,.int .i64 0,.int .i64 0,.int .i64 0,.int .i64 0,.int .i64 0,.int .i64 0,.int .i64 0,.int .i64 0,.int .i64 0,.int .i64 0,.int .i64 0,.int .i64 0] 32)).alloc (.cells #[.pointer (some ⟨w.heap.size+1+1,0,none⟩)] 170)=W from hW.symm)
 clear hW hkW h hn hv hkd hpn p0 p3
 go_enter Tryz.func136,Tryz.ntmps136
 go_wp2_with fail
 rw[uh HW0]
 refine(qJw (d':=cfgA c) (uh HLC) (uh HOW) (qWv c) rfl (by simp) (λi hi=>by have:w.heap.size+1+1+1=i:=(by simpa[Value.ownBlock] using hi);omega) (λn hn=>uh HN n (by rw[uh HC2];exact List.mem_append.2 (.inl hn))) (by simp)).mono ?_
 rintro e w1 ⟨rfl,hl1,hk1⟩
 have HL1:=hide hl1
 clear hl1 hk1 HLC HOW HW0
 generalize hcb:w.heap.size+1+1=cb at *
 have HCB:=hide hcb
 have c0:w1.cell? ⟨cb,0,none⟩=some (.int .i64 c.kind):=(uh HL1).cfg.cell rfl
 clear hcb
 go_wp2_with fail
 refine(qGt c.kind k w1 (uh HKD) h1 h5).mono ?_
 rintro e w2 ⟨rfl,hk2⟩
 unfold qA7 fn
 have HT2:=hide (Blk.new w2 [.func (.func (qBq k)) #[] #[],.func (.func (qA0 k)) #[] #[],.func (.func (qA2 k)) #[] #[],.func (.func (qAq k)) #[] #[],.func (.func (qA1 k)) #[] #[],.func (.func (qA4 k)) #[] #[]] 83)
 have HL2:=hide ((uh HL1).still (hk2.alloc (.cells #[.func (.func (qBq k)) #[] #[],.func (.func (qA0 k)) #[] #[],.func (.func (qA2 k)) #[] #[],.func (.func (qAq k)) #[] #[],.func (.func (qA1 k)) #[] #[],.func (.func (qA4 k)) #[] #[]] 83)))
 have hlt2:cb<w2.heap.size:=((uh HL1).cfg.keeps hk2 (λh=>h)).lt
 have HKB:=hide (show cb+1<=w2.heap.size by omega)
 clear hk2 c0 HL1
 go_wp2_with fail
 generalize hkb:w2.heap.size=kb at *
 generalize w2.alloc (.cells #[.func (.func (qBq k)) #[] #[],.func (.func (qA0 k)) #[] #[],.func (.func (qA2 k)) #[] #[],.func (.func (qAq k)) #[] #[],.func (.func (qA1 k)) #[] #[],.func (.func (qA4 k)) #[] #[]] 83)=w3 at *
 clear hkb w2
 refine(qJe cb w3).mono ?_
 rintro e w4 ⟨pv,rfl,hown4,hk4⟩
 obtain⟨pa,pcap,hpv,_⟩:=qB4 hown4
 subst hpv
 have HLT4:=hide (show ∀i,(Value.slice pa (at' cb [1,2,3]).length pcap).ownBlock=some i->w3.heap.size<=i from λi hi=>(hown4.lt i hi).1)
 have HL4:=hide ((uh HL2).still hk4)
 have HT4:=hide ((uh HT2).keeps hk4 (λh=>h))
 have HZ4:=hide (show cb+1<w3.heap.size from by have:=(uh HT2).lt;omega)
 have HO4:=hide hown4
 clear hown4 hk4 HL2 HT2
 go_wp2_with fail
 refine(qJw (d':=zAr c) (ns:=[1,2,3].map c.num) (tl:=qB2 ((qCd k).map c.num++(qBt pn).map c.num)++tl) (by have:=uh HL4;rw[qAr,List.append_assoc]at this;exact this) (uh HO4) (qRu c) (by simp) (by simp) (λi hi=>by have h1:=uh HLT4 i hi;have h2:=uh HZ4;have h3:=uh HCB;omega) (λn hn=>uh HN n (by rw[uh HC2];exact List.mem_append.2 (.inr (List.mem_append.2 (.inl hn))))) (by simp)).mono ?_
 rintro e w5 ⟨rfl,hl5,hk5⟩
 have HL5:=hide hl5
 have HT5:=hide ((uh HT4).keeps hk5 (by have h1:=uh HKB;have h2:=hl5.rl;have h3:=uh HCB;omega))
 clear hl5 hk5 HL4 HT4 HO4 HLT4 HZ4
 have k1:w5.cell? ⟨kb,1,none⟩=some (.func (.func (qA0 k)) #[] #[]):=(uh HT5).cell rfl
 have hown1:=qQg k h1 h5
 go_wp2_with fail
 refine(qQm k cb w5 h1 h5).mono ?_
 rintro e w6 ⟨pv,rfl,hown6,hk6⟩
 obtain⟨pa6,pcap6,hpv,_⟩:=qB4 hown6
 subst hpv
 have HLT6:=hide (show ∀i,(Value.slice pa6 (at' cb (qCd k)).length pcap6).ownBlock=some i->w5.heap.size<=i from λi hi=>(hown6.lt i hi).1)
 have HL6:=hide ((uh HL5).still hk6)
 have HT6:=hide ((uh HT5).keeps hk6 (λh=>h))
 have HZ6:=hide (show cb<w5.heap.size from(uh HL5).cfg.lt)
 have HO6:=hide hown6
 clear hown6 hk6 HL5 HT5 k1 hown1
 go_wp2_with fail
 refine(qJw (d':=qY2 k c) (ns:=(qCd k).map c.num) (tl:=qB2 ((qBt pn).map c.num)++tl) (by have:=uh HL6;rw[qAr,List.append_assoc]at this;exact this) (by have:=uh HO6;exact this) (qU3 k c h1 h5) (by simp) (qQ4 k) (λi hi=>by have h1:=uh HLT6 i hi;have h2:=uh HZ6;have h3:=uh HCB;omega) (λn hn=>uh HN n (by rw[uh HC2];exact List.mem_append.2 (.inr (List.mem_append.2 (.inr (List.mem_append.2 (.inl hn))))))) (by unfold qCd;split <;> simp)).mono ?_
 rintro e w7 ⟨rfl,hl7,hk7⟩
 have HL7:=hide hl7
 have HT7:=hide ((uh HT6).keeps hk7 (by have h1:=uh HKB;have h2:=hl7.rl;have h3:=uh HCB;omega))
 clear hl7 hk7 HL6 HT6 HO6 HLT6 HZ6
 have k2:w7.cell? ⟨kb,2,none⟩=some (.func (.func (qA2 k)) #[] #[]):=(uh HT7).cell rfl
 obtain⟨hv7,hh7⟩:=qBj (uh HL7).cfg 20 rfl
 have hown2:=qPk k h1 h5
 have hmin:(if (3:Int)<(pn:Int) then(3:Int) else(pn:Int))=(pn:Int):=by rw[if_neg (by omega)]
 go_wp2_with fail
 refine(qPs k (qY2 k c) w7 h1 h5).mono ?_
 rintro e w8 ⟨rfl,hk8⟩
 rw[qRk k c h1 h5,uh HPN]
 have HL8:=hide ((uh HL7).still hk8)
 have HT8:=hide ((uh HT7).keeps hk8 (λh=>h))
 clear hk8 HL7 HT7 k2 hown2 hv7 hh7
 go_wp2_with fail
 refine(qP8 cb pn w8 hpn3).mono ?_
 rintro e w9 ⟨pv,rfl,hown9,hk9⟩
 obtain⟨pa9,pcap9,hpv,_⟩:=qB4 hown9
 subst hpv
 have HLT9:=hide (show ∀i,(Value.slice pa9 (at' cb (qBt pn)).length pcap9).ownBlock=some i->w8.heap.size<=i from λi hi=>(hown9.lt i hi).1)
 have HL9:=hide ((uh HL8).still hk9)
 have HT9:=hide ((uh HT8).keeps hk9 (λh=>h))
 have HZ9:=hide (show cb<w8.heap.size from(uh HL8).cfg.lt)
 have HO9:=hide hown9
 clear hown9 hk9 HL8 HT8 hmin
 go_wp2_with fail
 refine(qJw (d':=cfgP pn (qY2 k c) c) (ns:=(qBt pn).map c.num) (tl:=tl) (uh HL9) (by have:=uh HO9;exact this) (qUu k pn c h1 h5 hpn3) (by simp) (qP7 pn hpn3) (λi hi=>by have h1:=uh HLT9 i hi;have h2:=uh HZ9;have h3:=uh HCB;omega) (λn hn=>uh HN n (by rw[uh HC2];exact List.mem_append.2 (.inr (List.mem_append.2 (.inr (List.mem_append.2 (.inr hn))))))) (by simp[qBt];omega)).mono ?_
 rintro e wa ⟨rfl,hla,hka⟩
 rw[zBo k pn c (uh HPN)]at hla
 have HLA:=hide hla
 have HTA:=hide ((uh HT9).keeps hka (by have h1:=uh HKB;have h2:=hla.rl;have h3:=uh HCB;omega))
 clear hla hka HL9 HT9 HO9 HLT9 HZ9
 obtain⟨hva,hha⟩:=qBj (uh HLA).cfg 20 rfl
 have HKC:=hide (show(qJs k c).kind=k by have:=uh HKD;rcases five h1 h5 with e | e | e | e | e <;> subst e <;> exact this)
 obtain⟨k',hk'1,_,_,hcm,hft⟩:=qFu (uh HV)
 have hkk':k'=k:=by have:=uh HKC;omega
 subst hkk'
 go_wp2_with fail
 refine(qHs (qJs k' c) k' wa (uh HKC) h1 h5 hcm hft).mono ?_
 rintro e wb ⟨rfl,hkb⟩
 unfold qA7 fn
 have HLB:=hide ((uh HLA).still hkb)
 have HTB:=hide ((uh HTA).keeps hkb (λh=>h))
 clear hkb hva hha HLA HTA
 have t0:=(uh HTB).cell (i:=0) rfl
 have t1:=(uh HTB).cell (i:=1) rfl
 have t2:=(uh HTB).cell (i:=2) rfl
 have t3:=(uh HTB).cell (i:=3) rfl
 have t4:=(uh HTB).cell (i:=4) rfl
 have t5:=(uh HTB).cell (i:=5) rfl
 have tf:=(uh HTB).frozen
 have hKB:=uh HKB
 have hCB:=uh HCB
 have hRL:=(uh HLB).rl
 have HTC:=hide ((((((((uh HTB).setCell 0 (.func (.func (qBq k')) #[] #[])).setCell 1 (.func (.func (qA0 k')) #[] #[])).setCell 2 (.func (.func (qA2 k')) #[] #[])).setCell 3 (.func (.func (qAq k')) #[] #[])).setCell 4 (.func (.func (qA1 k')) #[] #[])).setCell 5 (.func (.func (qA4 k')) #[] #[])))
 have HKC2:=hide (show Keeps (λi=>i=kb) wb _ from(((((((Keeps.refl (λi=>i=kb) wb).setCell (p:=⟨kb,0,none⟩) (Or.inl rfl) (.func (.func (qBq k')) #[] #[])).setCell (p:=⟨kb,1,none⟩) (Or.inl rfl) (.func (.func (qA0 k')) #[] #[])).setCell (p:=⟨kb,2,none⟩) (Or.inl rfl) (.func (.func (qA2 k')) #[] #[])).setCell (p:=⟨kb,3,none⟩) (Or.inl rfl) (.func (.func (qAq k')) #[] #[])).setCell (p:=⟨kb,4,none⟩) (Or.inl rfl) (.func (.func (qA1 k')) #[] #[])).setCell (p:=⟨kb,5,none⟩) (Or.inl rfl) (.func (.func (qA4 k')) #[] #[])))
 go_wp2_with fail
 generalize(((((wb.setCell ⟨kb,0,none⟩ (.func (.func (qBq k')) #[] #[])).setCell ⟨kb,1,none⟩ (.func (.func (qA0 k')) #[] #[])).setCell ⟨kb,2,none⟩ (.func (.func (qA2 k')) #[] #[])).setCell ⟨kb,3,none⟩ (.func (.func (qAq k')) #[] #[])).setCell ⟨kb,4,none⟩ (.func (.func (qA1 k')) #[] #[])).setCell ⟨kb,5,none⟩ (.func (.func (qA4 k')) #[] #[])=wc at *
 clear t0 t1 t2 t3 t4 t5 tf
 have HKC3:=hide ((uh HKC2).drew)
 have HCC:=hide (show Blk wc.drew cb (qJs k' c).cells 32 from(uh HLB).cfg.keeps (uh HKC3) (show ¬(cb=kb) by omega))
 have HRC:=hide (show Blk wc.drew w.heap.size qVw.cells 32 from(uh HLB).rcf.keeps (uh HKC3) (show ¬(w.heap.size=kb) by omega))
 have HRK:=hide (show Blk wc.drew (w.heap.size+1) [.nilFunc,.nilFunc,.nilFunc,.nilFunc,.nilFunc,.nilFunc] 83 from(uh HLB).rkd.keeps (uh HKC3) (show ¬(w.heap.size+1=kb) by omega))
 have HRD:=hide (show RdRep wc.drew r tl from(uh HLB).rd.keeps (uh HKC3) (show ¬(r=kb) by omega))
 have HKP:=hide (show Keeps (λi=>i=r) w wc.drew from(uh HLB).kp.trans (uh HKC3) (λi hi hlt=>by have hi2:i=kb:=hi;omega))
 have HTD:=hide (show Blk wc.drew kb [.func (.func (qBq k')) #[] #[],.func (.func (qA0 k')) #[] #[],.func (.func (qA2 k')) #[] #[],.func (.func (qAq k')) #[] #[],.func (.func (qA1 k')) #[] #[],.func (.func (qA4 k')) #[] #[]] 83 from uh HTC)
 obtain⟨hva,hha⟩:=qBj (uh HCC) 20 rfl
 have hst:=qJg (qJs k' c) (uh HRC) rfl
 have hBD:=Blk.setCells (qJs k' c).cells 0 wc.drew _ (uh HRC) (by show 0+20<=20;omega)
 rw[qTf _ _ (by rfl)]at hBD
 have hKD:Keeps (λi=>i=w.heap.size) wc.drew (wc.drew.setCells w.heap.size 0 (qJs k' c).cells):=Keeps.setCells (M:=λi=>i=w.heap.size) (b:=w.heap.size) (Or.inl rfl) _ _ _ (Keeps.refl _ _)
 have HKD2:=hide hKD
 have HBD:=hide hBD
 have HTE:=hide ((uh HTD).keeps hKD (show ¬(kb=w.heap.size) by omega))
 have HRE:=hide ((uh HRK).keeps hKD (show ¬(w.heap.size+1=w.heap.size) by omega))
 generalize wc.drew.setCells w.heap.size 0 (qJs k' c).cells=wd at *
 clear hBD hKD
 have t0:wc.cell? ⟨kb,0,none⟩=some (.func (.func (qBq k')) #[] #[]):=(uh HTD).cell (i:=0) rfl
 have t1:wc.cell? ⟨kb,1,none⟩=some (.func (.func (qA0 k')) #[] #[]):=(uh HTD).cell (i:=1) rfl
 have t2:wc.cell? ⟨kb,2,none⟩=some (.func (.func (qA2 k')) #[] #[]):=(uh HTD).cell (i:=2) rfl
 have t3:wc.cell? ⟨kb,3,none⟩=some (.func (.func (qAq k')) #[] #[]):=(uh HTD).cell (i:=3) rfl
 have t4:wc.cell? ⟨kb,4,none⟩=some (.func (.func (qA1 k')) #[] #[]):=(uh HTD).cell (i:=4) rfl
 have t5:wc.cell? ⟨kb,5,none⟩=some (.func (.func (qA4 k')) #[] #[]):=(uh HTD).cell (i:=5) rfl
 have u0:=(uh HTE).cell (i:=0) rfl
 have u1:=(uh HTE).cell (i:=1) rfl
 have u2:=(uh HTE).cell (i:=2) rfl
 have u3:=(uh HTE).cell (i:=3) rfl
 have u4:=(uh HTE).cell (i:=4) rfl
 have u5:=(uh HTE).cell (i:=5) rfl
 have r0:=(uh HRE).cell (i:=0) rfl
 have r1:=(uh HRE).cell (i:=1) rfl
 have r2:=(uh HRE).cell (i:=2) rfl
 have r3:=(uh HRE).cell (i:=3) rfl
 have r4:=(uh HRE).cell (i:=4) rfl
 have r5:=(uh HRE).cell (i:=5) rfl
 have rf:=(uh HRE).frozen
 have HFK:=hide (((((((uh HRE).setCell 0 (.func (.func (qBq k')) #[] #[])).setCell 1 (.func (.func (qA0 k')) #[] #[])).setCell 2 (.func (.func (qA2 k')) #[] #[])).setCell 3 (.func (.func (qAq k')) #[] #[])).setCell 4 (.func (.func (qA1 k')) #[] #[])).setCell 5 (.func (.func (qA4 k')) #[] #[]))
 have HFP:=hide (show Keeps (λi=>i=w.heap.size+1) wd _ from(((((((Keeps.refl (λi=>i=w.heap.size+1) wd).setCell (p:=⟨w.heap.size+1,0,none⟩) (Or.inl rfl) (.func (.func (qBq k')) #[] #[])).setCell (p:=⟨w.heap.size+1,1,none⟩) (Or.inl rfl) (.func (.func (qA0 k')) #[] #[])).setCell (p:=⟨w.heap.size+1,2,none⟩) (Or.inl rfl) (.func (.func (qA2 k')) #[] #[])).setCell (p:=⟨w.heap.size+1,3,none⟩) (Or.inl rfl) (.func (.func (qAq k')) #[] #[])).setCell (p:=⟨w.heap.size+1,4,none⟩) (Or.inl rfl) (.func (.func (qA1 k')) #[] #[])).setCell (p:=⟨w.heap.size+1,5,none⟩) (Or.inl rfl) (.func (.func (qA4 k')) #[] #[])))
 go_region
 go_wp2
 clear t0 t1 t2 t3 t4 t5 u0 u1 u2 u3 u4 u5 r0 r1 r2 r3 r4 r5 rf hst hva hha
 generalize(((((wd.setCell ⟨w.heap.size+1,0,none⟩ (.func (.func (qBq k')) #[] #[])).setCell ⟨w.heap.size+1,1,none⟩ (.func (.func (qA0 k')) #[] #[])).setCell ⟨w.heap.size+1,2,none⟩ (.func (.func (qA2 k')) #[] #[])).setCell ⟨w.heap.size+1,3,none⟩ (.func (.func (qAq k')) #[] #[])).setCell ⟨w.heap.size+1,4,none⟩ (.func (.func (qA1 k')) #[] #[])).setCell ⟨w.heap.size+1,5,none⟩ (.func (.func (qA4 k')) #[] #[])=we at *
 have HFC:=hide ((uh HBD).keeps (uh HFP) (show ¬(w.heap.size=w.heap.size+1) by omega))
 have hrd1:=(uh HRD).keeps (uh HKD2) (show ¬(r=w.heap.size) by omega)
 have HFR:=hide (hrd1.keeps (uh HFP) (show ¬(r=w.heap.size+1) by omega))
 have HFQ:=hide (((uh HKP).trans (uh HKD2) (λi hi hlt=>by have hi2:i=w.heap.size:=hi;omega)).trans (uh HFP) (λi hi hlt=>by have hi2:i=w.heap.size+1:=hi;omega))
 have HLV:=hide (show(loadVar 32 ⟨w.heap.size,0,none⟩).run Tryz.prog we=.ok (.agg (qJs k' c).cells.toArray) we from run_loadVar_mid we w.heap.size 0 32 (qJs k' c).cells _ (λj v hv=>by rw[Nat.zero_add];exact(uh HFC).cell hv) Tryz.underlying32 rfl (by rw[qTb];rfl))
 have HLK:=hide (show(loadVar 83 ⟨w.heap.size+1,0,none⟩).run Tryz.prog we=.ok (.agg #[.func (.func (qBq k')) #[] #[],.func (.func (qA0 k')) #[] #[],.func (.func (qA2 k')) #[] #[],.func (.func (qAq k')) #[] #[],.func (.func (qA1 k')) #[] #[],.func (.func (qA4 k')) #[] #[]]) we from run_loadVar_mid we (w.heap.size+1) 0 83 [.func (.func (qBq k')) #[] #[],.func (.func (qA0 k')) #[] #[],.func (.func (qA2 k')) #[] #[],.func (.func (qAq k')) #[] #[],.func (.func (qA1 k')) #[] #[],.func (.func (qA4 k')) #[] #[]] _ (λj v hv=>by rw[Nat.zero_add];exact(uh HFK).cell hv) Tryz.underlying83 rfl (by rw[zE6];rfl))
 refine bodyPost_ret (v:=.tuple #[(qJs k' c).val,.agg #[.func (.func (qBq k')) #[] #[],.func (.func (qA0 k')) #[] #[],.func (.func (qA2 k')) #[] #[],.func (.func (qAq k')) #[] #[],.func (.func (qA1 k')) #[] #[],.func (.func (qA4 k')) #[] #[]],.bool true]) (by simp[results,Tryz.results136,asAddr,uh HLV,uh HLK];rfl) rfl ?_
 exact⟨rfl,uh HFR,uh HFQ⟩
end
section
open Go.RowKit
def qIx(m acc rel:Int)(nv:Value): List Value:=[.int .i64 m,.int .i64 acc,.int .i64 rel,nv]
theorem qSf(d r kn:Nat)(c:Cfg)(q e m acc rel:Int)(nv:Value)(tl:List Nat)(w:World)(hb:Blk w d (qC6 c 0 0) 201)(h:RdRep w r (qB2 [q,e]++tl))(hk:Blk w kn (qIx m acc rel nv) 184)(hdr:d≠r)(hkr:kn≠r)(hkd:kn≠d)(q0:0<=q)(q1:q<=rel)(e0:0<=e)(e1:e<=2305843009213693951)(r1:rel<=4611686018427387904)(hc1:q<rel\/e=0)(hc2:0<q\/rel<=e):
  Calls Tryz.prog 167 #[.pointer (some ⟨d,0,none⟩),.pointer (some ⟨r,0,none⟩),.pointer (some ⟨kn,0,none⟩)] w λx w'=>x=.returned (.tuple #[])/\Blk w' d (qC6 c q e) 201/\RdRep w' r tl/\Keeps (λi=>i=r\/i=d) w w':=by
 rw[qBk,qCo,List.append_assoc]at h
 have HB:=hide hb
 have HK:=hide hk
 have k2:w.cell? ⟨kn,2,none⟩=some (.int .i64 rel):=hk.cell rfl
 have HN:=hide (qDq r q 0 rel (enc e++tl) w h q0 (by omega) q0 q1)
 clear h hb hk
 go_enter Tryz.func167,Tryz.ntmps167
 go_wp2_with fail
 refine(uh HN).mono ?_
 rintro x w1 ⟨rfl,hr1,hk1⟩
 have HB1:=hide ((uh HB).keeps hk1 hdr)
 have HK1:=hide ((uh HK).keeps hk1 hkr)
 have hd20:w1.cell? ⟨d,20,none⟩=some (.int .i64 0):=(uh HB1).cell rfl
 have hf1:=(uh HB1).frozen
 have HB2:=hide (show Blk (w1.setCell ⟨d,20,none⟩ (.int .i64 q)) d (qC6 c q 0) 201 from(uh HB1).setCell 20 (.int .i64 q))
 have HR2:=hide (hr1.keeps ((Keeps.refl (λi=>i=d) w1).setCell (p:=⟨d,20,none⟩) (Or.inl rfl) (.int .i64 q)) (λh=>hdr h.symm))
 have HK2:=hide ((uh HK1).setCell_far (p:=⟨d,20,none⟩) (λh=>hkd h.symm) (.int .i64 q))
 have HP2:=hide (show Keeps (λi=>i=r\/i=d) w (w1.setCell ⟨d,20,none⟩ (.int .i64 q)) from(hk1.mono (λ_ _ h=>.inl h)).setCell (p:=⟨d,20,none⟩) (Or.inl (.inr rfl)) _)
 clear hr1 hk1 k2 HN HB HK
 go_wp2_with fail
 clear hd20 hf1
 generalize w1.setCell ⟨d,20,none⟩ (.int .i64 q)=w2 at *
 refine(qDq r e 0 2305843009213693951 tl w2 (uh HR2) e0 (by omega) e0 e1).mono ?_
 rintro x w3 ⟨rfl,hr3,hk3⟩
 have HB3:=hide ((uh HB2).keeps hk3 hdr)
 have HK3:=hide ((uh HK2).keeps hk3 hkr)
 have hd21:w3.cell? ⟨d,21,none⟩=some (.int .i64 0):=(uh HB3).cell rfl
 have hf3:=(uh HB3).frozen
 have HB4:=hide (show Blk (w3.setCell ⟨d,21,none⟩ (.int .i64 e)) d (qC6 c q e) 201 from(uh HB3).setCell 21 (.int .i64 e))
 have HR4:=hide (hr3.keeps ((Keeps.refl (λi=>i=d) w3).setCell (p:=⟨d,21,none⟩) (Or.inl rfl) (.int .i64 e)) (λh=>hdr h.symm))
 have HK4:=hide ((uh HK3).setCell_far (p:=⟨d,21,none⟩) (λh=>hkd h.symm) (.int .i64 e))
 have HP4:=hide (show Keeps (λi=>i=r\/i=d) w (w3.setCell ⟨d,21,none⟩ (.int .i64 e)) from((uh HP2).trans hk3 (λ_ h _=>.inl h)).setCell (p:=⟨d,21,none⟩) (Or.inl (.inr rfl)) _)
 clear hr3 hk3 HB2 HR2 HK2 HP2
 go_wp2_with fail
 clear hd21 hf3
 generalize w3.setCell ⟨d,21,none⟩ (.int .i64 e)=w4 at *
 have a1:w4.cell? ⟨d,20,none⟩=some (.int .i64 q):=(uh HB4).cell rfl
 have a2:w4.cell? ⟨d,21,none⟩=some (.int .i64 e):=(uh HB4).cell rfl
 have a3:w4.cell? ⟨kn,2,none⟩=some (.int .i64 rel):=(uh HK4).cell rfl
 have HC:=hide (show ∀W n,Calls Tryz.prog 135 #[.pointer (some ⟨r,0,none⟩),.bool true] (World.drewN W n) λe w''=>e=.returned (.tuple #[])/\w''=World.drewN W n from λW n=>qO9 r _)
 have hg1:(decide (q<rel)=true)\/(decide (q<rel)=false/\(e==0)=true):=by
  by_cases h:q<rel
  ·exact .inl (by simpa using h)
  ·refine .inr ⟨by simpa using h,?_⟩
   rcases hc1 with h2 | h2
   ·exact absurd h2 h
   ·simpa using h2
 have hg2:(decide (0<q)=true)\/(decide (0<q)=false/\decide (rel<=e)=true):=by
  by_cases h:0<q
  ·exact .inl (by simpa using h)
  ·refine .inr ⟨by simpa using h,?_⟩
   rcases hc2 with h2 | h2
   ·exact absurd h2 h
   ·simpa using h2
 clear hc1 hc2
 rcases hg1 with g1 | ⟨g1,g1'⟩
 all_goals
  go_quiet (first | (go_at_call 135;refine Calls.quiet_of_same (uh HC w4 _)))
  have b1:(w4.drewN nq).cell? ⟨d,20,none⟩=some (.int .i64 q):=a1
  have b2:(w4.drewN nq).cell? ⟨d,21,none⟩=some (.int .i64 e):=a2
  have b3:(w4.drewN nq).cell? ⟨kn,2,none⟩=some (.int .i64 rel):=a3
  have HB5:=hide (show Blk (w4.drewN nq) d (qC6 c q e) 201 from uh HB4)
  have HR5:=hide (show RdRep (w4.drewN nq) r tl from⟨(uh HR4).blk,(uh HR4).len⟩)
  have HP5:=hide ((uh HP4).trans (Keeps.drewN (λ_=>False) w4 nq) (λ_ h _=>h.elim))
  generalize w4.drewN nq=w5 at *
  go_wp2_with fail
  rcases hg2 with g2 | ⟨g2,g2'⟩
  all_goals
   go_quiet (first | (go_at_call 135;refine Calls.quiet_of_same (uh HC w5 _)))
   go_wp2
   go_end0
   exact⟨rfl,uh HB5,⟨(uh HR5).blk,(uh HR5).len⟩,(uh HP5).trans (Keeps.drewN (λ_=>False) w5 _) (λ_ h _=>h.elim)⟩
end
end Go.Proofs.YtahnliehdjncdabGreatDoor
