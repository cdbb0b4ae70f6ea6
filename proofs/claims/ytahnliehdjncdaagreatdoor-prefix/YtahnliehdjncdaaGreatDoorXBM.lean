import Derived.Test.YtahnliehdjncdaaGreatDoorXBK
import Derived.Test.YtahnliehdjncdaaGreatDoorXBD
import Derived.Test.YtahnliehdjncdaaGreatDoorXBL
import Derived.Test.YtahnliehdjncdaaGreatDoorXBE
set_option maxRecDepth 100000
set_option maxHeartbeats 16000000
namespace Go.Proofs.YtahnliehdjncdaaGreatDoor
section
open Go.RowKit
def qI9: Cfg:=⟨0,0,0,0,0,0,0,0,0,0,0,0,0,0,0,0,0,0,0,0⟩
def zAc(c:Cfg): Cfg:={ qI9 with kind:=c.kind }
def qY0(c:Cfg): Cfg:={ qI9 with kind:=c.kind,lag:=c.lag,skew:=c.skew,cap:=c.cap }
def qV6(k:Nat)(c:Cfg): Cfg:=match k with
 | 1=>{ qY0 c with k:=c.k,window:=c.window }
 | 2=>{ qY0 c with bits:=c.bits,window:=c.window }
 | 3=>{ qY0 c with rows:=c.rows,width:=c.width,panes:=c.panes,window:=c.window }
 | 4=>{ qY0 c with degree:=c.degree,half:=c.half,mark:=c.mark }
 | _=>{ qY0 c with degree:=c.degree,half:=c.half,mark:=c.mark,size:=c.size }
def cfgP(p:Nat)(d c:Cfg): Cfg:={ d with s00:=if 1<=p then c.s00 else 0,s01:=if 1<=p then c.s01 else 0,s10:=if 2<=p then c.s10 else 0,s11:=if 2<=p then c.s11 else 0,s20:=if 3<=p then c.s20 else 0,s21:=if 3<=p then c.s21 else 0 }
theorem qYl(c:Cfg): qJe qI9.cells [0] [c.kind]=(zAc c).cells:=rfl
theorem qSk(c:Cfg): qJe (zAc c).cells [1,2,3] ([1,2,3].map c.num)=(qY0 c).cells:=rfl
theorem qU1(k:Nat)(c:Cfg)(h1:1<=k)(h5:k<=5): qJe (qY0 c).cells (qB2 k) ((qB2 k).map c.num)=(qV6 k c).cells:=by
 rcases five h1 h5 with e | e | e | e | e <;> subst e <;> rfl
theorem qVm(k p:Nat)(c:Cfg)(h1:1<=k)(h5:k<=5)(hp:p<=3): qJe (qV6 k c).cells (qBr p) ((qBr p).map c.num)=(cfgP p (qV6 k c) c).cells:=by
 have hp':p=0\/p=1\/p=2\/p=3:=by omega
 rcases five h1 h5 with e | e | e | e | e <;> subst e <;> rcases hp' with e | e | e | e <;> subst e <;> rfl
theorem qRc(k:Nat)(c:Cfg)(h1:1<=k)(h5:k<=5): qBi k (qV6 k c)=qBi k c:=by
 rcases five h1 h5 with e | e | e | e | e <;> subst e <;> rfl
theorem zCq(c:Cfg): c.cells.toArray.all (·.oneCell')=true:=by simp[Cfg.cells,Value.oneCell']
theorem qEe{w:World}{b:Nat}{zs:List Value}(c:Cfg)(h:Blk w b zs 38)(hz:zs.length=20): (qC7 38 (.pointer (some ⟨b,0,none⟩)) (.agg c.cells.toArray)).run Tryz.prog w=.ok .skip (w.setCells b 0 c.cells):=by
 unfold qC7
 have ht:w.there b 0 c.cells.toArray.size:=by
  intro j hj
  have hj':j<20:=hj
  rw[Nat.zero_add]
  exact⟨h.some (by omega),h.frozen j⟩
 rw[Sem.run_bind,run_storeAt_mid _ b 0 38 c.cells.toArray ht (by rw[qL7];rfl) (zCq c),List.toList_toArray]
 rfl
theorem qWe: (Tryz.prog.info? 82).map (·.size)=some 6:=by kernel_rfl
theorem qHy(cs:List Value): ∀zs:List Value,zs.length=cs.length->over zs 0 cs=cs:=λzs h=>by
 unfold over
 rw[List.take_zero,List.nil_append,Nat.zero_add,List.drop_eq_nil_iff.2 (by omega),List.append_nil]
def qEn(q:Int)(k:Nat)(a b d:List Int): Cfg :=
 ⟨q,a.getD 0 0,a.getD 1 0,a.getD 2 0,if k=1 then b.getD 0 0 else 0,if k=3 then b.getD 3 0 else b.getD 1 0,if k=2 then b.getD 0 0 else 0,if k=3 then b.getD 0 0 else 0,if k=3 then b.getD 1 0 else 0,if k=3 then b.getD 2 0 else 0,if k=5 then b.getD 3 0 else 0,b.getD 0 0,b.getD 1 0,b.getD 2 0,d.getD 0 0,d.getD 1 0,d.getD 2 0,d.getD 3 0,d.getD 4 0,d.getD 5 0⟩
theorem qZv{q:Int}{k:Nat}{a b d:List Int}(h:a.length=3): [1,2,3].map (qEn q k a b d).num=a:=by
 match a,h with
 | [x,y,z],_=>rfl
theorem qY4{q:Int}{k:Nat}{a b d:List Int}(h1:1<=k)(h5:k<=5)(h:b.length=(qB2 k).length): (qB2 k).map (qEn q k a b d).num=b:=by
 rcases five h1 h5 with e | e | e | e | e <;> subst e
 ·match b,h with
  | [x,y],_=>rfl
 ·match b,h with
  | [x,y],_=>rfl
 ·match b,h with
  | [x,y,z,u],_=>rfl
 ·match b,h with
  | [x,y,z],_=>rfl
 ·match b,h with
  | [x,y,z,u],_=>rfl
theorem qZn{q:Int}{k p:Nat}{a b d:List Int}(hp:p<=3)(h:d.length=2*p): (qBr p).map (qEn q k a b d).num=d:=by
 have:p=0\/p=1\/p=2\/p=3:=by omega
 rcases this with e | e | e | e <;> subst e
 ·match d,h with
  | [],_=>rfl
 ·match d,h with
  | [x,y],_=>rfl
 ·match d,h with
  | [x,y,z,u],_=>rfl
 ·match d,h with
  | [x,y,z,u,v,t],_=>rfl
theorem qFn(p:Nat): (qBr p).length=2*p:=by unfold qBr;rw[List.length_map,List.length_range]
structure LCS (w:World) (r cb:Nat) (d:Cfg) (st:Option (List Nat)) (w':World):Prop where
 cfg:Blk w' cb d.cells 38
 rcf:Blk w' w.heap.size qI9.cells 38
 rkd:Blk w' (w.heap.size+1) [.nilFunc,.nilFunc,.nilFunc,.nilFunc,.nilFunc,.nilFunc] 82
 rd:RdS w' r st
 kp:Keeps (λi=>i=r) w w'
 cbe:cb=w.heap.size+1+1
 rl:r<w.heap.size
theorem LCS.still{w:World}{r cb:Nat}{d:Cfg}{st:Option (List Nat)}{w' w'':World}(h:LCS w r cb d st w')(hk:Keeps (λ_=>False) w' w''): LCS w r cb d st w'' :=
 ⟨h.cfg.keeps hk (λh=>h),h.rcf.keeps hk (λh=>h),h.rkd.keeps hk (λh=>h),h.rd.keeps hk (λh=>h),h.kp.trans hk (λ_ h _=>h.elim),h.cbe,h.rl⟩
theorem qGd{w:World}{r cb:Nat}{d d':Cfg}{os:List Nat}{st:Option (List Nat)}{w':World}{pv:Value}{base:Nat}(h:LCS w r cb d st w')(hp:w'.ownsRow base 167 1 pv (at' cb os).length (qCs (at' cb os)))(hd:qJe d.cells os (qAu os.length st).1=d'.cells)(ho:∀o,o∈os->o<20)(hpv:∀i,pv.ownBlock=some i->w.heap.size+1+1<i)(hl:os.length<=1000):
  Calls Tryz.prog 152 #[.pointer (some ⟨r,0,none⟩),pv] w' λe w''=>e=.returned (.tuple #[])/\LCS w r cb d' (qAu os.length st).2 w''/\Keeps (λi=>i=r\/i=cb) w' w'':=by
 have h1:=h.rl
 have h2:=h.cbe
 refine(qK0 r cb os d.cells 38 pv base st w' h.rd (by have:=hp;unfold at' at this ⊢;rw[List.length_map]at this;exact this) h.cfg (λo hm=>ho o hm) (by omega) (λi hi=>by have:=hpv i hi;omega) hl).mono ?_
 rintro e w2 ⟨rfl,hr,hb,hk⟩
 rw[hd]at hb
 exact⟨rfl,⟨hb,h.rcf.keeps hk (by omega),h.rkd.keeps hk (by omega),hr,h.kp.trans hk (λi hi hlt=>by omega),h.cbe,h.rl⟩,hk⟩
structure CfgD where
 c:Cfg
 k:Nat
 st:Option (List Nat)
 good:Bool
def qTq(c:Cfg)(k:Nat): Nat:=if (3:Int)<qBi k c then 3 else(qBi k c).toNat
def qU9(q:Int)(k:Nat)(st:Option (List Nat)): CfgD :=
 let a:=qAu 3 st
 let b:=qAu (qB2 k).length a.2
 let p:=qTq (qEn q k a.1 b.1 []) k
 let d:=qAu (2*p) b.2
 let c:=qEn q k a.1 b.1 d.1
 ⟨cfgP p (qV6 k c) c,k,d.2,qBg (cfgP p (qV6 k c) c)⟩
def qK9(st:Option (List Nat)): CfgD :=
 let q:=qAr 0 9223372036854775807 st
 if inB q.1 1 5 then qU9 q.1 q.1.toNat q.2 else⟨zAc (qEn q.1 0 [] [] []),0,q.2,false⟩
end
end Go.Proofs.YtahnliehdjncdaaGreatDoor
