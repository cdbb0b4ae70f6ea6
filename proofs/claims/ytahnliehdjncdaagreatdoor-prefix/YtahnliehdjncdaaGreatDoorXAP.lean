import Derived.Deep.LoopGhost
import Derived.Test.YtahnliehdjncdaaGreatDoorXAO
set_option maxRecDepth 100000
set_option maxHeartbeats 16000000
namespace Go.Proofs.YtahnliehdjncdaaGreatDoor
section
open Go.RowKit
def qAz(c:Cfg)(o:Pa.Pn)(r:Nat): List Value:=c.cells++(o.cells++[.pointer (some ⟨r,0,none⟩)])
theorem qBp(c:Cfg)(o:Pa.Pn)(r:Nat)(i:Nat)(h:i<20): (qAz c o r)[i]?=c.cells[i]?:=by
 unfold qAz
 rw[List.getElem?_append_left (by simpa[Cfg.cells] using h)]
theorem qH9(c:Cfg)(o:Pa.Pn)(r:Nat)(j:Nat)(h:j<49): (qAz c o r)[20+j]?=o.cells[j]?:=by
 unfold qAz
 rw[List.getElem?_append_right (by simp[Cfg.cells]),List.getElem?_append_left (by rw[o.cells_length];simp[Cfg.cells];omega)]
 simp[Cfg.cells]
theorem qKk(c:Cfg)(o:Pa.Pn)(r:Nat): (qAz c o r)[69]?=some (.pointer (some ⟨r,0,none⟩)):=by
 unfold qAz
 rw[List.getElem?_append_right (by simp[Cfg.cells]),List.getElem?_append_right (by rw[o.cells_length];simp[Cfg.cells])]
 simp[Cfg.cells,o.cells_length]
def qBo(c:Cfg): Int:=c.window/c.panes
def qIs(c:Cfg)(p:Pa.Pn): Int:=(p.no+1)*qBo c-1
theorem qIo(d:Nat)(c:Cfg)(w:World)(h5:w.cell? ⟨d,5,none⟩=some (.int .i64 c.window))(h9:w.cell? ⟨d,9,none⟩=some (.int .i64 c.panes))(w0:0<=c.window)(w1:c.window<=1000)(p0:1<=c.panes):
  Calls Tryz.prog 217 #[.pointer (some ⟨d,0,none⟩)] w λe w'=>e=.returned (.int .i64 (qBo c))/\Keeps (λ_=>False) w w':=by
 have hq:c.window.tdiv c.panes=c.window/c.panes:=Int.tdiv_eq_ediv_of_nonneg w0
 have hb0:0<=c.window/c.panes:=Int.ediv_nonneg w0 (by omega)
 have hb1:c.window/c.panes<=c.window:=Int.ediv_le_self _ w0
 have hw:IntKind.i64.wrap (c.window.tdiv c.panes)=c.window/c.panes:=by rw[hq,IntKind.wrap_i64];omega
 have hz:(c.panes==0)=false:=by simp;omega
 have hz2:¬c.panes=0:=by omega
 have HL:=hide (show c.window/c.panes=qBo c from rfl)
 go_enter Tryz.func217,Tryz.ntmps217
 go_wp2
 go_quiet (fail)
 go_wp2
 go_ret
 exact⟨qA6 (uh HL),Keeps.drewN _ _ _⟩
end
section
open Go.RowKit
attribute [local go_sem ↓] Pa.execOp_loadP Pa.execOp_storeP Pa.execOp_bsP
attribute [local go_sem] Pa.run_loadP Pa.run_bsP qAb qAc qAm qAn qAg qAk
structure Cfg.paned (c:Cfg):Prop where
 w0:1<=c.window
 w1:c.window<=1000
 p0:1<=c.panes
 p1:c.panes<=8
def OkP(c:Cfg)(p:Pa.Pn): Prop:=0<=p.no/\p.no<=4611686018427387904/\0<=(p.no+1)*qBo c/\(p.no+1)*qBo c<=4611686018427389000
theorem qIz(d:Nat)(c:Cfg)(p:Pa.Pn)(w:World)(h5:w.cell? ⟨d,5,none⟩=some (.int .i64 c.window))(h9:w.cell? ⟨d,9,none⟩=some (.int .i64 c.panes))(hc:c.paned)(hp:OkP c p):
  Calls Tryz.prog 215 #[.pointer (some ⟨d,0,none⟩),.agg p.cells.toArray] w λe w'=>e=.returned (.int .i64 (qIs c p))/\Keeps (λ_=>False) w w':=by
 obtain⟨W,hW⟩:∃W,W=w.alloc (.cells p.cells.toArray 234):=⟨_,rfl⟩
 have HK:=hide (show Keeps (λ_=>False) w W by rw[hW];exact(Keeps.refl _ _).alloc _)
 have hx0:W.cell? ⟨w.heap.size,0,none⟩=some (.int .i64 p.no):=by rw[hW];exact(Blk.new w p.cells 234).cell rfl
 have g5:W.cell? ⟨d,5,none⟩=some (.int .i64 c.window):=(uh HK).cell h5 (λh=>h)
 have g9:W.cell? ⟨d,9,none⟩=some (.int .i64 c.panes):=(uh HK).cell h9 (λh=>h)
 have HW:=hide hW
 obtain⟨n0,n1,b0,b1⟩:=hp
 have HL:=hide (show(p.no+1)*qBo c-1=qIs c p from rfl)
 have HLEN:=hide (λW' h5' h9'=>qIo d c W' h5' h9' (by have:=hc.w0;omega) hc.w1 hc.p0)
 generalize qBo c=L at *
 have hw1:IntKind.i64.wrap (p.no+1)=p.no+1:=by rw[IntKind.wrap_i64];omega
 have hw2:IntKind.i64.wrap ((p.no+1)*L)=(p.no+1)*L:=by rw[IntKind.wrap_i64];omega
 have hw3:IntKind.i64.wrap ((p.no+1)*L-1)=(p.no+1)*L-1:=by rw[IntKind.wrap_i64];omega
 clear hW h5 h9 hc
 go_enter Tryz.func215,Tryz.ntmps215
 go_wp2_with fail
 rw[show w.alloc (.cells p.cells.toArray 234)=W from(uh HW).symm]
 generalize hpb:w.heap.size=pb at *
 go_region_held3 (λw'=>w'.cell? ⟨pb,0,none⟩=some (.int .i64 p.no)/\w'.cell? ⟨d,5,none⟩=some (.int .i64 c.window)/\w'.cell? ⟨d,9,none⟩=some (.int .i64 c.panes))
  (first | (go_split_ands;exact⟨by assumption,by assumption,by assumption⟩) | (go_split_ands;exact⟨hka.cell (by assumption) (λh=>h),hka.cell (by assumption) (λh=>h),hka.cell (by assumption) (λh=>h)⟩))
  (first | (go_at_call 217;refine(uh HLEN _ (by first | assumption | simpa using g5) (by first | assumption | simpa using g9)).mono ?_;rintro e W1 ⟨rfl,hka⟩))
 have HK1:=hide ((uh HK).drew.then hka)
 go_wp2
 go_ret
 exact⟨qA6 (uh HL),uh HK1⟩
theorem qKb(p:Pa.Pn)(w:World): ∃W,(Pa.storeP 234 (.pointer (some ⟨w.heap.size,0,none⟩)) (.agg p.cells.toArray)).run Tryz.prog (w.alloc (.cells #[.int .i64 0,.int .i64 0,.int .i64 0,.int .i64 0,.int .i64 0,.int .i64 0,.int .i64 0,.int .i64 0,.int .i64 0,.int .i64 0,.int .i64 0,.int .i64 0,.int .i64 0,.int .i64 0,.int .i64 0,.int .i64 0,.int .i64 0,.int .i64 0,.int .i64 0,.int .i64 0,.int .i64 0,.int .i64 0,.int .i64 0,.int .i64 0,.int .i64 0,.int .i64 0,.int .i64 0,.int .i64 0,.int .i64 0,.int .i64 0,.int .i64 0,.int .i64 0,.int .i64 0,.int .i64 0,.int .i64 0,.int .i64 0,.int .i64 0,.int .i64 0,.int .i64 0,.int .i64 0,.int .i64 0,.int .i64 0,.int .i64 0,.int .i64 0,.int .i64 0,.int .i64 0,.int .i64 0,.int .i64 0,.int .i64 0] 234))=.ok .skip W/\Blk W w.heap.size p.cells 234/\Keeps (λ_=>False) w W:=by
 have hb:Blk (w.alloc (.cells #[.int .i64 0,.int .i64 0,.int .i64 0,.int .i64 0,.int .i64 0,.int .i64 0,.int .i64 0,.int .i64 0,.int .i64 0,.int .i64 0,.int .i64 0,.int .i64 0,.int .i64 0,.int .i64 0,.int .i64 0,.int .i64 0,.int .i64 0,.int .i64 0,.int .i64 0,.int .i64 0,.int .i64 0,.int .i64 0,.int .i64 0,.int .i64 0,.int .i64 0,.int .i64 0,.int .i64 0,.int .i64 0,.int .i64 0,.int .i64 0,.int .i64 0,.int .i64 0,.int .i64 0,.int .i64 0,.int .i64 0,.int .i64 0,.int .i64 0,.int .i64 0,.int .i64 0,.int .i64 0,.int .i64 0,.int .i64 0,.int .i64 0,.int .i64 0,.int .i64 0,.int .i64 0,.int .i64 0,.int .i64 0,.int .i64 0] 234)) w.heap.size (List.replicate 49 (.int .i64 0)) 234:=Blk.new w (List.replicate 49 (.int .i64 0)) _
 refine⟨_,Pa.run_storeP _ w.heap.size 0 p.cells p.cells_length (λj hj=>⟨hb.some (by simpa using hj),hb.frozen _⟩) p.one,?_,?_⟩
 ·have:=Blk.setCells p.cells 0 _ _ hb (by rw[p.cells_length];simp)
  have e:over (List.replicate 49 (Value.int .i64 0)) 0 p.cells=p.cells:=by
   unfold over
   rw[p.cells_length,List.drop_eq_nil_of_le (by simp)]
   simp
  rw[e]at this
  exact this
 ·exact Keeps.setCells (Or.inr (Nat.le_refl _)) _ _ _ ((Keeps.refl (λ_=>False) w).alloc _)
theorem qVk(d q:Nat)(og:Option Nat)(l:List Pa.Pn)(i:Nat)(w:World)(h:Pa.RowRep w d q og l)(hi:i<l.length):
  Calls Tryz.prog 251 #[.pointer (some ⟨q,0,none⟩),.int .i64 i] w λe w'=>e=.returned (.agg (Pa.pnAt l i).cells.toArray)/\Keeps (λ_=>False) w w':=by
 cases og with
 | none=>obtain⟨hl,hb⟩:=h;subst hl;simp at hi
 | some g =>
  obtain⟨hne,cap,hb,hr⟩:=h
  have hq1:w.cell? ⟨q,1,none⟩=some (.slice (some ⟨g,0,none⟩) l.length cap):=hb.cell rfl
  have hlq:=hb.lt
  have hlg:=hr.lt
  have hrg:=qAo (hr.range i hi)
  rw[Pa.Pn.cells_length]at hrg
  have hbv:qAq w g (i*49) 49=.agg (Pa.pnAt l i).cells.toArray:=by unfold qAq;rw[hrg.1]
  have hbh:qAw w g (i*49) 49=true:=hrg.2
  obtain⟨x,hx⟩:∃x,Pa.pnAt l i=x:=⟨_,rfl⟩
  rw[hx]at hbv ⊢
  generalize l.length=n at *
  have hi0:(0:Int)<=(i:Int):=by omega
  have hin:(i:Int)<(n:Int):=by omega
  have hgne:g≠w.heap.size:=by omega
  obtain⟨W2,hst,hb2,hk2⟩:=qKb x w
  have HB2:=hide hb2
  have HK2:=hide hk2
  clear hb hr hrg hx hb2 hk2
  go_enter Tryz.func251,Tryz.ntmps251
  go_wp2
  have hlv:(loadVar 234 ⟨w.heap.size,0,none⟩).run Tryz.prog W2=.ok (.agg x.cells.toArray) W2 :=
   run_loadVar_mid W2 w.heap.size 0 234 x.cells _ (λj v hv=>by rw[Nat.zero_add];exact(uh HB2).cell hv) Tryz.underlying234 rfl (by rw[Pa.sizeP,x.cells_length])
  refine bodyPost_ret (v:=.agg x.cells.toArray) ?_ rfl ⟨rfl,uh HK2⟩
  simp[results,Tryz.results251,asAddr,hlv]
def qEt(c:Cfg)(l:List Pa.Pn)(t:Int): Nat:=(l.takeWhile (λp=>decide (qIs c p<=t))).length
theorem qT6(c:Cfg)(l:List Pa.Pn)(t:Int): qEt c l t<=l.length:=(List.takeWhile_prefix _).length_le
theorem qI5(d q:Nat)(og:Option Nat)(c:Cfg)(l:List Pa.Pn)(t:Int)(w:World)(h:Pa.RowRep w d q og l)(hl:l.length<=4398046511104)(h5:w.cell? ⟨d,5,none⟩=some (.int .i64 c.window))(h9:w.cell? ⟨d,9,none⟩=some (.int .i64 c.panes))(hc:c.paned)(hp:∀p∈l,OkP c p):
  Calls Tryz.prog 219 #[.pointer (some ⟨q,0,none⟩),.int .i64 t] w λe w'=>e=.returned (.int .i64 (qEt c l t))/\Keeps (λ_=>False) w w':=by
 cases og with
 | none =>
  obtain⟨hl,hb⟩:=h
  have hq1:w.cell? ⟨q,1,none⟩=some (.slice none 0 0):=hb.cell rfl
  subst hl
  clear hb
  go_enter Tryz.func219,Tryz.ntmps219
  go_wp2
  go_loopw [5] (λi wr=>i=.int .i64 0/\wr=w) (λ_ _=>0)
  case atStart=>exact⟨rfl,rfl⟩
  case round =>
   obtain⟨rfl,rfl⟩:=hrel
   go_wp2
   go_quiet (fail)
   go_wp2
   go_ret
   exact⟨rfl,Keeps.drewN _ _ _⟩
 | some g =>
  obtain⟨hne,cap,hb,hr⟩:=h
  have HB:=hide hb
  have HR:=hide hr
  have HP:=hide hp
  have HC:=hide hc
  have hltg:=hr.lt
  clear hb hr hp hc
  generalize hn:l.length=n at *
  have HN:=hide hn
  clear hn
  go_enter Tryz.func219,Tryz.ntmps219
  go_wp2
  go_loopw [5] (λi wr=>∃k:Nat,i=.int .i64 k/\k<=n/\Hid (Keeps (λ_=>False) w wr)/\Hid (qEt c l t=k+qEt c (l.drop k) t)) (λi _=>n-(intOf i).toNat)
  case atStart=>exact⟨0,rfl,Nat.zero_le _,Keeps.refl _ _,by show _=_;simp⟩
  case round =>
   obtain⟨k,rfl,hk,HK,HE⟩:=hrel
   have hq1:wr.cell? ⟨q,1,none⟩=some (.slice (some ⟨g,0,none⟩) n cap):=(uh HK).cell ((uh HB).cell rfl) (λh=>h)
   have hq0:wr.cell? ⟨q,0,none⟩=some (.func (.func 215) #[.pointer (some ⟨d,0,none⟩)] #[]):=(uh HK).cell ((uh HB).cell rfl) (λh=>h)
   have g5:wr.cell? ⟨d,5,none⟩=some (.int .i64 c.window):=(uh HK).cell h5 (λh=>h)
   have g9:wr.cell? ⟨d,9,none⟩=some (.int .i64 c.panes):=(uh HK).cell h9 (λh=>h)
   by_cases hlt:k<n
   ·have hkl:k<l.length:=by rw[uh HN];exact hlt
    have hrg:=qAo (((uh HR).keeps (uh HK) (λh=>h)).range k hkl)
    rw[Pa.Pn.cells_length]at hrg
    have hbv:qAq wr g (k*49) 49=.agg (Pa.pnAt l k).cells.toArray:=by unfold qAq;rw[hrg.1]
    have hbh:qAw wr g (k*49) 49=true:=hrg.2
    have hgr:g<wr.heap.size:=Nat.lt_of_lt_of_le hltg (uh HK).size
    clear hrg
    have hk0:(0:Int)<=(k:Int):=by omega
    have hkn:(k:Int)<(n:Int):=by omega
    have HD:=hide (Pa.pnAt_drop l k hkl)
    have HOK:=hide (uh HP (Pa.pnAt l k) (by
         have:Pa.pnAt l k=l[k]:=by simp[Pa.pnAt,List.getD_eq_getElem?_getD,List.getElem?_eq_getElem hkl]
         rw[this];exact List.getElem_mem hkl))
    generalize Pa.pnAt l k=x at *
    clear hkl
    have HLT:=hide (λW h5' h9'=>qIz d c x W h5' h9' (uh HC) (uh HOK))
    obtain⟨lt,hlast⟩:∃lt,qIs c x=lt:=⟨_,rfl⟩
    have HLA:=hide hlast
    clear hlast
    by_cases ht:lt<=t
    all_goals
     have HT:=hide ht
     go_wp2
     go_region_held3 (λw'=>w'.cell? ⟨q,0,none⟩=some (.func (.func 215) #[.pointer (some ⟨d,0,none⟩)] #[])/\w'.cell? ⟨q,1,none⟩=some (.slice (some ⟨g,0,none⟩) n cap) /\
        qAq w' g (k*49) 49=.agg x.cells.toArray/\qAw w' g (k*49) 49=true/\w'.cell? ⟨d,5,none⟩=some (.int .i64 c.window)/\w'.cell? ⟨d,9,none⟩=some (.int .i64 c.panes)) (first | (go_split_ands;exact⟨by assumption,by assumption,by assumption,by assumption,by assumption,by assumption⟩) | (go_split_ands;exact⟨hka.cell (by assumption) (λh=>h),hka.cell (by assumption) (λh=>h),(qDi hka (by first | exact hgr | simpa using hgr)).1.trans (by assumption),(qDi hka (by first | exact hgr | simpa using hgr)).2.trans (by assumption),hka.cell (by assumption) (λh=>h),hka.cell (by assumption) (λh=>h)⟩))
      (first | (go_at_call 215;refine(uh HLT _ (by first | assumption | simpa using g5) (by first | assumption | simpa using g9)).mono ?_;rintro e W1 ⟨rfl,hka⟩;rw[uh HLA]))
     have HK1:=hide (((Keeps.refl (λ_=>False) wr).drew).then hka)
     clear hka
    ·go_wp2
     go_roundw
     case rel =>
      refine⟨k+1,by go_num,by omega,(uh HK).then (uh HK1),?_⟩
      show _=_
      rw[uh HE,uh HD]
      unfold qEt
      rw[List.takeWhile_cons,if_pos (by simpa[uh HLA] using uh HT)]
      simp;omega
     case measure=>simp[intOf];omega
    ·go_wp2
     go_ret
     refine⟨?_,(uh HK).then (uh HK1)⟩
     rw[uh HE,uh HD]
     unfold qEt
     rw[List.takeWhile_cons,if_neg (by simpa[uh HLA] using uh HT)]
     simp
   ·have hd:decide ((k:Int)<(n:Int))=false:=by simp;omega
    go_wp2
    go_quiet (fail)
    go_wp2
    go_ret
    refine⟨?_,(uh HK).then (Keeps.drewN _ _ _)⟩
    rw[uh HE,List.drop_eq_nil_of_le (by rw[uh HN];omega)]
    simp[qEt]
end
end Go.Proofs.YtahnliehdjncdaaGreatDoor
