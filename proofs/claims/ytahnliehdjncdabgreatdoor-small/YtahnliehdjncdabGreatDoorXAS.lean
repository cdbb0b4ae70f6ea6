import Derived.Test.YtahnliehdjncdabGreatDoorXAR
import Derived.Deep.LoopGhost
import Derived.Deep.QuietTactic
import Derived.Deep.RegionHeld3
set_option maxRecDepth 100000
set_option maxHeartbeats 16000000
namespace Go.Proofs.YtahnliehdjncdabGreatDoor
section
open Go.RowKit
attribute [local go_sem ↓] Pa.execOp_loadP Pa.execOp_storeP Pa.execOp_bsP
attribute [local go_sem] Pa.run_loadP Pa.run_bsP qAd qAc qAo qAn qAf qAi
structure Cfg.paned (c:Cfg):Prop where
 w0:1<=c.window
 w1:c.window<=1000
 p0:1<=c.panes
 p1:c.panes<=8
def OkP(c:Cfg)(p:Pa.Pn): Prop:=0<=p.no/\p.no<=4611686018427387904/\0<=(p.no+1)*qB0 c/\(p.no+1)*qB0 c<=4611686018427389000
theorem qI9(d:Nat)(c:Cfg)(p:Pa.Pn)(w:World)(h5:w.cell? ⟨d,5,none⟩=some (.int .i64 c.window))(h9:w.cell? ⟨d,9,none⟩=some (.int .i64 c.panes))(hc:c.paned)(hp:OkP c p):
  Calls Tryz.prog 202 #[.pointer (some ⟨d,0,none⟩),.agg p.cells.toArray] w λe w'=>e=.returned (.int .i64 (qI4 c p))/\Keeps (λ_=>False) w w':=by
 obtain⟨W,hW⟩:∃W,W=w.alloc (.cells p.cells.toArray 237):=⟨_,rfl⟩
 have HK:=hide (show Keeps (λ_=>False) w W by rw[hW];exact(Keeps.refl _ _).alloc _)
 have hx0:W.cell? ⟨w.heap.size,0,none⟩=some (.int .i64 p.no):=by rw[hW];exact(Blk.new w p.cells 237).cell rfl
 have g5:W.cell? ⟨d,5,none⟩=some (.int .i64 c.window):=(uh HK).cell h5 (λh=>h)
 have g9:W.cell? ⟨d,9,none⟩=some (.int .i64 c.panes):=(uh HK).cell h9 (λh=>h)
 have HW:=hide hW
 obtain⟨n0,n1,b0,b1⟩:=hp
 have HL:=hide (show(p.no+1)*qB0 c-1=qI4 c p from rfl)
 have HLEN:=hide (λW' h5' h9'=>qMv d c W' h5' h9' (by have:=hc.w0;omega) hc.w1 hc.p0)
 generalize qB0 c=L at *
 have hw1:IntKind.i64.wrap (p.no+1)=p.no+1:=by rw[IntKind.wrap_i64];omega
 have hw2:IntKind.i64.wrap ((p.no+1)*L)=(p.no+1)*L:=by rw[IntKind.wrap_i64];omega
 have hw3:IntKind.i64.wrap ((p.no+1)*L-1)=(p.no+1)*L-1:=by rw[IntKind.wrap_i64];omega
 clear hW h5 h9 hc
 go_enter Tryz.func202,Tryz.ntmps202
 go_wp2_with fail
 rw[show w.alloc (.cells p.cells.toArray 237)=W from(uh HW).symm]
 generalize hpb:w.heap.size=pb at *
 go_region_held3 (λw'=>w'.cell? ⟨pb,0,none⟩=some (.int .i64 p.no)/\w'.cell? ⟨d,5,none⟩=some (.int .i64 c.window)/\w'.cell? ⟨d,9,none⟩=some (.int .i64 c.panes))
  (first | (go_split_ands;exact⟨by assumption,by assumption,by assumption⟩) | (go_split_ands;exact⟨hka.cell (by assumption) (λh=>h),hka.cell (by assumption) (λh=>h),hka.cell (by assumption) (λh=>h)⟩))
  (first | (go_at_call 204;refine(uh HLEN _ (by first | assumption | simpa using g5) (by first | assumption | simpa using g9)).mono ?_;rintro e W1 ⟨rfl,hka⟩))
 have HK1:=hide ((uh HK).drew.then hka)
 go_wp2
 go_ret
 exact⟨qBc (uh HL),uh HK1⟩
theorem qKv(p:Pa.Pn)(w:World): ∃W,(Pa.storeP 237 (.pointer (some ⟨w.heap.size,0,none⟩)) (.agg p.cells.toArray)).run Tryz.prog (w.alloc (.cells #[.int .i64 0,.int .i64 0,.int .i64 0,.int .i64 0,.int .i64 0,.int .i64 0,.int .i64 0,.int .i64 0,.int .i64 0,.int .i64 0,.int .i64 0,.int .i64 0,.int .i64 0,.int .i64 0,.int .i64 0,.int .i64 0,.int .i64 0,.int .i64 0,.int .i64 0,.int .i64 0,.int .i64 0,.int .i64 0,.int .i64 0,.int .i64 0,.int .i64 0,.int .i64 0,.int .i64 0,.int .i64 0,.int .i64 0,.int .i64 0,.int .i64 0,.int .i64 0,.int .i64 0,.int .i64 0,.int .i64 0,.int .i64 0,.int .i64 0,.int .i64 0,.int .i64 0,.int .i64 0,.int .i64 0,.int .i64 0,.int .i64 0,.int .i64 0,.int .i64 0,.int .i64 0,.int .i64 0,.int .i64 0,.int .i64 0] 237))=.ok .skip W/\Blk W w.heap.size p.cells 237/\Keeps (λ_=>False) w W:=by
 have hb:Blk (w.alloc (.cells #[.int .i64 0,.int .i64 0,.int .i64 0,.int .i64 0,.int .i64 0,.int .i64 0,.int .i64 0,.int .i64 0,.int .i64 0,.int .i64 0,.int .i64 0,.int .i64 0,.int .i64 0,.int .i64 0,.int .i64 0,.int .i64 0,.int .i64 0,.int .i64 0,.int .i64 0,.int .i64 0,.int .i64 0,.int .i64 0,.int .i64 0,.int .i64 0,.int .i64 0,.int .i64 0,.int .i64 0,.int .i64 0,.int .i64 0,.int .i64 0,.int .i64 0,.int .i64 0,.int .i64 0,.int .i64 0,.int .i64 0,.int .i64 0,.int .i64 0,.int .i64 0,.int .i64 0,.int .i64 0,.int .i64 0,.int .i64 0,.int .i64 0,.int .i64 0,.int .i64 0,.int .i64 0,.int .i64 0,.int .i64 0,.int .i64 0] 237)) w.heap.size (List.replicate 49 (.int .i64 0)) 237:=Blk.new w (List.replicate 49 (.int .i64 0)) _
 refine⟨_,Pa.run_storeP _ w.heap.size 0 p.cells p.cells_length (λj hj=>⟨hb.some (by simpa using hj),hb.frozen _⟩) p.one,?_,?_⟩
 ·have:=Blk.setCells p.cells 0 _ _ hb (by rw[p.cells_length];simp)
  have e:over (List.replicate 49 (Value.int .i64 0)) 0 p.cells=p.cells:=by
   unfold over
   rw[p.cells_length,List.drop_eq_nil_of_le (by simp)]
   simp
  rw[e]at this
  exact this
 ·exact Keeps.setCells (Or.inr (Nat.le_refl _)) _ _ _ ((Keeps.refl (λ_=>False) w).alloc _)
theorem qVa(d q:Nat)(og:Option Nat)(l:List Pa.Pn)(i:Nat)(w:World)(h:Pa.RowRep w d q og l)(hi:i<l.length):
  Calls Tryz.prog 238 #[.pointer (some ⟨q,0,none⟩),.int .i64 i] w λe w'=>e=.returned (.agg (Pa.pnAt l i).cells.toArray)/\Keeps (λ_=>False) w w':=by
 cases og with
 | none=>obtain⟨hl,hb⟩:=h;subst hl;simp at hi
 | some g =>
  obtain⟨hne,cap,hb,hr⟩:=h
  have hq1:w.cell? ⟨q,1,none⟩=some (.slice (some ⟨g,0,none⟩) l.length cap):=hb.cell rfl
  have hlq:=hb.lt
  have hlg:=hr.lt
  have hrg:=qAm (hr.range i hi)
  rw[Pa.Pn.cells_length]at hrg
  have hbv:qAp w g (i*49) 49=.agg (Pa.pnAt l i).cells.toArray:=by unfold qAp;rw[hrg.1]
  have hbh:qAw w g (i*49) 49=true:=hrg.2
  obtain⟨x,hx⟩:∃x,Pa.pnAt l i=x:=⟨_,rfl⟩
  rw[hx]at hbv ⊢
  generalize l.length=n at *
  have hi0:(0:Int)<=(i:Int):=by omega
  have hin:(i:Int)<(n:Int):=by omega
  have hgne:g≠w.heap.size:=by omega
  obtain⟨W2,hst,hb2,hk2⟩:=qKv x w
  have HB2:=hide hb2
  have HK2:=hide hk2
  clear hb hr hrg hx hb2 hk2
  go_enter Tryz.func238,Tryz.ntmps238
  go_wp2
  have hlv:(loadVar 237 ⟨w.heap.size,0,none⟩).run Tryz.prog W2=.ok (.agg x.cells.toArray) W2 :=
   run_loadVar_mid W2 w.heap.size 0 237 x.cells _ (λj v hv=>by rw[Nat.zero_add];exact(uh HB2).cell hv) Tryz.underlying237 rfl (by rw[Pa.sizeP,x.cells_length])
  refine bodyPost_ret (v:=.agg x.cells.toArray) ?_ rfl ⟨rfl,uh HK2⟩
  simp[results,Tryz.results238,asAddr,hlv]
def qFo(c:Cfg)(l:List Pa.Pn)(t:Int): Nat:=(l.takeWhile (λp=>decide (qI4 c p<=t))).length
theorem qTe(c:Cfg)(l:List Pa.Pn)(t:Int): qFo c l t<=l.length:=(List.takeWhile_prefix _).length_le
theorem qJd(d q:Nat)(og:Option Nat)(c:Cfg)(l:List Pa.Pn)(t:Int)(w:World)(h:Pa.RowRep w d q og l)(hl:l.length<=4398046511104)(h5:w.cell? ⟨d,5,none⟩=some (.int .i64 c.window))(h9:w.cell? ⟨d,9,none⟩=some (.int .i64 c.panes))(hc:c.paned)(hp:∀p∈l,OkP c p):
  Calls Tryz.prog 206 #[.pointer (some ⟨q,0,none⟩),.int .i64 t] w λe w'=>e=.returned (.int .i64 (qFo c l t))/\Keeps (λ_=>False) w w':=by
 cases og with
 | none =>
  obtain⟨hl,hb⟩:=h
  have hq1:w.cell? ⟨q,1,none⟩=some (.slice none 0 0):=hb.cell rfl
  subst hl
  clear hb
  go_enter Tryz.func206,Tryz.ntmps206
  go_wp2
  go_loopw [5] (λi wr=>i=.int .i64 0/\wr=w) (λ_ _=>0)
  case atStart=>exact⟨rfl,rfl⟩
  case round =>
   obtain⟨rfl,rfl⟩:=hrel
   go_wp2
   go_quiet (fail)
   go_wp2
   go_ret
   exact⟨rfl,Keeps.drewN _ _ _⟩
 | some g =>
  obtain⟨hne,cap,hb,hr⟩:=h
  have HB:=hide hb
  have HR:=hide hr
  have HP:=hide hp
  have HC:=hide hc
  have hltg:=hr.lt
  clear hb hr hp hc
  generalize hn:l.length=n at *
  have HN:=hide hn
  clear hn
  go_enter Tryz.func206,Tryz.ntmps206
  go_wp2
  go_loopw [5] (λi wr=>∃k:Nat,i=.int .i64 k/\k<=n/\Hid (Keeps (λ_=>False) w wr)/\Hid (qFo c l t=k+qFo c (l.drop k) t)) (λi _=>n-(intOf i).toNat)
  case atStart=>exact⟨0,rfl,Nat.zero_le _,Keeps.refl _ _,by show _=_;simp⟩
  case round =>
   obtain⟨k,rfl,hk,HK,HE⟩:=hrel
   have hq1:wr.cell? ⟨q,1,none⟩=some (.slice (some ⟨g,0,none⟩) n cap):=(uh HK).cell ((uh HB).cell rfl) (λh=>h)
   have hq0:wr.cell? ⟨q,0,none⟩=some (.func (.func 202) #[.pointer (some ⟨d,0,none⟩)] #[]):=(uh HK).cell ((uh HB).cell rfl) (λh=>h)
   have g5:wr.cell? ⟨d,5,none⟩=some (.int .i64 c.window):=(uh HK).cell h5 (λh=>h)
   have g9:wr.cell? ⟨d,9,none⟩=some (.int .i64 c.panes):=(uh HK).cell h9 (λh=>h)
   by_cases hlt:k<n
   ·have hkl:k<l.length:=by rw[uh HN];exact hlt
    have hrg:=qAm (((uh HR).keeps (uh HK) (λh=>h)).range k hkl)
    rw[Pa.Pn.cells_length]at hrg
    have hbv:qAp wr g (k*49) 49=.agg (Pa.pnAt l k).cells.toArray:=by unfold qAp;rw[hrg.1]
    have hbh:qAw wr g (k*49) 49=true:=hrg.2
    have hgr:g<wr.heap.size:=Nat.lt_of_lt_of_le hltg (uh HK).size
    clear hrg
    have hk0:(0:Int)<=(k:Int):=by omega
    have hkn:(k:Int)<(n:Int):=by omega
    have HD:=hide (Pa.pnAt_drop l k hkl)
    have HOK:=hide (uh HP (Pa.pnAt l k) (by
         have:Pa.pnAt l k=l[k]:=by simp[Pa.pnAt,List.getD_eq_getElem?_getD,List.getElem?_eq_getElem hkl]
         rw[this];exact List.getElem_mem hkl))
    generalize Pa.pnAt l k=x at *
    clear hkl
    have HLT:=hide (λW h5' h9'=>qI9 d c x W h5' h9' (uh HC) (uh HOK))
    obtain⟨lt,hlast⟩:∃lt,qI4 c x=lt:=⟨_,rfl⟩
    have HLA:=hide hlast
    clear hlast
    by_cases ht:lt<=t
    all_goals
     have HT:=hide ht
     go_wp2
     go_region_held3 (λw'=>w'.cell? ⟨q,0,none⟩=some (.func (.func 202) #[.pointer (some ⟨d,0,none⟩)] #[])/\w'.cell? ⟨q,1,none⟩=some (.slice (some ⟨g,0,none⟩) n cap) /\
        qAp w' g (k*49) 49=.agg x.cells.toArray/\qAw w' g (k*49) 49=true/\w'.cell? ⟨d,5,none⟩=some (.int .i64 c.window)/\w'.cell? ⟨d,9,none⟩=some (.int .i64 c.panes)) (first | (go_split_ands;exact⟨by assumption,by assumption,by assumption,by assumption,by assumption,by assumption⟩) | (go_split_ands;exact⟨hka.cell (by assumption) (λh=>h),hka.cell (by assumption) (λh=>h),(qDh hka (by first | exact hgr | simpa using hgr)).1.trans (by assumption),(qDh hka (by first | exact hgr | simpa using hgr)).2.trans (by assumption),hka.cell (by assumption) (λh=>h),hka.cell (by assumption) (λh=>h)⟩))
      (first | (go_at_call 202;refine(uh HLT _ (by first | assumption | simpa using g5) (by first | assumption | simpa using g9)).mono ?_;rintro e W1 ⟨rfl,hka⟩;rw[uh HLA]))
     have HK1:=hide (((Keeps.refl (λ_=>False) wr).drew).then hka)
     clear hka
    ·go_wp2
     go_roundw
     case rel =>
      refine⟨k+1,by go_num,by omega,(uh HK).then (uh HK1),?_⟩
      show _=_
      rw[uh HE,uh HD]
      unfold qFo
      rw[List.takeWhile_cons,if_pos (by simpa[uh HLA] using uh HT)]
      simp;omega
     case measure=>simp[intOf];omega
    ·go_wp2
     go_ret
     refine⟨?_,(uh HK).then (uh HK1)⟩
     rw[uh HE,uh HD]
     unfold qFo
     rw[List.takeWhile_cons,if_neg (by simpa[uh HLA] using uh HT)]
     simp
   ·have hd:decide ((k:Int)<(n:Int))=false:=by simp;omega
    go_wp2
    go_quiet (fail)
    go_wp2
    go_ret
    refine⟨?_,(uh HK).then (Keeps.drewN _ _ _)⟩
    rw[uh HE,List.drop_eq_nil_of_le (by rw[uh HN];omega)]
    simp[qFo]
end
end Go.Proofs.YtahnliehdjncdabGreatDoor
namespace Go.Proofs.YtahnliehdjncdabGreatDoor.Mk
open Go.RowKit
theorem qNz{w:World}{g cap n:Nat}{l:List Bk}{cur:List Value}(hn:l.length=n+1)(hb:Blk w g cur 225)(hl:cur.length=cap*2)(ht:cur.take (l.length*2)=qBn l)(hle:n+1<=cap)(hmax:cap<=maxLen):
  BRow (w.setCells g (n*2) (qCa 1)) g cap (l.take n):=by
 have hb1:=Blk.setCells (qCa 1) (n*2) w cur hb (by rw[qBe];omega)
 have hlen:(l.take n).length=n:=by simp[hn]
 refine⟨⟨_,hb1,by rw[qBa (by rw[qBe];omega),hl],?_⟩,by omega,hmax⟩
 rw[hlen,qKy (Nat.le_refl _) (by omega),qIv,<-ht,List.take_take,hn,Nat.min_eq_left (by omega)]
theorem qLo(g cap n:Nat)(l:List Bk)(w:World)(hn:l.length=n+1)(hr:BRow w g cap l):
  Calls Tryz.prog 229 #[.slice (some ⟨g,0,none⟩) (n+1) cap,.int .i64 n,.int .i64 ((n:Int)+1)] w λe w'=>e=.returned (.slice (some ⟨g,0,none⟩) n cap)/\BRow w' g cap (l.take n)/\Keeps (·=g) w w':=by
 obtain⟨cur,hb,hl,ht⟩:=hr.ex
 have hle:=hr.le
 rw[hn]at hle
 have hmax:=hr.max
 have hcap:cap<=9223372036854775807:=by unfold maxLen at hmax;omega
 have HFIN:=hide (qNz (w:=w.drew) hn (by exact hb.drew) hl ht hle hmax)
 obtain⟨A,hA⟩:∃A:Addr,(if cap=n+1 then some (⟨g,0,none⟩:Addr) else some ⟨g,(n+1)*2,none⟩)=some A:=by
  by_cases h:cap=n+1
  ·exact⟨⟨g,0,none⟩,by simp[h]⟩
  ·exact⟨⟨g,(n+1)*2,none⟩,by simp[h]⟩
 have hcl:∀ty,(Builtin.clear_ #[273] ty #[.slice (some ⟨g,n*2,none⟩) 1 (cap-n)]).run Tryz.prog (w.drew.setCells g (n*2) [])=.ok (.tuple #[]) (w.drew.setCells g (n*2) (qCa 1)) :=
  λty=>qB8 w.drew ty g _ _ _ _ hb.drew (by omega) (by omega)
 obtain⟨i0,hi0,hz0,hz1,hz2⟩:=info_parts infoBk
 have hw1:IntKind.i64.wrap ((n:Int)+1)=(n:Int)+1:=by rw[IntKind.wrap_i64];omega
 have hne:((n:Int)==(n:Int)+1)=false:=by simp;omega
 have hn0:(0:Int)<=(n:Int):=by omega
 have hn1:(0:Int)<=(n:Int)+1:=by omega
 have hnc:n<=cap:=by omega
 have hcn:¬cap=n:=by omega
 clear hb ht hl hr hn hmax hz0 hz2
 go_enter Tryz.func229,Tryz.ntmps229
 go_wp2_with fail
 go_region_law (refine step_append_room rfl (.tmp 22) (.tmp 25) 273 rfl 225 i0 2 Tryz.underlying273 hi0 hz1 g 0 n cap (by simp[Act.eval,Act.put]) A 0 (cap-(n+1)) [] (by simp[Act.eval,Act.put]) rfl (by intro t u hu;simp at hu) (by simp) (by omega) (by intro t ht;simp at ht) ?_)
 go_wp2
 go_ret
 refine⟨by simp,?_,?_⟩
 ·exact uh HFIN
 ·exact Keeps.setCells (M:=λx=>x=g) (Or.inl rfl) _ _ _ (Keeps.refl _ _).drew
end Go.Proofs.YtahnliehdjncdabGreatDoor.Mk
namespace Go.Proofs.YtahnliehdjncdabGreatDoor
open Go.RowKit
def qFb(r:Int)(l:List Bk): List Bk:=(l.reverse.dropWhile (λb=>decide (b.t<=r))).reverse
theorem qG3(l:List Bk)(h:0<l.length): l=l.take (l.length-1)++[qBi l (l.length-1)]:=by
 have h1:l.length-1<l.length:=by omega
 conv=>lhs;rw[<-List.take_append_drop (l.length-1) l]
 congr 1
 rw[List.drop_eq_getElem_cons h1,List.drop_eq_nil_of_le (by omega)]
 simp[qBi,List.getD_eq_getElem?_getD,List.getElem?_eq_getElem h1]
theorem qWw(r:Int): qFb r []=[]:=rfl
theorem qMr(r:Int)(l:List Bk)(b:Bk): qFb r (l++[b])=if b.t<=r then qFb r l else l++[b]:=by
 unfold qFb
 rw[List.reverse_append,List.reverse_singleton,List.singleton_append,List.dropWhile_cons]
 by_cases h:b.t<=r <;> simp[h]
theorem qMs{r:Int}{l:List Bk}(h:0<l.length)(hb:(qBi l (l.length-1)).t<=r): qFb r l=qFb r (l.take (l.length-1)):=by
 conv=>lhs;rw[qG3 l h]
 rw[qMr,if_pos hb]
theorem qMy{r:Int}{l:List Bk}(h:0<l.length)(hb:¬(qBi l (l.length-1)).t<=r): qFb r l=l:=by
 conv=>lhs;rw[qG3 l h]
 rw[qMr,if_neg hb,<-qG3 l h]
theorem qKk(r:Int)(l:List Bk): ∃k,qFb r l=l.take k/\k<=l.length:=by
 have h:=List.dropWhile_suffix (l:=l.reverse) (λb:Bk=>decide (b.t<=r))
 have h2:qFb r l <+: l:=by
  have:=List.reverse_prefix.2 h
  rw[List.reverse_reverse]at this
  exact this
 exact⟨(qFb r l).length,(List.prefix_iff_eq_take.1 h2),h2.length_le⟩
def qHe(l:List Bk)(x:Bk): List Bk :=
 if 0<(qFb x.t l).length/\(qBi (qFb x.t l) ((qFb x.t l).length-1)).sz=x.sz then qFb x.t l else qFb x.t l++[x]
theorem qQu{l:List Bk}{x b:Bk}(h:b∈qHe l x): b∈l\/b=x:=by
 obtain⟨k,hk,_⟩:=qKk x.t l
 unfold qHe at h
 rw[hk]at h
 split at h
 ·exact .inl (List.mem_of_mem_take h)
 ·rcases List.mem_append.1 h with h | h
  ·exact .inl (List.mem_of_mem_take h)
  ·rw[List.mem_singleton]at h;exact .inr h
theorem qPt(l:List Bk)(x:Bk): (qHe l x).length<=l.length+1:=by
 obtain⟨k,hk,hl⟩:=qKk x.t l
 unfold qHe
 rw[hk]
 split
 ·simp;omega
 ·simp;omega
end Go.Proofs.YtahnliehdjncdabGreatDoor
namespace Go.Proofs.YtahnliehdjncdabGreatDoor.Mk
open Go.RowKit
def qRf(i:Nat)(v:Value): Sem Next:=do pure (.value (<-Instr.field 225 v i))
theorem execOp_fieldMk(ρ:Operand->Value)(dst:Option Tmp)(x:Operand)(i:Nat)(ty:TypeId)(pos:String)(after:Array Edge)(guard:Option (Nat×Bool)):
  execOp ρ { dst,op:=.field 225 x i,type:=ty,pos,after,guard }=qRf i (ρ x):=rfl
theorem run_fieldMk0(a b:Value)(w:World): (qRf 0 (.agg #[a,b])).run Tryz.prog w=.ok (.value a) w:=by kernel_rfl
theorem run_fieldMk1(a b:Value)(w:World): (qRf 1 (.agg #[a,b])).run Tryz.prog w=.ok (.value b) w:=by kernel_rfl
attribute [local go_sem ↓] execOp_fieldMk
attribute [local go_sem] run_fieldMk0 run_fieldMk1
theorem rowLen_int(q:Nat)(og:Option Nat)(l:List Bk)(n:Int)(w:World)(h:RowRep w q og l)(hn:(l.length:Int)=n):
  Calls Tryz.prog 198 #[.pointer (some ⟨q,0,none⟩)] w λe w'=>e=.returned (.int .i64 n)/\w'=w :=
 (rowLen_any q og l w h).mono λ_ _ ⟨he,hw⟩=>⟨by rw[he,hn],hw⟩
theorem rowAt_is(q:Nat)(og:Option Nat)(l:List Bk)(i:Nat)(x:Bk)(w:World)(h:RowRep w q og l)(hi:i<l.length)(hx:qBi l i=x):
  Calls Tryz.prog 199 #[.pointer (some ⟨q,0,none⟩),.int .i64 i] w λe w'=>e=.returned (.agg #[.int .i64 x.sz,.int .i64 x.t])/\Keeps (λ_=>False) w w' :=
 (qD6 q og l i w h hi).mono λ_ _ ⟨he,hw⟩=>⟨by rw[he,hx];rfl,hw⟩
theorem qG7(q:Nat)(og:Option Nat)(l:List Bk)(x:Bk)(w:World)(h:RowRep w q og l)(h0:0<l.length)(hl:l.length<=4398046511104)(hx:qBi l (l.length-1)=x):
  Calls Tryz.prog 230 #[.pointer (some ⟨q,0,none⟩)] w λe w'=>e=.returned (.agg #[.int .i64 x.sz,.int .i64 x.t])/\Keeps (λ_=>False) w w':=by
 obtain⟨W,hW⟩:∃W,W=w.alloc (.cells #[.int .i64 0,.int .i64 0] 225):=⟨_,rfl⟩
 have HK0:=hide (show Keeps (λ_=>False) w W by rw[hW];exact(Keeps.refl (λ_=>False) w).alloc _)
 have HB0:=hide (show Blk W w.heap.size [.int .i64 0,.int .i64 0] 225 by rw[hW];exact Blk.new w _ _)
 have hr:=h.still (uh HK0)
 have HW:=hide hW
 obtain⟨n,hn⟩:∃n,l.length=n+1:=⟨l.length-1,by omega⟩
 have hw:IntKind.i64.wrap ((n:Int)+1-1)=(n:Int):=by rw[IntKind.wrap_i64];omega
 have hwn:IntKind.i64.wrap (n:Int)=(n:Int):=by rw[IntKind.wrap_i64];omega
 have hnb:n<=4398046511104:=by omega
 have HL:=hide (rowLen_int q og l ((n:Int)+1) W hr (by omega))
 have HA:=hide (rowAt_is q og l n x W hr (by omega) (by rw[<-hx,hn];rfl))
 clear h hr hW hn h0 hl hx
 go_enter Tryz.func230,Tryz.ntmps230
 go_wp2_with fail
 rw[show w.alloc (.cells #[.int .i64 0,.int .i64 0] 225)=W from(uh HW).symm]
 generalize hrb:w.heap.size=rb at *
 have HRB:=hide hrb
 clear hrb
 refine(uh HL).mono ?_
 rintro e w' ⟨rfl,hw'⟩
 rw[hw']
 clear hw' w'
 go_wp2_with fail
 refine(uh HA).mono ?_
 rintro e w1 ⟨rfl,hk⟩
 have HB1:=hide ((uh HB0).keeps hk (λh=>h))
 have HK:=hide ((uh HK0).then hk)
 clear hk HL HA
 have b0:w1.cell? ⟨rb,0,none⟩=some (.int .i64 0):=(uh HB1).cell rfl
 have b1:w1.cell? ⟨rb,1,none⟩=some (.int .i64 0):=(uh HB1).cell rfl
 have bf:=(uh HB1).frozen
 go_wp2
 have HB2:=hide (((uh HB1).setCell 0 (.int .i64 x.sz)).setCell 1 (.int .i64 x.t))
 have HKF:=hide (show Keeps (λk=>k=rb) w1 ((w1.setCell ⟨rb,0,none⟩ (.int .i64 x.sz)).setCell ⟨rb,1,none⟩ (.int .i64 x.t)) from((Keeps.refl (λk=>k=rb) w1).setCell (p:=⟨rb,0,none⟩) (Or.inl rfl) _).setCell (p:=⟨rb,1,none⟩) (Or.inl rfl) _)
 generalize((w1.setCell ⟨rb,0,none⟩ (.int .i64 x.sz)).setCell ⟨rb,1,none⟩ (.int .i64 x.t))=w2 at *
 have c0:w2.cell? ⟨rb,0,none⟩=some (.int .i64 x.sz):=(uh HB2).cell rfl
 have c1:w2.cell? ⟨rb,1,none⟩=some (.int .i64 x.t):=(uh HB2).cell rfl
 refine bodyPost_ret (v:=.agg #[.int .i64 x.sz,.int .i64 x.t]) (by simp[results,Tryz.results230,go_sem,c0,c1]) rfl ⟨rfl,?_⟩
 exact(uh HK).trans (uh HKF) (λi hi hlt=>by have:=uh HRB;omega)
def DropSays: Prop:=∀(q:Nat) (og:Option Nat) (l:List Bk) (w:World),RowRep w q og l->0<l.length->l.length<=4398046511104 ->
  Calls Tryz.prog 231 #[.pointer (some ⟨q,0,none⟩),.int .i64 1] w λe w'=>e=.returned (.tuple #[])/\RowRep w' q og (l.take (l.length-1))/\Keeps (λi=>i=q\/og=some i) w w'
theorem keep_of(HD:DropSays)(q:Nat)(og:Option Nat)(l:List Bk)(x:Bk)(w:World)(h:RowRep w q og l)(hl:l.length<=4398046511103):
  Calls Tryz.prog 195 #[.pointer (some ⟨q,0,none⟩),x.val] w λe w'=>e=.returned (.tuple #[])/\∃og',RowRep w' q og' (qHe l x)/\Keeps (λk=>k=q\/og=some k) w w'/\(og'=og\/∃k,og'=some k/\w.heap.size<=k):=by
 obtain⟨hlq,hlg⟩:=h.lt
 have HR:=hide h
 have HLG:=hide hlg
 have HDD:=hide HD
 clear HD
 unfold Bk.val
 have HX0:=hide (Blk.new w [.int .i64 x.sz,.int .i64 x.t] 225)
 have HK0:=hide ((Keeps.refl (λ_=>False) w).alloc (.cells #[.int .i64 x.sz,.int .i64 x.t] 225))
 clear h hlg
 go_enter Tryz.func195,Tryz.ntmps195
 go_wp2_with fail
 generalize hW0:w.alloc (.cells #[.int .i64 x.sz,.int .i64 x.t] 225)=W0 at *
 have HX:Hid (Blk W0 w.heap.size [.int .i64 x.sz,.int .i64 x.t] 225):=HX0
 have HK:Hid (Keeps (λ_=>False) w W0):=HK0
 have HR0:=hide ((uh HR).still (uh HK))
 clear hW0 HX0 HK0
 generalize hxb:w.heap.size=xb at *
 have HXB:=hide hxb
 clear hxb
 have HXM:=hide (show ¬(xb=q\/og=some xb) from λh=>by
    rcases h with h | h
    ·omega
    ·have:=(uh HLG xb h).1;omega)
 go_loopg [] (l.length) (λg wr=>∃m:List Bk,m.length=g/\g<=4398046511103/\Hid (RowRep wr q og m)/\Hid (Keeps (λk=>k=q\/og=some k) W0 wr)/\Hid (qFb x.t l=qFb x.t m))
 case atStart=>exact⟨l,rfl,hl,HR0,Keeps.refl _ _,rfl⟩
 case round =>
  obtain⟨m,hm,hg,HRm,HKm,HE⟩:=hrel
  have HM:=hide hm
  clear hm
  have hxr:wr.cell? ⟨xb,1,none⟩=some (.int .i64 x.t):=(uh HKm).cell ((uh HX).cell rfl) (uh HXM)
  have hxz:wr.cell? ⟨xb,0,none⟩=some (.int .i64 x.sz):=(uh HKm).cell ((uh HX).cell rfl) (uh HXM)
  by_cases h0:gk=0
  ·have HL0:=hide (show(m.length:Int)=0 by have:=uh HM;omega)
   go_wp2_with fail
   go_quiet (first | (go_at_call 198;refine Calls.quiet_of_same (rowLen_int q og m 0 _ (by exact(uh HRm).still (Keeps.drewN _ _ _)) (uh HL0))))
   have HQ1:=hide (show Keeps (λ_=>False) wr (wr.drewN nq) from Keeps.drewN _ _ _)
   have hx1:(wr.drewN nq).cell? ⟨xb,1,none⟩=some (.int .i64 x.t):=hxr
   have hx0:(wr.drewN nq).cell? ⟨xb,0,none⟩=some (.int .i64 x.sz):=hxz
   generalize wr.drewN nq=W1 at *
   have HR1:=hide ((uh HRm).still (uh HQ1))
   go_wp2_with fail
   go_quiet (first | (go_at_call 198;refine Calls.quiet_of_same (rowLen_int q og m 0 _ (by exact(uh HR1).still (Keeps.drewN _ _ _)) (uh HL0))))
   have HKK:=hide (show Keeps (λ_=>False) wr (W1.drewN nq) from(uh HQ1).then (Keeps.drewN _ _ _))
   have HDM:=hide (show qFb x.t m=m by rw[List.length_eq_zero_iff.1 (show m.length=0 by have:=uh HL0;omega)];rfl)
   have HNO:=hide (show ¬(0<m.length/\(qBi m (m.length-1)).sz=x.sz) from λh=>by have:=uh HL0;omega)
   go_wp2_with fail
   refine(rowPut_any q og m x _ ((uh HRm).still (uh HKK)) (by have:=uh HM;omega)).mono ?_
   rintro e W3 ⟨rfl,og',hr3,hk3,hog⟩
   have HF:=hide (((uh HKm).trans (uh HKK) (λ_ h=>h.elim)).then hk3)
   have HR3:=hide hr3
   have HSZ:=hide (Nat.le_trans (uh HK).size (Nat.le_trans (uh HKm).size (uh HKK).size))
   clear hr3 hk3
   go_wp2
   go_end0
   refine⟨rfl,og',?_,?_,?_⟩
   ·have:qHe l x=m++[x]:=by unfold qHe;rw[uh HE,uh HDM];exact if_neg (uh HNO)
    rw[this];exact uh HR3
   ·exact((uh HK).mono (λ_ _ h=>h.elim)).then (uh HF)
   ·rcases hog with h | ⟨k,h,hk⟩
    ·exact .inl h
    ·exact .inr ⟨k,h,Nat.le_trans (uh HSZ) hk⟩
  ·have h1:0<m.length:=by have:=uh HM;omega
   have HL1:=hide (show(m.length:Int)=(gk:Int) by have:=uh HM;omega)
   have hgt:(0:Int)<(gk:Int):=by omega
   have hgtN:0<gk:=by omega
   obtain⟨y,hy⟩:∃y,qBi m (m.length-1)=y:=⟨_,rfl⟩
   have HY:=hide hy
   clear hy
   have HLE:=hide (show m.length<=4398046511104 by have:=uh HM;omega)
   have HP:=hide h1
   clear h1
   by_cases hc:y.t<=x.t
   ·go_wp2_with fail
    go_region_held3 (λw'=>w'.cell? ⟨xb,1,none⟩=some (.int .i64 x.t)/\w'.cell? ⟨xb,0,none⟩=some (.int .i64 x.sz)) (first | (go_split_ands;exact⟨by assumption,by assumption⟩) | (go_split_ands;exact⟨hka.cell (by assumption) (λh=>h),hka.cell (by assumption) (λh=>h)⟩))
     (first | (go_at_call 198;refine(rowLen_int q og m gk _ (by exact(uh HRm).still (Keeps.refl _ _).drew) (uh HL1)).mono ?_;rintro e w' ⟨rfl,rfl⟩) | (go_at_call 230;refine(qG7 q og m y _ (by exact(uh HRm).still (Keeps.refl _ _).drew) (uh HP) (uh HLE) (uh HY)).mono ?_;rintro e W1 ⟨rfl,hka⟩))
    have HK1:=hide (((Keeps.refl (λ_=>False) wr).drew).then hka)
    clear hka
    go_wp2_with fail
    refine(uh HDD q og m W1 ((uh HRm).still (uh HK1)) (uh HP) (uh HLE)).mono ?_
    rintro e W2 ⟨rfl,hr2,hk2⟩
    have HR2:=hide hr2
    have HK2:=hide ((((uh HKm).trans (uh HK1) (λ_ h=>h.elim))).then hk2)
    clear hr2 hk2
    go_wp2
    go_roundg (gk-1)
    case measure=>omega
    case rel =>
     have hm:=uh HM
     refine⟨m.take (m.length-1),by simp;omega,by omega,HR2,HK2,?_⟩
     show _=_
     rw[uh HE,qMs (uh HP) (by rw[uh HY];exact hc)]
   ·go_wp2_with fail
    go_region_held3 (λw'=>w'.cell? ⟨xb,1,none⟩=some (.int .i64 x.t)/\w'.cell? ⟨xb,0,none⟩=some (.int .i64 x.sz)) (first | (go_split_ands;exact⟨by assumption,by assumption⟩) | (go_split_ands;exact⟨hka.cell (by assumption) (λh=>h),hka.cell (by assumption) (λh=>h)⟩))
     (first | (go_at_call 198;refine(rowLen_int q og m gk _ (by exact(uh HRm).still (Keeps.refl _ _).drew) (uh HL1)).mono ?_;rintro e w' ⟨rfl,rfl⟩) | (go_at_call 230;refine(qG7 q og m y _ (by exact(uh HRm).still (Keeps.refl _ _).drew) (uh HP) (uh HLE) (uh HY)).mono ?_;rintro e W1 ⟨rfl,hka⟩))
    have HK1:=hide (((Keeps.refl (λ_=>False) wr).drew).then hka)
    have hx1:=hka.cell (p:=⟨xb,1,none⟩) (v:=.int .i64 x.t) (by exact hxr) (λh=>h)
    have hx0:=hka.cell (p:=⟨xb,0,none⟩) (v:=.int .i64 x.sz) (by exact hxz) (λh=>h)
    clear hka
    have HDM:=hide (show qFb x.t m=m from qMy (uh HP) (by rw[uh HY];omega))
    go_wp2_with fail
    by_cases ht:y.sz=x.sz
    ·have htb:(y.sz==x.sz)=true:=by simp[ht]
     have HT:=hide ht
     clear ht
     go_region_held3 (λw'=>w'.cell? ⟨xb,1,none⟩=some (.int .i64 x.t)/\w'.cell? ⟨xb,0,none⟩=some (.int .i64 x.sz)) (first | (go_split_ands;exact⟨by assumption,by assumption⟩) | (go_split_ands;exact⟨hkb.cell (by assumption) (λh=>h),hkb.cell (by assumption) (λh=>h)⟩))
      (first | (go_at_call 198;refine(rowLen_int q og m gk _ (by exact((uh HRm).still (uh HK1)).still (Keeps.refl _ _).drew) (uh HL1)).mono ?_;rintro e w' ⟨rfl,rfl⟩) | (go_at_call 230;refine(qG7 q og m y _ (by exact((uh HRm).still (uh HK1)).still (Keeps.refl _ _).drew) (uh HP) (uh HLE) (uh HY)).mono ?_;rintro e W2 ⟨rfl,hkb⟩))
     have HK2:=hide (((uh HK1).drew).then hkb)
     clear hkb
     go_wp2
     refine bodyPost_ret (results_none rfl _ _ _) rfl ?_
     refine⟨rfl,og,?_,?_,.inl rfl⟩
     ·have:qHe l x=m:=by unfold qHe;rw[uh HE,uh HDM];exact if_pos ⟨uh HP,by rw[uh HY];exact uh HT⟩
      rw[this];exact(uh HRm).still (uh HK2)
     ·exact(((uh HK).mono (λ_ _ h=>h.elim)).then (uh HKm)).trans (uh HK2) (λ_ h=>h.elim)
    ·have htb:(y.sz==x.sz)=false:=by simp[ht]
     have HT:=hide ht
     clear ht
     go_region_held3 (λw'=>w'.cell? ⟨xb,1,none⟩=some (.int .i64 x.t)/\w'.cell? ⟨xb,0,none⟩=some (.int .i64 x.sz)) (first | (go_split_ands;exact⟨by assumption,by assumption⟩) | (go_split_ands;exact⟨hkb.cell (by assumption) (λh=>h),hkb.cell (by assumption) (λh=>h)⟩))
      (first | (go_at_call 198;refine(rowLen_int q og m gk _ (by exact((uh HRm).still (uh HK1)).still (Keeps.refl _ _).drew) (uh HL1)).mono ?_;rintro e w' ⟨rfl,rfl⟩) | (go_at_call 230;refine(qG7 q og m y _ (by exact((uh HRm).still (uh HK1)).still (Keeps.refl _ _).drew) (uh HP) (uh HLE) (uh HY)).mono ?_;rintro e W2 ⟨rfl,hkb⟩))
     have HKK:=hide (((uh HK1).drew).then hkb)
     have hx3:=hkb.cell (p:=⟨xb,1,none⟩) (v:=.int .i64 x.t) (by exact hx1) (λh=>h)
     have hx4:=hkb.cell (p:=⟨xb,0,none⟩) (v:=.int .i64 x.sz) (by exact hx0) (λh=>h)
     have HNO:=hide (show ¬(0<m.length/\(qBi m (m.length-1)).sz=x.sz) from λh=>uh HT (by rw[<-uh HY];exact h.2))
     clear hkb
     go_wp2_with fail
     refine(rowPut_any q og m x W2 ((uh HRm).still (uh HKK)) (by have:=uh HM;omega)).mono ?_
     rintro e W3 ⟨rfl,og',hr3,hk3,hog⟩
     have HF:=hide (((uh HKm).trans (uh HKK) (λ_ h=>h.elim)).then hk3)
     have HR3:=hide hr3
     have HSZ:=hide (Nat.le_trans (uh HK).size (Nat.le_trans (uh HKm).size (uh HKK).size))
     clear hr3 hk3
     go_wp2
     go_end0
     refine⟨rfl,og',?_,?_,?_⟩
     ·have:qHe l x=m++[x]:=by unfold qHe;rw[uh HE,uh HDM];exact if_neg (uh HNO)
      rw[this];exact uh HR3
     ·exact((uh HK).mono (λ_ _ h=>h.elim)).then (uh HF)
     ·rcases hog with h | ⟨k,h,hk⟩
      ·exact .inl h
      ·exact .inr ⟨k,h,Nat.le_trans (uh HSZ) hk⟩
end Go.Proofs.YtahnliehdjncdabGreatDoor.Mk
