import Derived.Test.YtahnliehdjncdabGreatDoorXAD
import Derived.Test.YtahnliehdjncdabGreatDoorXAM
import Derived.Deep.LoopGhost
set_option maxRecDepth 100000
set_option maxHeartbeats 16000000
namespace Go.Proofs.YtahnliehdjncdabGreatDoor.Pa
open Go.RowKit
theorem execOp_loadP(ρ:Operand->Value)(dst:Option Tmp)(x:Operand)(ty:TypeId)(pos:String)(after:Array Edge)(guard:Option (Nat×Bool)):
  execOp ρ { dst,op:=.load 237 x,type:=ty,pos,after,guard }=qEw 237 (ρ x):=rfl
theorem sizeP: (Tryz.prog.info? 237).map (·.size)=some 49:=by kernel_rfl
theorem run_loadP(w:World)(b o:Nat)(h:qA3 w b o 49=true): (qEw 237 (.pointer (some ⟨b,o,none⟩))).run Tryz.prog w=.ok (.value (qAv w b o 49)) w:=by
 unfold qEw
 rw[Sem.run_bind,run_loadAt_mid w b o 237 (qBv w b o 49) _ (qFm h) Tryz.underlying237 rfl (by rw[sizeP];simp[qBv])]
 rfl
def storeP(ty:TypeId)(a x:Value): Sem Next:=do Instr.storeAt ty a x;pure .skip
theorem execOp_storeP(ρ:Operand->Value)(dst:Option Tmp)(x y:Operand)(ty:TypeId)(pos:String)(after:Array Edge)(guard:Option (Nat×Bool)):
  execOp ρ { dst,op:=.store 237 x y,type:=ty,pos,after,guard }=storeP 237 (ρ x) (ρ y):=rfl
theorem run_storeP(w:World)(b o:Nat)(cs:List Value)(hc:cs.length=49)(ht:w.there b o 49)(h1:∀u∈cs,u.oneCell'=true):
  (storeP 237 (.pointer (some ⟨b,o,none⟩)) (.agg cs.toArray)).run Tryz.prog w=.ok .skip (w.setCells b o cs):=by
 unfold storeP
 rw[Sem.run_bind,run_storeAt_mid w b o 237 cs.toArray (by simpa[hc] using ht) (by rw[sizeP];simp[hc]) (by simpa using h1)]
 rfl
def qFg(arr:Array Value)(o:Nat): List Value->Array Value
 | []=>arr
 | c::r=>qFg (arr.setIfInBounds o c) (o+1) r
theorem qEo: ∀(cs:List Value) (pre:List Value) (rest:List Value),rest.length=cs.length->qFg (pre++rest).toArray pre.length cs=(pre++cs).toArray
 | [],pre,rest,h=>by
  have:rest=[]:=List.length_eq_zero_iff.1 h
  subst this;rfl
 | c::r,pre,rest,h=>by
  cases rest with
  | nil=>simp at h
  | cons d q =>
   unfold qFg
   have h1:((pre++d::q).toArray.setIfInBounds pre.length c)=((pre++[c])++q).toArray:=by simp
   rw[h1]
   have:=qEo r (pre++[c]) q (by simpa using h)
   rw[List.length_append]at this
   simpa using this
theorem qU8: ∀(cs:List Value) (o:Nat) (arr:Array Value),(cs.zipIdx o).foldl (λ(a:Array Value) (p:Value×Nat)=>a.setIfInBounds (0+p.2) p.1) arr=qFg arr o cs
 | [],_,_=>rfl
 | c::r,o,arr=>by
  rw[List.zipIdx_cons,List.foldl_cons,qU8 r (o+1)]
  simp[qFg]
theorem zB4(cs:List Value)(zs:List Value)(h:zs.length=cs.length)(s:Nat)(hs:cs.length=s): Instr.fill (λi=>some (i*s,s)) zs.toArray [(0,.agg cs.toArray)]=some cs.toArray:=by
 have h2:=qEo cs [] zs h
 simp only[List.nil_append,List.length_nil]at h2
 have h3:=qU8 cs 0 zs.toArray
 simp only[Instr.fill,Value.cells,Nat.zero_mul]
 rw[if_neg (by simp[hs];omega)]
 have h4:Array.foldl (λ(a:Array Value) (p:Value×Nat)=>a.setIfInBounds (0+p.2) p.1) zs.toArray cs.toArray.zipIdx=cs.toArray:=by
  rw[<-Array.foldl_toList,Array.toList_zipIdx,h3,h2]
 exact congrArg some h4
def bsP(ty:TypeId)(n:Nat)(ps:Array (Nat×Value)): Sem Next:=do pure (.value (<-Instr.buildSlice ty n ps))
theorem execOp_bsP(ρ:Operand->Value)(dst:Option Tmp)(n:Nat)(x:Array (Nat×Operand))(ty:TypeId)(pos:String)(after:Array Edge)(guard:Option (Nat×Bool)):
  execOp ρ { dst,op:=.buildSlice 246 n x,type:=ty,pos,after,guard }=bsP 246 n (x.map λ(i,y)=>(i,ρ y)):=rfl
theorem run_bsP(p:Pn)(w:World): (bsP 246 1 #[(0,.agg p.cells.toArray)]).run Tryz.prog w=.ok (.value (.slice (some ⟨w.heap.size,0,none⟩) 1 1)) (w.alloc (.cells p.cells.toArray 237)):=by
 obtain⟨i0,hi0,hz0,hz1,hz2⟩:=info_parts infoBk
 have hf:Instr.fill (λi=>some (i*49,49)) (List.replicate 49 (Value.int .i64 0)).toArray [(0,.agg p.cells.toArray)]=some p.cells.toArray:=zB4 p.cells _ (by rw[p.cells_length];simp) 49 p.cells_length
 have hr:((Array.range (1*49)).map (qX1.cells[·%qX1.cells.size]!))=(List.replicate 49 (Value.int .i64 0)).toArray:=by kernel_rfl
 have hzr:(zeroValue 237).run Tryz.prog w=.ok qX1 w:=zGq w
 have hsz:(sizeOf 237).run Tryz.prog w=.ok 49 w:=by simp[sizeOf,typeInfo,hi0,hz1]
 unfold bsP Instr.buildSlice
 simp only[Sem.run_bind,run_underlying Tryz.underlying246,Result.andThen_ok,hsz]
 rw[if_neg (by decide),if_neg (by decide)]
 simp only[Sem.run_bind,hzr,Result.andThen_ok,Sem.run_pure,hr,hf]
 simp[newRow]
end Go.Proofs.YtahnliehdjncdabGreatDoor.Pa
namespace Go.Proofs.YtahnliehdjncdabGreatDoor.Pa
open Go.RowKit
attribute [local go_sem ↓] execOp_loadP execOp_storeP execOp_bsP
attribute [local go_sem] run_loadP run_bsP qAb qAc qAn qAo qAf qAl
def qEc(d:Nat): Value:=.func (.func 202) #[.pointer (some ⟨d,0,none⟩)] #[]
def RowRep(w:World)(d:Nat)(r:Nat)(og:Option Nat)(l:List Pn): Prop :=
 match og with
 | none=>l=[]/\Blk w r [qEc d,.slice none 0 0] 279
 | some g=>r≠g/\∃cap,Blk w r [qEc d,.slice (some ⟨g,0,none⟩) l.length cap] 279/\BRow w g cap l
theorem RowRep.lt{w:World}{d r:Nat}{og:Option Nat}{l:List Pn}(h:RowRep w d r og l): r<w.heap.size/\∀g,og=some g->g<w.heap.size/\r≠g:=by
 cases og with
 | none=>exact⟨h.2.lt,λ_ h=>by cases h⟩
 | some g=>obtain⟨hne,cap,hb,hr⟩:=h;exact⟨hb.lt,λg' h=>by cases h;exact⟨hr.lt,hne⟩⟩
theorem RowRep.keeps{M:Nat->Prop}{w w':World}{d r:Nat}{og:Option Nat}{l:List Pn}(h:RowRep w d r og l)(k:Keeps M w w')(hq:¬M r)(hg:∀g,og=some g->¬M g): RowRep w' d r og l:=by
 cases og with
 | none=>exact⟨h.1,h.2.keeps k hq⟩
 | some g=>obtain⟨hne,cap,hb,hr⟩:=h;exact⟨hne,cap,hb.keeps k hq,hr.keeps k (hg g rfl)⟩
theorem RowRep.still{w w':World}{d r:Nat}{og:Option Nat}{l:List Pn}(h:RowRep w d r og l)(k:Keeps (λ_=>False) w w'): RowRep w' d r og l:=h.keeps k (λh=>h) (λ_ _ h=>h)
theorem rowLen_any(d q:Nat)(og:Option Nat)(l:List Pn)(w:World)(h:RowRep w d q og l):
  Calls Tryz.prog 237 #[.pointer (some ⟨q,0,none⟩)] w λe w'=>e=.returned (.int .i64 l.length)/\w'=w:=by
 cases og with
 | none =>
  obtain⟨hl,hb⟩:=h
  have hq1:w.cell? ⟨q,1,none⟩=some (.slice none 0 0):=hb.cell rfl
  subst hl
  clear hb
  go_enter Tryz.func237,Tryz.ntmps237
  go_wp2
  go_ret
  exact⟨rfl,rfl⟩
 | some g =>
  obtain⟨hne,cap,hb,hr⟩:=h
  have hq1:w.cell? ⟨q,1,none⟩=some (.slice (some ⟨g,0,none⟩) l.length cap):=hb.cell rfl
  clear hb hr
  go_enter Tryz.func237,Tryz.ntmps237
  go_wp2
  go_ret
  exact⟨rfl,rfl⟩
theorem lose_any(d q:Nat)(og:Option Nat)(l:List Pn)(k:Nat)(w:World)(h:RowRep w d q og l)(hk:k<=l.length):
  Calls Tryz.prog 205 #[.pointer (some ⟨q,0,none⟩),.int .i64 k] w λe w'=>e=.returned (.tuple #[])/\RowRep w' d q og (l.drop k)/\Keeps (λi=>i=q\/og=some i) w w':=by
 cases og with
 | none =>
  obtain⟨hl,hb⟩:=h
  subst hl
  have hk0:k=0:=by simpa using hk
  subst hk0
  have hq1:w.cell? ⟨q,1,none⟩=some (.slice none 0 0):=hb.cell rfl
  have hf:=hb.frozen
  have HB:=hide hb
  clear hb hk
  go_enter Tryz.func205,Tryz.ntmps205
  go_wp2_with fail
  refine(qEg _).mono ?_
  rintro e w' ⟨rfl,rfl⟩
  go_wp2
  go_end0
  refine⟨rfl,⟨rfl,?_⟩,(Keeps.refl (λi=>i=q\/none=some i) _).setCell (p:=⟨q,1,none⟩) (Or.inl (Or.inl rfl)) _⟩
  exact(uh HB).setCell 1 _
 | some g =>
  obtain⟨hne,cap,hb,hr⟩:=h
  have hq1:w.cell? ⟨q,1,none⟩=some (.slice (some ⟨g,0,none⟩) l.length cap):=hb.cell rfl
  have hlq:=hb.lt
  have HB:=hide hb
  have HR:=hide hr
  clear hb hr
  have HC:Hid (Calls Tryz.prog 235 #[.slice (some ⟨g,0,none⟩) l.length cap,.int .i64 0,.int .i64 k] w λe w'=>e=.returned (.slice (some ⟨g,0,none⟩) (l.length-k) cap)/\BRow w' g cap (l.drop k)/\Keeps (λi=>i=g) w w'):=by
   rcases Nat.eq_zero_or_pos k with h0 | h0
   ·subst h0
    refine(qD0 g cap l.length w (uh HR).le).mono ?_
    rintro e w' ⟨rfl,rfl⟩
    exact⟨rfl,uh HR,Keeps.refl _ _⟩
   ·exact qGc g cap l.length k l w rfl (uh HR) h0 hk
  generalize hn:l.length=n at *
  have HN:=hide hn
  clear hn
  go_enter Tryz.func205,Tryz.ntmps205
  go_wp2_with fail
  refine(uh HC).mono ?_
  rintro e w1 ⟨rfl,hr1,hk1⟩
  have HB1:=hide ((uh HB).keeps hk1 hne)
  have HR1:=hide hr1
  have HK1:=hide hk1
  clear hr1 hk1 HC HB HR hq1
  have hq1:w1.cell? ⟨q,1,none⟩=some (.slice (some ⟨g,0,none⟩) n cap):=(uh HB1).cell rfl
  have hf:=(uh HB1).frozen
  go_wp2
  go_end0
  refine⟨rfl,⟨hne,cap,?_,?_⟩,?_⟩
  ·rw[List.length_drop,uh HN];exact(uh HB1).setCell 1 _
  ·exact(uh HR1).keeps (M:=λi=>i=q) ((Keeps.refl (λi=>i=q) _).setCell (p:=⟨q,1,none⟩) (Or.inl rfl) _) (λh=>hne h.symm)
  ·exact((uh HK1).mono (M':=λi=>i=q\/some g=some i) (λi _ h=>.inr (by rw[h]))).setCell (p:=⟨q,1,none⟩) (Or.inl (Or.inl rfl)) _
theorem RowRep.owns{w:World}{d q:Nat}{og:Option Nat}{l:List Pn}(h:RowRep w d q og l):
  ∃cap,Blk w q [qEc d,slV og l.length cap] 279/\w.ownsRow 0 237 49 (slV og l.length cap) l.length (flatP l):=by
 cases og with
 | none=>obtain⟨rfl,hb⟩:=h;exact⟨0,hb,World.ownsRow_nil _ _ _ _⟩
 | some g =>
  obtain⟨hne,cap,hb,hr⟩:=h
  exact⟨cap,hb,hr.owns⟩
theorem qF0{w w1:World}{A B:Obj}{d q gg n cap cap':Nat}{og:Option Nat}{l:List Pn}{x:Pn}{v:Value}(hn:l.length=n)(hv:slV og n cap=v)(hlq:q<w.heap.size)(hb:Blk w q [qEc d,v] 279)(hqv:some q≠v.ownBlock)(hown1:w1.ownsRow 0 237 49 (.slice (some ⟨gg,0,none⟩) (n+1) cap') (n+1) (flatP l++x.cells))(hgrow:((w.alloc A).alloc B).drew.grownBy w1 v.ownBlock)(hat:v.ownBlock=some gg\/gg=w.heap.size+2):
  RowRep (w1.setCell ⟨q,1,none⟩ (.slice (some ⟨gg,0,none⟩) (n+1) cap')) d q (some gg) (l++[x]) /\
  Keeps (λk=>k=q\/og=some k) w (w1.setCell ⟨q,1,none⟩ (.slice (some ⟨gg,0,none⟩) (n+1) cap'))/\(og=some gg\/w.heap.size<=gg):=by
 have hob:∀k,v.ownBlock=some k->og=some k:=by
  intro k hk
  rw[<-hv]at hk
  cases og with
  | none=>simp[slV,Value.ownBlock]at hk
  | some g=>simpa[slV,Value.ownBlock] using hk
 have hqg:q≠gg:=by
  rcases hat with h | h
  ·intro e;apply hqv;rw[h,e]
  ·omega
 have hk1:Keeps (λk=>k=q\/og=some k) w w1:=(((Keeps.refl _ w).alloc A).alloc B).drew.grown hgrow (λk hk=>Or.inl (Or.inr (hob k hk)))
 have hb1:Blk w1 q [qEc d,v] 279:=by
  unfold Blk
  rw[hgrow.block q (by simp;omega) hqv]
  exact(hb.alloc A).alloc B
 refine⟨⟨hqg,cap',?_,?_⟩,hk1.setCell (Or.inl (Or.inl rfl)) _,?_⟩
 ·have:(l++[x]).length=n+1:=by simp[hn]
  rw[this]
  exact hb1.setCell 1 _
 ·have hfl:flatP l++x.cells=flatP (l++[x]):=by rw[flatP_append,qHz];simp[flatP]
  rw[hfl]at hown1
  exact(brow_of_owns (by simp[hn]) hown1).keeps (M:=λk=>k=q) ((Keeps.refl (λk=>k=q) _).setCell (Or.inl rfl) _) (λh=>hqg h.symm)
 ·rcases hat with h | h
  ·exact .inl (hob gg h)
  ·exact .inr (by omega)
theorem rowPut_any(d q:Nat)(og:Option Nat)(l:List Pn)(x:Pn)(w:World)(h:RowRep w d q og l)(hl:l.length<=1000000000):
  Calls Tryz.prog 234 #[.pointer (some ⟨q,0,none⟩),x.val] w λe w'=>e=.returned (.tuple #[])/\∃og',RowRep w' d q og' (l++[x])/\Keeps (λk=>k=q\/og=some k) w w'/\(og'=og\/∃k,og'=some k/\w.heap.size<=k):=by
 obtain⟨hlq,hlg⟩:=h.lt
 obtain⟨cap,hb,hown⟩:=h.owns
 have hq1:w.cell? ⟨q,1,none⟩=some (slV og l.length cap):=hb.cell rfl
 have hfz:=hb.frozen 1
 obtain⟨i0,hi0,hz0,hz1,hz2⟩:=info_parts infoBk
 generalize hn:l.length=n at *
 generalize hv:slV og n cap=v at *
 have hxl:x.cells.length=49:=x.cells_length
 unfold Pn.val
 have HB:Hid (Blk w q [qEc d,v] 279):=hb
 have HV:Hid (slV og n cap=v):=hv
 have HN:Hid (l.length=n):=hn
 have hqv:some q≠v.ownBlock:=by
  rw[<-hv]
  cases og with
  | none=>simp[slV,Value.ownBlock]
  | some g=>simp[slV,Value.ownBlock];exact(hlg g rfl).2
 have HF:Hid (∀A B w1,((w.alloc A).alloc B).drew.grownBy w1 v.ownBlock->w1.cell? ⟨q,1,none⟩=some v/\w1.frozen? ⟨q,1,none⟩=false):=λA B w1 hg=>by
  have hb1:w1.heap[q]?=w.heap[q]?:=by
   rw[hg.block q (by simp;omega) hqv]
   show((w.alloc A).alloc B).heap[q]?=_
   rw[Below.heap_alloc _ _ _ (by simp;omega),Below.heap_alloc _ _ _ hlq]
  exact⟨(World.cell?_of_block (a:=⟨q,1,none⟩) hb1).trans hq1,(World.frozen?_of_block (a:=⟨q,1,none⟩) hb1).trans hfz⟩
 have hnew:Hid (∀A B,((w.alloc A).alloc B).drew.heap[w.heap.size+1]?=some B):=λA B=>by
  have:=heap_alloc_new (w.alloc A) B
  rwa [World.size_alloc]at this
 clear hb h hv hn hlg
 go_enter Tryz.func234,Tryz.ntmps234
 go_wp2_with fail
 go_region_law
  ((refine step_append_lies _ (by rfl) _ _ _ (by rfl) 0 237 i0 _ 49 392 Tryz.underlying246 hi0 hz0 hz1 hz2 (by rfl) (by omega) v n (flatP l) (by rfl) (((hown.alloc _).alloc _).drew)
        ⟨w.heap.size+1,0,none⟩ 1 1 x.cells (by rfl) (by rw[x.cells_length]) (World.news_of_block (cs:=x.cells.toArray) (t:=237) (fr:=(0,0)) (hnew.out _ _)) x.one
        (by omega) (by unfold maxLen;omega) (by omega) (by omega) (w.heap.size+2) (by simp) ?_;intro gg cap' w1 hown1 hgrow hat hlt;have hcq:=(HF.out _ _ _ hgrow).1;have hfq:=(HF.out _ _ _ hgrow).2))
 all_goals
  have HE:=qF0 HN.out HV.out hlq HB.out hqv hown1 hgrow hat
  obtain⟨hQ2,hK2,hog⟩:=HE
  go_wp2
  go_end0
  refine⟨rfl,some gg,hQ2,hK2,?_⟩
  rcases hog with h | h
  ·exact .inl h.symm
  ·exact .inr ⟨gg,rfl,h⟩
theorem rowNew_any(d:Nat)(w:World):
  Calls Tryz.prog 201 #[qEc d] w λe w'=>e=.returned (.pointer (some ⟨w.heap.size,0,none⟩))/\RowRep w' d w.heap.size none []/\Keeps (λ_=>False) w w'/\w'.heap.size=w.heap.size+1:=by
 unfold qEc
 go_enter Tryz.func201,Tryz.ntmps201
 go_wp2
 go_ret
 exact⟨rfl,⟨rfl,Blk.new w [qEc d,.slice none 0 0] 279⟩,(Keeps.refl _ _).alloc _,by simp⟩
end Go.Proofs.YtahnliehdjncdabGreatDoor.Pa
namespace Go.Proofs.YtahnliehdjncdabGreatDoor
section
open Go.RowKit
def qA2(c:Cfg)(o:Pa.Pn)(r:Nat): List Value:=c.cells++(o.cells++[.pointer (some ⟨r,0,none⟩)])
theorem qBu(c:Cfg)(o:Pa.Pn)(r:Nat)(i:Nat)(h:i<20): (qA2 c o r)[i]?=c.cells[i]?:=by
 unfold qA2
 rw[List.getElem?_append_left (by simpa[Cfg.cells] using h)]
theorem qJf(c:Cfg)(o:Pa.Pn)(r:Nat)(j:Nat)(h:j<49): (qA2 c o r)[20+j]?=o.cells[j]?:=by
 unfold qA2
 rw[List.getElem?_append_right (by simp[Cfg.cells]),List.getElem?_append_left (by rw[o.cells_length];simp[Cfg.cells];omega)]
 simp[Cfg.cells]
theorem qMb(c:Cfg)(o:Pa.Pn)(r:Nat): (qA2 c o r)[69]?=some (.pointer (some ⟨r,0,none⟩)):=by
 unfold qA2
 rw[List.getElem?_append_right (by simp[Cfg.cells]),List.getElem?_append_right (by rw[o.cells_length];simp[Cfg.cells])]
 simp[Cfg.cells,o.cells_length]
def qA6(c:Cfg): Int:=c.window/c.panes
def qDd(c:Cfg)(p:Pa.Pn): Int:=(p.no+1)*qA6 c-1
theorem qJ0(d:Nat)(c:Cfg)(w:World)(h5:w.cell? ⟨d,5,none⟩=some (.int .i64 c.window))(h9:w.cell? ⟨d,9,none⟩=some (.int .i64 c.panes))(w0:0<=c.window)(w1:c.window<=1000)(p0:1<=c.panes):
  Calls Tryz.prog 204 #[.pointer (some ⟨d,0,none⟩)] w λe w'=>e=.returned (.int .i64 (qA6 c))/\Keeps (λ_=>False) w w':=by
 have hq:c.window.tdiv c.panes=c.window/c.panes:=Int.tdiv_eq_ediv_of_nonneg w0
 have hb0:0<=c.window/c.panes:=Int.ediv_nonneg w0 (by omega)
 have hb1:c.window/c.panes<=c.window:=Int.ediv_le_self _ w0
 have hw:IntKind.i64.wrap (c.window.tdiv c.panes)=c.window/c.panes:=by rw[hq,IntKind.wrap_i64];omega
 have hz:(c.panes==0)=false:=by simp;omega
 have hz2:¬c.panes=0:=by omega
 have HL:=hide (show c.window/c.panes=qA6 c from rfl)
 go_enter Tryz.func204,Tryz.ntmps204
 go_wp2
 go_quiet (fail)
 go_wp2
 go_ret
 exact⟨qA9 (uh HL),Keeps.drewN _ _ _⟩
end
section
open Go.RowKit
attribute [local go_sem ↓] Pa.execOp_loadP Pa.execOp_storeP Pa.execOp_bsP
attribute [local go_sem] Pa.run_loadP Pa.run_bsP qAb qAc qAn qAo qAf qAl
structure Cfg.paned (c:Cfg):Prop where
 w0:1<=c.window
 w1:c.window<=1000
 p0:1<=c.panes
 p1:c.panes<=8
def OkP(c:Cfg)(p:Pa.Pn): Prop:=0<=p.no/\p.no<=4611686018427387904/\0<=(p.no+1)*qA6 c/\(p.no+1)*qA6 c<=4611686018427389000
theorem qKw(d:Nat)(c:Cfg)(p:Pa.Pn)(w:World)(h5:w.cell? ⟨d,5,none⟩=some (.int .i64 c.window))(h9:w.cell? ⟨d,9,none⟩=some (.int .i64 c.panes))(hc:c.paned)(hp:OkP c p):
  Calls Tryz.prog 202 #[.pointer (some ⟨d,0,none⟩),.agg p.cells.toArray] w λe w'=>e=.returned (.int .i64 (qDd c p))/\Keeps (λ_=>False) w w':=by
 obtain⟨W,hW⟩:∃W,W=w.alloc (.cells p.cells.toArray 237):=⟨_,rfl⟩
 have HK:=hide (show Keeps (λ_=>False) w W by rw[hW];exact(Keeps.refl _ _).alloc _)
 have hx0:W.cell? ⟨w.heap.size,0,none⟩=some (.int .i64 p.no):=by rw[hW];exact(Blk.new w p.cells 237).cell rfl
 have g5:W.cell? ⟨d,5,none⟩=some (.int .i64 c.window):=(uh HK).cell h5 (λh=>h)
 have g9:W.cell? ⟨d,9,none⟩=some (.int .i64 c.panes):=(uh HK).cell h9 (λh=>h)
 have HW:=hide hW
 obtain⟨n0,n1,b0,b1⟩:=hp
 have HL:=hide (show(p.no+1)*qA6 c-1=qDd c p from rfl)
 have HLEN:=hide (λW' h5' h9'=>qJ0 d c W' h5' h9' (by have:=hc.w0;omega) hc.w1 hc.p0)
 generalize qA6 c=L at *
 have hw1:IntKind.i64.wrap (p.no+1)=p.no+1:=by rw[IntKind.wrap_i64];omega
 have hw2:IntKind.i64.wrap ((p.no+1)*L)=(p.no+1)*L:=by rw[IntKind.wrap_i64];omega
 have hw3:IntKind.i64.wrap ((p.no+1)*L-1)=(p.no+1)*L-1:=by rw[IntKind.wrap_i64];omega
 clear hW h5 h9 hc
 go_enter Tryz.func202,Tryz.ntmps202
 go_wp2_with fail
 rw[show w.alloc (.cells p.cells.toArray 237)=W from(uh HW).symm]
 generalize hpb:w.heap.size=pb at *
 go_region_held3 (λw'=>w'.cell? ⟨pb,0,none⟩=some (.int .i64 p.no)/\w'.cell? ⟨d,5,none⟩=some (.int .i64 c.window)/\w'.cell? ⟨d,9,none⟩=some (.int .i64 c.panes))
  (first | (go_split_ands;exact⟨by assumption,by assumption,by assumption⟩) | (go_split_ands;exact⟨hka.cell (by assumption) (λh=>h),hka.cell (by assumption) (λh=>h),hka.cell (by assumption) (λh=>h)⟩))
  (first | (go_at_call 204;refine(uh HLEN _ (by first | assumption | simpa using g5) (by first | assumption | simpa using g9)).mono ?_;rintro e W1 ⟨rfl,hka⟩))
 have HK1:=hide ((uh HK).drew.then hka)
 go_wp2
 go_ret
 exact⟨qA9 (uh HL),uh HK1⟩
theorem qL0(p:Pa.Pn)(w:World): ∃W,(Pa.storeP 237 (.pointer (some ⟨w.heap.size,0,none⟩)) (.agg p.cells.toArray)).run Tryz.prog (w.alloc (.cells #[.int .i64 0,.int .i64 0,.int .i64 0,.int .i64 0,.int .i64 0,.int .i64 0,.int .i64 0,.int .i64 0,.int .i64 0,.int .i64 0,.int .i64 0,.int .i64 0,.int .i64 0,.int .i64 0,.int .i64 0,.int .i64 0,.int .i64 0,.int .i64 0,.int .i64 0,.int .i64 0,.int .i64 0,.int .i64 0,.int .i64 0,.int .i64 0,.int .i64 0,.int .i64 0,.int .i64 0,.int .i64 0,.int .i64 0,.int .i64 0,.int .i64 0,.int .i64 0,.int .i64 0,.int .i64 0,.int .i64 0,.int .i64 0,.int .i64 0,.int .i64 0,.int .i64 0,.int .i64 0,.int .i64 0,.int .i64 0,.int .i64 0,.int .i64 0,.int .i64 0,.int .i64 0,.int .i64 0,.int .i64 0,.int .i64 0] 237))=.ok .skip W/\Blk W w.heap.size p.cells 237/\Keeps (λ_=>False) w W:=by
 have hb:Blk (w.alloc (.cells #[.int .i64 0,.int .i64 0,.int .i64 0,.int .i64 0,.int .i64 0,.int .i64 0,.int .i64 0,.int .i64 0,.int .i64 0,.int .i64 0,.int .i64 0,.int .i64 0,.int .i64 0,.int .i64 0,.int .i64 0,.int .i64 0,.int .i64 0,.int .i64 0,.int .i64 0,.int .i64 0,.int .i64 0,.int .i64 0,.int .i64 0,.int .i64 0,.int .i64 0,.int .i64 0,.int .i64 0,.int .i64 0,.int .i64 0,.int .i64 0,.int .i64 0,.int .i64 0,.int .i64 0,.int .i64 0,.int .i64 0,.int .i64 0,.int .i64 0,.int .i64 0,.int .i64 0,.int .i64 0,.int .i64 0,.int .i64 0,.int .i64 0,.int .i64 0,.int .i64 0,.int .i64 0,.int .i64 0,.int .i64 0,.int .i64 0] 237)) w.heap.size (List.replicate 49 (.int .i64 0)) 237:=Blk.new w (List.replicate 49 (.int .i64 0)) _
 refine⟨_,Pa.run_storeP _ w.heap.size 0 p.cells p.cells_length (λj hj=>⟨hb.some (by simpa using hj),hb.frozen _⟩) p.one,?_,?_⟩
 ·have:=Blk.setCells p.cells 0 _ _ hb (by rw[p.cells_length];simp)
  have e:over (List.replicate 49 (Value.int .i64 0)) 0 p.cells=p.cells:=by
   unfold over
   rw[p.cells_length,List.drop_eq_nil_of_le (by simp)]
   simp
  rw[e]at this
  exact this
 ·exact Keeps.setCells (Or.inr (Nat.le_refl _)) _ _ _ ((Keeps.refl (λ_=>False) w).alloc _)
theorem qXf(d q:Nat)(og:Option Nat)(l:List Pa.Pn)(i:Nat)(w:World)(h:Pa.RowRep w d q og l)(hi:i<l.length):
  Calls Tryz.prog 238 #[.pointer (some ⟨q,0,none⟩),.int .i64 i] w λe w'=>e=.returned (.agg (Pa.pnAt l i).cells.toArray)/\Keeps (λ_=>False) w w':=by
 cases og with
 | none=>obtain⟨hl,hb⟩:=h;subst hl;simp at hi
 | some g =>
  obtain⟨hne,cap,hb,hr⟩:=h
  have hq1:w.cell? ⟨q,1,none⟩=some (.slice (some ⟨g,0,none⟩) l.length cap):=hb.cell rfl
  have hlq:=hb.lt
  have hlg:=hr.lt
  have hrg:=qAp (hr.range i hi)
  rw[Pa.Pn.cells_length]at hrg
  have hbv:qAv w g (i*49) 49=.agg (Pa.pnAt l i).cells.toArray:=by unfold qAv;rw[hrg.1]
  have hbh:qA3 w g (i*49) 49=true:=hrg.2
  obtain⟨x,hx⟩:∃x,Pa.pnAt l i=x:=⟨_,rfl⟩
  rw[hx]at hbv ⊢
  generalize l.length=n at *
  have hi0:(0:Int)<=(i:Int):=by omega
  have hin:(i:Int)<(n:Int):=by omega
  have hgne:g≠w.heap.size:=by omega
  obtain⟨W2,hst,hb2,hk2⟩:=qL0 x w
  have HB2:=hide hb2
  have HK2:=hide hk2
  clear hb hr hrg hx hb2 hk2
  go_enter Tryz.func238,Tryz.ntmps238
  go_wp2
  have hlv:(loadVar 237 ⟨w.heap.size,0,none⟩).run Tryz.prog W2=.ok (.agg x.cells.toArray) W2 :=
   run_loadVar_mid W2 w.heap.size 0 237 x.cells _ (λj v hv=>by rw[Nat.zero_add];exact(uh HB2).cell hv) Tryz.underlying237 rfl (by rw[Pa.sizeP,x.cells_length])
  refine bodyPost_ret (v:=.agg x.cells.toArray) ?_ rfl ⟨rfl,uh HK2⟩
  simp[results,Tryz.results238,asAddr,hlv]
def qEn(c:Cfg)(l:List Pa.Pn)(t:Int): Nat:=(l.takeWhile (λp=>decide (qDd c p<=t))).length
theorem qVq(c:Cfg)(l:List Pa.Pn)(t:Int): qEn c l t<=l.length:=(List.takeWhile_prefix _).length_le
theorem qKn(d q:Nat)(og:Option Nat)(c:Cfg)(l:List Pa.Pn)(t:Int)(w:World)(h:Pa.RowRep w d q og l)(hl:l.length<=4398046511104)(h5:w.cell? ⟨d,5,none⟩=some (.int .i64 c.window))(h9:w.cell? ⟨d,9,none⟩=some (.int .i64 c.panes))(hc:c.paned)(hp:∀p∈l,OkP c p):
  Calls Tryz.prog 206 #[.pointer (some ⟨q,0,none⟩),.int .i64 t] w λe w'=>e=.returned (.int .i64 (qEn c l t))/\Keeps (λ_=>False) w w':=by
 cases og with
 | none =>
  obtain⟨hl,hb⟩:=h
  have hq1:w.cell? ⟨q,1,none⟩=some (.slice none 0 0):=hb.cell rfl
  subst hl
  clear hb
  go_enter Tryz.func206,Tryz.ntmps206
  go_wp2
  go_loopw [5] (λi wr=>i=.int .i64 0/\wr=w) (λ_ _=>0)
  case atStart=>exact⟨rfl,rfl⟩
  case round =>
   obtain⟨rfl,rfl⟩:=hrel
   go_wp2
   go_quiet (fail)
   go_wp2
   go_ret
   exact⟨rfl,Keeps.drewN _ _ _⟩
 | some g =>
  obtain⟨hne,cap,hb,hr⟩:=h
  have HB:=hide hb
  have HR:=hide hr
  have HP:=hide hp
  have HC:=hide hc
  have hltg:=hr.lt
  clear hb hr hp hc
  generalize hn:l.length=n at *
  have HN:=hide hn
  clear hn
  go_enter Tryz.func206,Tryz.ntmps206
  go_wp2
  go_loopw [5] (λi wr=>∃k:Nat,i=.int .i64 k/\k<=n/\Hid (Keeps (λ_=>False) w wr)/\Hid (qEn c l t=k+qEn c (l.drop k) t)) (λi _=>n-(intOf i).toNat)
  case atStart=>exact⟨0,rfl,Nat.zero_le _,Keeps.refl _ _,by show _=_;simp⟩
  case round =>
   obtain⟨k,rfl,hk,HK,HE⟩:=hrel
   have hq1:wr.cell? ⟨q,1,none⟩=some (.slice (some ⟨g,0,none⟩) n cap):=(uh HK).cell ((uh HB).cell rfl) (λh=>h)
   have hq0:wr.cell? ⟨q,0,none⟩=some (.func (.func 202) #[.pointer (some ⟨d,0,none⟩)] #[]):=(uh HK).cell ((uh HB).cell rfl) (λh=>h)
   have g5:wr.cell? ⟨d,5,none⟩=some (.int .i64 c.window):=(uh HK).cell h5 (λh=>h)
   have g9:wr.cell? ⟨d,9,none⟩=some (.int .i64 c.panes):=(uh HK).cell h9 (λh=>h)
   by_cases hlt:k<n
   ·have hkl:k<l.length:=by rw[uh HN];exact hlt
    have hrg:=qAp (((uh HR).keeps (uh HK) (λh=>h)).range k hkl)
    rw[Pa.Pn.cells_length]at hrg
    have hbv:qAv wr g (k*49) 49=.agg (Pa.pnAt l k).cells.toArray:=by unfold qAv;rw[hrg.1]
    have hbh:qA3 wr g (k*49) 49=true:=hrg.2
    have hgr:g<wr.heap.size:=Nat.lt_of_lt_of_le hltg (uh HK).size
    clear hrg
    have hk0:(0:Int)<=(k:Int):=by omega
    have hkn:(k:Int)<(n:Int):=by omega
    have HD:=hide (Pa.pnAt_drop l k hkl)
    have HOK:=hide (uh HP (Pa.pnAt l k) (by
         have:Pa.pnAt l k=l[k]:=by simp[Pa.pnAt,List.getD_eq_getElem?_getD,List.getElem?_eq_getElem hkl]
         rw[this];exact List.getElem_mem hkl))
    generalize Pa.pnAt l k=x at *
    clear hkl
    have HLT:=hide (λW h5' h9'=>qKw d c x W h5' h9' (uh HC) (uh HOK))
    obtain⟨lt,hlast⟩:∃lt,qDd c x=lt:=⟨_,rfl⟩
    have HLA:=hide hlast
    clear hlast
    by_cases ht:lt<=t
    all_goals
     have HT:=hide ht
     go_wp2
     go_region_held3 (λw'=>w'.cell? ⟨q,0,none⟩=some (.func (.func 202) #[.pointer (some ⟨d,0,none⟩)] #[])/\w'.cell? ⟨q,1,none⟩=some (.slice (some ⟨g,0,none⟩) n cap) /\
        qAv w' g (k*49) 49=.agg x.cells.toArray/\qA3 w' g (k*49) 49=true/\w'.cell? ⟨d,5,none⟩=some (.int .i64 c.window)/\w'.cell? ⟨d,9,none⟩=some (.int .i64 c.panes)) (first | (go_split_ands;exact⟨by assumption,by assumption,by assumption,by assumption,by assumption,by assumption⟩) | (go_split_ands;exact⟨hka.cell (by assumption) (λh=>h),hka.cell (by assumption) (λh=>h),(qDz hka (by first | exact hgr | simpa using hgr)).1.trans (by assumption),(qDz hka (by first | exact hgr | simpa using hgr)).2.trans (by assumption),hka.cell (by assumption) (λh=>h),hka.cell (by assumption) (λh=>h)⟩))
      (first | (go_at_call 202;refine(uh HLT _ (by first | assumption | simpa using g5) (by first | assumption | simpa using g9)).mono ?_;rintro e W1 ⟨rfl,hka⟩;rw[uh HLA]))
     have HK1:=hide (((Keeps.refl (λ_=>False) wr).drew).then hka)
     clear hka
    ·go_wp2
     go_roundw
     case rel =>
      refine⟨k+1,by go_num,by omega,(uh HK).then (uh HK1),?_⟩
      show _=_
      rw[uh HE,uh HD]
      unfold qEn
      rw[List.takeWhile_cons,if_pos (by simpa[uh HLA] using uh HT)]
      simp;omega
     case measure=>simp[intOf];omega
    ·go_wp2
     go_ret
     refine⟨?_,(uh HK).then (uh HK1)⟩
     rw[uh HE,uh HD]
     unfold qEn
     rw[List.takeWhile_cons,if_neg (by simpa[uh HLA] using uh HT)]
     simp
   ·have hd:decide ((k:Int)<(n:Int))=false:=by simp;omega
    go_wp2
    go_quiet (fail)
    go_wp2
    go_ret
    refine⟨?_,(uh HK).then (Keeps.drewN _ _ _)⟩
    rw[uh HE,List.drop_eq_nil_of_le (by rw[uh HN];omega)]
    simp[qEn]
end
end Go.Proofs.YtahnliehdjncdabGreatDoor
