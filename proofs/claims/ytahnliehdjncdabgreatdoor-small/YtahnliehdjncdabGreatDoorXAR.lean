import Derived.Test.YtahnliehdjncdabGreatDoorXAQ
import Derived.Test.YtahnliehdjncdabGreatDoorXAG
import Derived.Deep.LoopGhost
set_option maxRecDepth 100000
set_option maxHeartbeats 16000000
namespace Go.Proofs.YtahnliehdjncdabGreatDoor.Mk
open Go.RowKit
theorem lose_any(q:Nat)(og:Option Nat)(l:List Bk)(k:Nat)(w:World)(h:RowRep w q og l)(hk:k<=l.length):
  Calls Tryz.prog 193 #[.pointer (some ⟨q,0,none⟩),.int .i64 k] w λe w'=>e=.returned (.tuple #[])/\RowRep w' q og (l.drop k)/\Keeps (λi=>i=q\/og=some i) w w':=by
 cases og with
 | none =>
  obtain⟨hl,hb⟩:=h
  subst hl
  have hk0:k=0:=by simpa using hk
  subst hk0
  have hq1:w.cell? ⟨q,1,none⟩=some (.slice none 0 0):=hb.cell rfl
  have hf:=hb.frozen
  have HB:=hide hb
  clear hb hk
  go_enter Tryz.func193,Tryz.ntmps193
  go_wp2_with fail
  refine(qD4 _).mono ?_
  rintro e w' ⟨rfl,rfl⟩
  go_wp2
  go_end0
  refine⟨rfl,⟨rfl,?_⟩,(Keeps.refl (λi=>i=q\/none=some i) _).setCell (p:=⟨q,1,none⟩) (Or.inl (Or.inl rfl)) _⟩
  exact(uh HB).setCell 1 _
 | some g =>
  obtain⟨hne,cap,hb,hr⟩:=h
  have hq1:w.cell? ⟨q,1,none⟩=some (.slice (some ⟨g,0,none⟩) l.length cap):=hb.cell rfl
  have hlq:=hb.lt
  have HB:=hide hb
  have HR:=hide hr
  clear hb hr
  have HC:Hid (Calls Tryz.prog 229 #[.slice (some ⟨g,0,none⟩) l.length cap,.int .i64 0,.int .i64 k] w λe w'=>e=.returned (.slice (some ⟨g,0,none⟩) (l.length-k) cap)/\BRow w' g cap (l.drop k)/\Keeps (λi=>i=g) w w'):=by
   rcases Nat.eq_zero_or_pos k with h0 | h0
   ·subst h0
    refine(qDk g cap l.length w (uh HR).le).mono ?_
    rintro e w' ⟨rfl,rfl⟩
    exact⟨rfl,uh HR,Keeps.refl _ _⟩
   ·exact qFh g cap l.length k l w rfl (uh HR) h0 hk
  generalize hn:l.length=n at *
  have HN:=hide hn
  clear hn
  go_enter Tryz.func193,Tryz.ntmps193
  go_wp2_with fail
  refine(uh HC).mono ?_
  rintro e w1 ⟨rfl,hr1,hk1⟩
  have HB1:=hide ((uh HB).keeps hk1 hne)
  have HR1:=hide hr1
  have HK1:=hide hk1
  clear hr1 hk1 HC HB HR hq1
  have hq1:w1.cell? ⟨q,1,none⟩=some (.slice (some ⟨g,0,none⟩) n cap):=(uh HB1).cell rfl
  have hf:=(uh HB1).frozen
  go_wp2
  go_end0
  refine⟨rfl,⟨hne,cap,?_,?_⟩,?_⟩
  ·rw[List.length_drop,uh HN];exact(uh HB1).setCell 1 _
  ·exact(uh HR1).keeps (M:=λi=>i=q) ((Keeps.refl (λi=>i=q) _).setCell (p:=⟨q,1,none⟩) (Or.inl rfl) _) (λh=>hne h.symm)
  ·exact((uh HK1).mono (M':=λi=>i=q\/some g=some i) (λi _ h=>.inr (by rw[h]))).setCell (p:=⟨q,1,none⟩) (Or.inl (Or.inl rfl)) _
theorem RowRep.owns{w:World}{q:Nat}{og:Option Nat}{l:List Bk}(h:RowRep w q og l):
  ∃cap,Blk w q [qDw,slV og l.length cap] 275/\w.ownsRow 0 225 2 (slV og l.length cap) l.length (qBn l):=by
 cases og with
 | none=>obtain⟨rfl,hb⟩:=h;exact⟨0,hb,World.ownsRow_nil _ _ _ _⟩
 | some g =>
  obtain⟨hne,cap,hb,hr⟩:=h
  exact⟨cap,hb,hr.owns⟩
theorem qFp{w w1:World}{A B:Obj}{q gg n cap cap':Nat}{og:Option Nat}{l:List Bk}{x:Bk}{v:Value}(hn:l.length=n)(hv:slV og n cap=v)(hlq:q<w.heap.size)(hb:Blk w q [qDw,v] 275)(hqv:some q≠v.ownBlock)(hown1:w1.ownsRow 0 225 2 (.slice (some ⟨gg,0,none⟩) (n+1) cap') (n+1) (qBn l++[.int .i64 x.sz,.int .i64 x.t]))(hgrow:((w.alloc A).alloc B).drew.grownBy w1 v.ownBlock)(hat:v.ownBlock=some gg\/gg=w.heap.size+2):
  RowRep (w1.setCell ⟨q,1,none⟩ (.slice (some ⟨gg,0,none⟩) (n+1) cap')) q (some gg) (l++[x]) /\
  Keeps (λk=>k=q\/og=some k) w (w1.setCell ⟨q,1,none⟩ (.slice (some ⟨gg,0,none⟩) (n+1) cap'))/\(og=some gg\/w.heap.size<=gg):=by
 have hob:∀k,v.ownBlock=some k->og=some k:=by
  intro k hk
  rw[<-hv]at hk
  cases og with
  | none=>simp[slV,Value.ownBlock]at hk
  | some g=>simpa[slV,Value.ownBlock] using hk
 have hqg:q≠gg:=by
  rcases hat with h | h
  ·intro e;apply hqv;rw[h,e]
  ·omega
 have hk1:Keeps (λk=>k=q\/og=some k) w w1:=(((Keeps.refl _ w).alloc A).alloc B).drew.grown hgrow (λk hk=>Or.inl (Or.inr (hob k hk)))
 have hb1:Blk w1 q [qDw,v] 275:=by
  unfold Blk
  rw[hgrow.block q (by simp;omega) hqv]
  exact(hb.alloc A).alloc B
 refine⟨⟨hqg,cap',?_,?_⟩,hk1.setCell (Or.inl (Or.inl rfl)) _,?_⟩
 ·have:(l++[x]).length=n+1:=by simp[hn]
  rw[this]
  exact hb1.setCell 1 _
 ·have hfl:qBn l++[.int .i64 x.sz,.int .i64 x.t]=qBn (l++[x]):=by rw[qEg];rfl
  rw[hfl]at hown1
  exact(brow_of_owns (by simp[hn]) hown1).keeps (M:=λk=>k=q) ((Keeps.refl (λk=>k=q) _).setCell (Or.inl rfl) _) (λh=>hqg h.symm)
 ·rcases hat with h | h
  ·exact .inl (hob gg h)
  ·exact .inr (by omega)
theorem rowPut_any(q:Nat)(og:Option Nat)(l:List Bk)(x:Bk)(w:World)(h:RowRep w q og l)(hl:l.length<=4398046511104):
  Calls Tryz.prog 200 #[.pointer (some ⟨q,0,none⟩),x.val] w λe w'=>e=.returned (.tuple #[])/\∃og',RowRep w' q og' (l++[x])/\Keeps (λk=>k=q\/og=some k) w w'/\(og'=og\/∃k,og'=some k/\w.heap.size<=k):=by
 obtain⟨hlq,hlg⟩:=h.lt
 obtain⟨cap,hb,hown⟩:=h.owns
 have hq1:w.cell? ⟨q,1,none⟩=some (slV og l.length cap):=hb.cell rfl
 have hfz:=hb.frozen 1
 obtain⟨i0,hi0,hz0,hz1,hz2⟩:=info_parts infoBk
 generalize hn:l.length=n at *
 generalize hv:slV og n cap=v at *
 unfold Bk.val
 have HB:Hid (Blk w q [qDw,v] 275):=hb
 have HV:Hid (slV og n cap=v):=hv
 have HN:Hid (l.length=n):=hn
 have hqv:some q≠v.ownBlock:=by
  rw[<-hv]
  cases og with
  | none=>simp[slV,Value.ownBlock]
  | some g=>simp[slV,Value.ownBlock];exact(hlg g rfl).2
 have HF:Hid (∀A B w1,((w.alloc A).alloc B).drew.grownBy w1 v.ownBlock->w1.cell? ⟨q,1,none⟩=some v/\w1.frozen? ⟨q,1,none⟩=false):=λA B w1 hg=>by
  have hb1:w1.heap[q]?=w.heap[q]?:=by
   rw[hg.block q (by simp;omega) hqv]
   show((w.alloc A).alloc B).heap[q]?=_
   rw[Below.heap_alloc _ _ _ (by simp;omega),Below.heap_alloc _ _ _ hlq]
  exact⟨(World.cell?_of_block (a:=⟨q,1,none⟩) hb1).trans hq1,(World.frozen?_of_block (a:=⟨q,1,none⟩) hb1).trans hfz⟩
 have hnew:Hid (∀A B,((w.alloc A).alloc B).drew.heap[w.heap.size+1]?=some B):=λA B=>by
  have:=heap_alloc_new (w.alloc A) B
  rwa [World.size_alloc]at this
 clear hb h hv hn hlg
 go_enter Tryz.func200,Tryz.ntmps200
 go_wp2_with fail
 go_region_law
  ((refine step_append_lies _ (by rfl) _ _ _ (by rfl) 0 225 i0 _ 2 16 Tryz.underlying273 hi0 hz0 hz1 hz2 rfl (by omega) v n (qBn l) (by rfl) (((hown.alloc _).alloc _).drew)
        ⟨w.heap.size+1,0,none⟩ 1 1 [.int .i64 x.sz,.int .i64 x.t] (by rfl) (by rfl) (World.news_of_block (cs:=#[.int .i64 x.sz,.int .i64 x.t]) (t:=225) (fr:=(0,0)) (hnew.out _ _)) (by simp[Value.oneCell'])
        (by omega) (by unfold maxLen;omega) (by omega) (by omega) (w.heap.size+2) (by simp) ?_;intro gg cap' w1 hown1 hgrow hat hlt;have hcq:=(HF.out _ _ _ hgrow).1;have hfq:=(HF.out _ _ _ hgrow).2))
 all_goals
  have HE:=qFp HN.out HV.out hlq HB.out hqv hown1 hgrow hat
  obtain⟨hQ2,hK2,hog⟩:=HE
  go_wp2
  go_end0
  refine⟨rfl,some gg,hQ2,hK2,?_⟩
  rcases hog with h | h
  ·exact .inl h.symm
  ·exact .inr ⟨gg,rfl,h⟩
theorem rowNew_any(w:World):
  Calls Tryz.prog 191 #[qDw] w λe w'=>e=.returned (.pointer (some ⟨w.heap.size,0,none⟩))/\RowRep w' w.heap.size none []/\Keeps (λ_=>False) w w'/\w'.heap.size=w.heap.size+1:=by
 unfold qDw
 go_enter Tryz.func191,Tryz.ntmps191
 go_wp2
 go_ret
 exact⟨rfl,⟨rfl,Blk.new w [qDw,.slice none 0 0] 275⟩,(Keeps.refl _ _).alloc _,by simp⟩
end Go.Proofs.YtahnliehdjncdabGreatDoor.Mk
namespace Go.Proofs.YtahnliehdjncdabGreatDoor.Pa
open Go.RowKit
structure Pn where
 no:Int
 cs:List Int
 len:cs.length=48
def Pn.cells(p:Pn): List Value:=.int .i64 p.no::p.cs.map (.int .i64 ·)
theorem Pn.cells_length(p:Pn): p.cells.length=49:=by simp[Pn.cells,p.len]
def Pn.val(p:Pn): Value:=.agg p.cells.toArray
def pn0: Pn:=⟨0,List.replicate 48 0,by simp⟩
def pnAt(l:List Pn)(i:Nat): Pn:=l.getD i pn0
def flatP(l:List Pn): List Value:=l.flatMap Pn.cells
def qHk(n:Nat): List Value:=List.replicate (n*49) (.int .i64 0)
theorem qG6(x:Pn)(l:List Pn): flatP (x::l)=x.cells++flatP l:=by simp[flatP]
theorem qGb(l:List Pn): (flatP l).length=l.length*49:=by
 induction l with
 | nil=>rfl
 | cons x l ih=>rw[qG6,List.length_append,ih,x.cells_length,List.length_cons];omega
theorem flatP_append(a b:List Pn): flatP (a++b)=flatP a++flatP b:=by simp[flatP]
theorem qMh(l:List Pn)(i:Nat): flatP (l.drop i)=(flatP l).drop (i*49):=by
 induction l generalizing i with
 | nil=>simp[flatP]
 | cons x l ih =>
  cases i with
  | zero=>simp
  | succ i =>
   rw[List.drop_succ_cons,ih,qG6,show(i+1)*49=x.cells.length+i*49 by rw[x.cells_length];omega,<-List.drop_drop,List.drop_left]
theorem pnAt_drop(l:List Pn)(k:Nat)(h:k<l.length): l.drop k=pnAt l k::l.drop (k+1):=by
 rw[List.drop_eq_getElem_cons h]
 congr 1
 simp[pnAt,List.getD_eq_getElem?_getD,List.getElem?_eq_getElem h]
theorem qZ9(l:List Pn)(i j:Nat)(h:i<l.length)(hj:j<49): (flatP l)[i*49+j]?=(pnAt l i).cells[j]?:=by
 have h1:(flatP l)[i*49+j]?=((flatP l).drop (i*49))[j]?:=by rw[List.getElem?_drop]
 rw[h1,<-qMh,pnAt_drop l i h,qG6,List.getElem?_append_left (by rw[Pn.cells_length];exact hj)]
theorem Pn.one(p:Pn): ∀u∈p.cells,u.oneCell'=true:=by
 intro u hu
 simp only[Pn.cells,List.mem_cons,List.mem_map]at hu
 rcases hu with rfl | ⟨y,_,rfl⟩ <;> rfl
theorem qXx(l:List Pn): ∀u∈flatP l,u.oneCell'=true:=by
 intro u hu
 simp only[flatP,List.mem_flatMap]at hu
 obtain⟨p,_,hp⟩:=hu
 exact p.one u hp
theorem qFw(n:Nat): (qHk n).length=n*49:=by simp[qHk]
theorem qVd(n:Nat): ∀u∈qHk n,u.oneCell'=true:=by
 intro u hu
 rw[qHk,List.mem_replicate]at hu
 rw[hu.2];rfl
structure BRow (w:World) (g cap:Nat) (l:List Pn):Prop where
 ex:∃cur:List Value,Blk w g cur 237/\cur.length=cap*49/\cur.take (l.length*49)=flatP l
 le:l.length<=cap
 max:cap<=maxLen
theorem BRow.lt{w:World}{g cap:Nat}{l:List Pn}(h:BRow w g cap l): g<w.heap.size:=by obtain⟨cur,hb,_⟩:=h.ex;exact hb.lt
theorem BRow.keeps{M:Nat->Prop}{w w':World}{g cap:Nat}{l:List Pn}(h:BRow w g cap l)(k:Keeps M w w')(hn:¬M g): BRow w' g cap l:=by
 obtain⟨cur,hb,r⟩:=h.ex;exact⟨⟨cur,hb.keeps k hn,r⟩,h.le,h.max⟩
theorem BRow.range{w:World}{g cap:Nat}{l:List Pn}(h:BRow w g cap l)(i:Nat)(hi:i<l.length): w.rangeAt g (i*49) (pnAt l i).cells:=by
 obtain⟨cur,hb,hl,ht⟩:=h.ex
 intro j v hv
 have hj:j<49:=by have:=(List.getElem?_eq_some_iff.1 hv).1;rwa [Pn.cells_length]at this
 refine hb.cell ?_
 have hg:cur[i*49+j]?=(flatP l)[i*49+j]?:=by rw[<-ht,List.getElem?_take,if_pos (by omega)]
 rw[hg,qZ9 l i j hi hj]
 exact hv
theorem BRow.owns{w:World}{g cap:Nat}{l:List Pn}(h:BRow w g cap l): w.ownsRow 0 237 49 (.slice (some ⟨g,0,none⟩) l.length cap) l.length (flatP l):=by
 obtain⟨cur,hc,hl,ht⟩:=h.ex
 exact⟨qGb l,.inr ⟨g,cap,cur.toArray,rfl,Nat.zero_le _,hc,h.le,h.max,by simp[hl],by simpa using ht⟩⟩
theorem brow_of_owns{w:World}{g n cap:Nat}{l:List Pn}(hn:l.length=n)(h:w.ownsRow 0 237 49 (.slice (some ⟨g,0,none⟩) n cap) n (flatP l)): BRow w g cap l:=by
 rcases h.2 with ⟨h1,_⟩ | ⟨g',cap',cur,h1,_,h3,h4,h5,h6,h7⟩
 ·cases h1
 ·cases h1
  subst hn
  exact⟨⟨cur.toList,by unfold Blk;simpa using h3,by simpa using h6,h7⟩,h4,h5⟩
def qXm: Value:=.agg (List.replicate 49 (Value.int .i64 0)).toArray
theorem infoBk: (Tryz.prog.info? 237).map (λi=>(i.zero,i.size,i.bytes))=some (some qXm,49,392):=by kernel_rfl
theorem zDm(w:World): (zeroValue 237).run Tryz.prog w=.ok qXm w:=by kernel_rfl
theorem qM7(z:Value)(k:Nat)(hk:0<k)(n:Nat): (Builtin.zeroCells (List.replicate k z).toArray n).toList=List.replicate (n*k) z:=by
 apply List.ext_getElem?
 intro j
 by_cases hj:j<n*k
 ·have hm:j%k<k:=Nat.mod_lt _ hk
  simp[Builtin.zeroCells,hj,hm]
 ·rw[List.getElem?_eq_none (by simp[Builtin.zeroCells];omega),List.getElem?_eq_none (by simp;omega)]
theorem qLw(n:Nat): (Builtin.zeroCells (Value.agg #[.int .i64 0,.int .i64 0,.int .i64 0,.int .i64 0,.int .i64 0,.int .i64 0,.int .i64 0,.int .i64 0,.int .i64 0,.int .i64 0,.int .i64 0,.int .i64 0,.int .i64 0,.int .i64 0,.int .i64 0,.int .i64 0,.int .i64 0,.int .i64 0,.int .i64 0,.int .i64 0,.int .i64 0,.int .i64 0,.int .i64 0,.int .i64 0,.int .i64 0,.int .i64 0,.int .i64 0,.int .i64 0,.int .i64 0,.int .i64 0,.int .i64 0,.int .i64 0,.int .i64 0,.int .i64 0,.int .i64 0,.int .i64 0,.int .i64 0,.int .i64 0,.int .i64 0,.int .i64 0,.int .i64 0,.int .i64 0,.int .i64 0,.int .i64 0,.int .i64 0,.int .i64 0,.int .i64 0,.int .i64 0,.int .i64 0]).cells n).toList=qHk n:=qM7 (.int .i64 0) 49 (by omega) n
theorem qB8(w:World)(ty:TypeId)(b o n c:Nat)(cs:List Value)(h:Blk w b cs 237)(hn:0<n)(hl:o+n*49<=cs.length):
  (Builtin.clear_ #[246] ty #[.slice (some ⟨b,o,none⟩) n c]).run Tryz.prog w=.ok (.tuple #[]) (w.setCells b o (qHk n)):=by
 have hst:=run_storeCells_cells (P:=Tryz.prog) b o (qHk n) 0 w (λj hj=>h.some (by rw[qFw]at hj;omega)) (λj _=>h.frozen _) (qVd n)
 simp only[Nat.add_zero]at hst
 obtain⟨m,rfl⟩:∃m,n=m+1:=⟨n-1,by omega⟩
 simp[Builtin.clear_,run_underlying Tryz.underlying246,qLw,hst]
theorem qFe{w:World}{g cap n j:Nat}{l:List Pn}{cur:List Value}(hn:l.length=n)(hb:Blk w g cur 237)(hl:cur.length=cap*49)(hle:n<=cap)(hmax:cap<=maxLen)(hj:j<=n):
  BRow ((w.setCells g 0 (flatP (l.drop j))).setCells g ((n-j)*49) (qHk j)) g cap (l.drop j):=by
 have h1:(flatP (l.drop j)).length=(n-j)*49:=by rw[qGb];simp[hn]
 have hb1:=Blk.setCells (flatP (l.drop j)) 0 w cur hb (by rw[h1];omega)
 have hl1:(over cur 0 (flatP (l.drop j))).length=cap*49:=by rw[qBa (by rw[h1];omega),hl]
 have hb2:=Blk.setCells (qHk j) ((n-j)*49) _ _ hb1 (by rw[hl1,qFw];omega)
 refine⟨⟨_,hb2,by rw[qBa (by rw[hl1,qFw];omega),hl1],?_⟩,by simp[hn];omega,hmax⟩
 have hlen:(l.drop j).length*49=(n-j)*49:=by simp[hn]
 rw[hlen]
 unfold over
 rw[List.append_assoc,List.take_append_of_le_length (by simp[h1])]
 rw[List.take_take,Nat.min_self]
 simp only[List.take_zero,List.nil_append]
 rw[List.take_append_of_le_length (by omega),List.take_of_length_le (by omega)]
theorem qD4(w:World):
  Calls Tryz.prog 235 #[.slice none 0 0,.int .i64 0,.int .i64 0] w λe w'=>e=.returned (.slice none 0 0)/\w'=w:=by
 go_enter Tryz.func235,Tryz.ntmps235
 go_wp2
 go_ret
 exact⟨rfl,rfl⟩
theorem qDk(g cap n:Nat)(w:World)(hle:n<=cap):
  Calls Tryz.prog 235 #[.slice (some ⟨g,0,none⟩) n cap,.int .i64 0,.int .i64 0] w λe w'=>e=.returned (.slice (some ⟨g,0,none⟩) n cap)/\w'=w:=by
 have h0:(0:Int)<=(n:Int):=by omega
 have h1:(n:Int)<=(cap:Int):=by omega
 go_enter Tryz.func235,Tryz.ntmps235
 go_wp2
 go_ret
 exact⟨rfl,rfl⟩
theorem qFh(g cap n j:Nat)(l:List Pn)(w:World)(hn:l.length=n)(hr:BRow w g cap l)(hj0:0<j)(hj:j<=n):
  Calls Tryz.prog 235 #[.slice (some ⟨g,0,none⟩) n cap,.int .i64 0,.int .i64 j] w λe w'=>e=.returned (.slice (some ⟨g,0,none⟩) (n-j) cap)/\BRow w' g cap (l.drop j)/\Keeps (·=g) w w':=by
 obtain⟨cur,hb,hl,ht⟩:=hr.ex
 have hle:=hr.le
 rw[hn]at hle
 have hmax:=hr.max
 have hcap:cap<=9223372036854775807:=by unfold maxLen at hmax;omega
 have HFIN:=hide (qFe (w:=w.drew) hn (by exact hb.drew) hl hle hmax hj)
 obtain⟨news,hnews⟩:∃news,news=flatP (l.drop j):=⟨_,rfl⟩
 rw[<-hnews]at HFIN
 have hlen:news.length=(n-j)*49:=by rw[hnews,qGb];simp[hn]
 have hget:∀t u,news[t]?=some u->w.cell? ⟨g,j*49+t,none⟩=some u:=by
  intro t u hu
  refine hb.cell ?_
  have htl:t<(n-j)*49:=by have:=(List.getElem?_eq_some_iff.1 hu).1;omega
  rw[hnews,qMh,List.getElem?_drop,<-ht,List.getElem?_take,if_pos (by omega)]at hu
  exact hu
 obtain⟨A,hA,hsrc⟩:∃A:Addr,(if cap=j then some (⟨g,0,none⟩:Addr) else some ⟨g,j*49,none⟩)=some A/\Hid (∀t u,news[t]?=some u->w.drew.cell? (A.add t)=some u):=by
  by_cases h:cap=j
  ·refine⟨⟨g,0,none⟩,by simp[h],λt u hu=>?_⟩
   have h0:news.length=0:=by omega
   rw[List.length_eq_zero_iff.1 h0]at hu
   simp at hu
  ·refine⟨⟨g,j*49,none⟩,by simp[h],λt u hu=>?_⟩
   rw[Addr.add_lit]
   exact hget t u hu
 have s1:Hid (news.length=(n-j)*49):=hlen
 have s2:Hid (∀u∈news,u.oneCell'=true):=by rw[hnews];exact qXx _
 have s3:Hid (∀t,t<news.length->(w.drew.cell? ⟨g,0+0*49+t,none⟩).isSome=true/\w.drew.frozen? ⟨g,0+0*49+t,none⟩=false):=by
  intro t ht'
  exact⟨hb.some (by omega),hb.frozen _⟩
 obtain⟨W1,hW1⟩:∃W1,W1=w.drew.setCells g 0 news:=⟨_,rfl⟩
 have hbW:Blk W1 g (over cur 0 news) 237:=by rw[hW1];exact Blk.setCells _ _ _ _ hb.drew (by omega)
 have hcl:∀ty,(Builtin.clear_ #[246] ty #[.slice (some ⟨g,(n-j)*49,none⟩) (n-(n-j)) (cap-(n-j))]).run Tryz.prog W1=.ok (.tuple #[]) (W1.setCells g ((n-j)*49) (qHk (n-(n-j)))) :=
  λty=>qB8 W1 ty g _ _ _ _ hbW (by omega) (by rw[qBa (by omega)];omega)
 have hW:Hid (W1=w.drew.setCells g (0+0*49) news):=hW1
 have HK:=hide (show Keeps (·=g) w W1 by rw[hW1];exact Keeps.setCells (M:=λx=>x=g) (Or.inl rfl) _ _ _ (Keeps.refl _ _).drew)
 rw[<-hW1]at HFIN
 obtain⟨i0,hi0,hz0,hz1,hz2⟩:=info_parts infoBk
 have hjc:j<=cap:=by omega
 have HNJ:=hide (show n-(n-j)=j by omega)
 clear hW1 hbW hget hnews hlen hb ht hl hr hn hmax hz0 hz2
 go_enter Tryz.func235,Tryz.ntmps235
 go_wp2_with fail
 go_region_law (refine step_append_room rfl (.tmp 22) (.tmp 25) 246 rfl 237 i0 49 Tryz.underlying246 hi0 hz1 g 0 0 cap (by simp[Act.eval,Act.put]) A (n-j) (cap-j) news (by simp[Act.eval,Act.put]) s1.out hsrc.out s2.out (by omega) s3.out ?_;rw[<-hW.out])
 go_wp2
 go_ret
 refine⟨by simp,?_,?_⟩
 ·have:=uh HFIN;rw[uh HNJ];exact this
 ·exact Keeps.setCells (M:=λx=>x=g) (Or.inl rfl) _ _ _ (uh HK)
end Go.Proofs.YtahnliehdjncdabGreatDoor.Pa
namespace Go.Proofs.YtahnliehdjncdabGreatDoor.Pa
open Go.RowKit
theorem execOp_loadP(ρ:Operand->Value)(dst:Option Tmp)(x:Operand)(ty:TypeId)(pos:String)(after:Array Edge)(guard:Option (Nat×Bool)):
  execOp ρ { dst,op:=.load 237 x,type:=ty,pos,after,guard }=qEj 237 (ρ x):=rfl
theorem sizeP: (Tryz.prog.info? 237).map (·.size)=some 49:=by kernel_rfl
theorem run_loadP(w:World)(b o:Nat)(h:qAw w b o 49=true): (qEj 237 (.pointer (some ⟨b,o,none⟩))).run Tryz.prog w=.ok (.value (qAp w b o 49)) w:=by
 unfold qEj
 rw[Sem.run_bind,run_loadAt_mid w b o 237 (qBr w b o 49) _ (qE4 h) Tryz.underlying237 rfl (by rw[sizeP];simp[qBr])]
 rfl
def storeP(ty:TypeId)(a x:Value): Sem Next:=do Instr.storeAt ty a x;pure .skip
theorem execOp_storeP(ρ:Operand->Value)(dst:Option Tmp)(x y:Operand)(ty:TypeId)(pos:String)(after:Array Edge)(guard:Option (Nat×Bool)):
  execOp ρ { dst,op:=.store 237 x y,type:=ty,pos,after,guard }=storeP 237 (ρ x) (ρ y):=rfl
theorem run_storeP(w:World)(b o:Nat)(cs:List Value)(hc:cs.length=49)(ht:w.there b o 49)(h1:∀u∈cs,u.oneCell'=true):
  (storeP 237 (.pointer (some ⟨b,o,none⟩)) (.agg cs.toArray)).run Tryz.prog w=.ok .skip (w.setCells b o cs):=by
 unfold storeP
 rw[Sem.run_bind,run_storeAt_mid w b o 237 cs.toArray (by simpa[hc] using ht) (by rw[sizeP];simp[hc]) (by simpa using h1)]
 rfl
def qEw(arr:Array Value)(o:Nat): List Value->Array Value
 | []=>arr
 | c::r=>qEw (arr.setIfInBounds o c) (o+1) r
theorem qEa: ∀(cs:List Value) (pre:List Value) (rest:List Value),rest.length=cs.length->qEw (pre++rest).toArray pre.length cs=(pre++cs).toArray
 | [],pre,rest,h=>by
  have:rest=[]:=List.length_eq_zero_iff.1 h
  subst this;rfl
 | c::r,pre,rest,h=>by
  cases rest with
  | nil=>simp at h
  | cons d q =>
   unfold qEw
   have h1:((pre++d::q).toArray.setIfInBounds pre.length c)=((pre++[c])++q).toArray:=by simp
   rw[h1]
   have:=qEa r (pre++[c]) q (by simpa using h)
   rw[List.length_append]at this
   simpa using this
theorem qTp: ∀(cs:List Value) (o:Nat) (arr:Array Value),(cs.zipIdx o).foldl (λ(a:Array Value) (p:Value×Nat)=>a.setIfInBounds (0+p.2) p.1) arr=qEw arr o cs
 | [],_,_=>rfl
 | c::r,o,arr=>by
  rw[List.zipIdx_cons,List.foldl_cons,qTp r (o+1)]
  simp[qEw]
theorem qZu(cs:List Value)(zs:List Value)(h:zs.length=cs.length)(s:Nat)(hs:cs.length=s): Instr.fill (λi=>some (i*s,s)) zs.toArray [(0,.agg cs.toArray)]=some cs.toArray:=by
 have h2:=qEa cs [] zs h
 simp only[List.nil_append,List.length_nil]at h2
 have h3:=qTp cs 0 zs.toArray
 simp only[Instr.fill,Value.cells,Nat.zero_mul]
 rw[if_neg (by simp[hs];omega)]
 have h4:Array.foldl (λ(a:Array Value) (p:Value×Nat)=>a.setIfInBounds (0+p.2) p.1) zs.toArray cs.toArray.zipIdx=cs.toArray:=by
  rw[<-Array.foldl_toList,Array.toList_zipIdx,h3,h2]
 exact congrArg some h4
def bsP(ty:TypeId)(n:Nat)(ps:Array (Nat×Value)): Sem Next:=do pure (.value (<-Instr.buildSlice ty n ps))
theorem execOp_bsP(ρ:Operand->Value)(dst:Option Tmp)(n:Nat)(x:Array (Nat×Operand))(ty:TypeId)(pos:String)(after:Array Edge)(guard:Option (Nat×Bool)):
  execOp ρ { dst,op:=.buildSlice 246 n x,type:=ty,pos,after,guard }=bsP 246 n (x.map λ(i,y)=>(i,ρ y)):=rfl
theorem run_bsP(p:Pn)(w:World): (bsP 246 1 #[(0,.agg p.cells.toArray)]).run Tryz.prog w=.ok (.value (.slice (some ⟨w.heap.size,0,none⟩) 1 1)) (w.alloc (.cells p.cells.toArray 237)):=by
 obtain⟨i0,hi0,hz0,hz1,hz2⟩:=info_parts infoBk
 have hf:Instr.fill (λi=>some (i*49,49)) (List.replicate 49 (Value.int .i64 0)).toArray [(0,.agg p.cells.toArray)]=some p.cells.toArray:=qZu p.cells _ (by rw[p.cells_length];simp) 49 p.cells_length
 have hr:((Array.range (1*49)).map (qXm.cells[·%qXm.cells.size]!))=(List.replicate 49 (Value.int .i64 0)).toArray:=by kernel_rfl
 have hzr:(zeroValue 237).run Tryz.prog w=.ok qXm w:=zDm w
 have hsz:(sizeOf 237).run Tryz.prog w=.ok 49 w:=by simp[sizeOf,typeInfo,hi0,hz1]
 unfold bsP Instr.buildSlice
 simp only[Sem.run_bind,run_underlying Tryz.underlying246,Result.andThen_ok,hsz]
 rw[if_neg (by decide),if_neg (by decide)]
 simp only[Sem.run_bind,hzr,Result.andThen_ok,Sem.run_pure,hr,hf]
 simp[newRow]
end Go.Proofs.YtahnliehdjncdabGreatDoor.Pa
namespace Go.Proofs.YtahnliehdjncdabGreatDoor.Pa
open Go.RowKit
attribute [local go_sem ↓] execOp_loadP execOp_storeP execOp_bsP
attribute [local go_sem] run_loadP run_bsP qAd qAc qAo qAn qAf qAi
def qDw(d:Nat): Value:=.func (.func 202) #[.pointer (some ⟨d,0,none⟩)] #[]
def RowRep(w:World)(d:Nat)(r:Nat)(og:Option Nat)(l:List Pn): Prop :=
 match og with
 | none=>l=[]/\Blk w r [qDw d,.slice none 0 0] 279
 | some g=>r≠g/\∃cap,Blk w r [qDw d,.slice (some ⟨g,0,none⟩) l.length cap] 279/\BRow w g cap l
theorem RowRep.lt{w:World}{d r:Nat}{og:Option Nat}{l:List Pn}(h:RowRep w d r og l): r<w.heap.size/\∀g,og=some g->g<w.heap.size/\r≠g:=by
 cases og with
 | none=>exact⟨h.2.lt,λ_ h=>by cases h⟩
 | some g=>obtain⟨hne,cap,hb,hr⟩:=h;exact⟨hb.lt,λg' h=>by cases h;exact⟨hr.lt,hne⟩⟩
theorem RowRep.keeps{M:Nat->Prop}{w w':World}{d r:Nat}{og:Option Nat}{l:List Pn}(h:RowRep w d r og l)(k:Keeps M w w')(hq:¬M r)(hg:∀g,og=some g->¬M g): RowRep w' d r og l:=by
 cases og with
 | none=>exact⟨h.1,h.2.keeps k hq⟩
 | some g=>obtain⟨hne,cap,hb,hr⟩:=h;exact⟨hne,cap,hb.keeps k hq,hr.keeps k (hg g rfl)⟩
theorem RowRep.still{w w':World}{d r:Nat}{og:Option Nat}{l:List Pn}(h:RowRep w d r og l)(k:Keeps (λ_=>False) w w'): RowRep w' d r og l:=h.keeps k (λh=>h) (λ_ _ h=>h)
theorem rowLen_any(d q:Nat)(og:Option Nat)(l:List Pn)(w:World)(h:RowRep w d q og l):
  Calls Tryz.prog 237 #[.pointer (some ⟨q,0,none⟩)] w λe w'=>e=.returned (.int .i64 l.length)/\w'=w:=by
 cases og with
 | none =>
  obtain⟨hl,hb⟩:=h
  have hq1:w.cell? ⟨q,1,none⟩=some (.slice none 0 0):=hb.cell rfl
  subst hl
  clear hb
  go_enter Tryz.func237,Tryz.ntmps237
  go_wp2
  go_ret
  exact⟨rfl,rfl⟩
 | some g =>
  obtain⟨hne,cap,hb,hr⟩:=h
  have hq1:w.cell? ⟨q,1,none⟩=some (.slice (some ⟨g,0,none⟩) l.length cap):=hb.cell rfl
  clear hb hr
  go_enter Tryz.func237,Tryz.ntmps237
  go_wp2
  go_ret
  exact⟨rfl,rfl⟩
theorem lose_any(d q:Nat)(og:Option Nat)(l:List Pn)(k:Nat)(w:World)(h:RowRep w d q og l)(hk:k<=l.length):
  Calls Tryz.prog 205 #[.pointer (some ⟨q,0,none⟩),.int .i64 k] w λe w'=>e=.returned (.tuple #[])/\RowRep w' d q og (l.drop k)/\Keeps (λi=>i=q\/og=some i) w w':=by
 cases og with
 | none =>
  obtain⟨hl,hb⟩:=h
  subst hl
  have hk0:k=0:=by simpa using hk
  subst hk0
  have hq1:w.cell? ⟨q,1,none⟩=some (.slice none 0 0):=hb.cell rfl
  have hf:=hb.frozen
  have HB:=hide hb
  clear hb hk
  go_enter Tryz.func205,Tryz.ntmps205
  go_wp2_with fail
  refine(qD4 _).mono ?_
  rintro e w' ⟨rfl,rfl⟩
  go_wp2
  go_end0
  refine⟨rfl,⟨rfl,?_⟩,(Keeps.refl (λi=>i=q\/none=some i) _).setCell (p:=⟨q,1,none⟩) (Or.inl (Or.inl rfl)) _⟩
  exact(uh HB).setCell 1 _
 | some g =>
  obtain⟨hne,cap,hb,hr⟩:=h
  have hq1:w.cell? ⟨q,1,none⟩=some (.slice (some ⟨g,0,none⟩) l.length cap):=hb.cell rfl
  have hlq:=hb.lt
  have HB:=hide hb
  have HR:=hide hr
  clear hb hr
  have HC:Hid (Calls Tryz.prog 235 #[.slice (some ⟨g,0,none⟩) l.length cap,.int .i64 0,.int .i64 k] w λe w'=>e=.returned (.slice (some ⟨g,0,none⟩) (l.length-k) cap)/\BRow w' g cap (l.drop k)/\Keeps (λi=>i=g) w w'):=by
   rcases Nat.eq_zero_or_pos k with h0 | h0
   ·subst h0
    refine(qDk g cap l.length w (uh HR).le).mono ?_
    rintro e w' ⟨rfl,rfl⟩
    exact⟨rfl,uh HR,Keeps.refl _ _⟩
   ·exact qFh g cap l.length k l w rfl (uh HR) h0 hk
  generalize hn:l.length=n at *
  have HN:=hide hn
  clear hn
  go_enter Tryz.func205,Tryz.ntmps205
  go_wp2_with fail
  refine(uh HC).mono ?_
  rintro e w1 ⟨rfl,hr1,hk1⟩
  have HB1:=hide ((uh HB).keeps hk1 hne)
  have HR1:=hide hr1
  have HK1:=hide hk1
  clear hr1 hk1 HC HB HR hq1
  have hq1:w1.cell? ⟨q,1,none⟩=some (.slice (some ⟨g,0,none⟩) n cap):=(uh HB1).cell rfl
  have hf:=(uh HB1).frozen
  go_wp2
  go_end0
  refine⟨rfl,⟨hne,cap,?_,?_⟩,?_⟩
  ·rw[List.length_drop,uh HN];exact(uh HB1).setCell 1 _
  ·exact(uh HR1).keeps (M:=λi=>i=q) ((Keeps.refl (λi=>i=q) _).setCell (p:=⟨q,1,none⟩) (Or.inl rfl) _) (λh=>hne h.symm)
  ·exact((uh HK1).mono (M':=λi=>i=q\/some g=some i) (λi _ h=>.inr (by rw[h]))).setCell (p:=⟨q,1,none⟩) (Or.inl (Or.inl rfl)) _
theorem RowRep.owns{w:World}{d q:Nat}{og:Option Nat}{l:List Pn}(h:RowRep w d q og l):
  ∃cap,Blk w q [qDw d,slV og l.length cap] 279/\w.ownsRow 0 237 49 (slV og l.length cap) l.length (flatP l):=by
 cases og with
 | none=>obtain⟨rfl,hb⟩:=h;exact⟨0,hb,World.ownsRow_nil _ _ _ _⟩
 | some g =>
  obtain⟨hne,cap,hb,hr⟩:=h
  exact⟨cap,hb,hr.owns⟩
theorem qFp{w w1:World}{A B:Obj}{d q gg n cap cap':Nat}{og:Option Nat}{l:List Pn}{x:Pn}{v:Value}(hn:l.length=n)(hv:slV og n cap=v)(hlq:q<w.heap.size)(hb:Blk w q [qDw d,v] 279)(hqv:some q≠v.ownBlock)(hown1:w1.ownsRow 0 237 49 (.slice (some ⟨gg,0,none⟩) (n+1) cap') (n+1) (flatP l++x.cells))(hgrow:((w.alloc A).alloc B).drew.grownBy w1 v.ownBlock)(hat:v.ownBlock=some gg\/gg=w.heap.size+2):
  RowRep (w1.setCell ⟨q,1,none⟩ (.slice (some ⟨gg,0,none⟩) (n+1) cap')) d q (some gg) (l++[x]) /\
  Keeps (λk=>k=q\/og=some k) w (w1.setCell ⟨q,1,none⟩ (.slice (some ⟨gg,0,none⟩) (n+1) cap'))/\(og=some gg\/w.heap.size<=gg):=by
 have hob:∀k,v.ownBlock=some k->og=some k:=by
  intro k hk
  rw[<-hv]at hk
  cases og with
  | none=>simp[slV,Value.ownBlock]at hk
  | some g=>simpa[slV,Value.ownBlock] using hk
 have hqg:q≠gg:=by
  rcases hat with h | h
  ·intro e;apply hqv;rw[h,e]
  ·omega
 have hk1:Keeps (λk=>k=q\/og=some k) w w1:=(((Keeps.refl _ w).alloc A).alloc B).drew.grown hgrow (λk hk=>Or.inl (Or.inr (hob k hk)))
 have hb1:Blk w1 q [qDw d,v] 279:=by
  unfold Blk
  rw[hgrow.block q (by simp;omega) hqv]
  exact(hb.alloc A).alloc B
 refine⟨⟨hqg,cap',?_,?_⟩,hk1.setCell (Or.inl (Or.inl rfl)) _,?_⟩
 ·have:(l++[x]).length=n+1:=by simp[hn]
  rw[this]
  exact hb1.setCell 1 _
 ·have hfl:flatP l++x.cells=flatP (l++[x]):=by rw[flatP_append,qG6];simp[flatP]
  rw[hfl]at hown1
  exact(brow_of_owns (by simp[hn]) hown1).keeps (M:=λk=>k=q) ((Keeps.refl (λk=>k=q) _).setCell (Or.inl rfl) _) (λh=>hqg h.symm)
 ·rcases hat with h | h
  ·exact .inl (hob gg h)
  ·exact .inr (by omega)
theorem rowPut_any(d q:Nat)(og:Option Nat)(l:List Pn)(x:Pn)(w:World)(h:RowRep w d q og l)(hl:l.length<=1000000000):
  Calls Tryz.prog 234 #[.pointer (some ⟨q,0,none⟩),x.val] w λe w'=>e=.returned (.tuple #[])/\∃og',RowRep w' d q og' (l++[x])/\Keeps (λk=>k=q\/og=some k) w w'/\(og'=og\/∃k,og'=some k/\w.heap.size<=k):=by
 obtain⟨hlq,hlg⟩:=h.lt
 obtain⟨cap,hb,hown⟩:=h.owns
 have hq1:w.cell? ⟨q,1,none⟩=some (slV og l.length cap):=hb.cell rfl
 have hfz:=hb.frozen 1
 obtain⟨i0,hi0,hz0,hz1,hz2⟩:=info_parts infoBk
 generalize hn:l.length=n at *
 generalize hv:slV og n cap=v at *
 have hxl:x.cells.length=49:=x.cells_length
 unfold Pn.val
 have HB:Hid (Blk w q [qDw d,v] 279):=hb
 have HV:Hid (slV og n cap=v):=hv
 have HN:Hid (l.length=n):=hn
 have hqv:some q≠v.ownBlock:=by
  rw[<-hv]
  cases og with
  | none=>simp[slV,Value.ownBlock]
  | some g=>simp[slV,Value.ownBlock];exact(hlg g rfl).2
 have HF:Hid (∀A B w1,((w.alloc A).alloc B).drew.grownBy w1 v.ownBlock->w1.cell? ⟨q,1,none⟩=some v/\w1.frozen? ⟨q,1,none⟩=false):=λA B w1 hg=>by
  have hb1:w1.heap[q]?=w.heap[q]?:=by
   rw[hg.block q (by simp;omega) hqv]
   show((w.alloc A).alloc B).heap[q]?=_
   rw[Below.heap_alloc _ _ _ (by simp;omega),Below.heap_alloc _ _ _ hlq]
  exact⟨(World.cell?_of_block (a:=⟨q,1,none⟩) hb1).trans hq1,(World.frozen?_of_block (a:=⟨q,1,none⟩) hb1).trans hfz⟩
 have hnew:Hid (∀A B,((w.alloc A).alloc B).drew.heap[w.heap.size+1]?=some B):=λA B=>by
  have:=heap_alloc_new (w.alloc A) B
  rwa [World.size_alloc]at this
 clear hb h hv hn hlg
 go_enter Tryz.func234,Tryz.ntmps234
 go_wp2_with fail
 go_region_law
  ((refine step_append_lies _ (by rfl) _ _ _ (by rfl) 0 237 i0 _ 49 392 Tryz.underlying246 hi0 hz0 hz1 hz2 (by rfl) (by omega) v n (flatP l) (by rfl) (((hown.alloc _).alloc _).drew)
        ⟨w.heap.size+1,0,none⟩ 1 1 x.cells (by rfl) (by rw[x.cells_length]) (World.news_of_block (cs:=x.cells.toArray) (t:=237) (fr:=(0,0)) (hnew.out _ _)) x.one
        (by omega) (by unfold maxLen;omega) (by omega) (by omega) (w.heap.size+2) (by simp) ?_;intro gg cap' w1 hown1 hgrow hat hlt;have hcq:=(HF.out _ _ _ hgrow).1;have hfq:=(HF.out _ _ _ hgrow).2))
 all_goals
  have HE:=qFp HN.out HV.out hlq HB.out hqv hown1 hgrow hat
  obtain⟨hQ2,hK2,hog⟩:=HE
  go_wp2
  go_end0
  refine⟨rfl,some gg,hQ2,hK2,?_⟩
  rcases hog with h | h
  ·exact .inl h.symm
  ·exact .inr ⟨gg,rfl,h⟩
theorem rowNew_any(d:Nat)(w:World):
  Calls Tryz.prog 201 #[qDw d] w λe w'=>e=.returned (.pointer (some ⟨w.heap.size,0,none⟩))/\RowRep w' d w.heap.size none []/\Keeps (λ_=>False) w w'/\w'.heap.size=w.heap.size+1:=by
 unfold qDw
 go_enter Tryz.func201,Tryz.ntmps201
 go_wp2
 go_ret
 exact⟨rfl,⟨rfl,Blk.new w [qDw d,.slice none 0 0] 279⟩,(Keeps.refl _ _).alloc _,by simp⟩
end Go.Proofs.YtahnliehdjncdabGreatDoor.Pa
namespace Go.Proofs.YtahnliehdjncdabGreatDoor
section
open Go.RowKit
def qBf(c:Cfg)(o:Pa.Pn)(r:Nat): List Value:=c.cells++(o.cells++[.pointer (some ⟨r,0,none⟩)])
theorem qB1(c:Cfg)(o:Pa.Pn)(r:Nat)(i:Nat)(h:i<20): (qBf c o r)[i]?=c.cells[i]?:=by
 unfold qBf
 rw[List.getElem?_append_left (by simpa[Cfg.cells] using h)]
theorem qJv(c:Cfg)(o:Pa.Pn)(r:Nat)(j:Nat)(h:j<49): (qBf c o r)[20+j]?=o.cells[j]?:=by
 unfold qBf
 rw[List.getElem?_append_right (by simp[Cfg.cells]),List.getElem?_append_left (by rw[o.cells_length];simp[Cfg.cells];omega)]
 simp[Cfg.cells]
theorem qKb(c:Cfg)(o:Pa.Pn)(r:Nat): (qBf c o r)[69]?=some (.pointer (some ⟨r,0,none⟩)):=by
 unfold qBf
 rw[List.getElem?_append_right (by simp[Cfg.cells]),List.getElem?_append_right (by rw[o.cells_length];simp[Cfg.cells])]
 simp[Cfg.cells,o.cells_length]
def qB0(c:Cfg): Int:=c.window/c.panes
def qI4(c:Cfg)(p:Pa.Pn): Int:=(p.no+1)*qB0 c-1
theorem qMv(d:Nat)(c:Cfg)(w:World)(h5:w.cell? ⟨d,5,none⟩=some (.int .i64 c.window))(h9:w.cell? ⟨d,9,none⟩=some (.int .i64 c.panes))(w0:0<=c.window)(w1:c.window<=1000)(p0:1<=c.panes):
  Calls Tryz.prog 204 #[.pointer (some ⟨d,0,none⟩)] w λe w'=>e=.returned (.int .i64 (qB0 c))/\Keeps (λ_=>False) w w':=by
 have hq:c.window.tdiv c.panes=c.window/c.panes:=Int.tdiv_eq_ediv_of_nonneg w0
 have hb0:0<=c.window/c.panes:=Int.ediv_nonneg w0 (by omega)
 have hb1:c.window/c.panes<=c.window:=Int.ediv_le_self _ w0
 have hw:IntKind.i64.wrap (c.window.tdiv c.panes)=c.window/c.panes:=by rw[hq,IntKind.wrap_i64];omega
 have hz:(c.panes==0)=false:=by simp;omega
 have hz2:¬c.panes=0:=by omega
 have HL:=hide (show c.window/c.panes=qB0 c from rfl)
 go_enter Tryz.func204,Tryz.ntmps204
 go_wp2
 go_quiet (fail)
 go_wp2
 go_ret
 exact⟨qBc (uh HL),Keeps.drewN _ _ _⟩
end
end Go.Proofs.YtahnliehdjncdabGreatDoor
