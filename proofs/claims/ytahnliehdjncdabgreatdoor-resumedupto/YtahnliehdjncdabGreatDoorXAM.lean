import Derived.Test.YtahnliehdjncdabGreatDoorXAJ
set_option maxRecDepth 100000
set_option maxHeartbeats 16000000
namespace Go.Proofs.YtahnliehdjncdabGreatDoor.Mk
open Go.RowKit
structure BRow (w:World) (g cap:Nat) (l:List Bk):Prop where
 ex:∃cur:List Value,Blk w g cur 225/\cur.length=cap*2/\cur.take (l.length*2)=qBr l
 le:l.length<=cap
 max:cap<=maxLen
theorem BRow.lt{w:World}{g cap:Nat}{l:List Bk}(h:BRow w g cap l): g<w.heap.size:=by obtain⟨cur,hb,_⟩:=h.ex;exact hb.lt
theorem BRow.keeps{M:Nat->Prop}{w w':World}{g cap:Nat}{l:List Bk}(h:BRow w g cap l)(k:Keeps M w w')(hn:¬M g): BRow w' g cap l:=by
 obtain⟨cur,hb,r⟩:=h.ex;exact⟨⟨cur,hb.keeps k hn,r⟩,h.le,h.max⟩
theorem BRow.cells{w:World}{g cap:Nat}{l:List Bk}(h:BRow w g cap l)(i:Nat)(hi:i<l.length):
  w.cell? ⟨g,i*2,none⟩=some (.int .i64 (qB7 l i).sz)/\w.cell? ⟨g,i*2+1,none⟩=some (.int .i64 (qB7 l i).t):=by
 obtain⟨cur,hb,hl,ht⟩:=h.ex
 have hg:∀k,k<l.length*2->cur[k]?=(qBr l)[k]?:=λk hk=>by rw[<-ht,List.getElem?_take,if_pos hk]
 obtain⟨a,b⟩:=qSm l i hi
 exact⟨hb.cell (by rw[hg _ (by omega)];exact a),hb.cell (by rw[hg _ (by omega)];exact b)⟩
theorem BRow.owns{w:World}{g cap:Nat}{l:List Bk}(h:BRow w g cap l): w.ownsRow 0 225 2 (.slice (some ⟨g,0,none⟩) l.length cap) l.length (qBr l):=by
 obtain⟨cur,hc,hl,ht⟩:=h.ex
 exact⟨qC2 l,.inr ⟨g,cap,cur.toArray,rfl,Nat.zero_le _,hc,h.le,h.max,by simp[hl],by simpa using ht⟩⟩
theorem brow_of_owns{w:World}{g n cap:Nat}{l:List Bk}(hn:l.length=n)(h:w.ownsRow 0 225 2 (.slice (some ⟨g,0,none⟩) n cap) n (qBr l)): BRow w g cap l:=by
 rcases h.2 with ⟨h1,_⟩ | ⟨g',cap',cur,h1,_,h3,h4,h5,h6,h7⟩
 ·cases h1
 ·cases h1
  subst hn
  exact⟨⟨cur.toList,by unfold Blk;simpa using h3,by simpa using h6,h7⟩,h4,h5⟩
theorem infoBk: (Tryz.prog.info? 225).map (λi=>(i.zero,i.size,i.bytes))=some (some (.agg #[.int .i64 0,.int .i64 0]),2,16):=by kernel_rfl
theorem qCm(w:World)(ty:TypeId)(b o n c:Nat)(cs:List Value)(h:Blk w b cs 225)(hn:0<n)(hl:o+n*2<=cs.length):
  (Builtin.clear_ #[273] ty #[.slice (some ⟨b,o,none⟩) n c]).run Tryz.prog w=.ok (.tuple #[]) (w.setCells b o (qCn n)):=by
 have hst:=run_storeCells_cells (P:=Tryz.prog) b o (qCn n) 0 w (λj hj=>h.some (by rw[qBl]at hj;omega)) (λj _=>h.frozen _) (qN9 n)
 simp only[Nat.add_zero]at hst
 obtain⟨m,rfl⟩:∃m,n=m+1:=⟨n-1,by omega⟩
 simp[Builtin.clear_,run_underlying Tryz.underlying273,qJq,hst]
theorem qF8{w:World}{g cap n j:Nat}{l:List Bk}{cur:List Value}(hn:l.length=n)(hb:Blk w g cur 225)(hl:cur.length=cap*2)(hle:n<=cap)(hmax:cap<=maxLen)(hj:j<=n):
  BRow ((w.setCells g 0 (qBr (l.drop j))).setCells g ((n-j)*2) (qCn j)) g cap (l.drop j):=by
 have h1:(qBr (l.drop j)).length=(n-j)*2:=by rw[qC2];simp[hn]
 have hb1:=Blk.setCells (qBr (l.drop j)) 0 w cur hb (by rw[h1];omega)
 have hl1:(over cur 0 (qBr (l.drop j))).length=cap*2:=by rw[qBh (by rw[h1];omega),hl]
 have hb2:=Blk.setCells (qCn j) ((n-j)*2) _ _ hb1 (by rw[hl1,qBl];omega)
 refine⟨⟨_,hb2,by rw[qBh (by rw[hl1,qBl];omega),hl1],?_⟩,by simp[hn];omega,hmax⟩
 have hlen:(l.drop j).length*2=(n-j)*2:=by simp[hn]
 rw[hlen]
 unfold over
 rw[List.append_assoc,List.take_append_of_le_length (by simp[h1])]
 rw[List.take_take,Nat.min_self]
 simp only[List.take_zero,List.nil_append]
 rw[List.take_append_of_le_length (by omega),List.take_of_length_le (by omega)]
theorem qEg(w:World):
  Calls Tryz.prog 229 #[.slice none 0 0,.int .i64 0,.int .i64 0] w λe w'=>e=.returned (.slice none 0 0)/\w'=w:=by
 go_enter Tryz.func229,Tryz.ntmps229
 go_wp2
 go_ret
 exact⟨rfl,rfl⟩
theorem qD0(g cap n:Nat)(w:World)(hle:n<=cap):
  Calls Tryz.prog 229 #[.slice (some ⟨g,0,none⟩) n cap,.int .i64 0,.int .i64 0] w λe w'=>e=.returned (.slice (some ⟨g,0,none⟩) n cap)/\w'=w:=by
 have h0:(0:Int)<=(n:Int):=by omega
 have h1:(n:Int)<=(cap:Int):=by omega
 go_enter Tryz.func229,Tryz.ntmps229
 go_wp2
 go_ret
 exact⟨rfl,rfl⟩
theorem qGc(g cap n j:Nat)(l:List Bk)(w:World)(hn:l.length=n)(hr:BRow w g cap l)(hj0:0<j)(hj:j<=n):
  Calls Tryz.prog 229 #[.slice (some ⟨g,0,none⟩) n cap,.int .i64 0,.int .i64 j] w λe w'=>e=.returned (.slice (some ⟨g,0,none⟩) (n-j) cap)/\BRow w' g cap (l.drop j)/\Keeps (·=g) w w':=by
 obtain⟨cur,hb,hl,ht⟩:=hr.ex
 have hle:=hr.le
 rw[hn]at hle
 have hmax:=hr.max
 have hcap:cap<=9223372036854775807:=by unfold maxLen at hmax;omega
 have HFIN:=hide (qF8 (w:=w.drew) hn (by exact hb.drew) hl hle hmax hj)
 obtain⟨news,hnews⟩:∃news,news=qBr (l.drop j):=⟨_,rfl⟩
 rw[<-hnews]at HFIN
 have hlen:news.length=(n-j)*2:=by rw[hnews,qC2];simp[hn]
 have hget:∀t u,news[t]?=some u->w.cell? ⟨g,j*2+t,none⟩=some u:=by
  intro t u hu
  refine hb.cell ?_
  have htl:t<(n-j)*2:=by have:=(List.getElem?_eq_some_iff.1 hu).1;omega
  rw[hnews,qJw,List.getElem?_drop,<-ht,List.getElem?_take,if_pos (by omega)]at hu
  exact hu
 obtain⟨A,hA,hsrc⟩:∃A:Addr,(if cap=j then some (⟨g,0,none⟩:Addr) else some ⟨g,j*2,none⟩)=some A/\Hid (∀t u,news[t]?=some u->w.drew.cell? (A.add t)=some u):=by
  by_cases h:cap=j
  ·refine⟨⟨g,0,none⟩,by simp[h],λt u hu=>?_⟩
   have h0:news.length=0:=by omega
   rw[List.length_eq_zero_iff.1 h0]at hu
   simp at hu
  ·refine⟨⟨g,j*2,none⟩,by simp[h],λt u hu=>?_⟩
   rw[Addr.add_lit]
   exact hget t u hu
 have s1:Hid (news.length=(n-j)*2):=hlen
 have s2:Hid (∀u∈news,u.oneCell'=true):=by rw[hnews];exact qLv _
 have s3:Hid (∀t,t<news.length->(w.drew.cell? ⟨g,0+0*2+t,none⟩).isSome=true/\w.drew.frozen? ⟨g,0+0*2+t,none⟩=false):=by
  intro t ht'
  exact⟨hb.some (by omega),hb.frozen _⟩
 obtain⟨W1,hW1⟩:∃W1,W1=w.drew.setCells g 0 news:=⟨_,rfl⟩
 have hbW:Blk W1 g (over cur 0 news) 225:=by rw[hW1];exact Blk.setCells _ _ _ _ hb.drew (by omega)
 have hcl:∀ty,(Builtin.clear_ #[273] ty #[.slice (some ⟨g,(n-j)*2,none⟩) (n-(n-j)) (cap-(n-j))]).run Tryz.prog W1=.ok (.tuple #[]) (W1.setCells g ((n-j)*2) (qCn (n-(n-j)))) :=
  λty=>qCm W1 ty g _ _ _ _ hbW (by omega) (by rw[qBh (by omega)];omega)
 have hW:Hid (W1=w.drew.setCells g (0+0*2) news):=hW1
 have HK:=hide (show Keeps (·=g) w W1 by rw[hW1];exact Keeps.setCells (M:=λx=>x=g) (Or.inl rfl) _ _ _ (Keeps.refl _ _).drew)
 rw[<-hW1]at HFIN
 obtain⟨i0,hi0,hz0,hz1,hz2⟩:=info_parts infoBk
 have hjc:j<=cap:=by omega
 have HNJ:=hide (show n-(n-j)=j by omega)
 clear hW1 hbW hget hnews hlen hb ht hl hr hn hmax hz0 hz2
 go_enter Tryz.func229,Tryz.ntmps229
 go_wp2_with fail
 go_region_law (refine step_append_room rfl (.tmp 22) (.tmp 25) 273 rfl 225 i0 2 Tryz.underlying273 hi0 hz1 g 0 0 cap (by simp[Act.eval,Act.put]) A (n-j) (cap-j) news (by simp[Act.eval,Act.put]) s1.out hsrc.out s2.out (by omega) s3.out ?_;rw[<-hW.out])
 go_wp2
 go_ret
 refine⟨by simp,?_,?_⟩
 ·have:=uh HFIN;rw[uh HNJ];exact this
 ·exact Keeps.setCells (M:=λx=>x=g) (Or.inl rfl) _ _ _ (uh HK)
end Go.Proofs.YtahnliehdjncdabGreatDoor.Mk
namespace Go.Proofs.YtahnliehdjncdabGreatDoor.Mk
open Go.RowKit
def qEc: Value:=.func (.func 192) #[] #[]
def RowRep(w:World)(r:Nat)(og:Option Nat)(l:List Bk): Prop :=
 match og with
 | none=>l=[]/\Blk w r [qEc,.slice none 0 0] 275
 | some g=>r≠g/\∃cap,Blk w r [qEc,.slice (some ⟨g,0,none⟩) l.length cap] 275/\BRow w g cap l
theorem RowRep.lt{w:World}{r:Nat}{og:Option Nat}{l:List Bk}(h:RowRep w r og l): r<w.heap.size/\∀g,og=some g->g<w.heap.size/\r≠g:=by
 cases og with
 | none=>exact⟨h.2.lt,λ_ h=>by cases h⟩
 | some g=>obtain⟨hne,cap,hb,hr⟩:=h;exact⟨hb.lt,λg' h=>by cases h;exact⟨hr.lt,hne⟩⟩
theorem RowRep.keeps{M:Nat->Prop}{w w':World}{r:Nat}{og:Option Nat}{l:List Bk}(h:RowRep w r og l)(k:Keeps M w w')(hq:¬M r)(hg:∀g,og=some g->¬M g): RowRep w' r og l:=by
 cases og with
 | none=>exact⟨h.1,h.2.keeps k hq⟩
 | some g=>obtain⟨hne,cap,hb,hr⟩:=h;exact⟨hne,cap,hb.keeps k hq,hr.keeps k (hg g rfl)⟩
theorem RowRep.still{w w':World}{r:Nat}{og:Option Nat}{l:List Bk}(h:RowRep w r og l)(k:Keeps (λ_=>False) w w'): RowRep w' r og l:=h.keeps k (λh=>h) (λ_ _ h=>h)
theorem rowLen_any(q:Nat)(og:Option Nat)(l:List Bk)(w:World)(h:RowRep w q og l):
  Calls Tryz.prog 198 #[.pointer (some ⟨q,0,none⟩)] w λe w'=>e=.returned (.int .i64 l.length)/\w'=w:=by
 cases og with
 | none =>
  obtain⟨hl,hb⟩:=h
  have hq1:w.cell? ⟨q,1,none⟩=some (.slice none 0 0):=hb.cell rfl
  subst hl
  clear hb
  go_enter Tryz.func198,Tryz.ntmps198
  go_wp2
  go_ret
  exact⟨rfl,rfl⟩
 | some g =>
  obtain⟨hne,cap,hb,hr⟩:=h
  have hq1:w.cell? ⟨q,1,none⟩=some (.slice (some ⟨g,0,none⟩) l.length cap):=hb.cell rfl
  clear hb hr
  go_enter Tryz.func198,Tryz.ntmps198
  go_wp2
  go_ret
  exact⟨rfl,rfl⟩
theorem qEi(q:Nat)(og:Option Nat)(l:List Bk)(i:Nat)(w:World)(h:RowRep w q og l)(hi:i<l.length):
  Calls Tryz.prog 199 #[.pointer (some ⟨q,0,none⟩),.int .i64 i] w λe w'=>e=.returned (qB7 l i).val/\Keeps (λ_=>False) w w':=by
 cases og with
 | none=>obtain⟨hl,hb⟩:=h;subst hl;simp at hi
 | some g =>
  obtain⟨hne,cap,hb,hr⟩:=h
  have hq1:w.cell? ⟨q,1,none⟩=some (.slice (some ⟨g,0,none⟩) l.length cap):=hb.cell rfl
  have hlq:=hb.lt
  have hlg:=hr.lt
  obtain⟨x0,x1⟩:=hr.cells i hi
  generalize qB7 l i=x at *
  generalize l.length=n at *
  have hi0:(0:Int)<=(i:Int):=by omega
  have hin:(i:Int)<(n:Int):=by omega
  clear hb hr
  go_enter Tryz.func199,Tryz.ntmps199
  go_wp2
  refine bodyPost_ret (v:=x.val) (by simp[results,Tryz.results199,go_sem,Bk.val]) rfl ⟨rfl,(Keeps.refl _ _).alloc _⟩
theorem qT0(x:Bk)(w:World):
  Calls Tryz.prog 192 #[x.val] w λe w'=>e=.returned (.int .i64 x.sz)/\w'=w.alloc (.cells #[.int .i64 x.sz,.int .i64 x.t] 225):=by
 unfold Bk.val
 go_enter Tryz.func192,Tryz.ntmps192
 go_wp2
 go_ret
 exact⟨rfl,rfl⟩
def pastN(l:List Bk)(t:Int): Nat:=(l.takeWhile (λb=>decide (b.sz<=t))).length
theorem pastN_le(l:List Bk)(t:Int): pastN l t<=l.length:=(List.takeWhile_prefix _).length_le
theorem past_any(q:Nat)(og:Option Nat)(l:List Bk)(t:Int)(w:World)(h:RowRep w q og l)(hl:l.length<=4398046511104):
  Calls Tryz.prog 194 #[.pointer (some ⟨q,0,none⟩),.int .i64 t] w λe w'=>e=.returned (.int .i64 (pastN l t))/\Keeps (λ_=>False) w w':=by
 cases og with
 | none =>
  obtain⟨hl,hb⟩:=h
  have hq1:w.cell? ⟨q,1,none⟩=some (.slice none 0 0):=hb.cell rfl
  subst hl
  clear hb
  go_enter Tryz.func194,Tryz.ntmps194
  go_wp2
  go_loopw [5] (λi wr=>i=.int .i64 0/\wr=w) (λ_ _=>0)
  case atStart=>exact⟨rfl,rfl⟩
  case round =>
   obtain⟨rfl,rfl⟩:=hrel
   go_wp2
   go_quiet (fail)
   go_wp2
   go_ret
   exact⟨rfl,Keeps.drewN _ _ _⟩
 | some g =>
  obtain⟨hne,cap,hb,hr⟩:=h
  have HB:=hide hb
  have HR:=hide hr
  clear hb hr
  generalize hn:l.length=n at *
  have HN:=hide hn
  clear hn
  go_enter Tryz.func194,Tryz.ntmps194
  go_wp2
  go_loopw [5] (λi wr=>∃k:Nat,i=.int .i64 k/\k<=n/\Hid (Keeps (λ_=>False) w wr)/\Hid (pastN l t=k+pastN (l.drop k) t)) (λi _=>n-(intOf i).toNat)
  case atStart=>exact⟨0,rfl,Nat.zero_le _,Keeps.refl _ _,by show _=_;simp⟩
  case round =>
   obtain⟨k,rfl,hk,HK,HE⟩:=hrel
   have hq1:wr.cell? ⟨q,1,none⟩=some (.slice (some ⟨g,0,none⟩) n cap):=(uh HK).cell ((uh HB).cell rfl) (λh=>h)
   have hq0:wr.cell? ⟨q,0,none⟩=some (.func (.func 192) #[] #[]):=(uh HK).cell ((uh HB).cell rfl) (λh=>h)
   by_cases hlt:k<n
   ·have hcs:=(uh HR).cells k (by rw[uh HN];exact hlt)
    have x0:=(uh HK).cell hcs.1 (λh=>h)
    have x1:=(uh HK).cell hcs.2 (λh=>h)
    clear hcs
    have hk0:(0:Int)<=(k:Int):=by omega
    have hkn:(k:Int)<(n:Int):=by omega
    have HD:=hide (qHw l k (by rw[uh HN];exact hlt))
    generalize qB7 l k=x at *
    by_cases ht:x.sz<=t
    all_goals
     have HT:=hide ht
     go_wp2
     go_region_held3 (λw'=>w'.cell? ⟨q,0,none⟩=some (.func (.func 192) #[] #[])/\w'.cell? ⟨q,1,none⟩=some (.slice (some ⟨g,0,none⟩) n cap) /\
        w'.cell? ⟨g,k*2,none⟩=some (.int .i64 x.sz)/\w'.cell? ⟨g,k*2+1,none⟩=some (.int .i64 x.t)) (go_keep)
      (first | (go_at_call 192;refine(qT0 x _).mono ?_;rintro e w' ⟨rfl,rfl⟩))
     have hk1:Keeps (λ_=>False) wr (wr.alloc (.cells #[.int .i64 x.sz,.int .i64 x.t] 225)).drew:=((Keeps.refl _ _).alloc _).drew
     generalize(wr.alloc (.cells #[.int .i64 x.sz,.int .i64 x.t] 225)).drew=W1 at *
     have HK1:=hide hk1
     clear hk1
    ·go_wp2
     go_roundw
     case rel =>
      refine⟨k+1,by go_num,by omega,(uh HK).then (uh HK1),?_⟩
      show _=_
      rw[uh HE,uh HD]
      unfold pastN
      rw[List.takeWhile_cons,if_pos (by simpa using uh HT)]
      simp;omega
     case measure=>simp[intOf];omega
    ·go_wp2
     go_ret
     refine⟨?_,(uh HK).then (uh HK1)⟩
     rw[uh HE,uh HD]
     unfold pastN
     rw[List.takeWhile_cons,if_neg (by simpa using uh HT)]
     simp
   ·have hd:decide ((k:Int)<(n:Int))=false:=by simp;omega
    go_wp2
    go_quiet (fail)
    go_wp2
    go_ret
    refine⟨?_,(uh HK).then (Keeps.drewN _ _ _)⟩
    rw[uh HE,List.drop_eq_nil_of_le (by rw[uh HN];omega)]
    simp[pastN]
end Go.Proofs.YtahnliehdjncdabGreatDoor.Mk
namespace Go.Proofs.YtahnliehdjncdabGreatDoor.Mk
open Go.RowKit
theorem lose_any(q:Nat)(og:Option Nat)(l:List Bk)(k:Nat)(w:World)(h:RowRep w q og l)(hk:k<=l.length):
  Calls Tryz.prog 193 #[.pointer (some ⟨q,0,none⟩),.int .i64 k] w λe w'=>e=.returned (.tuple #[])/\RowRep w' q og (l.drop k)/\Keeps (λi=>i=q\/og=some i) w w':=by
 cases og with
 | none =>
  obtain⟨hl,hb⟩:=h
  subst hl
  have hk0:k=0:=by simpa using hk
  subst hk0
  have hq1:w.cell? ⟨q,1,none⟩=some (.slice none 0 0):=hb.cell rfl
  have hf:=hb.frozen
  have HB:=hide hb
  clear hb hk
  go_enter Tryz.func193,Tryz.ntmps193
  go_wp2_with fail
  refine(qEg _).mono ?_
  rintro e w' ⟨rfl,rfl⟩
  go_wp2
  go_end0
  refine⟨rfl,⟨rfl,?_⟩,(Keeps.refl (λi=>i=q\/none=some i) _).setCell (p:=⟨q,1,none⟩) (Or.inl (Or.inl rfl)) _⟩
  exact(uh HB).setCell 1 _
 | some g =>
  obtain⟨hne,cap,hb,hr⟩:=h
  have hq1:w.cell? ⟨q,1,none⟩=some (.slice (some ⟨g,0,none⟩) l.length cap):=hb.cell rfl
  have hlq:=hb.lt
  have HB:=hide hb
  have HR:=hide hr
  clear hb hr
  have HC:Hid (Calls Tryz.prog 229 #[.slice (some ⟨g,0,none⟩) l.length cap,.int .i64 0,.int .i64 k] w λe w'=>e=.returned (.slice (some ⟨g,0,none⟩) (l.length-k) cap)/\BRow w' g cap (l.drop k)/\Keeps (λi=>i=g) w w'):=by
   rcases Nat.eq_zero_or_pos k with h0 | h0
   ·subst h0
    refine(qD0 g cap l.length w (uh HR).le).mono ?_
    rintro e w' ⟨rfl,rfl⟩
    exact⟨rfl,uh HR,Keeps.refl _ _⟩
   ·exact qGc g cap l.length k l w rfl (uh HR) h0 hk
  generalize hn:l.length=n at *
  have HN:=hide hn
  clear hn
  go_enter Tryz.func193,Tryz.ntmps193
  go_wp2_with fail
  refine(uh HC).mono ?_
  rintro e w1 ⟨rfl,hr1,hk1⟩
  have HB1:=hide ((uh HB).keeps hk1 hne)
  have HR1:=hide hr1
  have HK1:=hide hk1
  clear hr1 hk1 HC HB HR hq1
  have hq1:w1.cell? ⟨q,1,none⟩=some (.slice (some ⟨g,0,none⟩) n cap):=(uh HB1).cell rfl
  have hf:=(uh HB1).frozen
  go_wp2
  go_end0
  refine⟨rfl,⟨hne,cap,?_,?_⟩,?_⟩
  ·rw[List.length_drop,uh HN];exact(uh HB1).setCell 1 _
  ·exact(uh HR1).keeps (M:=λi=>i=q) ((Keeps.refl (λi=>i=q) _).setCell (p:=⟨q,1,none⟩) (Or.inl rfl) _) (λh=>hne h.symm)
  ·exact((uh HK1).mono (M':=λi=>i=q\/some g=some i) (λi _ h=>.inr (by rw[h]))).setCell (p:=⟨q,1,none⟩) (Or.inl (Or.inl rfl)) _
theorem RowRep.owns{w:World}{q:Nat}{og:Option Nat}{l:List Bk}(h:RowRep w q og l):
  ∃cap,Blk w q [qEc,slV og l.length cap] 275/\w.ownsRow 0 225 2 (slV og l.length cap) l.length (qBr l):=by
 cases og with
 | none=>obtain⟨rfl,hb⟩:=h;exact⟨0,hb,World.ownsRow_nil _ _ _ _⟩
 | some g =>
  obtain⟨hne,cap,hb,hr⟩:=h
  exact⟨cap,hb,hr.owns⟩
theorem qF0{w w1:World}{A B:Obj}{q gg n cap cap':Nat}{og:Option Nat}{l:List Bk}{x:Bk}{v:Value}(hn:l.length=n)(hv:slV og n cap=v)(hlq:q<w.heap.size)(hb:Blk w q [qEc,v] 275)(hqv:some q≠v.ownBlock)(hown1:w1.ownsRow 0 225 2 (.slice (some ⟨gg,0,none⟩) (n+1) cap') (n+1) (qBr l++[.int .i64 x.sz,.int .i64 x.t]))(hgrow:((w.alloc A).alloc B).drew.grownBy w1 v.ownBlock)(hat:v.ownBlock=some gg\/gg=w.heap.size+2):
  RowRep (w1.setCell ⟨q,1,none⟩ (.slice (some ⟨gg,0,none⟩) (n+1) cap')) q (some gg) (l++[x]) /\
  Keeps (λk=>k=q\/og=some k) w (w1.setCell ⟨q,1,none⟩ (.slice (some ⟨gg,0,none⟩) (n+1) cap'))/\(og=some gg\/w.heap.size<=gg):=by
 have hob:∀k,v.ownBlock=some k->og=some k:=by
  intro k hk
  rw[<-hv]at hk
  cases og with
  | none=>simp[slV,Value.ownBlock]at hk
  | some g=>simpa[slV,Value.ownBlock] using hk
 have hqg:q≠gg:=by
  rcases hat with h | h
  ·intro e;apply hqv;rw[h,e]
  ·omega
 have hk1:Keeps (λk=>k=q\/og=some k) w w1:=(((Keeps.refl _ w).alloc A).alloc B).drew.grown hgrow (λk hk=>Or.inl (Or.inr (hob k hk)))
 have hb1:Blk w1 q [qEc,v] 275:=by
  unfold Blk
  rw[hgrow.block q (by simp;omega) hqv]
  exact(hb.alloc A).alloc B
 refine⟨⟨hqg,cap',?_,?_⟩,hk1.setCell (Or.inl (Or.inl rfl)) _,?_⟩
 ·have:(l++[x]).length=n+1:=by simp[hn]
  rw[this]
  exact hb1.setCell 1 _
 ·have hfl:qBr l++[.int .i64 x.sz,.int .i64 x.t]=qBr (l++[x]):=by rw[qEu];rfl
  rw[hfl]at hown1
  exact(brow_of_owns (by simp[hn]) hown1).keeps (M:=λk=>k=q) ((Keeps.refl (λk=>k=q) _).setCell (Or.inl rfl) _) (λh=>hqg h.symm)
 ·rcases hat with h | h
  ·exact .inl (hob gg h)
  ·exact .inr (by omega)
theorem rowPut_any(q:Nat)(og:Option Nat)(l:List Bk)(x:Bk)(w:World)(h:RowRep w q og l)(hl:l.length<=4398046511104):
  Calls Tryz.prog 200 #[.pointer (some ⟨q,0,none⟩),x.val] w λe w'=>e=.returned (.tuple #[])/\∃og',RowRep w' q og' (l++[x])/\Keeps (λk=>k=q\/og=some k) w w'/\(og'=og\/∃k,og'=some k/\w.heap.size<=k):=by
 obtain⟨hlq,hlg⟩:=h.lt
 obtain⟨cap,hb,hown⟩:=h.owns
 have hq1:w.cell? ⟨q,1,none⟩=some (slV og l.length cap):=hb.cell rfl
 have hfz:=hb.frozen 1
 obtain⟨i0,hi0,hz0,hz1,hz2⟩:=info_parts infoBk
 generalize hn:l.length=n at *
 generalize hv:slV og n cap=v at *
 unfold Bk.val
 have HB:Hid (Blk w q [qEc,v] 275):=hb
 have HV:Hid (slV og n cap=v):=hv
 have HN:Hid (l.length=n):=hn
 have hqv:some q≠v.ownBlock:=by
  rw[<-hv]
  cases og with
  | none=>simp[slV,Value.ownBlock]
  | some g=>simp[slV,Value.ownBlock];exact(hlg g rfl).2
 have HF:Hid (∀A B w1,((w.alloc A).alloc B).drew.grownBy w1 v.ownBlock->w1.cell? ⟨q,1,none⟩=some v/\w1.frozen? ⟨q,1,none⟩=false):=λA B w1 hg=>by
  have hb1:w1.heap[q]?=w.heap[q]?:=by
   rw[hg.block q (by simp;omega) hqv]
   show((w.alloc A).alloc B).heap[q]?=_
   rw[Below.heap_alloc _ _ _ (by simp;omega),Below.heap_alloc _ _ _ hlq]
  exact⟨(World.cell?_of_block (a:=⟨q,1,none⟩) hb1).trans hq1,(World.frozen?_of_block (a:=⟨q,1,none⟩) hb1).trans hfz⟩
 have hnew:Hid (∀A B,((w.alloc A).alloc B).drew.heap[w.heap.size+1]?=some B):=λA B=>by
  have:=heap_alloc_new (w.alloc A) B
  rwa [World.size_alloc]at this
 clear hb h hv hn hlg
 go_enter Tryz.func200,Tryz.ntmps200
 go_wp2_with fail
 go_region_law
  ((refine step_append_lies _ (by rfl) _ _ _ (by rfl) 0 225 i0 _ 2 16 Tryz.underlying273 hi0 hz0 hz1 hz2 rfl (by omega) v n (qBr l) (by rfl) (((hown.alloc _).alloc _).drew)
        ⟨w.heap.size+1,0,none⟩ 1 1 [.int .i64 x.sz,.int .i64 x.t] (by rfl) (by rfl) (World.news_of_block (cs:=#[.int .i64 x.sz,.int .i64 x.t]) (t:=225) (fr:=(0,0)) (hnew.out _ _)) (by simp[Value.oneCell'])
        (by omega) (by unfold maxLen;omega) (by omega) (by omega) (w.heap.size+2) (by simp) ?_;intro gg cap' w1 hown1 hgrow hat hlt;have hcq:=(HF.out _ _ _ hgrow).1;have hfq:=(HF.out _ _ _ hgrow).2))
 all_goals
  have HE:=qF0 HN.out HV.out hlq HB.out hqv hown1 hgrow hat
  obtain⟨hQ2,hK2,hog⟩:=HE
  go_wp2
  go_end0
  refine⟨rfl,some gg,hQ2,hK2,?_⟩
  rcases hog with h | h
  ·exact .inl h.symm
  ·exact .inr ⟨gg,rfl,h⟩
theorem rowNew_any(w:World):
  Calls Tryz.prog 191 #[qEc] w λe w'=>e=.returned (.pointer (some ⟨w.heap.size,0,none⟩))/\RowRep w' w.heap.size none []/\Keeps (λ_=>False) w w'/\w'.heap.size=w.heap.size+1:=by
 unfold qEc
 go_enter Tryz.func191,Tryz.ntmps191
 go_wp2
 go_ret
 exact⟨rfl,⟨rfl,Blk.new w [qEc,.slice none 0 0] 275⟩,(Keeps.refl _ _).alloc _,by simp⟩
end Go.Proofs.YtahnliehdjncdabGreatDoor.Mk
namespace Go.Proofs.YtahnliehdjncdabGreatDoor.Pa
open Go.RowKit
structure Pn where
 no:Int
 cs:List Int
 len:cs.length=48
def Pn.cells(p:Pn): List Value:=.int .i64 p.no::p.cs.map (.int .i64 ·)
theorem Pn.cells_length(p:Pn): p.cells.length=49:=by simp[Pn.cells,p.len]
def Pn.val(p:Pn): Value:=.agg p.cells.toArray
def pn0: Pn:=⟨0,List.replicate 48 0,by simp⟩
def pnAt(l:List Pn)(i:Nat): Pn:=l.getD i pn0
def flatP(l:List Pn): List Value:=l.flatMap Pn.cells
def qIg(n:Nat): List Value:=List.replicate (n*49) (.int .i64 0)
theorem qHz(x:Pn)(l:List Pn): flatP (x::l)=x.cells++flatP l:=by simp[flatP]
theorem qHd(l:List Pn): (flatP l).length=l.length*49:=by
 induction l with
 | nil=>rfl
 | cons x l ih=>rw[qHz,List.length_append,ih,x.cells_length,List.length_cons];omega
theorem flatP_append(a b:List Pn): flatP (a++b)=flatP a++flatP b:=by simp[flatP]
theorem qN7(l:List Pn)(i:Nat): flatP (l.drop i)=(flatP l).drop (i*49):=by
 induction l generalizing i with
 | nil=>simp[flatP]
 | cons x l ih =>
  cases i with
  | zero=>simp
  | succ i =>
   rw[List.drop_succ_cons,ih,qHz,show(i+1)*49=x.cells.length+i*49 by rw[x.cells_length];omega,<-List.drop_drop,List.drop_left]
theorem pnAt_drop(l:List Pn)(k:Nat)(h:k<l.length): l.drop k=pnAt l k::l.drop (k+1):=by
 rw[List.drop_eq_getElem_cons h]
 congr 1
 simp[pnAt,List.getD_eq_getElem?_getD,List.getElem?_eq_getElem h]
theorem zCn(l:List Pn)(i j:Nat)(h:i<l.length)(hj:j<49): (flatP l)[i*49+j]?=(pnAt l i).cells[j]?:=by
 have h1:(flatP l)[i*49+j]?=((flatP l).drop (i*49))[j]?:=by rw[List.getElem?_drop]
 rw[h1,<-qN7,pnAt_drop l i h,qHz,List.getElem?_append_left (by rw[Pn.cells_length];exact hj)]
theorem Pn.one(p:Pn): ∀u∈p.cells,u.oneCell'=true:=by
 intro u hu
 simp only[Pn.cells,List.mem_cons,List.mem_map]at hu
 rcases hu with rfl | ⟨y,_,rfl⟩ <;> rfl
theorem qX2(l:List Pn): ∀u∈flatP l,u.oneCell'=true:=by
 intro u hu
 simp only[flatP,List.mem_flatMap]at hu
 obtain⟨p,_,hp⟩:=hu
 exact p.one u hp
theorem qGy(n:Nat): (qIg n).length=n*49:=by simp[qIg]
theorem qV8(n:Nat): ∀u∈qIg n,u.oneCell'=true:=by
 intro u hu
 rw[qIg,List.mem_replicate]at hu
 rw[hu.2];rfl
structure BRow (w:World) (g cap:Nat) (l:List Pn):Prop where
 ex:∃cur:List Value,Blk w g cur 237/\cur.length=cap*49/\cur.take (l.length*49)=flatP l
 le:l.length<=cap
 max:cap<=maxLen
theorem BRow.lt{w:World}{g cap:Nat}{l:List Pn}(h:BRow w g cap l): g<w.heap.size:=by obtain⟨cur,hb,_⟩:=h.ex;exact hb.lt
theorem BRow.keeps{M:Nat->Prop}{w w':World}{g cap:Nat}{l:List Pn}(h:BRow w g cap l)(k:Keeps M w w')(hn:¬M g): BRow w' g cap l:=by
 obtain⟨cur,hb,r⟩:=h.ex;exact⟨⟨cur,hb.keeps k hn,r⟩,h.le,h.max⟩
theorem BRow.range{w:World}{g cap:Nat}{l:List Pn}(h:BRow w g cap l)(i:Nat)(hi:i<l.length): w.rangeAt g (i*49) (pnAt l i).cells:=by
 obtain⟨cur,hb,hl,ht⟩:=h.ex
 intro j v hv
 have hj:j<49:=by have:=(List.getElem?_eq_some_iff.1 hv).1;rwa [Pn.cells_length]at this
 refine hb.cell ?_
 have hg:cur[i*49+j]?=(flatP l)[i*49+j]?:=by rw[<-ht,List.getElem?_take,if_pos (by omega)]
 rw[hg,zCn l i j hi hj]
 exact hv
theorem BRow.owns{w:World}{g cap:Nat}{l:List Pn}(h:BRow w g cap l): w.ownsRow 0 237 49 (.slice (some ⟨g,0,none⟩) l.length cap) l.length (flatP l):=by
 obtain⟨cur,hc,hl,ht⟩:=h.ex
 exact⟨qHd l,.inr ⟨g,cap,cur.toArray,rfl,Nat.zero_le _,hc,h.le,h.max,by simp[hl],by simpa using ht⟩⟩
theorem brow_of_owns{w:World}{g n cap:Nat}{l:List Pn}(hn:l.length=n)(h:w.ownsRow 0 237 49 (.slice (some ⟨g,0,none⟩) n cap) n (flatP l)): BRow w g cap l:=by
 rcases h.2 with ⟨h1,_⟩ | ⟨g',cap',cur,h1,_,h3,h4,h5,h6,h7⟩
 ·cases h1
 ·cases h1
  subst hn
  exact⟨⟨cur.toList,by unfold Blk;simpa using h3,by simpa using h6,h7⟩,h4,h5⟩
def qX1: Value:=.agg (List.replicate 49 (Value.int .i64 0)).toArray
theorem infoBk: (Tryz.prog.info? 237).map (λi=>(i.zero,i.size,i.bytes))=some (some qX1,49,392):=by kernel_rfl
theorem zGq(w:World): (zeroValue 237).run Tryz.prog w=.ok qX1 w:=by kernel_rfl
theorem qQd(z:Value)(k:Nat)(hk:0<k)(n:Nat): (Builtin.zeroCells (List.replicate k z).toArray n).toList=List.replicate (n*k) z:=by
 apply List.ext_getElem?
 intro j
 by_cases hj:j<n*k
 ·have hm:j%k<k:=Nat.mod_lt _ hk
  simp[Builtin.zeroCells,hj,hm]
 ·rw[List.getElem?_eq_none (by simp[Builtin.zeroCells];omega),List.getElem?_eq_none (by simp;omega)]
theorem qNo(n:Nat): (Builtin.zeroCells (Value.agg #[.int .i64 0,.int .i64 0,.int .i64 0,.int .i64 0,.int .i64 0,.int .i64 0,.int .i64 0,.int .i64 0,.int .i64 0,.int .i64 0,.int .i64 0,.int .i64 0,.int .i64 0,.int .i64 0,.int .i64 0,.int .i64 0,.int .i64 0,.int .i64 0,.int .i64 0,.int .i64 0,.int .i64 0,.int .i64 0,.int .i64 0,.int .i64 0,.int .i64 0,.int .i64 0,.int .i64 0,.int .i64 0,.int .i64 0,.int .i64 0,.int .i64 0,.int .i64 0,.int .i64 0,.int .i64 0,.int .i64 0,.int .i64 0,.int .i64 0,.int .i64 0,.int .i64 0,.int .i64 0,.int .i64 0,.int .i64 0,.int .i64 0,.int .i64 0,.int .i64 0,.int .i64 0,.int .i64 0,.int .i64 0,.int .i64 0]).cells n).toList=qIg n:=qQd (.int .i64 0) 49 (by omega) n
theorem qCm(w:World)(ty:TypeId)(b o n c:Nat)(cs:List Value)(h:Blk w b cs 237)(hn:0<n)(hl:o+n*49<=cs.length):
  (Builtin.clear_ #[246] ty #[.slice (some ⟨b,o,none⟩) n c]).run Tryz.prog w=.ok (.tuple #[]) (w.setCells b o (qIg n)):=by
 have hst:=run_storeCells_cells (P:=Tryz.prog) b o (qIg n) 0 w (λj hj=>h.some (by rw[qGy]at hj;omega)) (λj _=>h.frozen _) (qV8 n)
 simp only[Nat.add_zero]at hst
 obtain⟨m,rfl⟩:∃m,n=m+1:=⟨n-1,by omega⟩
 simp[Builtin.clear_,run_underlying Tryz.underlying246,qNo,hst]
theorem qF8{w:World}{g cap n j:Nat}{l:List Pn}{cur:List Value}(hn:l.length=n)(hb:Blk w g cur 237)(hl:cur.length=cap*49)(hle:n<=cap)(hmax:cap<=maxLen)(hj:j<=n):
  BRow ((w.setCells g 0 (flatP (l.drop j))).setCells g ((n-j)*49) (qIg j)) g cap (l.drop j):=by
 have h1:(flatP (l.drop j)).length=(n-j)*49:=by rw[qHd];simp[hn]
 have hb1:=Blk.setCells (flatP (l.drop j)) 0 w cur hb (by rw[h1];omega)
 have hl1:(over cur 0 (flatP (l.drop j))).length=cap*49:=by rw[qBh (by rw[h1];omega),hl]
 have hb2:=Blk.setCells (qIg j) ((n-j)*49) _ _ hb1 (by rw[hl1,qGy];omega)
 refine⟨⟨_,hb2,by rw[qBh (by rw[hl1,qGy];omega),hl1],?_⟩,by simp[hn];omega,hmax⟩
 have hlen:(l.drop j).length*49=(n-j)*49:=by simp[hn]
 rw[hlen]
 unfold over
 rw[List.append_assoc,List.take_append_of_le_length (by simp[h1])]
 rw[List.take_take,Nat.min_self]
 simp only[List.take_zero,List.nil_append]
 rw[List.take_append_of_le_length (by omega),List.take_of_length_le (by omega)]
theorem qEg(w:World):
  Calls Tryz.prog 235 #[.slice none 0 0,.int .i64 0,.int .i64 0] w λe w'=>e=.returned (.slice none 0 0)/\w'=w:=by
 go_enter Tryz.func235,Tryz.ntmps235
 go_wp2
 go_ret
 exact⟨rfl,rfl⟩
theorem qD0(g cap n:Nat)(w:World)(hle:n<=cap):
  Calls Tryz.prog 235 #[.slice (some ⟨g,0,none⟩) n cap,.int .i64 0,.int .i64 0] w λe w'=>e=.returned (.slice (some ⟨g,0,none⟩) n cap)/\w'=w:=by
 have h0:(0:Int)<=(n:Int):=by omega
 have h1:(n:Int)<=(cap:Int):=by omega
 go_enter Tryz.func235,Tryz.ntmps235
 go_wp2
 go_ret
 exact⟨rfl,rfl⟩
theorem qGc(g cap n j:Nat)(l:List Pn)(w:World)(hn:l.length=n)(hr:BRow w g cap l)(hj0:0<j)(hj:j<=n):
  Calls Tryz.prog 235 #[.slice (some ⟨g,0,none⟩) n cap,.int .i64 0,.int .i64 j] w λe w'=>e=.returned (.slice (some ⟨g,0,none⟩) (n-j) cap)/\BRow w' g cap (l.drop j)/\Keeps (·=g) w w':=by
 obtain⟨cur,hb,hl,ht⟩:=hr.ex
 have hle:=hr.le
 rw[hn]at hle
 have hmax:=hr.max
 have hcap:cap<=9223372036854775807:=by unfold maxLen at hmax;omega
 have HFIN:=hide (qF8 (w:=w.drew) hn (by exact hb.drew) hl hle hmax hj)
 obtain⟨news,hnews⟩:∃news,news=flatP (l.drop j):=⟨_,rfl⟩
 rw[<-hnews]at HFIN
 have hlen:news.length=(n-j)*49:=by rw[hnews,qHd];simp[hn]
 have hget:∀t u,news[t]?=some u->w.cell? ⟨g,j*49+t,none⟩=some u:=by
  intro t u hu
  refine hb.cell ?_
  have htl:t<(n-j)*49:=by have:=(List.getElem?_eq_some_iff.1 hu).1;omega
  rw[hnews,qN7,List.getElem?_drop,<-ht,List.getElem?_take,if_pos (by omega)]at hu
  exact hu
 obtain⟨A,hA,hsrc⟩:∃A:Addr,(if cap=j then some (⟨g,0,none⟩:Addr) else some ⟨g,j*49,none⟩)=some A/\Hid (∀t u,news[t]?=some u->w.drew.cell? (A.add t)=some u):=by
  by_cases h:cap=j
  ·refine⟨⟨g,0,none⟩,by simp[h],λt u hu=>?_⟩
   have h0:news.length=0:=by omega
   rw[List.length_eq_zero_iff.1 h0]at hu
   simp at hu
  ·refine⟨⟨g,j*49,none⟩,by simp[h],λt u hu=>?_⟩
   rw[Addr.add_lit]
   exact hget t u hu
 have s1:Hid (news.length=(n-j)*49):=hlen
 have s2:Hid (∀u∈news,u.oneCell'=true):=by rw[hnews];exact qX2 _
 have s3:Hid (∀t,t<news.length->(w.drew.cell? ⟨g,0+0*49+t,none⟩).isSome=true/\w.drew.frozen? ⟨g,0+0*49+t,none⟩=false):=by
  intro t ht'
  exact⟨hb.some (by omega),hb.frozen _⟩
 obtain⟨W1,hW1⟩:∃W1,W1=w.drew.setCells g 0 news:=⟨_,rfl⟩
 have hbW:Blk W1 g (over cur 0 news) 237:=by rw[hW1];exact Blk.setCells _ _ _ _ hb.drew (by omega)
 have hcl:∀ty,(Builtin.clear_ #[246] ty #[.slice (some ⟨g,(n-j)*49,none⟩) (n-(n-j)) (cap-(n-j))]).run Tryz.prog W1=.ok (.tuple #[]) (W1.setCells g ((n-j)*49) (qIg (n-(n-j)))) :=
  λty=>qCm W1 ty g _ _ _ _ hbW (by omega) (by rw[qBh (by omega)];omega)
 have hW:Hid (W1=w.drew.setCells g (0+0*49) news):=hW1
 have HK:=hide (show Keeps (·=g) w W1 by rw[hW1];exact Keeps.setCells (M:=λx=>x=g) (Or.inl rfl) _ _ _ (Keeps.refl _ _).drew)
 rw[<-hW1]at HFIN
 obtain⟨i0,hi0,hz0,hz1,hz2⟩:=info_parts infoBk
 have hjc:j<=cap:=by omega
 have HNJ:=hide (show n-(n-j)=j by omega)
 clear hW1 hbW hget hnews hlen hb ht hl hr hn hmax hz0 hz2
 go_enter Tryz.func235,Tryz.ntmps235
 go_wp2_with fail
 go_region_law (refine step_append_room rfl (.tmp 22) (.tmp 25) 246 rfl 237 i0 49 Tryz.underlying246 hi0 hz1 g 0 0 cap (by simp[Act.eval,Act.put]) A (n-j) (cap-j) news (by simp[Act.eval,Act.put]) s1.out hsrc.out s2.out (by omega) s3.out ?_;rw[<-hW.out])
 go_wp2
 go_ret
 refine⟨by simp,?_,?_⟩
 ·have:=uh HFIN;rw[uh HNJ];exact this
 ·exact Keeps.setCells (M:=λx=>x=g) (Or.inl rfl) _ _ _ (uh HK)
end Go.Proofs.YtahnliehdjncdabGreatDoor.Pa
