import Derived.Test.YtahnliehdjncdaaGreatDoorXAJ
set_option maxRecDepth 100000
set_option maxHeartbeats 16000000
namespace Go.Proofs.YtahnliehdjncdaaGreatDoor.Mk
open Go.RowKit
structure BRow (w:World) (g cap:Nat) (l:List Bk):Prop where
 ex:∃cur:List Value,Blk w g cur 222/\cur.length=cap*2/\cur.take (l.length*2)=qBn l
 le:l.length<=cap
 max:cap<=maxLen
theorem BRow.lt{w:World}{g cap:Nat}{l:List Bk}(h:BRow w g cap l): g<w.heap.size:=by obtain⟨cur,hb,_⟩:=h.ex;exact hb.lt
theorem BRow.keeps{M:Nat->Prop}{w w':World}{g cap:Nat}{l:List Bk}(h:BRow w g cap l)(k:Keeps M w w')(hn:¬M g): BRow w' g cap l:=by
 obtain⟨cur,hb,r⟩:=h.ex;exact⟨⟨cur,hb.keeps k hn,r⟩,h.le,h.max⟩
theorem BRow.cells{w:World}{g cap:Nat}{l:List Bk}(h:BRow w g cap l)(i:Nat)(hi:i<l.length):
  w.cell? ⟨g,i*2,none⟩=some (.int .i64 (qCc l i).sz)/\w.cell? ⟨g,i*2+1,none⟩=some (.int .i64 (qCc l i).t):=by
 obtain⟨cur,hb,hl,ht⟩:=h.ex
 have hg:∀k,k<l.length*2->cur[k]?=(qBn l)[k]?:=λk hk=>by rw[<-ht,List.getElem?_take,if_pos hk]
 obtain⟨a,b⟩:=qQv l i hi
 exact⟨hb.cell (by rw[hg _ (by omega)];exact a),hb.cell (by rw[hg _ (by omega)];exact b)⟩
theorem BRow.owns{w:World}{g cap:Nat}{l:List Bk}(h:BRow w g cap l): w.ownsRow 0 222 2 (.slice (some ⟨g,0,none⟩) l.length cap) l.length (qBn l):=by
 obtain⟨cur,hc,hl,ht⟩:=h.ex
 exact⟨qCn l,.inr ⟨g,cap,cur.toArray,rfl,Nat.zero_le _,hc,h.le,h.max,by simp[hl],by simpa using ht⟩⟩
theorem brow_of_owns{w:World}{g n cap:Nat}{l:List Bk}(hn:l.length=n)(h:w.ownsRow 0 222 2 (.slice (some ⟨g,0,none⟩) n cap) n (qBn l)): BRow w g cap l:=by
 rcases h.2 with ⟨h1,_⟩ | ⟨g',cap',cur,h1,_,h3,h4,h5,h6,h7⟩
 ·cases h1
 ·cases h1
  subst hn
  exact⟨⟨cur.toList,by unfold Blk;simpa using h3,by simpa using h6,h7⟩,h4,h5⟩
theorem infoBk: (Tryz.prog.info? 222).map (λi=>(i.zero,i.size,i.bytes))=some (some (.agg #[.int .i64 0,.int .i64 0]),2,16):=by kernel_rfl
theorem qCb(w:World)(ty:TypeId)(b o n c:Nat)(cs:List Value)(h:Blk w b cs 222)(hn:0<n)(hl:o+n*2<=cs.length):
  (Builtin.clear_ #[270] ty #[.slice (some ⟨b,o,none⟩) n c]).run Tryz.prog w=.ok (.tuple #[]) (w.setCells b o (qB9 n)):=by
 have hst:=run_storeCells_cells (P:=Tryz.prog) b o (qB9 n) 0 w (λj hj=>h.some (by rw[qBh]at hj;omega)) (λj _=>h.frozen _) (qMu n)
 simp only[Nat.add_zero]at hst
 obtain⟨m,rfl⟩:∃m,n=m+1:=⟨n-1,by omega⟩
 simp[Builtin.clear_,run_underlying Tryz.underlying270,qIa,hst]
theorem qFn{w:World}{g cap n j:Nat}{l:List Bk}{cur:List Value}(hn:l.length=n)(hb:Blk w g cur 222)(hl:cur.length=cap*2)(hle:n<=cap)(hmax:cap<=maxLen)(hj:j<=n):
  BRow ((w.setCells g 0 (qBn (l.drop j))).setCells g ((n-j)*2) (qB9 j)) g cap (l.drop j):=by
 have h1:(qBn (l.drop j)).length=(n-j)*2:=by rw[qCn];simp[hn]
 have hb1:=Blk.setCells (qBn (l.drop j)) 0 w cur hb (by rw[h1];omega)
 have hl1:(over cur 0 (qBn (l.drop j))).length=cap*2:=by rw[qBd (by rw[h1];omega),hl]
 have hb2:=Blk.setCells (qB9 j) ((n-j)*2) _ _ hb1 (by rw[hl1,qBh];omega)
 refine⟨⟨_,hb2,by rw[qBd (by rw[hl1,qBh];omega),hl1],?_⟩,by simp[hn];omega,hmax⟩
 have hlen:(l.drop j).length*2=(n-j)*2:=by simp[hn]
 rw[hlen]
 unfold over
 rw[List.append_assoc,List.take_append_of_le_length (by simp[h1])]
 rw[List.take_take,Nat.min_self]
 simp only[List.take_zero,List.nil_append]
 rw[List.take_append_of_le_length (by omega),List.take_of_length_le (by omega)]
theorem qDx(w:World):
  Calls Tryz.prog 242 #[.slice none 0 0,.int .i64 0,.int .i64 0] w λe w'=>e=.returned (.slice none 0 0)/\w'=w:=by
 go_enter Tryz.func242,Tryz.ntmps242
 go_wp2
 go_ret
 exact⟨rfl,rfl⟩
theorem qDk(g cap n:Nat)(w:World)(hle:n<=cap):
  Calls Tryz.prog 242 #[.slice (some ⟨g,0,none⟩) n cap,.int .i64 0,.int .i64 0] w λe w'=>e=.returned (.slice (some ⟨g,0,none⟩) n cap)/\w'=w:=by
 have h0:(0:Int)<=(n:Int):=by omega
 have h1:(n:Int)<=(cap:Int):=by omega
 go_enter Tryz.func242,Tryz.ntmps242
 go_wp2
 go_ret
 exact⟨rfl,rfl⟩
theorem qE9(g cap n j:Nat)(l:List Bk)(w:World)(hn:l.length=n)(hr:BRow w g cap l)(hj0:0<j)(hj:j<=n):
  Calls Tryz.prog 242 #[.slice (some ⟨g,0,none⟩) n cap,.int .i64 0,.int .i64 j] w λe w'=>e=.returned (.slice (some ⟨g,0,none⟩) (n-j) cap)/\BRow w' g cap (l.drop j)/\Keeps (·=g) w w':=by
 obtain⟨cur,hb,hl,ht⟩:=hr.ex
 have hle:=hr.le
 rw[hn]at hle
 have hmax:=hr.max
 have hcap:cap<=9223372036854775807:=by unfold maxLen at hmax;omega
 have HFIN:=hide (qFn (w:=w.drew) hn (by exact hb.drew) hl hle hmax hj)
 obtain⟨news,hnews⟩:∃news,news=qBn (l.drop j):=⟨_,rfl⟩
 rw[<-hnews]at HFIN
 have hlen:news.length=(n-j)*2:=by rw[hnews,qCn];simp[hn]
 have hget:∀t u,news[t]?=some u->w.cell? ⟨g,j*2+t,none⟩=some u:=by
  intro t u hu
  refine hb.cell ?_
  have htl:t<(n-j)*2:=by have:=(List.getElem?_eq_some_iff.1 hu).1;omega
  rw[hnews,qI3,List.getElem?_drop,<-ht,List.getElem?_take,if_pos (by omega)]at hu
  exact hu
 obtain⟨A,hA,hsrc⟩:∃A:Addr,(if cap=j then some (⟨g,0,none⟩:Addr) else some ⟨g,j*2,none⟩)=some A/\Hid (∀t u,news[t]?=some u->w.drew.cell? (A.add t)=some u):=by
  by_cases h:cap=j
  ·refine⟨⟨g,0,none⟩,by simp[h],λt u hu=>?_⟩
   have h0:news.length=0:=by omega
   rw[List.length_eq_zero_iff.1 h0]at hu
   simp at hu
  ·refine⟨⟨g,j*2,none⟩,by simp[h],λt u hu=>?_⟩
   rw[Addr.add_lit]
   exact hget t u hu
 have s1:Hid (news.length=(n-j)*2):=hlen
 have s2:Hid (∀u∈news,u.oneCell'=true):=by rw[hnews];exact qLj _
 have s3:Hid (∀t,t<news.length->(w.drew.cell? ⟨g,0+0*2+t,none⟩).isSome=true/\w.drew.frozen? ⟨g,0+0*2+t,none⟩=false):=by
  intro t ht'
  exact⟨hb.some (by omega),hb.frozen _⟩
 obtain⟨W1,hW1⟩:∃W1,W1=w.drew.setCells g 0 news:=⟨_,rfl⟩
 have hbW:Blk W1 g (over cur 0 news) 222:=by rw[hW1];exact Blk.setCells _ _ _ _ hb.drew (by omega)
 have hcl:∀ty,(Builtin.clear_ #[270] ty #[.slice (some ⟨g,(n-j)*2,none⟩) (n-(n-j)) (cap-(n-j))]).run Tryz.prog W1=.ok (.tuple #[]) (W1.setCells g ((n-j)*2) (qB9 (n-(n-j)))) :=
  λty=>qCb W1 ty g _ _ _ _ hbW (by omega) (by rw[qBd (by omega)];omega)
 have hW:Hid (W1=w.drew.setCells g (0+0*2) news):=hW1
 have HK:=hide (show Keeps (·=g) w W1 by rw[hW1];exact Keeps.setCells (M:=λx=>x=g) (Or.inl rfl) _ _ _ (Keeps.refl _ _).drew)
 rw[<-hW1]at HFIN
 obtain⟨i0,hi0,hz0,hz1,hz2⟩:=info_parts infoBk
 have hjc:j<=cap:=by omega
 have HNJ:=hide (show n-(n-j)=j by omega)
 clear hW1 hbW hget hnews hlen hb ht hl hr hn hmax hz0 hz2
 go_enter Tryz.func242,Tryz.ntmps242
 go_wp2_with fail
 go_region_law (refine step_append_room rfl (.tmp 22) (.tmp 25) 270 rfl 222 i0 2 Tryz.underlying270 hi0 hz1 g 0 0 cap (by simp[Act.eval,Act.put]) A (n-j) (cap-j) news (by simp[Act.eval,Act.put]) s1.out hsrc.out s2.out (by omega) s3.out ?_;rw[<-hW.out])
 go_wp2
 go_ret
 refine⟨by simp,?_,?_⟩
 ·have:=uh HFIN;rw[uh HNJ];exact this
 ·exact Keeps.setCells (M:=λx=>x=g) (Or.inl rfl) _ _ _ (uh HK)
end Go.Proofs.YtahnliehdjncdaaGreatDoor.Mk
namespace Go.Proofs.YtahnliehdjncdaaGreatDoor.Mk
open Go.RowKit
def qDv: Value:=.func (.func 205) #[] #[]
def RowRep(w:World)(r:Nat)(og:Option Nat)(l:List Bk): Prop :=
 match og with
 | none=>l=[]/\Blk w r [qDv,.slice none 0 0] 272
 | some g=>r≠g/\∃cap,Blk w r [qDv,.slice (some ⟨g,0,none⟩) l.length cap] 272/\BRow w g cap l
theorem RowRep.lt{w:World}{r:Nat}{og:Option Nat}{l:List Bk}(h:RowRep w r og l): r<w.heap.size/\∀g,og=some g->g<w.heap.size/\r≠g:=by
 cases og with
 | none=>exact⟨h.2.lt,λ_ h=>by cases h⟩
 | some g=>obtain⟨hne,cap,hb,hr⟩:=h;exact⟨hb.lt,λg' h=>by cases h;exact⟨hr.lt,hne⟩⟩
theorem RowRep.keeps{M:Nat->Prop}{w w':World}{r:Nat}{og:Option Nat}{l:List Bk}(h:RowRep w r og l)(k:Keeps M w w')(hq:¬M r)(hg:∀g,og=some g->¬M g): RowRep w' r og l:=by
 cases og with
 | none=>exact⟨h.1,h.2.keeps k hq⟩
 | some g=>obtain⟨hne,cap,hb,hr⟩:=h;exact⟨hne,cap,hb.keeps k hq,hr.keeps k (hg g rfl)⟩
theorem RowRep.still{w w':World}{r:Nat}{og:Option Nat}{l:List Bk}(h:RowRep w r og l)(k:Keeps (λ_=>False) w w'): RowRep w' r og l:=h.keeps k (λh=>h) (λ_ _ h=>h)
theorem rowLen_any(q:Nat)(og:Option Nat)(l:List Bk)(w:World)(h:RowRep w q og l):
  Calls Tryz.prog 211 #[.pointer (some ⟨q,0,none⟩)] w λe w'=>e=.returned (.int .i64 l.length)/\w'=w:=by
 cases og with
 | none =>
  obtain⟨hl,hb⟩:=h
  have hq1:w.cell? ⟨q,1,none⟩=some (.slice none 0 0):=hb.cell rfl
  subst hl
  clear hb
  go_enter Tryz.func211,Tryz.ntmps211
  go_wp2
  go_ret
  exact⟨rfl,rfl⟩
 | some g =>
  obtain⟨hne,cap,hb,hr⟩:=h
  have hq1:w.cell? ⟨q,1,none⟩=some (.slice (some ⟨g,0,none⟩) l.length cap):=hb.cell rfl
  clear hb hr
  go_enter Tryz.func211,Tryz.ntmps211
  go_wp2
  go_ret
  exact⟨rfl,rfl⟩
theorem qD3(q:Nat)(og:Option Nat)(l:List Bk)(i:Nat)(w:World)(h:RowRep w q og l)(hi:i<l.length):
  Calls Tryz.prog 212 #[.pointer (some ⟨q,0,none⟩),.int .i64 i] w λe w'=>e=.returned (qCc l i).val/\Keeps (λ_=>False) w w':=by
 cases og with
 | none=>obtain⟨hl,hb⟩:=h;subst hl;simp at hi
 | some g =>
  obtain⟨hne,cap,hb,hr⟩:=h
  have hq1:w.cell? ⟨q,1,none⟩=some (.slice (some ⟨g,0,none⟩) l.length cap):=hb.cell rfl
  have hlq:=hb.lt
  have hlg:=hr.lt
  obtain⟨x0,x1⟩:=hr.cells i hi
  generalize qCc l i=x at *
  generalize l.length=n at *
  have hi0:(0:Int)<=(i:Int):=by omega
  have hin:(i:Int)<(n:Int):=by omega
  clear hb hr
  go_enter Tryz.func212,Tryz.ntmps212
  go_wp2
  refine bodyPost_ret (v:=x.val) (by simp[results,Tryz.results212,go_sem,Bk.val]) rfl ⟨rfl,(Keeps.refl _ _).alloc _⟩
theorem qS1(x:Bk)(w:World):
  Calls Tryz.prog 205 #[x.val] w λe w'=>e=.returned (.int .i64 x.sz)/\w'=w.alloc (.cells #[.int .i64 x.sz,.int .i64 x.t] 222):=by
 unfold Bk.val
 go_enter Tryz.func205,Tryz.ntmps205
 go_wp2
 go_ret
 exact⟨rfl,rfl⟩
def pastN(l:List Bk)(t:Int): Nat:=(l.takeWhile (λb=>decide (b.sz<=t))).length
theorem pastN_le(l:List Bk)(t:Int): pastN l t<=l.length:=(List.takeWhile_prefix _).length_le
theorem past_any(q:Nat)(og:Option Nat)(l:List Bk)(t:Int)(w:World)(h:RowRep w q og l)(hl:l.length<=4398046511104):
  Calls Tryz.prog 207 #[.pointer (some ⟨q,0,none⟩),.int .i64 t] w λe w'=>e=.returned (.int .i64 (pastN l t))/\Keeps (λ_=>False) w w':=by
 cases og with
 | none =>
  obtain⟨hl,hb⟩:=h
  have hq1:w.cell? ⟨q,1,none⟩=some (.slice none 0 0):=hb.cell rfl
  subst hl
  clear hb
  go_enter Tryz.func207,Tryz.ntmps207
  go_wp2
  go_loopw [5] (λi wr=>i=.int .i64 0/\wr=w) (λ_ _=>0)
  case atStart=>exact⟨rfl,rfl⟩
  case round =>
   obtain⟨rfl,rfl⟩:=hrel
   go_wp2
   go_quiet (fail)
   go_wp2
   go_ret
   exact⟨rfl,Keeps.drewN _ _ _⟩
 | some g =>
  obtain⟨hne,cap,hb,hr⟩:=h
  have HB:=hide hb
  have HR:=hide hr
  clear hb hr
  generalize hn:l.length=n at *
  have HN:=hide hn
  clear hn
  go_enter Tryz.func207,Tryz.ntmps207
  go_wp2
  go_loopw [5] (λi wr=>∃k:Nat,i=.int .i64 k/\k<=n/\Hid (Keeps (λ_=>False) w wr)/\Hid (pastN l t=k+pastN (l.drop k) t)) (λi _=>n-(intOf i).toNat)
  case atStart=>exact⟨0,rfl,Nat.zero_le _,Keeps.refl _ _,by show _=_;simp⟩
  case round =>
   obtain⟨k,rfl,hk,HK,HE⟩:=hrel
   have hq1:wr.cell? ⟨q,1,none⟩=some (.slice (some ⟨g,0,none⟩) n cap):=(uh HK).cell ((uh HB).cell rfl) (λh=>h)
   have hq0:wr.cell? ⟨q,0,none⟩=some (.func (.func 205) #[] #[]):=(uh HK).cell ((uh HB).cell rfl) (λh=>h)
   by_cases hlt:k<n
   ·have hcs:=(uh HR).cells k (by rw[uh HN];exact hlt)
    have x0:=(uh HK).cell hcs.1 (λh=>h)
    have x1:=(uh HK).cell hcs.2 (λh=>h)
    clear hcs
    have hk0:(0:Int)<=(k:Int):=by omega
    have hkn:(k:Int)<(n:Int):=by omega
    have HD:=hide (qGx l k (by rw[uh HN];exact hlt))
    generalize qCc l k=x at *
    by_cases ht:x.sz<=t
    all_goals
     have HT:=hide ht
     go_wp2
     go_region_held3 (λw'=>w'.cell? ⟨q,0,none⟩=some (.func (.func 205) #[] #[])/\w'.cell? ⟨q,1,none⟩=some (.slice (some ⟨g,0,none⟩) n cap) /\
        w'.cell? ⟨g,k*2,none⟩=some (.int .i64 x.sz)/\w'.cell? ⟨g,k*2+1,none⟩=some (.int .i64 x.t)) (go_keep)
      (first | (go_at_call 205;refine(qS1 x _).mono ?_;rintro e w' ⟨rfl,rfl⟩))
     have hk1:Keeps (λ_=>False) wr (wr.alloc (.cells #[.int .i64 x.sz,.int .i64 x.t] 222)).drew:=((Keeps.refl _ _).alloc _).drew
     generalize(wr.alloc (.cells #[.int .i64 x.sz,.int .i64 x.t] 222)).drew=W1 at *
     have HK1:=hide hk1
     clear hk1
    ·go_wp2
     go_roundw
     case rel =>
      refine⟨k+1,by go_num,by omega,(uh HK).then (uh HK1),?_⟩
      show _=_
      rw[uh HE,uh HD]
      unfold pastN
      rw[List.takeWhile_cons,if_pos (by simpa using uh HT)]
      simp;omega
     case measure=>simp[intOf];omega
    ·go_wp2
     go_ret
     refine⟨?_,(uh HK).then (uh HK1)⟩
     rw[uh HE,uh HD]
     unfold pastN
     rw[List.takeWhile_cons,if_neg (by simpa using uh HT)]
     simp
   ·have hd:decide ((k:Int)<(n:Int))=false:=by simp;omega
    go_wp2
    go_quiet (fail)
    go_wp2
    go_ret
    refine⟨?_,(uh HK).then (Keeps.drewN _ _ _)⟩
    rw[uh HE,List.drop_eq_nil_of_le (by rw[uh HN];omega)]
    simp[pastN]
end Go.Proofs.YtahnliehdjncdaaGreatDoor.Mk
namespace Go.Proofs.YtahnliehdjncdaaGreatDoor.Mk
open Go.RowKit
theorem lose_any(q:Nat)(og:Option Nat)(l:List Bk)(k:Nat)(w:World)(h:RowRep w q og l)(hk:k<=l.length):
  Calls Tryz.prog 206 #[.pointer (some ⟨q,0,none⟩),.int .i64 k] w λe w'=>e=.returned (.tuple #[])/\RowRep w' q og (l.drop k)/\Keeps (λi=>i=q\/og=some i) w w':=by
 cases og with
 | none =>
  obtain⟨hl,hb⟩:=h
  subst hl
  have hk0:k=0:=by simpa using hk
  subst hk0
  have hq1:w.cell? ⟨q,1,none⟩=some (.slice none 0 0):=hb.cell rfl
  have hf:=hb.frozen
  have HB:=hide hb
  clear hb hk
  go_enter Tryz.func206,Tryz.ntmps206
  go_wp2_with fail
  refine(qDx _).mono ?_
  rintro e w' ⟨rfl,rfl⟩
  go_wp2
  go_end0
  refine⟨rfl,⟨rfl,?_⟩,(Keeps.refl (λi=>i=q\/none=some i) _).setCell (p:=⟨q,1,none⟩) (Or.inl (Or.inl rfl)) _⟩
  exact(uh HB).setCell 1 _
 | some g =>
  obtain⟨hne,cap,hb,hr⟩:=h
  have hq1:w.cell? ⟨q,1,none⟩=some (.slice (some ⟨g,0,none⟩) l.length cap):=hb.cell rfl
  have hlq:=hb.lt
  have HB:=hide hb
  have HR:=hide hr
  clear hb hr
  have HC:Hid (Calls Tryz.prog 242 #[.slice (some ⟨g,0,none⟩) l.length cap,.int .i64 0,.int .i64 k] w λe w'=>e=.returned (.slice (some ⟨g,0,none⟩) (l.length-k) cap)/\BRow w' g cap (l.drop k)/\Keeps (λi=>i=g) w w'):=by
   rcases Nat.eq_zero_or_pos k with h0 | h0
   ·subst h0
    refine(qDk g cap l.length w (uh HR).le).mono ?_
    rintro e w' ⟨rfl,rfl⟩
    exact⟨rfl,uh HR,Keeps.refl _ _⟩
   ·exact qE9 g cap l.length k l w rfl (uh HR) h0 hk
  generalize hn:l.length=n at *
  have HN:=hide hn
  clear hn
  go_enter Tryz.func206,Tryz.ntmps206
  go_wp2_with fail
  refine(uh HC).mono ?_
  rintro e w1 ⟨rfl,hr1,hk1⟩
  have HB1:=hide ((uh HB).keeps hk1 hne)
  have HR1:=hide hr1
  have HK1:=hide hk1
  clear hr1 hk1 HC HB HR hq1
  have hq1:w1.cell? ⟨q,1,none⟩=some (.slice (some ⟨g,0,none⟩) n cap):=(uh HB1).cell rfl
  have hf:=(uh HB1).frozen
  go_wp2
  go_end0
  refine⟨rfl,⟨hne,cap,?_,?_⟩,?_⟩
  ·rw[List.length_drop,uh HN];exact(uh HB1).setCell 1 _
  ·exact(uh HR1).keeps (M:=λi=>i=q) ((Keeps.refl (λi=>i=q) _).setCell (p:=⟨q,1,none⟩) (Or.inl rfl) _) (λh=>hne h.symm)
  ·exact((uh HK1).mono (M':=λi=>i=q\/some g=some i) (λi _ h=>.inr (by rw[h]))).setCell (p:=⟨q,1,none⟩) (Or.inl (Or.inl rfl)) _
theorem RowRep.owns{w:World}{q:Nat}{og:Option Nat}{l:List Bk}(h:RowRep w q og l):
  ∃cap,Blk w q [qDv,slV og l.length cap] 272/\w.ownsRow 0 222 2 (slV og l.length cap) l.length (qBn l):=by
 cases og with
 | none=>obtain⟨rfl,hb⟩:=h;exact⟨0,hb,World.ownsRow_nil _ _ _ _⟩
 | some g =>
  obtain⟨hne,cap,hb,hr⟩:=h
  exact⟨cap,hb,hr.owns⟩
theorem qFk{w w1:World}{A B:Obj}{q gg n cap cap':Nat}{og:Option Nat}{l:List Bk}{x:Bk}{v:Value}(hn:l.length=n)(hv:slV og n cap=v)(hlq:q<w.heap.size)(hb:Blk w q [qDv,v] 272)(hqv:some q≠v.ownBlock)(hown1:w1.ownsRow 0 222 2 (.slice (some ⟨gg,0,none⟩) (n+1) cap') (n+1) (qBn l++[.int .i64 x.sz,.int .i64 x.t]))(hgrow:((w.alloc A).alloc B).drew.grownBy w1 v.ownBlock)(hat:v.ownBlock=some gg\/gg=w.heap.size+2):
  RowRep (w1.setCell ⟨q,1,none⟩ (.slice (some ⟨gg,0,none⟩) (n+1) cap')) q (some gg) (l++[x]) /\
  Keeps (λk=>k=q\/og=some k) w (w1.setCell ⟨q,1,none⟩ (.slice (some ⟨gg,0,none⟩) (n+1) cap'))/\(og=some gg\/w.heap.size<=gg):=by
 have hob:∀k,v.ownBlock=some k->og=some k:=by
  intro k hk
  rw[<-hv]at hk
  cases og with
  | none=>simp[slV,Value.ownBlock]at hk
  | some g=>simpa[slV,Value.ownBlock] using hk
 have hqg:q≠gg:=by
  rcases hat with h | h
  ·intro e;apply hqv;rw[h,e]
  ·omega
 have hk1:Keeps (λk=>k=q\/og=some k) w w1:=(((Keeps.refl _ w).alloc A).alloc B).drew.grown hgrow (λk hk=>Or.inl (Or.inr (hob k hk)))
 have hb1:Blk w1 q [qDv,v] 272:=by
  unfold Blk
  rw[hgrow.block q (by simp;omega) hqv]
  exact(hb.alloc A).alloc B
 refine⟨⟨hqg,cap',?_,?_⟩,hk1.setCell (Or.inl (Or.inl rfl)) _,?_⟩
 ·have:(l++[x]).length=n+1:=by simp[hn]
  rw[this]
  exact hb1.setCell 1 _
 ·have hfl:qBn l++[.int .i64 x.sz,.int .i64 x.t]=qBn (l++[x]):=by rw[qEg];rfl
  rw[hfl]at hown1
  exact(brow_of_owns (by simp[hn]) hown1).keeps (M:=λk=>k=q) ((Keeps.refl (λk=>k=q) _).setCell (Or.inl rfl) _) (λh=>hqg h.symm)
 ·rcases hat with h | h
  ·exact .inl (hob gg h)
  ·exact .inr (by omega)
theorem rowPut_any(q:Nat)(og:Option Nat)(l:List Bk)(x:Bk)(w:World)(h:RowRep w q og l)(hl:l.length<=4398046511104):
  Calls Tryz.prog 213 #[.pointer (some ⟨q,0,none⟩),x.val] w λe w'=>e=.returned (.tuple #[])/\∃og',RowRep w' q og' (l++[x])/\Keeps (λk=>k=q\/og=some k) w w'/\(og'=og\/∃k,og'=some k/\w.heap.size<=k):=by
 obtain⟨hlq,hlg⟩:=h.lt
 obtain⟨cap,hb,hown⟩:=h.owns
 have hq1:w.cell? ⟨q,1,none⟩=some (slV og l.length cap):=hb.cell rfl
 have hfz:=hb.frozen 1
 obtain⟨i0,hi0,hz0,hz1,hz2⟩:=info_parts infoBk
 generalize hn:l.length=n at *
 generalize hv:slV og n cap=v at *
 unfold Bk.val
 have HB:Hid (Blk w q [qDv,v] 272):=hb
 have HV:Hid (slV og n cap=v):=hv
 have HN:Hid (l.length=n):=hn
 have hqv:some q≠v.ownBlock:=by
  rw[<-hv]
  cases og with
  | none=>simp[slV,Value.ownBlock]
  | some g=>simp[slV,Value.ownBlock];exact(hlg g rfl).2
 have HF:Hid (∀A B w1,((w.alloc A).alloc B).drew.grownBy w1 v.ownBlock->w1.cell? ⟨q,1,none⟩=some v/\w1.frozen? ⟨q,1,none⟩=false):=λA B w1 hg=>by
  have hb1:w1.heap[q]?=w.heap[q]?:=by
   rw[hg.block q (by simp;omega) hqv]
   show((w.alloc A).alloc B).heap[q]?=_
   rw[Below.heap_alloc _ _ _ (by simp;omega),Below.heap_alloc _ _ _ hlq]
  exact⟨(World.cell?_of_block (a:=⟨q,1,none⟩) hb1).trans hq1,(World.frozen?_of_block (a:=⟨q,1,none⟩) hb1).trans hfz⟩
 have hnew:Hid (∀A B,((w.alloc A).alloc B).drew.heap[w.heap.size+1]?=some B):=λA B=>by
  have:=heap_alloc_new (w.alloc A) B
  rwa [World.size_alloc]at this
 clear hb h hv hn hlg
 go_enter Tryz.func213,Tryz.ntmps213
 go_wp2_with fail
 go_region_law
  ((refine step_append_lies _ (by rfl) _ _ _ (by rfl) 0 222 i0 _ 2 16 Tryz.underlying270 hi0 hz0 hz1 hz2 rfl (by omega) v n (qBn l) (by rfl) (((hown.alloc _).alloc _).drew)
        ⟨w.heap.size+1,0,none⟩ 1 1 [.int .i64 x.sz,.int .i64 x.t] (by rfl) (by rfl) (World.news_of_block (cs:=#[.int .i64 x.sz,.int .i64 x.t]) (t:=222) (fr:=(0,0)) (hnew.out _ _)) (by simp[Value.oneCell'])
        (by omega) (by unfold maxLen;omega) (by omega) (by omega) (w.heap.size+2) (by simp) ?_;intro gg cap' w1 hown1 hgrow hat hlt;have hcq:=(HF.out _ _ _ hgrow).1;have hfq:=(HF.out _ _ _ hgrow).2))
 all_goals
  have HE:=qFk HN.out HV.out hlq HB.out hqv hown1 hgrow hat
  obtain⟨hQ2,hK2,hog⟩:=HE
  go_wp2
  go_end0
  refine⟨rfl,some gg,hQ2,hK2,?_⟩
  rcases hog with h | h
  ·exact .inl h.symm
  ·exact .inr ⟨gg,rfl,h⟩
theorem rowNew_any(w:World):
  Calls Tryz.prog 204 #[qDv] w λe w'=>e=.returned (.pointer (some ⟨w.heap.size,0,none⟩))/\RowRep w' w.heap.size none []/\Keeps (λ_=>False) w w'/\w'.heap.size=w.heap.size+1:=by
 unfold qDv
 go_enter Tryz.func204,Tryz.ntmps204
 go_wp2
 go_ret
 exact⟨rfl,⟨rfl,Blk.new w [qDv,.slice none 0 0] 272⟩,(Keeps.refl _ _).alloc _,by simp⟩
end Go.Proofs.YtahnliehdjncdaaGreatDoor.Mk
namespace Go.Proofs.YtahnliehdjncdaaGreatDoor.Mk
open Go.RowKit
theorem qOk{w:World}{g cap n:Nat}{l:List Bk}{cur:List Value}(hn:l.length=n+1)(hb:Blk w g cur 222)(hl:cur.length=cap*2)(ht:cur.take (l.length*2)=qBn l)(hle:n+1<=cap)(hmax:cap<=maxLen):
  BRow (w.setCells g (n*2) (qB9 1)) g cap (l.take n):=by
 have hb1:=Blk.setCells (qB9 1) (n*2) w cur hb (by rw[qBh];omega)
 have hlen:(l.take n).length=n:=by simp[hn]
 refine⟨⟨_,hb1,by rw[qBd (by rw[qBh];omega),hl],?_⟩,by omega,hmax⟩
 rw[hlen,qK8 (Nat.le_refl _) (by omega),qIv,<-ht,List.take_take,hn,Nat.min_eq_left (by omega)]
theorem qLq(g cap n:Nat)(l:List Bk)(w:World)(hn:l.length=n+1)(hr:BRow w g cap l):
  Calls Tryz.prog 242 #[.slice (some ⟨g,0,none⟩) (n+1) cap,.int .i64 n,.int .i64 ((n:Int)+1)] w λe w'=>e=.returned (.slice (some ⟨g,0,none⟩) n cap)/\BRow w' g cap (l.take n)/\Keeps (·=g) w w':=by
 obtain⟨cur,hb,hl,ht⟩:=hr.ex
 have hle:=hr.le
 rw[hn]at hle
 have hmax:=hr.max
 have hcap:cap<=9223372036854775807:=by unfold maxLen at hmax;omega
 have HFIN:=hide (qOk (w:=w.drew) hn (by exact hb.drew) hl ht hle hmax)
 obtain⟨A,hA⟩:∃A:Addr,(if cap=n+1 then some (⟨g,0,none⟩:Addr) else some ⟨g,(n+1)*2,none⟩)=some A:=by
  by_cases h:cap=n+1
  ·exact⟨⟨g,0,none⟩,by simp[h]⟩
  ·exact⟨⟨g,(n+1)*2,none⟩,by simp[h]⟩
 have hcl:∀ty,(Builtin.clear_ #[270] ty #[.slice (some ⟨g,n*2,none⟩) 1 (cap-n)]).run Tryz.prog (w.drew.setCells g (n*2) [])=.ok (.tuple #[]) (w.drew.setCells g (n*2) (qB9 1)) :=
  λty=>qCb w.drew ty g _ _ _ _ hb.drew (by omega) (by omega)
 obtain⟨i0,hi0,hz0,hz1,hz2⟩:=info_parts infoBk
 have hw1:IntKind.i64.wrap ((n:Int)+1)=(n:Int)+1:=by rw[IntKind.wrap_i64];omega
 have hne:((n:Int)==(n:Int)+1)=false:=by simp;omega
 have hn0:(0:Int)<=(n:Int):=by omega
 have hn1:(0:Int)<=(n:Int)+1:=by omega
 have hnc:n<=cap:=by omega
 have hcn:¬cap=n:=by omega
 clear hb ht hl hr hn hmax hz0 hz2
 go_enter Tryz.func242,Tryz.ntmps242
 go_wp2_with fail
 go_region_law (refine step_append_room rfl (.tmp 22) (.tmp 25) 270 rfl 222 i0 2 Tryz.underlying270 hi0 hz1 g 0 n cap (by simp[Act.eval,Act.put]) A 0 (cap-(n+1)) [] (by simp[Act.eval,Act.put]) rfl (by intro t u hu;simp at hu) (by simp) (by omega) (by intro t ht;simp at ht) ?_)
 go_wp2
 go_ret
 refine⟨by simp,?_,?_⟩
 ·exact uh HFIN
 ·exact Keeps.setCells (M:=λx=>x=g) (Or.inl rfl) _ _ _ (Keeps.refl _ _).drew
end Go.Proofs.YtahnliehdjncdaaGreatDoor.Mk
