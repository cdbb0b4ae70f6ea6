import Derived.Test.YtahnliehdjncdaaGreatDoorXAM
import Derived.Test.YtahnliehdjncdaaGreatDoorXAK
set_option maxRecDepth 100000
set_option maxHeartbeats 16000000
namespace Go.Proofs.YtahnliehdjncdaaGreatDoor
section
open Go.RowKit
attribute [local go_sem ↓] qAd qAe
attribute [local go_sem] qAh qAl qAb qAc qAm qAn qAg qAk
theorem qSz(d r:Nat)(og:Option Nat)(c:Cfg)(l:List Bk)(a m:Int)(w:World)(h:CRep w d r og c l)(ha:inB a 1 c.window=false):
  Calls Tryz.prog 159 #[.pointer (some ⟨d,0,none⟩),.int .i64 a,.int .i64 m] w λe w'=>e=.returned (.tuple #[.slice none 0 0,.int .i64 13])/\Keeps (λ_=>False) w w':=by
 have hc5:w.cell? ⟨d,5,none⟩=some (.int .i64 c.window):=h.blk.cell rfl
 clear h
 go_enter Tryz.func159,Tryz.ntmps159
 go_wp2_with (go_at_call 58;refine(qAf _ _ _ _).mono ?_;rintro e w' ⟨rfl,rfl⟩)
 go_ret2
 exact⟨rfl,Keeps.refl _ _⟩
theorem qOo(d r:Nat)(og:Option Nat)(c:Cfg)(l:List Bk)(a m:Int)(w:World)(h:CRep w d r og c l)(hi:BInv l)(ha:inB a 1 c.window=true)(m0:-100<=m)(m1:m<=4611686018427387904)(w1:c.window<=1000):
  Calls Tryz.prog 159 #[.pointer (some ⟨d,0,none⟩),.int .i64 a,.int .i64 m] w λe w'=>∃g,e=.returned (.tuple #[.slice (some ⟨g,0,none⟩) 1 1,.int .i64 0])/\w.heap.size<=g/\Blk w' g [.int .i64 (zDk l (m-a))] 3/\Keeps (λ_=>False) w w':=by
 have hc5:w.cell? ⟨d,5,none⟩=some (.int .i64 c.window):=h.blk.cell rfl
 have HC:=hide h
 have HI:=hide hi
 have ha1:1<=a/\a<=c.window:=by simpa[inB] using ha
 obtain⟨a1,a2⟩:=ha1
 have hwr:IntKind.i64.wrap (m-a)=m-a:=by rw[IntKind.wrap_i64];omega
 clear h hi
 go_enter Tryz.func159,Tryz.ntmps159
 go_wp2_with (first | (go_at_call 58;refine(qAf _ _ _ _).mono ?_;rintro e w' ⟨rfl,rfl⟩) | fail)
 refine(qQw d r og c l (m-a) _ (uh HC) (uh HI)).mono ?_
 rintro e w2 ⟨rfl,hk2⟩
 have HK2:=hide hk2
 clear hk2
 go_wp2
 go_ret2
 exact⟨w2.heap.size,rfl,(uh HK2).size,Blk.new w2 [.int .i64 (zDk l (m-a))] 3,(uh HK2).alloc _⟩
def qDw(c:Cfg)(l:List Bk)(m b:Int): Int:=min (pastN l (m-c.window):Int) b
theorem qO7(d r:Nat)(og:Option Nat)(c:Cfg)(l:List Bk)(m b:Int)(w:World)(h:CRep w d r og c l)(hi:BInv l)(m0:-100<=m)(m1:m<=4611686018427387904)(w0:0<=c.window)(w1:c.window<=1000)(b0:0<=b)(b1:b<=100):
  Calls Tryz.prog 160 #[.pointer (some ⟨d,0,none⟩),.int .i64 m,.int .i64 b] w λe w'=>e=.returned (.tuple #[.int .i64 (qDw c l m b),.int .i64 ((pastN l (m-c.window):Int)-qDw c l m b)])/\CRep w' d r og c (l.drop (qDw c l m b).toNat)/\Keeps (λi=>i=r\/og=some i) w w':=by
 have HC:=hide h
 have hl:=hi.len
 have hp:=pastN_le l (m-c.window)
 have HT:=hide (show qDw c l m b=min (pastN l (m-c.window):Int) b from rfl)
 clear h hi
 go_enter Tryz.func160,Tryz.ntmps160
 go_wp2_with fail
 refine(qTt d r og c l m w (uh HC) hl m0 m1 w0 w1).mono ?_
 rintro e W1 ⟨rfl,hk1⟩
 have HC1:=hide ((uh HC).still hk1)
 have HK1:=hide hk1
 clear hk1
 generalize hpp:pastN l (m-c.window)=p at *
 have HPP:=hide hpp
 clear hpp
 have hc20:W1.cell? ⟨d,20,none⟩=some (.pointer (some ⟨r,0,none⟩)):=(uh HC1).blk.cell rfl
 by_cases hbp:b<(p:Int)
 ·obtain⟨bn,rfl⟩:∃bn:Nat,b=(bn:Int):=⟨b.toNat,by omega⟩
  have HT2:=hide (show qDw c l m bn=(bn:Int) by rw[uh HT];omega)
  have hwr:IntKind.i64.wrap ((p:Int)-(bn:Int))=(p:Int)-(bn:Int):=by rw[IntKind.wrap_i64];omega
  clear HT
  go_wp2_with fail
  refine(lose_any r og l bn W1 (uh HC1).row (by omega)).mono ?_
  rintro e W2 ⟨rfl,hr2,hk2⟩
  have HC2:=hide (show CRep W2 d r og c (l.drop bn) from⟨(uh HC1).blk.keeps hk2 (λh=>h.elim (uh HC1).dr (λh=>(uh HC1).dg d h rfl)),hr2,(uh HC1).dr,(uh HC1).dg⟩)
  have HK2:=hide (((uh HK1).mono (M':=λi=>i=r\/og=some i) (λ_ _ h=>h.elim)).then hk2)
  clear hr2 hk2 hc20
  go_wp2
  go_ret2
  refine⟨?_,?_,uh HK2⟩
  ·rw[uh HPP,uh HT2];rfl
  ·rw[uh HT2,Int.toNat_natCast];exact uh HC2
 ·have hbp':(p:Int)<=b:=by omega
  have HT2:=hide (show qDw c l m b=(p:Int) by rw[uh HT];omega)
  have hwr:IntKind.i64.wrap ((p:Int)-(p:Int))=(p:Int)-(p:Int):=by rw[IntKind.wrap_i64];omega
  clear HT hbp
  go_wp2_with fail
  refine(lose_any r og l p W1 (uh HC1).row hp).mono ?_
  rintro e W2 ⟨rfl,hr2,hk2⟩
  have HC2:=hide (show CRep W2 d r og c (l.drop p) from⟨(uh HC1).blk.keeps hk2 (λh=>h.elim (uh HC1).dr (λh=>(uh HC1).dg d h rfl)),hr2,(uh HC1).dr,(uh HC1).dg⟩)
  have HK2:=hide (((uh HK1).mono (M':=λi=>i=r\/og=some i) (λ_ _ h=>h.elim)).then hk2)
  clear hr2 hk2 hc20
  go_wp2
  go_ret2
  refine⟨?_,?_,uh HK2⟩
  ·rw[uh HPP,uh HT2];simp
  ·rw[uh HT2,Int.toNat_natCast];exact uh HC2
def qNw(d:Nat): Value:=.func (.func 158) #[.pointer (some ⟨d,0,none⟩)] #[]
def qMz(d:Nat): Value:=.func (.func 162) #[.pointer (some ⟨d,0,none⟩)] #[]
def qNg(d:Nat): Value:=.func (.func 161) #[.pointer (some ⟨d,0,none⟩)] #[]
def qNj(d:Nat): Value:=.func (.func 159) #[.pointer (some ⟨d,0,none⟩)] #[]
def qNv(d:Nat): Value:=.func (.func 160) #[.pointer (some ⟨d,0,none⟩)] #[]
theorem qKu{w w':World}{b o n:Nat}(hk:Keeps (λ_=>False) w w')(hlt:b<w.heap.size): qAq w' b o n=qAq w b o n/\qAw w' b o n=qAw w b o n:=by
 have hc:∀j,w'.cell? ⟨b,o+j,none⟩=w.cell? ⟨b,o+j,none⟩:=λj=>World.cell?_of_block (a:=⟨b,o+j,none⟩) (hk.block b hlt (λh=>h))
 constructor
 ·unfold qAq qBq;simp only[hc]
 ·unfold qAw;simp only[hc]
def zA7(ty:TypeId)(ps:Array (Nat×Value)): Sem Next:=do pure (.value (<-Instr.build ty ps))
theorem qM6(ρ:Operand->Value)(dst:Option Tmp)(x:Array (Nat×Operand))(ty:TypeId)(pos:String)(after:Array Edge)(guard:Option (Nat×Bool)):
  execOp ρ { dst,op:=.build 214 x,type:=ty,pos,after,guard }=zA7 214 (x.map λ(i,y)=>(i,ρ y)):=rfl
theorem qVq(c:Cfg)(rb:Nat)(w:World):
  (zA7 214 #[(0,.agg c.cells.toArray),(1,.pointer (some ⟨rb,0,none⟩))]).run Tryz.prog w=.ok (.value (.agg (qNh c rb).toArray)) w:=by kernel_rfl
attribute [local go_sem ↓] qM6
attribute [local go_sem] qVq
theorem qQk(c:Cfg)(w:World):
  Calls Tryz.prog 157 #[c.val] w λe w'=>∃d r,e=.returned (.pointer (some ⟨d,0,none⟩))/\w.heap.size<=d/\w.heap.size<=r/\CRep w' d r none c []/\Keeps (λ_=>False) w w':=by
 have HB:=hide (Blk.new w c.cells 38)
 have HK:=hide ((Keeps.refl (λ_=>False) w).alloc (.cells c.cells.toArray 38))
 have hex:∃W,W=w.alloc (.cells c.cells.toArray 38):=⟨_,rfl⟩
 unfold Cfg.val
 go_enter Tryz.func157,Tryz.ntmps157
 go_wp2_with fail
 obtain⟨W,hW⟩:=hex
 have e0:w.alloc (.cells #[.int .i64 c.kind,.int .i64 c.lag,.int .i64 c.skew,.int .i64 c.cap,.int .i64 c.k,.int .i64 c.window,.int .i64 c.bits,.int .i64 c.rows,.int .i64 c.width,.int .i64 c.panes,.int .i64 c.size,.int .i64 c.degree,.int .i64 c.half,.int .i64 c.mark,.int .i64 c.s00,.int .i64 c.s01,.int .i64 c.s10,.int .i64 c.s11,.int .i64 c.s20,.int .i64 c.s21] 38)=W:=hW.symm
 rw[e0]
 rw[<-hW]at HB HK
 clear e0 hW
 generalize hcb:w.heap.size=cb at *
 have HCB:=hide hcb
 clear hcb
 have hsz0:cb<W.heap.size:=(uh HB).lt
 obtain⟨hv,hh⟩:=qBf (uh HB) 20 rfl
 go_region_held3 (λw'=>qAq w' cb 0 20=.agg c.cells.toArray/\qAw w' cb 0 20=true)
  (first | (simp[*,qAb,qAc,qAi,qAj];done) | (go_split_ands;exact⟨(qKu hk1 (by simpa using hsz0)).1.trans (by assumption),(qKu hk1 (by simpa using hsz0)).2.trans (by assumption)⟩))
  (first | (go_at_call 193;refine(rowNew_any _).mono ?_;rintro e W1 ⟨rfl,hr1,hk1,hz1⟩))
 go_wp2
 go_ret
 have hk1':Keeps (λ_=>False) W W1:=((Keeps.refl _ _).drew).then hk1
 have hka:∀O,Keeps (λ_=>False) W1 (W1.alloc O):=λO=>(Keeps.refl (λ_=>False) W1).alloc O
 have h2:=(uh HK).size
 have h3:=uh HCB
 have hz2:W1.heap.size=W.heap.size+1:=by simpa using hz1
 exact⟨W.heap.size+1,W.heap.size,rfl,by omega,by omega,⟨Blk.newAt hz2 (qNh c W.heap.size) 214,hr1.still (hka _),by omega,λg hg=>by cases hg⟩,((uh HK).then hk1').alloc _⟩
theorem qLq(c:Cfg)(w:World):
  Calls Tryz.prog 120 #[c.val] w λe w'=>∃d r,e=.returned (.agg #[qNw d,qNj d,qNv d,qNg d,qMz d])/\w.heap.size<=d/\w.heap.size<=r/\CRep w' d r none c []/\Keeps (λ_=>False) w w':=by
 have HB:=hide (show Blk ((w.alloc (.cells c.cells.toArray 38)).alloc (.cells #[.nilFunc,.nilFunc,.nilFunc,.nilFunc,.nilFunc] 100)) w.heap.size c.cells 38 from(Blk.new w c.cells 38).alloc _)
 have HT:=hide (show Blk ((w.alloc (.cells c.cells.toArray 38)).alloc (.cells #[.nilFunc,.nilFunc,.nilFunc,.nilFunc,.nilFunc] 100)) (w.heap.size+1) [.nilFunc,.nilFunc,.nilFunc,.nilFunc,.nilFunc] 100 from Blk.newAt (by simp) _ _)
 have HK:=hide (((Keeps.refl (λ_=>False) w).alloc (.cells c.cells.toArray 38)).alloc (.cells #[.nilFunc,.nilFunc,.nilFunc,.nilFunc,.nilFunc] 100))
 have hex:∃W,W=(w.alloc (.cells c.cells.toArray 38)).alloc (.cells #[.nilFunc,.nilFunc,.nilFunc,.nilFunc,.nilFunc] 100):=⟨_,rfl⟩
 unfold Cfg.val
 go_enter Tryz.func120,Tryz.ntmps120
 go_wp2_with fail
 obtain⟨W,hW⟩:=hex
 have e0:(w.alloc (.cells #[.int .i64 c.kind,.int .i64 c.lag,.int .i64 c.skew,.int .i64 c.cap,.int .i64 c.k,.int .i64 c.window,.int .i64 c.bits,.int .i64 c.rows,.int .i64 c.width,.int .i64 c.panes,.int .i64 c.size,.int .i64 c.degree,.int .i64 c.half,.int .i64 c.mark,.int .i64 c.s00,.int .i64 c.s01,.int .i64 c.s10,.int .i64 c.s11,.int .i64 c.s20,.int .i64 c.s21] 38)).alloc (.cells #[.nilFunc,.nilFunc,.nilFunc,.nilFunc,.nilFunc] 100)=W:=hW.symm
 rw[e0]
 rw[<-hW]at HT HK
 clear e0 hW HB
 generalize hcb:w.heap.size=cb at *
 have HCB:=hide hcb
 clear hcb
 refine(qQk c W).mono ?_
 rintro e w2 ⟨d,r,rfl,hd,hr,hc2,hk2⟩
 have HC2:=hide hc2
 have HT2:=hide ((uh HT).keeps hk2 (λh=>h))
 have HK2:=hide ((uh HK).then hk2)
 have HSZ:=hide (uh HK).size
 have HLT:=hide (uh HT).lt
 clear hc2 hk2 HT HK
 have f0:=(uh HT2).frozen
 have q0:w2.cell? ⟨cb+1,0,none⟩=some .nilFunc:=(uh HT2).cell rfl
 have q1:w2.cell? ⟨cb+1,1,none⟩=some .nilFunc:=(uh HT2).cell rfl
 have q2:w2.cell? ⟨cb+1,2,none⟩=some .nilFunc:=(uh HT2).cell rfl
 have q3:w2.cell? ⟨cb+1,3,none⟩=some .nilFunc:=(uh HT2).cell rfl
 have q4:w2.cell? ⟨cb+1,4,none⟩=some .nilFunc:=(uh HT2).cell rfl
 go_wp2
 have hcb:=uh HCB
 have hsz:=uh HSZ
 have hkf:Keeps (λi=>i=cb+1) w2 (((((w2.setCell ⟨cb+1,0,none⟩ (qNw d)).setCell ⟨cb+1,1,none⟩ (qNj d)).setCell ⟨cb+1,2,none⟩ (qNv d)).setCell ⟨cb+1,3,none⟩ (qNg d)).setCell ⟨cb+1,4,none⟩ (qMz d)):=(((((Keeps.refl (λi=>i=cb+1) w2).setCell (p:=⟨cb+1,0,none⟩) (Or.inl rfl) _).setCell (p:=⟨cb+1,1,none⟩) (Or.inl rfl) _).setCell (p:=⟨cb+1,2,none⟩) (Or.inl rfl) _).setCell (p:=⟨cb+1,3,none⟩) (Or.inl rfl) _).setCell (p:=⟨cb+1,4,none⟩) (Or.inl rfl) _
 refine bodyPost_ret (v:=.agg #[qNw d,qNj d,qNv d,qNg d,qMz d]) (by simp[results,Tryz.results120,go_sem,q0,q1,q2,q3,q4,qNw,qNj,qNv,qNg,qMz]) rfl ⟨d,r,rfl,by omega,by omega,?_,?_⟩
 ·exact(uh HC2).keeps hkf (λh=>by have:=uh HLT;omega) (λh=>by have:=uh HLT;omega) (λg hg=>by cases hg)
 ·exact(uh HK2).trans hkf (λi hi hlt=>by omega)
end
end Go.Proofs.YtahnliehdjncdaaGreatDoor
namespace Go.Proofs.YtahnliehdjncdaaGreatDoor.Mk
open Go.RowKit
structure BRow (w:World) (g cap:Nat) (l:List Bk):Prop where
 ex:∃cur:List Value,Blk w g cur 222/\cur.length=cap*2/\cur.take (l.length*2)=qBm l
 le:l.length<=cap
 max:cap<=maxLen
theorem BRow.lt{w:World}{g cap:Nat}{l:List Bk}(h:BRow w g cap l): g<w.heap.size:=by obtain⟨cur,hb,_⟩:=h.ex;exact hb.lt
theorem BRow.keeps{M:Nat->Prop}{w w':World}{g cap:Nat}{l:List Bk}(h:BRow w g cap l)(k:Keeps M w w')(hn:¬M g): BRow w' g cap l:=by
 obtain⟨cur,hb,r⟩:=h.ex;exact⟨⟨cur,hb.keeps k hn,r⟩,h.le,h.max⟩
theorem BRow.cells{w:World}{g cap:Nat}{l:List Bk}(h:BRow w g cap l)(i:Nat)(hi:i<l.length):
  w.cell? ⟨g,i*2,none⟩=some (.int .i64 (qB8 l i).sz)/\w.cell? ⟨g,i*2+1,none⟩=some (.int .i64 (qB8 l i).t):=by
 obtain⟨cur,hb,hl,ht⟩:=h.ex
 have hg:∀k,k<l.length*2->cur[k]?=(qBm l)[k]?:=λk hk=>by rw[<-ht,List.getElem?_take,if_pos hk]
 obtain⟨a,b⟩:=qPk l i hi
 exact⟨hb.cell (by rw[hg _ (by omega)];exact a),hb.cell (by rw[hg _ (by omega)];exact b)⟩
theorem BRow.owns{w:World}{g cap:Nat}{l:List Bk}(h:BRow w g cap l): w.ownsRow 0 222 2 (.slice (some ⟨g,0,none⟩) l.length cap) l.length (qBm l):=by
 obtain⟨cur,hc,hl,ht⟩:=h.ex
 exact⟨qCl l,.inr ⟨g,cap,cur.toArray,rfl,Nat.zero_le _,hc,h.le,h.max,by simp[hl],by simpa using ht⟩⟩
theorem brow_of_owns{w:World}{g n cap:Nat}{l:List Bk}(hn:l.length=n)(h:w.ownsRow 0 222 2 (.slice (some ⟨g,0,none⟩) n cap) n (qBm l)): BRow w g cap l:=by
 rcases h.2 with ⟨h1,_⟩ | ⟨g',cap',cur,h1,_,h3,h4,h5,h6,h7⟩
 ·cases h1
 ·cases h1
  subst hn
  exact⟨⟨cur.toList,by unfold Blk;simpa using h3,by simpa using h6,h7⟩,h4,h5⟩
theorem infoBk: (Tryz.prog.info? 222).map (λi=>(i.zero,i.size,i.bytes))=some (some (.agg #[.int .i64 0,.int .i64 0]),2,16):=by kernel_rfl
theorem qB5(w:World)(ty:TypeId)(b o n c:Nat)(cs:List Value)(h:Blk w b cs 222)(hn:0<n)(hl:o+n*2<=cs.length):
  (Builtin.clear_ #[270] ty #[.slice (some ⟨b,o,none⟩) n c]).run Tryz.prog w=.ok (.tuple #[]) (w.setCells b o (qB7 n)):=by
 have hst:=run_storeCells_cells (P:=Tryz.prog) b o (qB7 n) 0 w (λj hj=>h.some (by rw[qBh]at hj;omega)) (λj _=>h.frozen _) (qMq n)
 simp only[Nat.add_zero]at hst
 obtain⟨m,rfl⟩:∃m,n=m+1:=⟨n-1,by omega⟩
 simp[Builtin.clear_,run_underlying Tryz.underlying270,qH1,hst]
theorem qFf{w:World}{g cap n j:Nat}{l:List Bk}{cur:List Value}(hn:l.length=n)(hb:Blk w g cur 222)(hl:cur.length=cap*2)(hle:n<=cap)(hmax:cap<=maxLen)(hj:j<=n):
  BRow ((w.setCells g 0 (qBm (l.drop j))).setCells g ((n-j)*2) (qB7 j)) g cap (l.drop j):=by
 have h1:(qBm (l.drop j)).length=(n-j)*2:=by rw[qCl];simp[hn]
 have hb1:=Blk.setCells (qBm (l.drop j)) 0 w cur hb (by rw[h1];omega)
 have hl1:(over cur 0 (qBm (l.drop j))).length=cap*2:=by rw[qBc (by rw[h1];omega),hl]
 have hb2:=Blk.setCells (qB7 j) ((n-j)*2) _ _ hb1 (by rw[hl1,qBh];omega)
 refine⟨⟨_,hb2,by rw[qBc (by rw[hl1,qBh];omega),hl1],?_⟩,by simp[hn];omega,hmax⟩
 have hlen:(l.drop j).length*2=(n-j)*2:=by simp[hn]
 rw[hlen]
 unfold over
 rw[List.append_assoc,List.take_append_of_le_length (by simp[h1])]
 rw[List.take_take,Nat.min_self]
 simp only[List.take_zero,List.nil_append]
 rw[List.take_append_of_le_length (by omega),List.take_of_length_le (by omega)]
theorem qDv(w:World):
  Calls Tryz.prog 242 #[.slice none 0 0,.int .i64 0,.int .i64 0] w λe w'=>e=.returned (.slice none 0 0)/\w'=w:=by
 go_enter Tryz.func242,Tryz.ntmps242
 go_wp2
 go_ret
 exact⟨rfl,rfl⟩
theorem qDf(g cap n:Nat)(w:World)(hle:n<=cap):
  Calls Tryz.prog 242 #[.slice (some ⟨g,0,none⟩) n cap,.int .i64 0,.int .i64 0] w λe w'=>e=.returned (.slice (some ⟨g,0,none⟩) n cap)/\w'=w:=by
 have h0:(0:Int)<=(n:Int):=by omega
 have h1:(n:Int)<=(cap:Int):=by omega
 go_enter Tryz.func242,Tryz.ntmps242
 go_wp2
 go_ret
 exact⟨rfl,rfl⟩
theorem qFd(g cap n j:Nat)(l:List Bk)(w:World)(hn:l.length=n)(hr:BRow w g cap l)(hj0:0<j)(hj:j<=n):
  Calls Tryz.prog 242 #[.slice (some ⟨g,0,none⟩) n cap,.int .i64 0,.int .i64 j] w λe w'=>e=.returned (.slice (some ⟨g,0,none⟩) (n-j) cap)/\BRow w' g cap (l.drop j)/\Keeps (·=g) w w':=by
 obtain⟨cur,hb,hl,ht⟩:=hr.ex
 have hle:=hr.le
 rw[hn]at hle
 have hmax:=hr.max
 have hcap:cap<=9223372036854775807:=by unfold maxLen at hmax;omega
 have HFIN:=hide (qFf (w:=w.drew) hn (by exact hb.drew) hl hle hmax hj)
 obtain⟨news,hnews⟩:∃news,news=qBm (l.drop j):=⟨_,rfl⟩
 rw[<-hnews]at HFIN
 have hlen:news.length=(n-j)*2:=by rw[hnews,qCl];simp[hn]
 have hget:∀t u,news[t]?=some u->w.cell? ⟨g,j*2+t,none⟩=some u:=by
  intro t u hu
  refine hb.cell ?_
  have htl:t<(n-j)*2:=by have:=(List.getElem?_eq_some_iff.1 hu).1;omega
  rw[hnews,qIv,List.getElem?_drop,<-ht,List.getElem?_take,if_pos (by omega)]at hu
  exact hu
 obtain⟨A,hA,hsrc⟩:∃A:Addr,(if cap=j then some (⟨g,0,none⟩:Addr) else some ⟨g,j*2,none⟩)=some A/\Hid (∀t u,news[t]?=some u->w.drew.cell? (A.add t)=some u):=by
  by_cases h:cap=j
  ·refine⟨⟨g,0,none⟩,by simp[h],λt u hu=>?_⟩
   have h0:news.length=0:=by omega
   rw[List.length_eq_zero_iff.1 h0]at hu
   simp at hu
  ·refine⟨⟨g,j*2,none⟩,by simp[h],λt u hu=>?_⟩
   rw[Addr.add_lit]
   exact hget t u hu
 have s1:Hid (news.length=(n-j)*2):=hlen
 have s2:Hid (∀u∈news,u.oneCell'=true):=by rw[hnews];exact qJ6 _
 have s3:Hid (∀t,t<news.length->(w.drew.cell? ⟨g,0+0*2+t,none⟩).isSome=true/\w.drew.frozen? ⟨g,0+0*2+t,none⟩=false):=by
  intro t ht'
  exact⟨hb.some (by omega),hb.frozen _⟩
 obtain⟨W1,hW1⟩:∃W1,W1=w.drew.setCells g 0 news:=⟨_,rfl⟩
 have hbW:Blk W1 g (over cur 0 news) 222:=by rw[hW1];exact Blk.setCells _ _ _ _ hb.drew (by omega)
 have hcl:∀ty,(Builtin.clear_ #[270] ty #[.slice (some ⟨g,(n-j)*2,none⟩) (n-(n-j)) (cap-(n-j))]).run Tryz.prog W1=.ok (.tuple #[]) (W1.setCells g ((n-j)*2) (qB7 (n-(n-j)))) :=
  λty=>qB5 W1 ty g _ _ _ _ hbW (by omega) (by rw[qBc (by omega)];omega)
 have hW:Hid (W1=w.drew.setCells g (0+0*2) news):=hW1
 have HK:=hide (show Keeps (·=g) w W1 by rw[hW1];exact Keeps.setCells (M:=λx=>x=g) (Or.inl rfl) _ _ _ (Keeps.refl _ _).drew)
 rw[<-hW1]at HFIN
 obtain⟨i0,hi0,hz0,hz1,hz2⟩:=info_parts infoBk
 have hjc:j<=cap:=by omega
 have HNJ:=hide (show n-(n-j)=j by omega)
 clear hW1 hbW hget hnews hlen hb ht hl hr hn hmax hz0 hz2
 go_enter Tryz.func242,Tryz.ntmps242
 go_wp2_with fail
 go_region_law (refine step_append_room rfl (.tmp 22) (.tmp 25) 270 rfl 222 i0 2 Tryz.underlying270 hi0 hz1 g 0 0 cap (by simp[Act.eval,Act.put]) A (n-j) (cap-j) news (by simp[Act.eval,Act.put]) s1.out hsrc.out s2.out (by omega) s3.out ?_;rw[<-hW.out])
 go_wp2
 go_ret
 refine⟨by simp,?_,?_⟩
 ·have:=uh HFIN;rw[uh HNJ];exact this
 ·exact Keeps.setCells (M:=λx=>x=g) (Or.inl rfl) _ _ _ (uh HK)
end Go.Proofs.YtahnliehdjncdaaGreatDoor.Mk
namespace Go.Proofs.YtahnliehdjncdaaGreatDoor.Mk
open Go.RowKit
def qDu: Value:=.func (.func 205) #[] #[]
def RowRep(w:World)(r:Nat)(og:Option Nat)(l:List Bk): Prop :=
 match og with
 | none=>l=[]/\Blk w r [qDu,.slice none 0 0] 272
 | some g=>r≠g/\∃cap,Blk w r [qDu,.slice (some ⟨g,0,none⟩) l.length cap] 272/\BRow w g cap l
theorem RowRep.lt{w:World}{r:Nat}{og:Option Nat}{l:List Bk}(h:RowRep w r og l): r<w.heap.size/\∀g,og=some g->g<w.heap.size/\r≠g:=by
 cases og with
 | none=>exact⟨h.2.lt,λ_ h=>by cases h⟩
 | some g=>obtain⟨hne,cap,hb,hr⟩:=h;exact⟨hb.lt,λg' h=>by cases h;exact⟨hr.lt,hne⟩⟩
theorem RowRep.keeps{M:Nat->Prop}{w w':World}{r:Nat}{og:Option Nat}{l:List Bk}(h:RowRep w r og l)(k:Keeps M w w')(hq:¬M r)(hg:∀g,og=some g->¬M g): RowRep w' r og l:=by
 cases og with
 | none=>exact⟨h.1,h.2.keeps k hq⟩
 | some g=>obtain⟨hne,cap,hb,hr⟩:=h;exact⟨hne,cap,hb.keeps k hq,hr.keeps k (hg g rfl)⟩
theorem RowRep.still{w w':World}{r:Nat}{og:Option Nat}{l:List Bk}(h:RowRep w r og l)(k:Keeps (λ_=>False) w w'): RowRep w' r og l:=h.keeps k (λh=>h) (λ_ _ h=>h)
theorem rowLen_any(q:Nat)(og:Option Nat)(l:List Bk)(w:World)(h:RowRep w q og l):
  Calls Tryz.prog 211 #[.pointer (some ⟨q,0,none⟩)] w λe w'=>e=.returned (.int .i64 l.length)/\w'=w:=by
 cases og with
 | none =>
  obtain⟨hl,hb⟩:=h
  have hq1:w.cell? ⟨q,1,none⟩=some (.slice none 0 0):=hb.cell rfl
  subst hl
  clear hb
  go_enter Tryz.func211,Tryz.ntmps211
  go_wp2
  go_ret
  exact⟨rfl,rfl⟩
 | some g =>
  obtain⟨hne,cap,hb,hr⟩:=h
  have hq1:w.cell? ⟨q,1,none⟩=some (.slice (some ⟨g,0,none⟩) l.length cap):=hb.cell rfl
  clear hb hr
  go_enter Tryz.func211,Tryz.ntmps211
  go_wp2
  go_ret
  exact⟨rfl,rfl⟩
theorem qD1(q:Nat)(og:Option Nat)(l:List Bk)(i:Nat)(w:World)(h:RowRep w q og l)(hi:i<l.length):
  Calls Tryz.prog 212 #[.pointer (some ⟨q,0,none⟩),.int .i64 i] w λe w'=>e=.returned (qB8 l i).val/\Keeps (λ_=>False) w w':=by
 cases og with
 | none=>obtain⟨hl,hb⟩:=h;subst hl;simp at hi
 | some g =>
  obtain⟨hne,cap,hb,hr⟩:=h
  have hq1:w.cell? ⟨q,1,none⟩=some (.slice (some ⟨g,0,none⟩) l.length cap):=hb.cell rfl
  have hlq:=hb.lt
  have hlg:=hr.lt
  obtain⟨x0,x1⟩:=hr.cells i hi
  generalize qB8 l i=x at *
  generalize l.length=n at *
  have hi0:(0:Int)<=(i:Int):=by omega
  have hin:(i:Int)<(n:Int):=by omega
  clear hb hr
  go_enter Tryz.func212,Tryz.ntmps212
  go_wp2
  refine bodyPost_ret (v:=x.val) (by simp[results,Tryz.results212,go_sem,Bk.val]) rfl ⟨rfl,(Keeps.refl _ _).alloc _⟩
theorem qRu(x:Bk)(w:World):
  Calls Tryz.prog 205 #[x.val] w λe w'=>e=.returned (.int .i64 x.sz)/\w'=w.alloc (.cells #[.int .i64 x.sz,.int .i64 x.t] 222):=by
 unfold Bk.val
 go_enter Tryz.func205,Tryz.ntmps205
 go_wp2
 go_ret
 exact⟨rfl,rfl⟩
def pastN(l:List Bk)(t:Int): Nat:=(l.takeWhile (λb=>decide (b.sz<=t))).length
theorem pastN_le(l:List Bk)(t:Int): pastN l t<=l.length:=(List.takeWhile_prefix _).length_le
theorem past_any(q:Nat)(og:Option Nat)(l:List Bk)(t:Int)(w:World)(h:RowRep w q og l)(hl:l.length<=4398046511104):
  Calls Tryz.prog 207 #[.pointer (some ⟨q,0,none⟩),.int .i64 t] w λe w'=>e=.returned (.int .i64 (pastN l t))/\Keeps (λ_=>False) w w':=by
 cases og with
 | none =>
  obtain⟨hl,hb⟩:=h
  have hq1:w.cell? ⟨q,1,none⟩=some (.slice none 0 0):=hb.cell rfl
  subst hl
  clear hb
  go_enter Tryz.func207,Tryz.ntmps207
  go_wp2
  go_loopw [5] (λi wr=>i=.int .i64 0/\wr=w) (λ_ _=>0)
  case atStart=>exact⟨rfl,rfl⟩
  case round =>
   obtain⟨rfl,rfl⟩:=hrel
   go_wp2
   go_quiet (fail)
   go_wp2
   go_ret
   exact⟨rfl,Keeps.drewN _ _ _⟩
 | some g =>
  obtain⟨hne,cap,hb,hr⟩:=h
  have HB:=hide hb
  have HR:=hide hr
  clear hb hr
  generalize hn:l.length=n at *
  have HN:=hide hn
  clear hn
  go_enter Tryz.func207,Tryz.ntmps207
  go_wp2
  go_loopw [5] (λi wr=>∃k:Nat,i=.int .i64 k/\k<=n/\Hid (Keeps (λ_=>False) w wr)/\Hid (pastN l t=k+pastN (l.drop k) t)) (λi _=>n-(intOf i).toNat)
  case atStart=>exact⟨0,rfl,Nat.zero_le _,Keeps.refl _ _,by show _=_;simp⟩
  case round =>
   obtain⟨k,rfl,hk,HK,HE⟩:=hrel
   have hq1:wr.cell? ⟨q,1,none⟩=some (.slice (some ⟨g,0,none⟩) n cap):=(uh HK).cell ((uh HB).cell rfl) (λh=>h)
   have hq0:wr.cell? ⟨q,0,none⟩=some (.func (.func 205) #[] #[]):=(uh HK).cell ((uh HB).cell rfl) (λh=>h)
   by_cases hlt:k<n
   ·have hcs:=(uh HR).cells k (by rw[uh HN];exact hlt)
    have x0:=(uh HK).cell hcs.1 (λh=>h)
    have x1:=(uh HK).cell hcs.2 (λh=>h)
    clear hcs
    have hk0:(0:Int)<=(k:Int):=by omega
    have hkn:(k:Int)<(n:Int):=by omega
    have HD:=hide (qF3 l k (by rw[uh HN];exact hlt))
    generalize qB8 l k=x at *
    by_cases ht:x.sz<=t
    all_goals
     have HT:=hide ht
     go_wp2
     go_region_held3 (λw'=>w'.cell? ⟨q,0,none⟩=some (.func (.func 205) #[] #[])/\w'.cell? ⟨q,1,none⟩=some (.slice (some ⟨g,0,none⟩) n cap) /\
        w'.cell? ⟨g,k*2,none⟩=some (.int .i64 x.sz)/\w'.cell? ⟨g,k*2+1,none⟩=some (.int .i64 x.t)) (go_keep)
      (first | (go_at_call 205;refine(qRu x _).mono ?_;rintro e w' ⟨rfl,rfl⟩))
     have hk1:Keeps (λ_=>False) wr (wr.alloc (.cells #[.int .i64 x.sz,.int .i64 x.t] 222)).drew:=((Keeps.refl _ _).alloc _).drew
     generalize(wr.alloc (.cells #[.int .i64 x.sz,.int .i64 x.t] 222)).drew=W1 at *
     have HK1:=hide hk1
     clear hk1
    ·go_wp2
     go_roundw
     case rel =>
      refine⟨k+1,by go_num,by omega,(uh HK).then (uh HK1),?_⟩
      show _=_
      rw[uh HE,uh HD]
      unfold pastN
      rw[List.takeWhile_cons,if_pos (by simpa using uh HT)]
      simp;omega
     case measure=>simp[intOf];omega
    ·go_wp2
     go_ret
     refine⟨?_,(uh HK).then (uh HK1)⟩
     rw[uh HE,uh HD]
     unfold pastN
     rw[List.takeWhile_cons,if_neg (by simpa using uh HT)]
     simp
   ·have hd:decide ((k:Int)<(n:Int))=false:=by simp;omega
    go_wp2
    go_quiet (fail)
    go_wp2
    go_ret
    refine⟨?_,(uh HK).then (Keeps.drewN _ _ _)⟩
    rw[uh HE,List.drop_eq_nil_of_le (by rw[uh HN];omega)]
    simp[pastN]
end Go.Proofs.YtahnliehdjncdaaGreatDoor.Mk
