import Derived.Laws.MakeOwn
import Derived.Test.YtahnliehdjncdaaGreatDoorXAR
import Derived.Test.YtahnliehdjncdaaGreatDoorXAP
import Derived.Laws.Cover2
import Derived.Laws.StructEq
import Derived.Laws.Tables
import Derived.BigQuiet
import Derived.BigRegion
import Derived.Deep.AppendLies
import Derived.Deep.QuietTactic
import Derived.Deep.RegionHeld3
import Derived.Deep.RegionLaw
import Derived.Laws.EntriesVeiled
set_option maxRecDepth 100000
set_option maxHeartbeats 16000000
namespace Go.Proofs.YtahnliehdjncdaaGreatDoor
section
open Go.RowKit
def qAs(l:List Int): List Value:=l.map (.int .i64 ·)
theorem qP2(l:List Int): (qAs l).length=l.length:=by simp[qAs]
theorem qPi(a b:List Int): qAs (a++b)=qAs a++qAs b:=by simp[qAs]
theorem zE2: (Tryz.prog.info? 3).map (λi=>(i.zero,i.size,i.bytes))=some (some (.int .i64 0),1,8):=by kernel_rfl
theorem qBd{w:World}{ops:Array Oper}{rest:List Oper}{o:Oper}{a:Act}{Q:Exit->Act->World->Prop}(hgd:o.guard=none)(s x:Operand)(ho:o.op=.call { callee:=.builtin .append,args:=#[s,x],argTypes:=#[31,31] })(base:Nat)(v:Value)(n:Nat)(l:List Int)(hs:a.eval s=v)(hown:w.ownsRow base 3 1 v n (qAs l))(b m:Nat)(z:List Int)(hm:z.length=m)(hx:a.eval x=.slice (some ⟨b,0,none⟩) m m)(hb:Blk w b (qAs z) 3)(hz:0<m)(hl:n+m<=1099511627776)(hbase:base<=w.heap.size)(h:∀g c w1,w1.ownsRow base 3 1 (.slice (some ⟨g,0,none⟩) (n+m) c) (n+m) (qAs (l++z))->Keeps (λi=>v.ownBlock=some i) w w1->(v.ownBlock=some g\/w.heap.size<=g)->wpList Tryz.prog ops Q rest (a.put o.dst (.slice (some ⟨g,0,none⟩) (n+m) c)) w1): wpList Tryz.prog ops Q (o::rest) a w:=by
 obtain⟨i0,hi0,hz0,hz1,hz2⟩:=info_parts zE2
 refine wpList_append_lies w hgd s x 31 ho base 3 i0 (.int .i64 0) 1 8 Tryz.underlying31 hi0 hz0 hz1 hz2 (by rfl) (by omega) v n (qAs l) hs hown ⟨b,0,none⟩ m m (qAs z) hx (by rw[qP2];omega) ?_ ?_ hz (by unfold maxLen;omega) (by omega) hbase w.heap.size rfl ?_
 ·intro j u hu
  rw[Addr.add_lit,Nat.zero_add]
  exact hb.cell hu
 ·intro u hu
  simp only[qAs,List.mem_map]at hu
  obtain⟨y,_,rfl⟩:=hu
  rfl
 ·intro g c w' hown' hgrow hat hlt'
  refine h g c w' (by rw[qPi];exact hown') ⟨hgrow.os,hgrow.tape,hgrow.output,hgrow.size,λk hk hn=>hgrow.block k hk (λh=>hn h.symm)⟩ ?_
  rcases hat with h1 | h1
  ·exact .inl h1
  ·exact .inr (by omega)
theorem qCa{M:Nat->Prop}{w w':World}{base:Nat}{v:Value}{n:Nat}{xs:List Value}(h:w.ownsRow base 3 1 v n xs)(hk:Keeps M w w')(hn:∀i,v.ownBlock=some i->¬M i): w'.ownsRow base 3 1 v n xs:=by
 rcases h.2 with ⟨h1,h2⟩ | ⟨g,cap,cur,h1,h2,h3,h4⟩
 ·exact⟨h.1,.inl ⟨h1,h2⟩⟩
 ·refine⟨h.1,.inr ⟨g,cap,cur,h1,h2,?_,h4⟩⟩
  have hlt:g<w.heap.size:=(Array.getElem?_eq_some_iff.1 h3).1
  rw[hk.block g hlt (hn g (by rw[h1];simp[Value.ownBlock]))]
  exact h3
theorem qGv{w:World}{base:Nat}{v:Value}{n:Nat}{xs:List Value}(h:w.ownsRow base 3 1 v n xs)(i:Nat)(hi:v.ownBlock=some i): base<=i:=by
 rcases h.2 with ⟨h1,_⟩ | ⟨g,cap,cur,h1,h2,_⟩
 ·rw[h1]at hi;simp[Value.ownBlock]at hi
 ·rw[h1]at hi
  have:g=i:=by simpa[Value.ownBlock] using hi
  omega
def qD4(ls:Nat->List Bk)(n:Nat)(t:Int): List Int:=(List.range n).map λi=>qHa (ls i) t
def qS9: List Int->Int
 | []=>0
 | g::l=>2 ^ (40-g).toNat+qS9 l
theorem qSg(a b:List Int): qS9 (a++b)=qS9 a+qS9 b:=by
 induction a with
 | nil=>simp[qS9]
 | cons x l ih=>simp[qS9,ih];omega
def zEg(c:Cfg)(n:Nat)(ls:Nat->List Bk)(a m:Int): Int×List Int :=
 if inB a 1 c.window=true then(0,qD4 ls n (m-a)++[7*n*n*1099511627776/(10*qS9 (qD4 ls n (m-a)))]) else(13,[])
theorem qRy(ls:Nat->List Bk)(n:Nat)(t:Int): qD4 ls (n+1) t=qD4 ls n t++[qHa (ls n) t]:=by
 simp[qD4,List.range_succ]
theorem qFo(ls:Nat->List Bk)(n:Nat)(t:Int): (qD4 ls n t).length=n:=by simp[qD4]
theorem qO9{l:List Bk}(h:∀b∈l,1<=b.t/\b.t<=40)(t:Int): 0<=qHa l t/\qHa l t<=40:=by
 unfold qHa
 split
 ·omega
 ·rename_i hne
  have hle:=Mk.pastN_le l t
  have hm:qB8 l (Mk.pastN l t)∈l:=by
   have hi:Mk.pastN l t<l.length:=by omega
   have:qB8 l (Mk.pastN l t)=l[Mk.pastN l t]:=by simp[qB8,List.getD_eq_getElem?_getD,List.getElem?_eq_getElem hi]
   rw[this];exact List.getElem_mem hi
  have:=h _ hm
  omega
theorem zC4{l:List Int}(h:∀g∈l,0<=g/\g<=40): (l.length:Int)<=qS9 l/\qS9 l<=1099511627776*l.length:=by
 induction l with
 | nil=>simp[qS9]
 | cons x l ih =>
  have h1:=h x (by simp)
  have h2:=ih (λg hg=>h g (by simp[hg]))
  have e:(2:Int) ^ (40-x).toNat=((2 ^ (40-x).toNat:Nat):Int):=by simp
  have h3:1<=2 ^ (40-x).toNat:=Nat.one_le_two_pow
  have h4:2 ^ (40-x).toNat<=2 ^ 40:=Nat.pow_le_pow_right (by omega) (by omega)
  have h5:(2:Nat) ^ 40=1099511627776:=by decide
  simp only[qS9,List.length_cons]
  rw[e]
  omega
theorem qSq(d rg:Nat)(qs:List (Nat×Option Nat))(c:Cfg)(ls:Nat->List Bk)(a m:Int)(w:World)(h:DRep w d rg qs c ls)(ha:inB a 1 c.window=false):
  Calls Tryz.prog 167 #[.pointer (some ⟨d,0,none⟩),.int .i64 a,.int .i64 m] w λe w'=>e=.returned (.tuple #[.slice none 0 0,.int .i64 13])/\Keeps (λ_=>False) w w':=by
 have hc5:w.cell? ⟨d,5,none⟩=some (.int .i64 c.window):=h.blk.cell rfl
 clear h
 go_enter Tryz.func167,Tryz.ntmps167
 go_wp2_with (go_at_call 58;refine(qAf _ _ _ _).mono ?_;rintro e w' ⟨rfl,rfl⟩)
 go_ret2
 exact⟨rfl,Keeps.refl _ _⟩
theorem qQp(d rg:Nat)(qs:List (Nat×Option Nat))(c:Cfg)(ls:Nat->List Bk)(a m:Int)(w:World)(h:DRep w d rg qs c ls)(ha:inB a 1 c.window=true)(hq:1<=qs.length)(hq2:qs.length<=16)(w1:c.window<=1000)(m0:-100<=m)(m1:m<=4611686018427387904)(hl:∀i,(ls i).length<=4398046511103)(hr:∀i,∀b∈ls i,1<=b.t/\b.t<=40):
  Calls Tryz.prog 167 #[.pointer (some ⟨d,0,none⟩),.int .i64 a,.int .i64 m] w λe w'=>∃g cp,e=.returned (.tuple #[.slice (some ⟨g,0,none⟩) (qs.length+1) cp,.int .i64 0]) /\
   w'.ownsRow w.heap.size 3 1 (.slice (some ⟨g,0,none⟩) (qs.length+1) cp) (qs.length+1) (qAs (qD4 ls qs.length (m-a)++[7*qs.length*qs.length*1099511627776/(10*qS9 (qD4 ls qs.length (m-a)))]))/\Keeps (λ_=>False) w w':=by
 have hc5:w.cell? ⟨d,5,none⟩=some (.int .i64 c.window):=h.blk.cell rfl
 have ha1:1<=a/\a<=c.window:=by simpa[inB] using ha
 obtain⟨a1,a2⟩:=ha1
 have hwr:IntKind.i64.wrap (m-a)=m-a:=by rw[IntKind.wrap_i64];omega
 obtain⟨n,hn⟩:∃n,n=qs.length:=⟨_,rfl⟩
 have HD:=hide h
 have HN:=hide hn
 have HL:=hide hl
 have HR:=hide hr
 rw[<-hn]at hq hq2 ⊢
 have c20:w.cell? ⟨d,20,none⟩=some (.slice (some ⟨rg,0,none⟩) n n):=by rw[hn];exact h.blk.cell rfl
 obtain⟨i0,hi0,hz0,hz1,hz2⟩:=info_parts zE2
 clear h hl hr hn
 have hn0:(0:Int)<=(n:Int):=by omega
 obtain⟨wm,hmk,hown,hgr⟩:=run_make_own (P:=Tryz.prog) w w.heap.size 31 3 i0 (.int .i64 0) 1 Tryz.underlying31 hi0 hz0 hz1 .i64 .i64 (n+1) (by rw[hz2];omega) (by unfold maxLen;omega) (Nat.le_refl _)
 rw[Int.natCast_add,Int.natCast_one]at hmk
 have HKM:=hide (show Keeps (λ_=>False) w wm from(Keeps.refl (λ_=>False) w).grown hgr (λk hk=>by cases hk))
 have HOM:=hide hown
 have dm20:wm.cell? ⟨d,20,none⟩=some (.slice (some ⟨rg,0,none⟩) n n):=(uh HKM).cell c20 (λh=>h)
 have HDM:=hide ((uh HD).still (uh HKM))
 clear hown hgr
 go_enter Tryz.func167,Tryz.ntmps167
 go_wp2_with (first | (go_at_call 58;refine(qAf _ _ _ _).mono ?_;rintro e w' ⟨rfl,hw'⟩;rw[hw'];clear hw' w') | fail)
 obtain⟨t,ht⟩:∃t,m-a=t:=⟨_,rfl⟩
 rw[ht]at hwr
 have HT:=hide ht
 have hsub:IntKind.i64.wrap (m-a)=t:=by rw[IntKind.wrap_i64];omega
 clear hwr dm20 c20 hc5 hmk
 go_loopw [9,10,35] (λs v i wr=>∃(k:Nat) (S:Int) (g cp:Nat),i=.int .i64 k/\k<=n/\s=.int .i64 S/\0<=S/\S<=1099511627776*(k:Int)/\v=.slice (some ⟨g,0,none⟩) k cp/\Hid (S=qS9 (qD4 ls k t))/\Hid (wr.ownsRow w.heap.size 3 1 (.slice (some ⟨g,0,none⟩) k cp) k (qAs (qD4 ls k t)))/\Hid (Keeps (λ_=>False) w wr)) (λ_ _ i _=>n-(intOf i).toNat)
 case atStart=>exact⟨0,0,w.heap.size,n+1,rfl,Nat.zero_le _,rfl,by omega,by omega,rfl,rfl,HOM,HKM⟩
 case round =>
  obtain⟨k,S,g,cp,rfl,hk,rfl,hS0,hS1,rfl,HS,HO,HK⟩:=hrel
  have HDr:=hide ((uh HD).still (uh HK))
  have hk0:(0:Int)<=(k:Int):=by omega
  have hfoot:∀i,(Value.slice (some ⟨g,0,none⟩) k cp).ownBlock=some i->w.heap.size<=i:=qGv (uh HO)
  have HFT:=hide hfoot
  clear hfoot
  by_cases hlt:k<n
  ·have hkn:(k:Int)<(n:Int):=by omega
   have hkq:k<qs.length:=by have:=uh HN;omega
   obtain⟨q,hq'⟩:∃q,qAt qs k=q:=⟨_,rfl⟩
   have cr:wr.cell? ⟨rg,k,none⟩=some (.pointer (some ⟨q.1,0,none⟩)):=by rw[<-hq'];exact(uh HDr).reg.cell (qE4 hkq)
   have HG:=hide (qPz q.1 q.2 (ls k) t wr (by rw[<-hq'];exact(uh HDr).row k hkq) (by have:=uh HL k;omega))
   obtain⟨gb0,gb1⟩:=qO9 (uh HR k) t
   have HGS:=hide (qRy ls k t)
   obtain⟨G,hG⟩:∃G,qHa (ls k) t=G:=⟨_,rfl⟩
   rw[hG]at gb0 gb1
   have HGE:=hide hG
   clear hG hq' hkq
   have p2:=qIq (40-G).toNat (by omega)
   have p3:(2:Int) ^ (40-G).toNat<=1099511627776:=by
    have h4:2 ^ (40-G).toNat<=2 ^ 40:=Nat.pow_le_pow_right (by omega) (by omega)
    have e:(2:Int) ^ (40-G).toNat=((2 ^ (40-G).toNat:Nat):Int):=by simp
    have h5:(2:Nat) ^ 40=1099511627776:=by decide
    rw[e];omega
   obtain⟨P,hP⟩:∃P,(2:Int) ^ (40-G).toNat=P:=⟨_,rfl⟩
   have HP:=hide hP
   rw[hP]at p2 p3
   obtain⟨p21,p22⟩:=p2
   go_wp2_with fail
   refine(uh HG).mono ?_
   rintro e W1 ⟨rfl,hk1⟩
   rw[uh HGE]
   have HK1:=hide ((uh HK).then hk1)
   have HO1:=hide (qCa (uh HO) hk1 (λ_ _ h=>h))
   have hsz1:=(uh HK1).size
   have HB:=hide (Blk.new W1 [.int .i64 G] 3)
   clear hk1 cr
   go_wp2_with (at_builtin;refine qBd rfl _ _ rfl w.heap.size _ k (qD4 ls k t) rfl (by exact qCa (uh HO1) ((Keeps.refl (λ_=>False) W1).alloc _) (λ_ _ h=>h)) W1.heap.size 1 [G] rfl rfl (uh HB) (by omega) (by omega) (by simp;omega) ?_;intro g2 c2 W2 hown2 hk2 hat2)
   have HK2:=hide ((((uh HK1).alloc (.cells #[.int .i64 G] 3))).trans hk2 (λi hi hlt=>by have:=uh HFT i hi;omega))
   have HO2:=hide hown2
   clear hown2 hk2 hat2
   refine⟨⟨k+1,S+P,g2,c2,by go_num,by omega,rfl,by omega,by omega,rfl,?_,?_,HK2⟩,by simp[intOf];omega⟩
   ·show _=_
    rw[uh HGS,qSg,<-uh HS,uh HGE]
    simp only[qS9]
    rw[uh HP];omega
   ·show World.ownsRow _ _ _ _ _ _ _
    rw[uh HGS,uh HGE];exact uh HO2
  ·have hkn:k=n:=by omega
   subst hkn
   have hkf:decide ((k:Int)<(k:Int))=false:=by simp
   have hk1:1<=(k:Int):=by omega
   have hk16:(k:Int)<=16:=by omega
   have hsq0:0<=(k:Int)*(k:Int):=Int.mul_nonneg (by omega) (by omega)
   have hsq1:(k:Int)*(k:Int)<=16*16:=Int.mul_le_mul hk16 hk16 (by omega) (by omega)
   have hassoc:7*(k:Int)*(k:Int)=7*((k:Int)*(k:Int)):=Int.mul_assoc _ _ _
   have hw1:IntKind.i64.wrap (7*(k:Int))=7*(k:Int):=by rw[IntKind.wrap_i64];omega
   have hw2:IntKind.i64.wrap (7*(k:Int)*(k:Int))=7*(k:Int)*(k:Int):=by rw[IntKind.wrap_i64];omega
   have hw3:IntKind.i64.wrap (7*(k:Int)*(k:Int)*1099511627776)=7*(k:Int)*(k:Int)*1099511627776:=by rw[IntKind.wrap_i64];omega
   have hw4:IntKind.i64.wrap (10*S)=10*S:=by rw[IntKind.wrap_i64];omega
   have hSb:=(zC4 (l:=qD4 ls k t) (λz hz=>by
        simp only[qD4,List.mem_map]at hz
        obtain⟨i,_,rfl⟩:=hz
        exact qO9 (uh HR i) t)).1
   rw[qFo,<-uh HS]at hSb
   have hS1:1<=S:=by omega
   clear hSb
   obtain⟨N,hN⟩:∃N,7*(k:Int)*(k:Int)*1099511627776=N:=⟨_,rfl⟩
   have hN0:0<=N:=by omega
   have hN1:N<=1970324836974592:=by omega
   have hd:N.tdiv (10*S)=N/(10*S):=Int.tdiv_eq_ediv_of_nonneg hN0
   have hd0:0<=N/(10*S):=Int.ediv_nonneg hN0 (by omega)
   have hd1:N/(10*S)<=N:=Int.ediv_le_self _ hN0
   have hwd:IntKind.i64.wrap (N/(10*S))=N/(10*S):=by rw[IntKind.wrap_i64];omega
   rw[hN]at hw3
   have HNE:=hide hN
   obtain⟨R,hR⟩:∃R,N/(10*S)=R:=⟨_,rfl⟩
   have HRE:=hide hR
   clear hassoc
   rw[hR]at hd hd0 hd1 hwd
   have hwd2:IntKind.i64.wrap (N.tdiv (10*S))=R:=by rw[hd];rw[IntKind.wrap_i64];omega
   have HB:=hide (Blk.new wr [.int .i64 R] 3)
   have hszr:=(uh HK).size
   go_wp2_with (at_builtin;refine qBd rfl _ _ rfl w.heap.size _ k (qD4 ls k t) rfl (by exact qCa (uh HO) ((Keeps.refl (λ_=>False) wr).alloc _) (λ_ _ h=>h)) wr.heap.size 1 [R] rfl rfl (uh HB) (by omega) (by omega) (by simp;omega) ?_;intro g2 c2 W2 hown2 hk2 hat2)
   go_ret2
   refine⟨g2,c2,rfl,?_,?_⟩
   ·have:=hown2
    rw[uh HT,<-uh HS,uh HNE,uh HRE]
    exact this
   ·exact((uh HK).alloc (.cells #[.int .i64 R] 3)).trans hk2 (λi hi hlt=>by have:=uh HFT i hi;omega)
def addN(a b:List Int)(t:Nat): List Int:=(List.zipWith (·+·) a b).take t++a.drop t
theorem zCd{a b:List Int}(h:a.length=b.length)(t:Nat)(ht:t<a.length): (addN a b t)[t]?=some a[t]:=by
 unfold addN
 have hl:((List.zipWith (·+·) a b).take t).length=t:=by simp[<-h];omega
 rw[List.getElem?_append_right (by omega),hl,Nat.sub_self,List.getElem?_drop,Nat.add_zero,List.getElem?_eq_getElem ht]
theorem qWw{a b:List Int}(h:a.length=b.length)(t:Nat)(ht:t<a.length): (addN a b t).set t (a[t]+b[t]'(by omega))=addN a b (t+1):=by
 have hl:((List.zipWith (·+·) a b).take t).length=t:=by simp[<-h];omega
 have hz:t<(List.zipWith (·+·) a b).length:=by simp[<-h];exact ht
 unfold addN
 rw[List.set_append_right _ _ (by omega),hl,Nat.sub_self,List.drop_eq_getElem_cons ht,List.set_cons_zero,List.take_succ_eq_append_getElem hz]
 simp
theorem qYw(a b:List Int): addN a b 0=a:=by simp[addN]
theorem qY5{a b:List Int}(h:a.length=b.length): addN a b a.length=List.zipWith (·+·) a b:=by
 unfold addN
 rw[List.drop_length,List.append_nil,List.take_of_length_le (by simp[<-h])]
theorem zB5(cb:Nat)(a b:List Int)(w:World)(ha:a.length=48)(hb:b.length=48)(hc:Blk w cb (qAs a) 232)(hab:∀x∈a,0<=x)(hbb:∀x∈b,0<=x)(hsm:∀x∈List.zipWith (·+·) a b,x<=4611686018427387904):
  Calls Tryz.prog 249 #[.pointer (some ⟨cb,0,none⟩),.agg (qAs b).toArray] w λe w'=>e=.returned (.tuple #[])/\Blk w' cb (qAs (List.zipWith (·+·) a b)) 232/\Keeps (λi=>i=cb) w w':=by
 obtain⟨W,hW⟩:∃W,W=w.alloc (.cells (qAs b).toArray 232):=⟨_,rfl⟩
 have HKW:=hide (show Keeps (λi=>i=cb) w W by rw[hW];exact(Keeps.refl _ _).alloc _)
 have HO:=hide (show Blk W w.heap.size (qAs b) 232 by rw[hW];exact Blk.new w _ _)
 have HC:=hide (show Blk W cb (qAs a) 232 by rw[hW];exact hc.alloc _)
 have hlt:=hc.lt
 have HW:=hide hW
 have HA:=hide hab
 have HB:=hide hbb
 have HSM:=hide hsm
 have HAL:=hide ha
 have HBL:=hide hb
 clear hW hc hab hbb hsm ha hb
 go_enter Tryz.func249,Tryz.ntmps249
 go_wp2_with fail
 rw[show w.alloc (.cells (qAs b).toArray 232)=W from(uh HW).symm]
 generalize hob:w.heap.size=ob at *
 have HNX:=hide (show ∀t,t<48->∃x y,a[t]?=some x/\b[t]?=some y/\0<=x/\0<=y/\x+y<=4611686018427387904/\(addN a b t)[t]?=some x/\(addN a b t).set t (x+y)=addN a b (t+1) from λt ht=>by
    have h1:t<a.length:=by rw[uh HAL];exact ht
    have h2:t<b.length:=by rw[uh HBL];exact ht
    have hab:a.length=b.length:=by rw[uh HAL,uh HBL]
    have g1:=uh HA a[t] (List.getElem_mem h1)
    have g2:=uh HB b[t] (List.getElem_mem h2)
    have g3:=uh HSM (a[t]+b[t]) (List.mem_of_getElem? (i:=t) (by rw[List.getElem?_zipWith,List.getElem?_eq_getElem h1,List.getElem?_eq_getElem h2]))
    exact⟨a[t],b[t],List.getElem?_eq_getElem h1,List.getElem?_eq_getElem h2,g1,g2,g3,zCd hab t h1,qWw hab t h1⟩)
 go_loopw [6] (λi wr=>∃k:Nat,i=.int .i64 k/\k<=3/\Hid (Blk wr cb (qAs (addN a b (k*16))) 232)/\Hid (Keeps (λi=>i=cb) W wr)) (λi _=>3-(intOf i).toNat)
 case atStart=>exact⟨0,rfl,by omega,by show Blk _ _ _ _;rw[Nat.zero_mul,qYw];exact uh HC,Keeps.refl _ _⟩
 case round =>
  obtain⟨k,rfl,hk,HBr,HKr⟩:=hrel
  obtain⟨wo,hwo⟩:∃wo,wo=wr:=⟨_,rfl⟩
  subst hwo
  have hk0:(0:Int)<=(k:Int):=by omega
  by_cases hlt:k<3
  ·have hk3:(k:Int)<3:=by omega
   go_wp2_with fail
   go_loopw [9] (λj wr=>∃p:Nat,j=.int .i64 p/\p<=16/\Hid (Blk wr cb (qAs (addN a b (k*16+p))) 232)/\Hid (Keeps (λi=>i=cb) W wr)) (λj _=>16-(intOf j).toNat)
   case atStart=>exact⟨0,rfl,by omega,HBr,HKr⟩
   case round =>
    obtain⟨p,rfl,hp,HB2,HK2⟩:=hrel
    have hp0:(0:Int)<=(p:Int):=by omega
    by_cases hpl:p<16
    ·have hp16:(p:Int)<16:=by omega
     obtain⟨x,y,hx,hy,x0,y0,xy,hat,hnext⟩:=uh HNX (k*16+p) (by omega)
     have cx:wr.cell? ⟨cb,k*16+p,none⟩=some (.int .i64 x):=(uh HB2).cell (by unfold qAs;rw[List.getElem?_map,hat];rfl)
     have cy:wr.cell? ⟨ob,k*16+p,none⟩=some (.int .i64 y):=(uh HK2).cell ((uh HO).cell (by unfold qAs;rw[List.getElem?_map,hy];rfl)) (λh=>by have h':ob=cb:=h;omega)
     have cf:=(uh HB2).frozen
     have HNE:=hide hnext
     have hwxy:IntKind.i64.wrap (x+y)=x+y:=by rw[IntKind.wrap_i64];omega
     clear hx hy hat hnext
     go_wp2_with fail
     go_region
     go_wp2
     go_roundw
     case rel =>
      refine⟨p+1,by go_num,by omega,?_,?_⟩
      ·show Blk _ _ _ _
       rw[show k*16+(p+1)=k*16+p+1 by omega,<-uh HNE]
       have:=((uh HB2).setCell (k*16+p) (.int .i64 (x+y))).drew
       unfold qAs at this ⊢
       rw[List.map_set]
       exact this
      ·exact((uh HK2).setCell (p:=⟨cb,k*16+p,none⟩) (Or.inl rfl) _).drew
     case measure=>simp[intOf];omega
    ·have hp16:p=16:=by omega
     subst hp16
     go_wp2
     go_roundw
     case rel=>exact⟨k+1,by go_num,by omega,by show Blk _ _ _ _;rw[show(k+1)*16=k*16+16 by omega];exact uh HB2,HK2⟩
     case measure=>simp[intOf];omega
  ·have hk3:k=3:=by omega
   subst hk3
   go_wp2
   go_end0
   refine⟨rfl,?_,(uh HKW).then (uh HKr)⟩
   have:=uh HBr
   rw[show 3*16=a.length by rw[uh HAL],qY5 (by rw[uh HAL,uh HBL])]at this
   exact this
theorem qMx{P:Program}(w:World)(F:Nat->Option Bool×Unit->Sem (ForInStep (Option Bool×Unit)))(g:Nat->Bool): ∀(n s:Nat),(∀i,s<=i->i<s+n->(F i (none,())).run P w=.ok (if g i=true then .yield (none,()) else .done (some false,())) w) ->
  (forIn (List.range' s n) (none,()) F).run P w=.ok (if (List.range' s n).all g=true then(none,()) else(some false,())) w
 | 0,s,_=>rfl
 | n+1,s,h=>by
  rw[List.range'_succ,List.forIn_cons,Sem.run_bind,h s (Nat.le_refl _) (by omega)]
  by_cases hg:g s=true
  ·simp only[hg,if_true,Result.andThen_ok,List.all_cons,Bool.true_and]
   exact qMx w F g n (s+1) (λi h1 h2=>h i (by omega) (by omega))
  ·simp[hg]
theorem eqRow(d:Nat)(xs ys:List Int)(hx:xs.length=16)(hy:ys.length=16)(w:World): (Op.equalIn (d+1+1) 230 (.agg (qAs xs).toArray) (.agg (qAs ys).toArray)).run Tryz.prog w=.ok (decide (xs=ys)) w:=by
 have u3:=Tryz.underlying3
 have a3:=Tryz.isAgg3
 have z3:=Tryz.sizeOf3
 rw[Op.equalIn]
 simp only[Sem.run_bind,run_underlying Tryz.underlying230,Result.andThen_ok,z3]
 simp only[Std.Legacy.Range.forIn_eq_forIn_range',Std.Legacy.Range.size,Nat.sub_zero,Nat.add_sub_cancel,Nat.div_one]
 refine(congrArg (λr=>Result.andThen r _) (qMx w _ (λi=>decide (xs.getD i 0=ys.getD i 0)) 16 0 ?_)).trans ?_
 ·intro i _ hi
  have h1:i<xs.length:=by omega
  have h2:i<ys.length:=by omega
  have e1:(qAs xs).toArray[i*1]?=some (.int .i64 xs[i]):=by simp[qAs,h1]
  have e2:(qAs ys).toArray[i*1]?=some (.int .i64 ys[i]):=by simp[qAs,h2]
  have hp1:(part 3 (qAs xs).toArray (i*1)).run Tryz.prog w=.ok (.int .i64 xs[i]) w:=by simp only[part,Sem.run_bind,a3,Result.andThen_ok,e1];rfl
  have hp2:(part 3 (qAs ys).toArray (i*1)).run Tryz.prog w=.ok (.int .i64 ys[i]) w:=by simp only[part,Sem.run_bind,a3,Result.andThen_ok,e2];rfl
  have he:(Op.equalIn (d+1) 3 (.int .i64 xs[i]) (.int .i64 ys[i])).run Tryz.prog w=.ok (xs[i]==ys[i]) w:=by simp[Op.equalIn,run_underlying u3]
  simp only[Sem.run_bind,hp1,hp2,Result.andThen_ok,he]
  have g1:xs.getD i 0=xs[i]:=by simp[List.getD_eq_getElem?_getD,h1]
  have g2:ys.getD i 0=ys[i]:=by simp[List.getD_eq_getElem?_getD,h2]
  rw[g1,g2]
  by_cases hc:xs[i]=ys[i]
  ·simp[hc]
  ·simp[hc]
 simp only[Result.andThen_ok]
 have hall:(List.range' 0 16).all (λi=>decide (xs.getD i 0=ys.getD i 0))=decide (xs=ys):=by
  rw[Bool.eq_iff_iff]
  simp only[List.all_eq_true,decide_eq_true_eq,List.mem_range'_1]
  constructor
  ·intro h
   apply List.ext_getElem (by omega)
   intro i h1 h2
   have:=h i ⟨by omega,by omega⟩
   simpa[List.getD_eq_getElem?_getD,h1,h2] using this
  ·intro h i _;rw[h]
 rw[hall]
 by_cases hc:xs=ys
 ·simp[hc]
 ·simp[hc]
theorem zDv(w:World): (isAgg 230).run Tryz.prog w=.ok true w:=by kernel_rfl
theorem zBn(w:World): (sizeOf 230).run Tryz.prog w=.ok 16 w:=by kernel_rfl
theorem qUz(e:Nat)(hrow:∀xs ys:List Int,xs.length=16->ys.length=16->∀w,(Op.equalIn e 230 (.agg (qAs xs).toArray) (.agg (qAs ys).toArray)).run Tryz.prog w=.ok (decide (xs=ys)) w)(xs ys:List Int)(hx:xs.length=48)(hy:ys.length=48)(w:World): (Op.equalIn (e+1) 232 (.agg (qAs xs).toArray) (.agg (qAs ys).toArray)).run Tryz.prog w=.ok (decide (xs=ys)) w:=by
 have u3:=Tryz.underlying230
 have a3:=zDv w
 have z3:=zBn w
 rw[Op.equalIn]
 simp only[Sem.run_bind,run_underlying Tryz.underlying232,Result.andThen_ok,z3]
 simp only[Std.Legacy.Range.forIn_eq_forIn_range',Std.Legacy.Range.size,Nat.sub_zero,Nat.add_sub_cancel,Nat.div_one]
 refine(congrArg (λr=>Result.andThen r _) (qMx w _ (λi=>decide ((xs.drop (i*16)).take 16=(ys.drop (i*16)).take 16)) 3 0 ?_)).trans ?_
 ·intro i _ hi
  have ex:∀zs:List Int,(qAs zs).toArray.extract (i*16) (i*16+16)=(qAs ((zs.drop (i*16)).take 16)).toArray:=λzs=>by
   simp[qAs]
  have hp1:(part 230 (qAs xs).toArray (i*16)).run Tryz.prog w=.ok (.agg (qAs ((xs.drop (i*16)).take 16)).toArray) w:=by simp only[part,Sem.run_bind,a3,Result.andThen_ok,z3,if_true,ex];rfl
  have hp2:(part 230 (qAs ys).toArray (i*16)).run Tryz.prog w=.ok (.agg (qAs ((ys.drop (i*16)).take 16)).toArray) w:=by simp only[part,Sem.run_bind,a3,Result.andThen_ok,z3,if_true,ex];rfl
  have he:(Op.equalIn e 230 (.agg (qAs ((xs.drop (i*16)).take 16)).toArray) (.agg (qAs ((ys.drop (i*16)).take 16)).toArray)).run Tryz.prog w=.ok (decide ((xs.drop (i*16)).take 16=(ys.drop (i*16)).take 16)) w :=
   hrow ((xs.drop (i*16)).take 16) ((ys.drop (i*16)).take 16) (by simp;omega) (by simp;omega) w
  simp only[Sem.run_bind,hp1,hp2,Result.andThen_ok,he]
  generalize decide ((xs.drop (i*16)).take 16=(ys.drop (i*16)).take 16)=b
  cases b <;> rfl
 simp only[Result.andThen_ok]
 have hsp:∀zs:List Int,zs.length=48->zs=(zs.drop (0*16)).take 16++((zs.drop (1*16)).take 16++(zs.drop (2*16)).take 16):=λzs hz=>by
  have h3:(zs.drop (2*16)).take 16=zs.drop 32:=List.take_of_length_le (by simp;omega)
  rw[h3]
  have h2:zs.drop 16=(zs.drop 16).take 16++zs.drop 32:=by conv=>lhs;rw[<-List.take_append_drop 16 (zs.drop 16)];simp[List.drop_drop]
  conv=>lhs;rw[<-List.take_append_drop 16 zs,h2]
  simp
 have hall:(List.range' 0 3).all (λi=>decide ((xs.drop (i*16)).take 16=(ys.drop (i*16)).take 16))=decide (xs=ys):=by
  rw[Bool.eq_iff_iff]
  simp only[List.all_eq_true,decide_eq_true_eq,List.mem_range'_1]
  constructor
  ·intro h
   rw[hsp xs hx,hsp ys hy,h 0 (by omega),h 1 (by omega),h 2 (by omega)]
  ·intro h i _;rw[h]
 rw[hall]
 generalize decide (xs=ys)=b
 cases b <;> rfl
theorem zC3(xs ys:List Int)(hx:xs.length=48)(hy:ys.length=48)(w:World): (Op.equalIn 10000 232 (.agg (qAs xs).toArray) (.agg (qAs ys).toArray)).run Tryz.prog w=.ok (decide (xs=ys)) w :=
 qUz 9999 (λxs ys hx hy w=>eqRow 9997 xs ys hx hy w) xs ys hx hy w
end
end Go.Proofs.YtahnliehdjncdaaGreatDoor
namespace Go.Proofs.YtahnliehdjncdaaGreatDoor.Dr
open Go.RowKit
structure It where
 t:Int
 k:Int
 d:Int
 n:Int
 v:Int
def It.cells(x:It): Array Value:=#[.int .i64 x.t,.int .i64 x.k,.int .i64 x.d,.int .i64 x.n,.int .i64 x.v]
def It.val(x:It): Value:=.agg #[.int .i64 x.t,.int .i64 x.k,.int .i64 x.d,.int .i64 x.n,.int .i64 x.v]
def qL6(a b:It): Bool :=
 if a.v%18446744073709551616*(b.d%18446744073709551616)=b.v%18446744073709551616*(a.d%18446744073709551616) then decide (a.n<b.n)
 else decide (b.v%18446744073709551616*(a.d%18446744073709551616)<a.v%18446744073709551616*(b.d%18446744073709551616))
def qCm(a b:It): Bool:=qL6 b a
theorem qU3(a b:It)(w:World):
  Calls Tryz.prog 252 #[a.val,b.val] w λe w'=>e=.returned (.bool (qL6 a b))/\w'=(w.alloc (.cells a.cells 251)).alloc (.cells b.cells 251):=by
 unfold It.val It.cells
 have wr:∀n:Int,IntKind.u64.wrap n=n%18446744073709551616:=λn=>IntKind.wrap_u64 n
 have HM:=hide (show ∀(x y:Int) (w:World),Calls Tryz.prog 189 #[.int .u64 (x%18446744073709551616),.int .u64 (y%18446744073709551616)] w λe w'=>e=.returned (.tuple #[.int .u64 (x%18446744073709551616*(y%18446744073709551616)/18446744073709551616),.int .u64 (x%18446744073709551616*(y%18446744073709551616)%18446744073709551616)])/\w'=w from
    λx y w=>qKn _ _ (by omega) (by omega) (by omega) (by omega) w)
 have HA:=hide (show qL6 a b=if a.v%18446744073709551616*(b.d%18446744073709551616)=b.v%18446744073709551616*(a.d%18446744073709551616) then decide (a.n<b.n) else decide (b.v%18446744073709551616*(a.d%18446744073709551616)<a.v%18446744073709551616*(b.d%18446744073709551616)) from rfl)
 go_enter Tryz.func252,Tryz.ntmps252
 go_wp2_with fail
 refine(uh HM a.v b.d _).mono ?_
 rintro e w' ⟨rfl,rfl⟩
 go_wp2_with fail
 refine(uh HM b.v a.d _).mono ?_
 rintro e w' ⟨rfl,rfl⟩
 generalize a.v%18446744073709551616*(b.d%18446744073709551616)=p at *
 generalize b.v%18446744073709551616*(a.d%18446744073709551616)=q at *
 by_cases h1:p/18446744073709551616=q/18446744073709551616
 ·have hb1:(p/18446744073709551616 !=q/18446744073709551616)=false:=by simp[h1]
  by_cases h2:p%18446744073709551616=q%18446744073709551616
  ·have hb2:(p%18446744073709551616 !=q%18446744073709551616)=false:=by simp[h2]
   have HR:=hide (show decide (a.n<b.n)=qL6 a b by rw[uh HA,if_pos (by omega)])
   clear h1 h2
   go_wp2
   go_ret
   exact⟨qA9 (uh HR),rfl⟩
  ·have hb2:(p%18446744073709551616 !=q%18446744073709551616)=true:=by simp[h2]
   have HR:=hide (show decide (q%18446744073709551616<p%18446744073709551616)=qL6 a b by rw[uh HA,if_neg (by omega)];simp only[decide_eq_decide];omega)
   clear h1 h2
   go_wp2
   go_ret
   exact⟨qA9 (uh HR),rfl⟩
 ·have hb1:(p/18446744073709551616 !=q/18446744073709551616)=true:=by simp[h1]
  have HR:=hide (show decide (q/18446744073709551616<p/18446744073709551616)=qL6 a b by rw[uh HA,if_neg (by omega)];simp only[decide_eq_decide];omega)
  clear h1
  go_wp2
  go_ret
  exact⟨qA9 (uh HR),rfl⟩
theorem qFa(a b:It)(w:World):
  Calls Tryz.prog 228 #[a.val,b.val] w λe w'=>e=.returned (.bool (qCm a b))/\w'=(((w.alloc (.cells a.cells 251)).alloc (.cells b.cells 251)).alloc (.cells b.cells 251)).alloc (.cells a.cells 251):=by
 have HT:=hide (qU3 b a ((w.alloc (.cells a.cells 251)).alloc (.cells b.cells 251)))
 unfold It.val It.cells at *
 go_enter Tryz.func228,Tryz.ntmps228
 go_wp2_with fail
 refine(uh HT).mono ?_
 rintro e w' ⟨rfl,rfl⟩
 go_wp2
 go_ret
 exact⟨rfl,rfl⟩
theorem qFt(a b:It)(w:World):
  Calls Tryz.prog 228 #[a.val,b.val] w λe w'=>e=.returned (.bool (qCm a b))/\Keeps (λ_=>False) w w' :=
 (qFa a b w).mono λ_ _ ⟨he,hw⟩=>⟨he,by rw[hw];exact((((Keeps.refl _ _).alloc _).alloc _).alloc _).alloc _⟩
def itAt(l:List It)(i:Nat): It:=l.getD i ⟨0,0,0,0,0⟩
def flat: List It->List Value
 | []=>[]
 | x::l=>.int .i64 x.t::.int .i64 x.k::.int .i64 x.d::.int .i64 x.n::.int .i64 x.v::flat l
theorem qDn(l:List It): (flat l).length=l.length*5:=by
 induction l with
 | nil=>rfl
 | cons x l ih=>simp[flat,ih];omega
theorem qEp(a b:List It): flat (a++b)=flat a++flat b:=by
 induction a with
 | nil=>rfl
 | cons x l ih=>simp[flat,ih]
theorem flat_get(l:List It)(i:Nat)(h:i<l.length): (flat l)[i*5]?=some (.int .i64 (itAt l i).t)/\(flat l)[i*5+1]?=some (.int .i64 (itAt l i).k)/\(flat l)[i*5+2]?=some (.int .i64 (itAt l i).d)/\(flat l)[i*5+3]?=some (.int .i64 (itAt l i).n)/\(flat l)[i*5+4]?=some (.int .i64 (itAt l i).v):=by
 induction l generalizing i with
 | nil=>simp at h
 | cons x l ih =>
  cases i with
  | zero=>simp[flat,itAt]
  | succ i =>
   have:=ih i (by simpa using h)
   rw[show(i+1)*5=i*5+5 by omega]
   simpa[flat,itAt] using this
theorem qNo(l:List It)(i:Nat)(x:It): flat (l.set i x)=(((((flat l).set (i*5) (.int .i64 x.t)).set (i*5+1) (.int .i64 x.k)).set (i*5+2) (.int .i64 x.d)).set (i*5+3) (.int .i64 x.n)).set (i*5+4) (.int .i64 x.v):=by
 induction l generalizing i with
 | nil=>simp[flat]
 | cons y l ih =>
  cases i with
  | zero=>simp[flat]
  | succ i=>rw[show(i+1)*5=i*5+5 by omega];simp[flat,ih]
structure IRow (w:World) (g cap:Nat) (l:List It):Prop where
 ex:∃cur:List Value,Blk w g cur 251/\cur.length=cap*5/\cur.take (l.length*5)=flat l
 le:l.length<=cap
 max:cap<=maxLen
theorem IRow.lt{w:World}{g cap:Nat}{l:List It}(h:IRow w g cap l): g<w.heap.size:=by obtain⟨cur,hb,_⟩:=h.ex;exact hb.lt
theorem IRow.frozen{w:World}{g cap:Nat}{l:List It}(h:IRow w g cap l)(o:Nat): w.frozen? ⟨g,o,none⟩=false:=by obtain⟨cur,hb,_⟩:=h.ex;exact hb.frozen o
theorem IRow.cells{w:World}{g cap:Nat}{l:List It}(h:IRow w g cap l)(i:Nat)(hi:i<l.length):
  w.cell? ⟨g,i*5,none⟩=some (.int .i64 (itAt l i).t)/\w.cell? ⟨g,i*5+1,none⟩=some (.int .i64 (itAt l i).k)/\w.cell? ⟨g,i*5+2,none⟩=some (.int .i64 (itAt l i).d)/\w.cell? ⟨g,i*5+3,none⟩=some (.int .i64 (itAt l i).n)/\w.cell? ⟨g,i*5+4,none⟩=some (.int .i64 (itAt l i).v):=by
 obtain⟨cur,hb,hl,ht⟩:=h.ex
 have hg:∀k,k<l.length*5->cur[k]?=(flat l)[k]?:=λk hk=>by rw[<-ht,List.getElem?_take,if_pos hk]
 obtain⟨a,b,c,d,e⟩:=flat_get l i hi
 exact⟨hb.cell (by rw[hg _ (by omega)];exact a),hb.cell (by rw[hg _ (by omega)];exact b),hb.cell (by rw[hg _ (by omega)];exact c),hb.cell (by rw[hg _ (by omega)];exact d),hb.cell (by rw[hg _ (by omega)];exact e)⟩
theorem IRow.keeps{M:Nat->Prop}{w w':World}{g cap:Nat}{l:List It}(h:IRow w g cap l)(k:Keeps M w w')(hn:¬M g): IRow w' g cap l:=by
 obtain⟨cur,hb,r⟩:=h.ex;exact⟨⟨cur,hb.keeps k hn,r⟩,h.le,h.max⟩
theorem IRow.drew{w:World}{g cap:Nat}{l:List It}(h:IRow w g cap l): IRow w.drew g cap l:=by
 obtain⟨cur,hb,r⟩:=h.ex;exact⟨⟨cur,hb.drew,r⟩,h.le,h.max⟩
def putIt(w:World)(g i:Nat)(x:It): World :=
 ((((w.setCell ⟨g,i*5,none⟩ (.int .i64 x.t)).setCell ⟨g,i*5+1,none⟩ (.int .i64 x.k)).setCell ⟨g,i*5+2,none⟩ (.int .i64 x.d)).setCell ⟨g,i*5+3,none⟩ (.int .i64 x.n)).setCell ⟨g,i*5+4,none⟩ (.int .i64 x.v)
theorem IRow.put{w:World}{g cap:Nat}{l:List It}(h:IRow w g cap l)(i:Nat)(x:It): IRow (putIt w g i x) g cap (l.set i x):=by
 obtain⟨cur,hb,hl,ht⟩:=h.ex
 refine⟨⟨_,((((hb.setCell _ _).setCell _ _).setCell _ _).setCell _ _).setCell _ _,by simp[hl],?_⟩,by simpa using h.le,h.max⟩
 rw[qNo,<-ht,List.length_set]
 simp only[List.take_set]
theorem _root_.Go.Proofs.YtahnliehdjncdaaGreatDoor.Keeps.putTk{M:Nat->Prop}{a w:World}(h:Keeps M a w){g:Nat}(hp:M g\/a.heap.size<=g)(i:Nat)(x:It): Keeps M a (putIt w g i x) :=
 ((((h.setCell hp _).setCell hp _).setCell hp _).setCell hp _).setCell hp _
end Go.Proofs.YtahnliehdjncdaaGreatDoor.Dr
