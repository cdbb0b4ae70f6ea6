import Derived.Deep.DrawnRows
import Derived.Test.YtahnliehdjncdabGreatDoorXAB
import Derived.Test.YtahnliehdjncdabGreatDoorXAX
import Derived.Test.YtahnliehdjncdabGreatDoorXAT
import Derived.Test.YtahnliehdjncdabGreatDoorXAS
set_option maxRecDepth 100000
set_option maxHeartbeats 16000000
namespace Go.Proofs.YtahnliehdjncdabGreatDoor
section
open Go.RowKit
attribute [local go_sem ↓] qAd qAe
attribute [local go_sem] qAf qAl qAc qAb qAm qAn qAh qAk
def Cfg.nums(c:Cfg): List Int:=[c.kind,c.lag,c.skew,c.cap,c.k,c.window,c.bits,c.rows,c.width,c.panes,c.size,c.degree,c.half,c.mark,c.s00,c.s01,c.s10,c.s11,c.s20,c.s21]
theorem Cfg.cells_nums(c:Cfg): c.cells=c.nums.map (.int .i64 ·):=rfl
def Cfg.num(c:Cfg)(o:Nat): Int:=c.nums.getD o 0
def qBz: Nat->List Nat | 1=>[4,5] | 2=>[6,5] | 3=>[7,8,9,5] | 4=>[11,12,13] | _=>[11,12,13,10]
def at'(b:Nat)(l:List Nat): List (Nat×Nat):=l.map λo=>(b,o)
theorem zGc: (Tryz.prog.info? 170).map (λi=>(i.zero,i.size,i.bytes))=some (some (.pointer none),1,8):=by kernel_rfl
theorem qD0{w w':World}{ps:List (Nat×Nat)}{n:Nat}(hn:ps.length=n)(hm:n<=100)(h:w'.heap[w.heap.size]?=some (.cells (qC7 ps).toArray 170)): w'.ownsRow w.heap.size 170 1 (.slice (some ⟨w.heap.size,0,none⟩) n n) ps.length (qC7 ps):=by
 subst hn;exact⟨by simp[qC7],.inr ⟨w.heap.size,ps.length,(qC7 ps).toArray,rfl,Nat.le_refl _,h,Nat.le_refl _,by unfold maxLen;omega,by simp[qC7],by rw[List.toList_toArray,List.take_of_length_le (by simp[qC7])]⟩⟩
def qC6(w:World)(b:Nat)(l:List Nat)(e:Ending)(w':World): Prop:=∃v,e=.returned v/\w'.ownsRow w.heap.size 170 1 v (at' b l).length (qC7 (at' b l))/\Keeps (λ_=>False) w w'
theorem qK4(b:Nat)(w:World): Calls Tryz.prog 129 #[.pointer (some ⟨b,0,none⟩)] w (qC6 w b [1,2,3]):=by
 go_enter Tryz.func129,Tryz.ntmps129
 go_wp2_with fail
 go_region
 go_wp2
 go_ret
 exact⟨_,rfl,qD0 rfl (by omega) (heap_alloc_new w _),((Keeps.refl _ _).alloc _).drew⟩
theorem qT2(b:Nat)(w:World): Calls Tryz.prog 103 #[.pointer (some ⟨b,0,none⟩)] w (qC6 w b [4,5]):=by
 go_enter Tryz.func103,Tryz.ntmps103
 go_wp2_with fail
 go_region
 go_wp2
 go_ret
 exact⟨_,rfl,qD0 rfl (by omega) (heap_alloc_new w _),((Keeps.refl _ _).alloc _).drew⟩
theorem qNi(b:Nat)(w:World): Calls Tryz.prog 109 #[.pointer (some ⟨b,0,none⟩)] w (qC6 w b [6,5]):=by
 go_enter Tryz.func109,Tryz.ntmps109
 go_wp2_with fail
 go_region
 go_wp2
 go_ret
 exact⟨_,rfl,qD0 rfl (by omega) (heap_alloc_new w _),((Keeps.refl _ _).alloc _).drew⟩
theorem qVi(b:Nat)(w:World): Calls Tryz.prog 115 #[.pointer (some ⟨b,0,none⟩)] w (qC6 w b [7,8,9,5]):=by
 go_enter Tryz.func115,Tryz.ntmps115
 go_wp2_with fail
 go_region
 go_wp2
 go_ret
 exact⟨_,rfl,qD0 rfl (by omega) (heap_alloc_new w _),((Keeps.refl _ _).alloc _).drew⟩
theorem qMq(b:Nat)(w:World): Calls Tryz.prog 119 #[.pointer (some ⟨b,0,none⟩)] w (qC6 w b [11,12,13]):=by
 go_enter Tryz.func119,Tryz.ntmps119
 go_wp2_with fail
 go_region
 go_wp2
 go_ret
 exact⟨_,rfl,qD0 rfl (by omega) (heap_alloc_new w _),((Keeps.refl _ _).alloc _).drew⟩
theorem zGj{w:World}{base base':Nat}{t size:Nat}{v:Value}{n:Nat}{xs:List Value}(h:w.ownsRow base t size v n xs)(hb:base'<=base): w.ownsRow base' t size v n xs:=by
 refine⟨h.1,?_⟩;rcases h.2 with h2 | ⟨g,cap,cur,rfl,hbb,r⟩
 ·exact .inl h2
 ·exact .inr ⟨g,cap,cur,rfl,Nat.le_trans hb hbb,r⟩
def zHi(t:TypeId)(x y:Value): Sem Next:=do pure (.value (<-Builtin.append_ #[144,144] t #[x,y]))
theorem qMr(ρ:Operand->Value)(dst:Option Tmp)(x y:Operand)(ty:TypeId)(pos:String)(after:Array Edge)(guard:Option (Nat×Bool)):
  execOp ρ { dst,op:=.call { callee:=.builtin .append,args:=#[x,y],argTypes:=#[144,144] },type:=ty,pos,after,guard }=zHi ty (ρ x) (ρ y):=by
 rw[BigFrame.execOp_builtin,BigFrame.builtin_append];simp[zHi]
theorem qPa(w:World)(base:Nat)(v:Value)(m g0:Nat)(xs us:List Value)(hown:w.ownsRow base 170 1 v m xs)(hu:w.heap[g0]?=some (.cells us.toArray 170))(h1:∀u∈us,u.oneCell'=true)(hl:0<us.length)(hm:m+us.length<=100)(hb:base<=w.heap.size):
  ∃gg cap' w3,(∀t,(zHi t v (.slice (some ⟨g0,0,none⟩) us.length us.length)).run Tryz.prog w=.ok (.value (.slice (some ⟨gg,0,none⟩) (m+us.length) cap')) w3) /\
   w3.ownsRow base 170 1 (.slice (some ⟨gg,0,none⟩) (m+us.length) cap') (m+us.length) (xs++us)/\w.grownBy w3 v.ownBlock:=by
 obtain⟨i0,hi0,hz0,hz1,hz2⟩:=info_parts zGc;obtain⟨gg,cap',w3,e1,e2,e3,_,_⟩:=run_append_lies (P:=Tryz.prog) w 144 144 base 170 i0 _ 1 8 Tryz.underlying144 hi0 hz0 hz1 hz2 rfl (by omega) v m xs hown ⟨g0,0,none⟩ us.length us.length us (by simp) (World.news_of_block hu) h1 hl (by unfold maxLen;omega) (by omega) hb w.heap.size rfl;refine⟨gg,cap',w3,λt=>?_,e2,e3⟩;unfold zHi;rw[Sem.run_bind];have ht:Builtin.append_ #[144,144] t #[v,.slice (some ⟨g0,0,none⟩) us.length us.length]=Builtin.append_ #[144,144] 144 #[v,.slice (some ⟨g0,0,none⟩) us.length us.length]:=rfl;rw[ht,e1];rfl
theorem qMz(b:Nat)(w:World): Calls Tryz.prog 119 #[.pointer (some ⟨b,0,none⟩)] w λe w1=>∃va vcap,e=.returned (.slice va 3 vcap)/\Keeps (λ_=>False) w w1 /\
  (∃gg cap' w3,(∀t,(zHi t (.slice va 3 vcap) (.slice (some ⟨w1.heap.size,0,none⟩) 1 1)).run Tryz.prog (w1.alloc (.cells #[.pointer (some ⟨b,10,none⟩)] 170))=.ok (.value (.slice (some ⟨gg,0,none⟩) 4 cap')) w3) /\
     w3.ownsRow w.heap.size 170 1 (.slice (some ⟨gg,0,none⟩) 4 cap') 4 (qC7 (at' b [11,12,13,10]))/\Keeps (λ_=>False) w w3) /\
  (∀g0,w.heap[g0]?=some (.cells #[.pointer (some ⟨b,10,none⟩)] 170)->∃gg cap' w3,(∀t,(zHi t (.slice va 3 vcap) (.slice (some ⟨g0,0,none⟩) 1 1)).run Tryz.prog w1=.ok (.value (.slice (some ⟨gg,0,none⟩) 4 cap')) w3) /\
     w3.ownsRow w.heap.size 170 1 (.slice (some ⟨gg,0,none⟩) 4 cap') 4 (qC7 (at' b [11,12,13,10]))/\Keeps (λ_=>False) w w3):=by
 refine(qMq b w).mono ?_;rintro e w1 ⟨v,rfl,hown,hk⟩;obtain⟨va,vcap,hv,_⟩:=qCh hown;subst hv;have hsz:=hk.size;refine⟨va,vcap,rfl,hk,?_,λg0 hg0=>?_⟩
 ·obtain⟨gg,cap',w3,h1,h2,h3⟩:=qPa (w1.alloc (.cells #[.pointer (some ⟨b,10,none⟩)] 170)) w.heap.size _ 3 w1.heap.size _ [.pointer (some ⟨b,10,none⟩)] (hown.alloc _) (heap_alloc_new w1 _) (by simp[Value.oneCell']) (by simp) (by simp) (by simp;omega)
  exact⟨gg,cap',w3,h1,h2,(hk.alloc _).grown h3 (λk hk'=>.inr (hown.lt k hk').1)⟩
 ·obtain⟨gg,cap',w3,h1,h2,h3⟩:=qPa w1 w.heap.size _ 3 g0 _ [.pointer (some ⟨b,10,none⟩)] hown (by rw[hk.block g0 (Array.getElem?_eq_some_iff.1 hg0).1 (λh=>h)];exact hg0) (by simp[Value.oneCell']) (by simp) (by simp) hsz
  exact⟨gg,cap',w3,h1,h2,hk.grown h3 (λk hk'=>.inr (hown.lt k hk').1)⟩
attribute [local go_sem ↓ 2000] qMr
attribute [local go_sem ↓] Go.wp_at_zero Go.wp_at_succ
theorem qT9(b:Nat)(w:World): Calls Tryz.prog 123 #[.pointer (some ⟨b,0,none⟩)] w (qC6 w b [11,12,13,10]):=by
 go_enter Tryz.func123,Tryz.ntmps123
 go_wp2_with fail
 have hnew1:(w.alloc (.cells #[.pointer (some ⟨b,10,none⟩)] 170)).drew.heap[w.heap.size]?=some (.cells #[.pointer (some ⟨b,10,none⟩)] 170):=heap_alloc_new w _;go_region_with (first | (go_at_call 119;refine(qMz b _).mono ?_;rintro e w1 ⟨va,vcap,rfl,hk1,⟨gg,cap',w3,hrun,hown,hk3⟩,hB⟩;try (have hB1:=hB w.heap.size hnew1;obtain⟨gg2,cap2,w4,hrun2,hown2,hk4⟩:=hB1)))
 ·go_wp2
  go_ret
  exact⟨.slice (some ⟨gg,0,none⟩) 4 cap',rfl,hown,((Keeps.refl (λ_=>False) w).drew).then hk3⟩
 all_goals
  go_wp2
  go_ret
  refine⟨.slice (some ⟨gg2,0,none⟩) 4 cap2,rfl,zGj hown2 (by show w.heap.size<=(w.alloc _).heap.size;simp),?_⟩
  first
   | exact(((Keeps.refl (λ_=>False) w).alloc _).drew).then hk4
   | exact(((Keeps.refl (λ_=>False) w).drew).alloc _).then hk4
theorem qW3(b:Nat)(w:World): Calls Tryz.prog 106 #[.pointer (some ⟨b,0,none⟩)] w (qC6 w b [0]):=by
 go_enter Tryz.func106,Tryz.ntmps106
 go_wp2
 go_ret
 exact⟨_,rfl,qD0 rfl (by omega) (heap_alloc_new w _),(Keeps.refl _ _).alloc _⟩
theorem zBp(b:Nat)(w:World): Calls Tryz.prog 112 #[.pointer (some ⟨b,0,none⟩)] w (qC6 w b [0,1]):=by
 go_enter Tryz.func112,Tryz.ntmps112
 go_wp2_with fail
 go_region
 go_wp2
 go_ret
 exact⟨_,rfl,qD0 rfl (by omega) (heap_alloc_new w _),((Keeps.refl _ _).alloc _).drew⟩
theorem qPu(b:Nat)(w:World): Calls Tryz.prog 125 #[.pointer (some ⟨b,0,none⟩)] w (qC6 w b [0,1,2]):=by
 go_enter Tryz.func125,Tryz.ntmps125
 go_wp2_with fail
 go_region
 go_wp2
 go_ret
 exact⟨_,rfl,qD0 rfl (by omega) (heap_alloc_new w _),((Keeps.refl _ _).alloc _).drew⟩
end
section
open Go.RowKit
attribute [local go_sem ↓] qAd qAe
attribute [local go_sem] qAf qAl qAc qAb qAm qAn qAh qAk
theorem qR2(k b:Nat)(w:World)(h1:1<=k)(h5:k<=5): Calls Tryz.prog (qA7 k) #[.pointer (some ⟨b,0,none⟩)] w (qC6 w b (qBz k)):=by
 have hk:k=1\/k=2\/k=3\/k=4\/k=5:=by omega
 rcases hk with hk | hk | hk | hk | hk <;> subst hk
 ·exact qT2 b w
 ·exact qNi b w
 ·exact qVi b w
 ·exact qMq b w
 ·exact qT9 b w
def qB9: Nat->List Nat | 1=>[0] | 2=>[0,1] | 3=>[0,1] | 4=>[0] | _=>[0,1,2]
theorem qRb(k b:Nat)(w:World)(h1:1<=k)(h5:k<=5): Calls Tryz.prog (qA6 k) #[.pointer (some ⟨b,0,none⟩)] w (qC6 w b (qB9 k)):=by
 have hk:k=1\/k=2\/k=3\/k=4\/k=5:=by omega
 rcases hk with hk | hk | hk | hk | hk <;> subst hk
 ·exact qW3 b w
 ·exact zBp b w
 ·exact zBp b w
 ·exact qW3 b w
 ·exact qPu b w
def qA1(k:Nat)(c:Cfg): Int:=match k with | 2=>1 | 3=>c.rows | _=>0
theorem qI0(c:Cfg)(w:World): Calls Tryz.prog 104 #[c.val] w λe w'=>e=.returned (.int .i64 0)/\Keeps (λ_=>False) w w':=by
 unfold Cfg.val;go_enter Tryz.func104,Tryz.ntmps104
 go_wp2
 go_ret
 exact⟨rfl,by first | exact Keeps.refl _ _ | exact(Keeps.refl _ _).alloc _⟩
theorem qUy(c:Cfg)(w:World): Calls Tryz.prog 110 #[c.val] w λe w'=>e=.returned (.int .i64 1)/\Keeps (λ_=>False) w w':=by
 unfold Cfg.val;go_enter Tryz.func110,Tryz.ntmps110
 go_wp2
 go_ret
 exact⟨rfl,by first | exact Keeps.refl _ _ | exact(Keeps.refl _ _).alloc _⟩
theorem qSf(c:Cfg)(w:World): Calls Tryz.prog 116 #[c.val] w λe w'=>e=.returned (.int .i64 c.rows)/\Keeps (λ_=>False) w w':=by
 unfold Cfg.val;go_enter Tryz.func116,Tryz.ntmps116
 go_wp2
 go_ret
 exact⟨rfl,(Keeps.refl _ _).alloc _⟩
theorem qQ6(k:Nat)(c:Cfg)(w:World)(h1:1<=k)(h5:k<=5): Calls Tryz.prog (qA8 k) #[c.val] w λe w'=>e=.returned (.int .i64 (qA1 k c))/\Keeps (λ_=>False) w w':=by
 have hk:k=1\/k=2\/k=3\/k=4\/k=5:=by omega
 rcases hk with hk | hk | hk | hk | hk <;> subst hk
 ·exact qI0 c w
 ·exact qUy c w
 ·exact qSf c w
 ·exact qI0 c w
 ·exact qI0 c w
def qBq(n:Nat): List Nat:=(List.range (2*n)).map (14+·)
theorem qUp(n:Nat): qBq (n+1)=qBq n++[14+2*n,15+2*n]:=by
 unfold qBq;rw[show 2*(n+1)=2*n+1+1 by omega,List.range_succ,List.range_succ];simp;omega
theorem qO7(a b:List (Nat×Nat)): qC7 (a++b)=qC7 a++qC7 b:=by simp[qC7]
attribute [local go_sem ↓ 2000] qMr
attribute [local go_sem ↓] Go.wp_at_zero Go.wp_at_succ
theorem qR6(b n:Nat)(w:World)(hn:n<=3):
  Calls Tryz.prog 130 #[.pointer (some ⟨b,0,none⟩),.int .i64 n] w (qC6 w b (qBq n)):=by
 go_enter Tryz.func130,Tryz.ntmps130
 go_wp2
 go_loopw [5,8] (λv i wr=>∃k:Nat,i=.int .i64 k/\k<=n/\Hid (wr.ownsRow w.heap.size 170 1 v (2*k) (qC7 (at' b (qBq k))))/\Hid (Keeps (λ_=>False) w wr)) (λ_ i _=>n-(intOf i).toNat)
 case atStart=>exact⟨0,rfl,Nat.zero_le _,World.ownsRow_nil _ _ _ _,Keeps.refl _ _⟩
 case round =>
  obtain⟨k,rfl,hk,HO,HK⟩:=hrel;generalize u5=v at *
  by_cases hlk:k<n
  ·obtain⟨va,vcap,hv,_⟩:=qCh (uh HO)
   subst hv;have hsz:w.heap.size<=wr.heap.size:=(uh HK).size;have HO1:=hide (show(wr.alloc (.cells #[.pointer (some ⟨b,14+k*2,none⟩),.pointer (some ⟨b,14+k*2+1,none⟩)] 170)).drew.ownsRow w.heap.size 170 1 (.slice va (2*k) vcap) (2*k) (qC7 (at' b (qBq k))) from(uh HO).alloc _);obtain⟨gg,cap',w3,hrun,hown,hgr⟩:=qPa (wr.alloc (.cells #[.pointer (some ⟨b,14+k*2,none⟩),.pointer (some ⟨b,14+k*2+1,none⟩)] 170)).drew w.heap.size _ (2*k) wr.heap.size _ [.pointer (some ⟨b,14+k*2,none⟩),.pointer (some ⟨b,14+k*2+1,none⟩)] (uh HO1) (heap_alloc_new wr _) (by simp[Value.oneCell']) (by simp) (by simp;omega) (by show w.heap.size<=(wr.alloc _).heap.size;simp;omega);have hrun':∀t,(zHi t (.slice va (2*k) vcap) (.slice (some ⟨wr.heap.size,0,none⟩) 2 2)).run Tryz.prog (wr.alloc (.cells #[.pointer (some ⟨b,14+k*2,none⟩),.pointer (some ⟨b,14+k*2+1,none⟩)] 170)).drew=.ok (.value (.slice (some ⟨gg,0,none⟩) (2*k+2) cap')) w3:=hrun;clear hrun;have HOW:=hide hown;have HGR:=hide hgr;clear hown hgr HO1;have hk0:(0:Int)<=(k:Int):=by omega
   have hkn:(k:Int)<(n:Int):=by omega
   have hk3:(k:Int)<3:=by omega
   go_wp2_with fail
   go_region
   go_wp2
   go_roundw
   case rel =>
    refine⟨k+1,by go_num,by omega,?_,?_⟩
    ·show World.ownsRow _ _ _ _ _ _ _
     rw[qUp];have e1:at' b (qBq k++[14+2*k,15+2*k])=at' b (qBq k)++[(b,14+2*k),(b,15+2*k)]:=by simp[at']
     rw[e1,qO7,show 2*(k+1)=2*k+2 by omega];have h:=uh HOW;rw[show 14+k*2=14+2*k by omega,show 14+2*k+1=15+2*k by omega]at h;exact h
    ·exact(((uh HK).alloc _).drew).grown (uh HGR) (λj hj=>Or.inr ((uh HO).lt j hj).1)
   case measure=>simp[intOf];omega
  ·have hkn:k=n:=by omega
   subst hkn;go_wp2
   go_ret
   refine⟨v,rfl,?_,uh HK⟩;have:(at' b (qBq k)).length=2*k:=by simp[at',qBq]
   rw[this];exact uh HO
end
section
open Go.RowKit
attribute [local go_sem ↓] qAd qAe
attribute [local go_sem] qAf qAl qAc qAb qAm qAn qAh qAk
def qBt(k:Nat)(c:Cfg): List Int:=c.kind::([1,2,3].map c.num++((qBz k).map c.num++(qBq (qA1 k c).toNat).map c.num))
theorem qMc{w:World}{cb:Nat}{c:Cfg}{l:List Nat}(h:Blk w cb c.cells 32)(hl:∀o,o∈l->o<20): PartsAt w (at' cb l) (l.map c.num):=by
 refine⟨by simp[at'],λi p n hp hn=>?_⟩;unfold at' at hp;rw[List.getElem?_map]at hp hn;cases ho:l[i]? with
 | none=>rw[ho]at hp;cases hp
 | some o =>
  rw[ho]at hp hn;simp only[Option.map_some,Option.some.injEq]at hp hn;subst hp hn;have h20:=hl o (List.mem_of_getElem? ho);refine h.cell ?_;rw[Cfg.cells_nums,List.getElem?_map];unfold Cfg.num;rw[List.getD_eq_getElem?_getD,List.getElem?_eq_getElem (by simpa[Cfg.nums] using h20)];rfl
theorem qSx(k:Nat): ∀o,o∈qBz k->o<20:=by
 unfold qBz
 split <;> simp
theorem qSs(n:Nat)(hn:n<=3): ∀o,o∈qBq n->o<20:=by
 unfold qBq;intro o ho;simp at ho;obtain⟨i,hi,rfl⟩:=ho;omega
theorem qFg(b:Nat)(v:Value)(bs:List Nat)(pv:Value)(base cb:Nat)(l:List Nat)(ns:List Int)(w:World)(h:WRep w b v bs)(hp:w.ownsRow base 170 1 pv (at' cb l).length (qC7 (at' cb l)))(ha:PartsAt w (at' cb l) ns)(hd:¬qCc b v cb)(hbase:∀i,base<=i->¬qCc b v i)(hn:∀n,n∈ns->0<=n/\n<=9223372036854775807)(hl:bs.length+10*ns.length<=140737488355300)(hl2:ns.length<=1000):
  Calls Tryz.prog 85 #[.pointer (some ⟨b,0,none⟩),pv] w λe w'=>e=.returned (.tuple #[])/\Wrote w b v (bs++qBv ns) w' :=
 zCl b v bs pv base (at' cb l) ns w h hp ha (λp hp h=>hd (by
      unfold at' at hp;obtain⟨o,_,rfl⟩:=List.mem_map.1 hp
      exact h)) (λi hi=>hbase i (hp.lt i hi).1) hn hl hl2
structure SC (w:World) (cb kb b:Nat) (v:Value) (c:Cfg) (k:Nat) (w':World) (v':Value) (bs:List Nat):Prop where
 blk:Blk w' cb c.cells 32
 knd:Blk w' kb [.func (.func (qBw k)) #[] #[],.func (.func (qA7 k)) #[] #[],.func (.func (qA8 k)) #[] #[],.func (.func (qAr k)) #[] #[],.func (.func (qA6 k)) #[] #[],.func (.func (qA9 k)) #[] #[]] 83
 wr:WRep w' b v' bs
 ft:∀i,qCc b v' i->i<cb\/kb<i
 vv:∀i,v'.ownBlock=some i->v.ownBlock=some i\/w.heap.size<=i
 kp:Keeps (qCc b v) w w'
 le:cb<=kb
theorem SC.still{w:World}{cb kb b:Nat}{v:Value}{c:Cfg}{k:Nat}{w' w'':World}{v':Value}{bs:List Nat}(h:SC w cb kb b v c k w' v' bs)(hk:Keeps (λ_=>False) w' w''): SC w cb kb b v c k w'' v' bs :=
 ⟨h.blk.keeps hk (λh=>h),h.knd.keeps hk (λh=>h),h.wr.still hk,h.ft,h.vv,h.kp.trans hk (λ_ h=>h.elim),h.le⟩
theorem SC.not{w:World}{cb kb b:Nat}{v:Value}{c:Cfg}{k:Nat}{w':World}{v':Value}{bs:List Nat}(h:SC w cb kb b v c k w' v' bs)(i:Nat)(h1:cb<=i)(h2:i<=kb): ¬qCc b v' i:=λhf=>by
 rcases h.ft i hf with h | h <;> omega
theorem SC.wrote{w:World}{cb kb b:Nat}{v:Value}{c:Cfg}{k:Nat}{w' w'':World}{v':Value}{bs bs2:List Nat}(h:SC w cb kb b v c k w' v' bs)(hw:Wrote w' b v' bs2 w''): ∃v'',SC w cb kb b v c k w'' v'' bs2:=by
 obtain⟨v2,hw2,hv2,hk2⟩:=hw;have hl:=h.knd.lt;have hs:=h.kp.size;refine⟨v2,h.blk.keeps hk2 (h.not cb (Nat.le_refl _) h.le),h.knd.keeps hk2 (h.not kb h.le (Nat.le_refl _)),hw2,λi hi=>?_,λi hi=>?_,h.kp.trans hk2 (λi hi hlt=>?_),h.le⟩
 ·rcases hi with hi | hi
  ·exact h.ft i (.inl hi)
  ·rcases hv2 i hi with h1 | h1
   ·exact h.ft i (.inr h1)
   ·exact .inr (by omega)
 ·rcases hv2 i hi with h1 | h1
  ·exact h.vv i h1
  ·exact .inr (by omega)
 ·rcases hi with hi | hi
  ·exact .inl hi
  ·rcases h.vv i hi with h1 | h1
   ·exact .inr h1
   ·omega
theorem qPs(bs:List Nat)(a b:List Int): bs++qBv a++qBv b=bs++qBv (a++b):=by rw[List.append_assoc,qAo]
theorem qNo(b:Nat)(v:Value)(bs:List Nat)(c:Cfg)(k:Nat)(w:World)(h:WRep w b v bs)(hkd:c.kind=k)(h1:1<=k)(h5:k<=5)(p0:0<=qA1 k c)(p3:qA1 k c<=3)(hn:∀n,n∈qBt k c->0<=n/\n<=9223372036854775807)(hl:bs.length<=140737488354000):
  Calls Tryz.prog 83 #[.pointer (some ⟨b,0,none⟩),c.val] w λe w'=>e=.returned (.tuple #[])/\Wrote w b v (bs++qBv (qBt k c)) w':=by
 obtain⟨W,hW⟩:∃W,W=w.alloc (.cells c.cells.toArray 32):=⟨_,rfl⟩;have HB:=hide (show Blk W w.heap.size c.cells 32 by rw[hW];exact Blk.new w _ _);have HK:=hide (show Keeps (λ_=>False) w W by rw[hW];exact(Keeps.refl _ _).alloc _);have HW0:=hide (show w.alloc (.cells #[.int .i64 c.kind,.int .i64 c.lag,.int .i64 c.skew,.int .i64 c.cap,.int .i64 c.k,.int .i64 c.window,.int .i64 c.bits,.int .i64 c.rows,.int .i64 c.width,.int .i64 c.panes,.int .i64 c.size,.int .i64 c.degree,.int .i64 c.half,.int .i64 c.mark,.int .i64 c.s00,.int .i64 c.s01,.int .i64 c.s10,.int .i64 c.s11,.int .i64 c.s20,.int .i64 c.s21] 32)=W from hW.symm);have HW:=hide (h.still (uh HK));have HLT:=hide (show ∀i,qCc b v i->i<w.heap.size from h.lt);have HN:=hide hn;have HKD:=hide hkd;have HP:=hide (show ∃n:Nat,qA1 k c=n/\n<=3 from⟨(qA1 k c).toNat,by omega,by omega⟩);have HF:=hide (qHt c.kind k W hkd h1 h5);have HCN:=hide (show qBt k c=c.kind::([1,2,3].map c.num++((qBz k).map c.num++(qBq (qA1 k c).toNat).map c.num)) from rfl);have c0:W.cell? ⟨w.heap.size,0,none⟩=some (.int .i64 c.kind):=(uh HB).cell rfl;clear hW h hn hkd p0 p3;unfold Cfg.val;go_enter Tryz.func83,Tryz.ntmps83
 go_wp2_with fail
 rw[uh HW0];refine(uh HF).mono ?_;rintro e w1 ⟨rfl,hk1⟩;unfold qBc fn;have HT1:=hide (Blk.new w1 [.func (.func (qBw k)) #[] #[],.func (.func (qA7 k)) #[] #[],.func (.func (qA8 k)) #[] #[],.func (.func (qAr k)) #[] #[],.func (.func (qA6 k)) #[] #[],.func (.func (qA9 k)) #[] #[]] 83);have hka:=hk1.alloc (.cells #[.func (.func (qBw k)) #[] #[],.func (.func (qA7 k)) #[] #[],.func (.func (qA8 k)) #[] #[],.func (.func (qAr k)) #[] #[],.func (.func (qA6 k)) #[] #[],.func (.func (qA9 k)) #[] #[]] 83);have HB1:=hide ((uh HB).keeps hka (λh=>h));have HW1:=hide ((uh HW).still hka);have HK1:=hide ((uh HK).then hka);have hc1:w1.cell? ⟨w.heap.size,0,none⟩=some (.int .i64 c.kind):=((uh HB).keeps hk1 (λh=>h)).cell rfl;have hlt1:w.heap.size<w1.heap.size:=((uh HB).keeps hk1 (λh=>h)).lt;clear hk1 hka c0 HW0 HF HB HW HK;go_wp2_with fail
 clear hc1;generalize hkb:w1.heap.size=kb at *;generalize w1.alloc (.cells #[.func (.func (qBw k)) #[] #[],.func (.func (qA7 k)) #[] #[],.func (.func (qA8 k)) #[] #[],.func (.func (qAr k)) #[] #[],.func (.func (qA6 k)) #[] #[],.func (.func (qA9 k)) #[] #[]] 83)=w2 at *;clear hkb w1;generalize hcb:w.heap.size=cb at *;have HCB:=hide hcb;clear hcb;have HSZ2:=hide (show kb+1<=w2.heap.size from(uh HT1).lt);have hb1:=uh HN c.kind (by rw[uh HCN];simp)
 -- the kind
 have HS2:=hide (show SC w cb kb b v c k w2 v bs from⟨uh HB1,uh HT1,uh HW1,λi hi=>.inl (uh HLT i hi),λi hi=>.inl hi,(uh HK1).mono (λ_ _ h=>h.elim),by omega⟩);clear HB1 HT1 HW1 HK1 HSZ2;have HLK:=hide (show(qBz k).length<=4 by unfold qBz;split <;> simp);obtain⟨pn,hpn,hpn3⟩:=uh HP;have HPN:=hide hpn;have HLS:=hide (show(qBq pn).length<=6 by simp[qBq];omega);have HC2:=hide (show qBt k c=[c.kind]++[1,2,3].map c.num++(qBz k).map c.num++(qBq pn).map c.num by rw[uh HCN,hpn,Int.toNat_natCast];simp);clear hpn HCN;refine(qDs b v bs c.kind w2 (uh HS2).wr hb1.1 hb1.2 (by omega)).mono ?_;rintro e w3 ⟨rfl,hw3⟩;obtain⟨v3,hs3⟩:=(uh HS2).wrote hw3;rw[<-qC3]at hs3;have HS3:=hide hs3;clear hw3 hs3 HS2;go_wp2_with fail
 refine(qK4 cb w3).mono ?_;rintro e w4 ⟨pv,rfl,hown4,hk4⟩;obtain⟨pa,pcap,hpv,_⟩:=qCh hown4;subst hpv;have HL3:=hide (uh HS3).wr.lt;have HS4:=hide ((uh HS3).still hk4);have HO4:=hide hown4;clear hown4 hk4 HS3;go_wp2_with fail
 refine(qFg b v3 _ _ w3.heap.size cb [1,2,3] ([1,2,3].map c.num) w4 (uh HS4).wr (uh HO4) (qMc (uh HS4).blk (by simp)) ((uh HS4).not cb (Nat.le_refl _) (uh HS4).le) (λi hi h=>by have:=uh HL3 i h;omega) (λn hn=>uh HN n (by rw[uh HC2];simp only[List.mem_append];exact .inl (.inl (.inr hn)))) (by have:=qA0 [c.kind];simp[qC3]at this ⊢;have h2:=qA0 [c.kind];simp at h2;omega) (by simp)).mono ?_;rintro e w5 ⟨rfl,hw5⟩;obtain⟨v5,hs5⟩:=(uh HS4).wrote hw5;rw[qPs]at hs5;have HS5:=hide hs5;clear hw5 hs5 HS4 HO4 HL3;have k1:w5.cell? ⟨kb,1,none⟩=some (.func (.func (qA7 k)) #[] #[]):=(uh HS5).knd.cell rfl;have hown1:=qR7 k h1 h5;go_wp2_with fail
 refine(qR2 k cb w5 h1 h5).mono ?_;rintro e w6 ⟨pv,rfl,hown6,hk6⟩;obtain⟨pa6,pcap6,hpv,_⟩:=qCh hown6;subst hpv;have HL5:=hide (uh HS5).wr.lt;have HS6:=hide ((uh HS5).still hk6);have HO6:=hide hown6;clear hown6 hk6 HS5 k1 hown1;go_wp2_with fail
 refine(qFg b v5 _ _ w5.heap.size cb (qBz k) ((qBz k).map c.num) w6 (uh HS6).wr (by have:=uh HO6;exact this) (qMc (uh HS6).blk (qSx k)) ((uh HS6).not cb (Nat.le_refl _) (uh HS6).le) (λi hi h=>by have:=uh HL5 i h;omega) (λn hn=>uh HN n (by rw[uh HC2];simp only[List.mem_append];exact .inl (.inr hn))) (by have h2:=qA0 ([c.kind]++[1,2,3].map c.num);have h3:=uh HLK;simp at h2 ⊢;omega) (by have h3:=uh HLK;simp;omega)).mono ?_;rintro e w7 ⟨rfl,hw7⟩;obtain⟨v7,hs7⟩:=(uh HS6).wrote hw7;rw[qPs]at hs7;have HS7:=hide hs7;clear hw7 hs7 HS6 HO6 HL5;have k2:w7.cell? ⟨kb,2,none⟩=some (.func (.func (qA8 k)) #[] #[]):=(uh HS7).knd.cell rfl;obtain⟨hv7,hh7⟩:=qBl (uh HS7).blk 20 rfl;have hown2:=qRz k h1 h5;go_wp2_with fail
 refine(qQ6 k c w7 h1 h5).mono ?_;rintro e w8 ⟨rfl,hk8⟩;rw[uh HPN];have HS8:=hide ((uh HS7).still hk8);clear hk8 HS7 k2 hown2 hv7 hh7;go_wp2_with fail
 refine(qR6 cb pn w8 hpn3).mono ?_;rintro e w9 ⟨pv,rfl,hown9,hk9⟩;obtain⟨pa9,pcap9,hpv,_⟩:=qCh hown9;subst hpv;have HL8:=hide (uh HS8).wr.lt;have HS9:=hide ((uh HS8).still hk9);have HO9:=hide hown9;clear hown9 hk9 HS8;go_wp2_with fail
 refine(qFg b v7 _ _ w8.heap.size cb (qBq pn) ((qBq pn).map c.num) w9 (uh HS9).wr (by have:=uh HO9;exact this) (qMc (uh HS9).blk (qSs pn hpn3)) ((uh HS9).not cb (Nat.le_refl _) (uh HS9).le) (λi hi h=>by have:=uh HL8 i h;omega) (λn hn=>uh HN n (by rw[uh HC2];simp only[List.mem_append];exact .inr hn)) (by have h2:=qA0 ([c.kind]++[1,2,3].map c.num++(qBz k).map c.num);have h3:=uh HLK;have h4:=uh HLS;simp at h2 ⊢;omega) (by have h4:=uh HLS;simp;omega)).mono ?_;rintro e wa ⟨rfl,hwa⟩;obtain⟨va,hsa⟩:=(uh HS9).wrote hwa;rw[qPs,<-uh HC2]at hsa;have HSA:=hide hsa;clear hwa hsa HS9 HO9 HL8;go_wp2
 go_end0
 exact⟨rfl,va,(uh HSA).wr,(uh HSA).vv,(uh HSA).kp⟩
end
section
open Go.RowKit
theorem qFd{b:Nat}{v v1:Value}{s cb:Nat}(h0:¬qCc b v cb)(hv:∀i,v1.ownBlock=some i->v.ownBlock=some i\/s<=i)(hc:cb<s): ¬qCc b v1 cb:=by
 rintro (h | h)
 ·exact h0 (.inl h)
 ·rcases hv cb h with h | h
  ·exact h0 (.inr h)
  ·omega
theorem Wrote.pre{w w1 w2:World}{b:Nat}{v:Value}{bs:List Nat}(hk:Keeps (λ_=>False) w w1)(h:Wrote w1 b v bs w2): Wrote w b v bs w2 :=
 Wrote.then (λ_ hi=>.inl hi) (hk.mono (λ_ _ h=>h.elim)) h
def qLg(l:List Dr.It): List Int:=l.flatMap λx=>[x.n,x.t,x.k,x.d]
theorem qM4(a b:List Dr.It): qLg (a++b)=qLg a++qLg b:=by simp[qLg]
theorem qL4(l:List Dr.It): (qLg l).length=4*l.length:=by
 induction l with
 | nil=>rfl
 | cons x l ih=>simp[qLg]at ih ⊢;omega
theorem qSt(r:List Dr.It)(k:Nat)(hk:k<r.length): qLg (r.take (k+1))=qLg (r.take k)++[(Dr.itAt r k).n,(Dr.itAt r k).t,(Dr.itAt r k).k,(Dr.itAt r k).d]:=by
 rw[List.take_add_one,qM4,List.getElem?_eq_getElem hk];simp[qLg,Dr.itAt,List.getD_eq_getElem?_getD,List.getElem?_eq_getElem hk]
theorem qX1{w:World}{cb:Nat}{t k d:Int}{l:List Value}{T:Nat}(h:Blk w cb (.int .i64 t::.int .i64 k::.int .i64 d::l) T): PartsAt w (at' cb [0,1,2]) [t,k,d]:=by
 refine⟨by simp[at'],λi p n hp hn=>?_⟩
 match i with
 | 0=>simp[at']at hp hn;subst hp hn;exact h.cell rfl
 | 1=>simp[at']at hp hn;subst hp hn;exact h.cell rfl
 | 2=>simp[at']at hp hn;subst hp hn;exact h.cell rfl
 | i+3=>simp[at']at hp
theorem qVr(d q:Nat)(og:Option Nat)(c:Cfg)(l:List Dr.It)(b:Nat)(v:Value)(bs:List Nat)(m:Int)(w:World)(h:TRep w d q og c l)(hw:WRep w b v bs)(hl:l.length<=6)(hn:∀n,n∈qLg (Dr.allL (l.length+1) l)->0<=n/\n<=9223372036854775807)(hbl:bs.length<=140737488354000):
  Calls Tryz.prog 172 #[.pointer (some ⟨d,0,none⟩),.pointer (some ⟨b,0,none⟩),.int .i64 m] w λe w'=>e=.returned (.tuple #[])/\Wrote w b v (bs++qBv (qLg (Dr.allL (l.length+1) l))) w':=by
 have c20:w.cell? ⟨d,20,none⟩=some (.pointer (some ⟨q,0,none⟩)):=h.blk.cell rfl;have hA:=zAk q og l w h.que (by omega);clear h;generalize Dr.allL (l.length+1) l=r at *;generalize l.length=n at *;have HA:=hide hA;have HW:=hide hw;have HNR:=hide hn;clear hw hn hA;go_enter Tryz.func172,Tryz.ntmps172
 go_wp2_with fail
 refine(uh HA).mono ?_;rintro e W1 ⟨g,cp,rfl,hg,hr1,hlen,hk1⟩;have HR:=hide hr1;have HLN:=hide hlen;have HK1:=hide hk1;have HG:=hide (show ¬qCc b v g from λhf=>by have:=(uh HW).lt g hf;omega);have HW1:=hide ((uh HW).still hk1);have hn6:n<=6:=by omega
 clear hr1 hlen hk1 hg c20 HA;go_wp2_with fail
 go_loopw [14] (λi wr=>∃(k:Nat),i=.int .i64 k/\k<=n/\Hid (Wrote W1 b v (bs++qBv (qLg (r.take k))) wr)) (λi _=>n-(intOf i).toNat)
 case atStart=>exact⟨0,rfl,Nat.zero_le _,by show Wrote _ _ _ _ _;simp only[List.take_zero,qLg,List.flatMap_nil,qB7,List.append_nil];exact Wrote.refl (uh HW1)⟩
 case round =>
  obtain⟨k,rfl,hk,HO⟩:=hrel
  by_cases hlk:k<n
  ·obtain⟨v',hwr,hvr,hkr⟩:=uh HO
   have hkn:k<r.length:=by rw[uh HLN];exact hlk
   obtain⟨x0,x1,x2,x3,x4⟩:=((uh HR).keeps hkr (uh HG)).cells k hkn;have HTK:=hide (qSt r k hkn)
   have HNX:=hide (show ∀n,n∈[(Dr.itAt r k).n,(Dr.itAt r k).t,(Dr.itAt r k).k,(Dr.itAt r k).d]->0<=n/\n<=9223372036854775807 from λn hn=>uh HNR n (by
        have e:qLg (r.take (k+1)++r.drop (k+1))=qLg r:=by rw[List.take_append_drop]
        rw[<-e,qM4,qSt r k hkn];simp only[List.mem_append]
        exact .inl (.inr hn)))
   have HLT:=hide hwr.lt;have HWr:=hide hwr;have HVr:=hide hvr;have HKr:=hide hkr;have hk0:(0:Int)<=(k:Int):=by omega
   have hkE:(k:Int)<(n:Int):=by omega
   generalize Dr.itAt r k=x at *;have hlb:(bs++qBv (qLg (r.take k))).length<=140737488354240:=by
    have h1:=qA0 (qLg (r.take k));rw[qL4,List.length_take]at h1;rw[List.length_append];omega
   clear hwr hvr hkr HO;obtain⟨wa,hwa⟩:∃wa,wa=wr.alloc (.cells #[.int .i64 x.t,.int .i64 x.k,.int .i64 x.d,.int .i64 x.n,.int .i64 x.v] 254):=⟨_,rfl⟩;have HBa:=hide (show Blk wa wr.heap.size [.int .i64 x.t,.int .i64 x.k,.int .i64 x.d,.int .i64 x.n,.int .i64 x.v] 254 by rw[hwa];exact Blk.new wr _ _);have HKa:=hide (show Keeps (λ_=>False) wr wa by rw[hwa];exact(Keeps.refl _ _).alloc _);have HWa:=hide ((uh HWr).still (uh HKa));have HNF:=hide (show ¬qCc b v' wr.heap.size from λhf=>by have:=uh HLT _ hf;omega);obtain⟨n0,n1⟩:=uh HNX x.n (by simp);have hc3:wa.cell? ⟨wr.heap.size,3,none⟩=some (.int .i64 x.n):=(uh HBa).cell rfl;have HEQ:=hide hwa.symm;clear hwa;go_wp2_with fail
   rw[uh HEQ];refine(qDs b v' _ x.n wa (uh HWa) n0 n1 (by omega)).mono ?_;rintro e w2 ⟨rfl,v2,hw2,hv2,hk2⟩;have hlt2:wr.heap.size<wa.heap.size:=(uh HBa).lt;have HB2:=hide ((uh HBa).keeps hk2 (uh HNF));have HNF2:=hide (qFd (uh HNF) hv2 hlt2);have HW2:=hide hw2;have HV2:=hide hv2;have HK2:=hide hk2;have HL2:=hide hw2.lt;clear hw2 hv2 hk2 hc3 HBa;go_wp2_with fail
   refine(qPu wr.heap.size w2).mono ?_;rintro e w3 ⟨pv,rfl,hown3,hk3⟩;obtain⟨pa,pcap,hpv,_⟩:=qCh hown3;subst hpv;have HW3:=hide ((uh HW2).still hk3);have HB3:=hide ((uh HB2).keeps hk3 (λh=>h));have HO3:=hide hown3;have HK3:=hide hk3;clear hown3 hk3;go_wp2_with fail
   refine(qFg b v2 _ _ w2.heap.size wr.heap.size [0,1,2] [x.t,x.k,x.d] w3 (uh HW3) (uh HO3) (qX1 (uh HB3)) (uh HNF2) (λi hi h=>by have:=uh HL2 i h;omega) (λn hn=>uh HNX n (by simp at hn ⊢;exact .inr hn)) (by have:=qBs x.n;rw[List.length_append];show _+10*3<=_;omega) (by simp)).mono ?_;rintro e w4 ⟨rfl,hw4⟩
   have HF:=hide (show Wrote W1 b v (bs++qBv (qLg (r.take (k+1)))) w4 by
      have hA:=Wrote.then (uh HVr) (uh HKr) (Wrote.pre (uh HKa) (Wrote.then (uh HV2) (uh HK2) (Wrote.pre (uh HK3) hw4)));rw[uh HTK,qAo];have e:qBv [x.n,x.t,x.k,x.d]=enc x.n++qBv [x.t,x.k,x.d]:=qAz _ _;rw[e];simp only[List.append_assoc]at hA ⊢
      exact hA)
   clear hw4;go_wp2
   go_roundw
   case rel=>exact⟨k+1,by go_num,by omega,HF⟩
   case measure=>simp[intOf];omega
  ·have hkE:k=n:=by omega
   subst hkE;go_wp2
   go_end0
   refine⟨rfl,?_⟩;have h:=uh HO;rw[<-uh HLN,List.take_length]at h;exact Wrote.pre (uh HK1) h
end
section
open Go.RowKit
attribute [local go_sem ↓] Mk.execOp_fieldMk
attribute [local go_sem] Mk.run_fieldMk0 Mk.run_fieldMk1
theorem Wrote.kp{w w1:World}{b:Nat}{v:Value}{bs:List Nat}(h:Wrote w b v bs w1): Keeps (qCc b v) w w1:=by obtain⟨_,_,_,hk⟩:=h;exact hk
theorem Wrote.still{w w1 w2:World}{b:Nat}{v:Value}{bs:List Nat}(h:Wrote w b v bs w1)(hk:Keeps (λ_=>False) w1 w2): Wrote w b v bs w2:=by
 obtain⟨v',a,c,d⟩:=h;exact⟨v',a.still hk,c,d.trans hk (λ_ h=>h.elim)⟩
theorem qB5(b:Nat)(v:Value)(bs:List Nat)(n:Int)(w w1:World)(h:Wrote w b v bs w1)(n0:0<=n)(n1:n<=9223372036854775807)(hl:bs.length<=140737488355300):
  Calls Tryz.prog 58 #[.pointer (some ⟨b,0,none⟩),.int .i64 n] w1 λe w'=>e=.returned (.tuple #[])/\Wrote w b v (bs++enc n) w':=by
 obtain⟨v',a,c,d⟩:=h;exact(qDs b v' bs n w1 a n0 n1 hl).mono λe w' ⟨he,hw⟩=>⟨he,Wrote.then c d hw⟩
def qDe(l:List Bk): List Int:=l.flatMap λb=>[b.sz,b.t]
theorem qPw(a b:List Bk): qDe (a++b)=qDe a++qDe b:=by simp[qDe]
theorem qJk(l:List Bk): (qDe l).length=2*l.length:=by
 induction l with
 | nil=>rfl
 | cons x l ih=>simp[qDe]at ih ⊢;omega
def qXj(l:List Bk)(t:Int): List Int:=((l.length-Mk.pastN l t:Nat):Int)::qDe (l.drop (Mk.pastN l t))
theorem qT3(l:List Bk)(t:Int): (qXj l t).length<=1+2*l.length:=by
 unfold qXj;rw[List.length_cons,qJk,List.length_drop];omega
def qOr(ls:Nat->List Bk)(n:Nat)(t:Int): List Int:=(List.range n).flatMap λi=>qXj (ls i) t
theorem qS6(ls:Nat->List Bk)(n:Nat)(t:Int): qOr ls (n+1) t=qOr ls n t++qXj (ls n) t:=by
 simp[qOr,List.range_succ]
theorem qL0(ls:Nat->List Bk)(n:Nat)(t:Int)(h:∀i,(ls i).length<=40): (qOr ls n t).length<=81*n:=by
 induction n with
 | zero=>simp[qOr]
 | succ n ih=>have h1:=qT3 (ls n) t;have h2:=h n;rw[qS6,List.length_append];omega
theorem qYh(l:List Bk)(p j:Nat)(x:Bk)(h:p+j<l.length)(hx:qCf l (p+j)=x): qDe ((l.drop p).take (j+1))=qDe ((l.drop p).take j)++[x.sz,x.t]:=by
 have hj:j<(l.drop p).length:=by rw[List.length_drop];omega
 rw[List.take_add_one,qPw,List.getElem?_eq_getElem hj];subst hx;simp[qDe,qCf,List.getD_eq_getElem?_getD,List.getElem?_eq_getElem h]
theorem zEz{l:List Bk}{i:Nat}(h:i<l.length): qCf l i∈l:=by
 have:qCf l i=l[i]:=by simp[qCf,List.getD_eq_getElem?_getD,List.getElem?_eq_getElem h]
 rw[this];exact List.getElem_mem h
theorem qVs(d rg:Nat)(qs:List (Nat×Option Nat))(c:Cfg)(ls:Nat->List Bk)(b:Nat)(v:Value)(bs:List Nat)(m:Int)(w:World)(h:DRep w d rg qs c ls)(hw:WRep w b v bs)(hf:∀i,qCc b v i->i≠d/\i≠rg/\∀j,j<qs.length->¬qf (qAt qs j) i)(hq2:qs.length<=16)(w0:0<=c.window)(w1:c.window<=1000)(m0:-100<=m)(m1:m<=4611686018427387904)(hl:∀i,(ls i).length<=40)(hr:∀i,∀b∈ls i,0<=b.sz/\b.sz<=4611686018427387904/\1<=b.t/\b.t<=40)(hbl:bs.length<=140737488300000):
  Calls Tryz.prog 156 #[.pointer (some ⟨d,0,none⟩),.pointer (some ⟨b,0,none⟩),.int .i64 m] w λe w'=>e=.returned (.tuple #[])/\Wrote w b v (bs++qBv (qOr ls qs.length (m-c.window))) w':=by
 obtain⟨n,hn⟩:∃n,n=qs.length:=⟨_,rfl⟩;have c20:w.cell? ⟨d,20,none⟩=some (.slice (some ⟨rg,0,none⟩) n n):=by rw[hn];exact h.blk.cell rfl
 have HD:=hide (show ∀w',Keeps (qCc b v) w w'->DRep w' d rg qs c ls from λw' hk=>h.keeps hk (λhi=>(hf d hi).1 rfl) (λhi=>(hf rg hi).2.1 rfl) (λj a hj hq hi=>(hf a hi).2.2 j hj hq));have HW:=hide hw;have HL:=hide hl;have HR:=hide hr;have HN:=hide hn;rw[<-hn]at hq2 ⊢;obtain⟨t,ht⟩:∃t,m-c.window=t:=⟨_,rfl⟩;rw[ht];have hsub:IntKind.i64.wrap (m-c.window)=t:=by rw[IntKind.wrap_i64];omega
 clear h hw hf hl hr hn;have hn0:(0:Int)<=(n:Int):=by omega
 go_enter Tryz.func156,Tryz.ntmps156
 go_wp2_with fail
 clear c20;go_loopw [15] (λi wr=>∃(k:Nat),i=.int .i64 k/\k<=n/\Hid (Wrote w b v (bs++qBv (qOr ls k t)) wr)) (λi _=>n-(intOf i).toNat)
 case atStart=>exact⟨0,rfl,Nat.zero_le _,by show Wrote _ _ _ _ _;simp only[qOr,List.range_zero,List.flatMap_nil,qB7,List.append_nil];exact Wrote.refl (uh HW)⟩
 case round =>
  obtain⟨k,rfl,hk,HO⟩:=hrel;have hk0:(0:Int)<=(k:Int):=by omega
  by_cases hlt:k<n
  ·have hkn:(k:Int)<(n:Int):=by omega
   have hkq:k<qs.length:=by have:=uh HN;omega
   have HDr:=hide (uh HD wr (uh HO).kp);obtain⟨q,hq'⟩:∃q,qAt qs k=q:=⟨_,rfl⟩;have cr:wr.cell? ⟨rg,k,none⟩=some (.pointer (some ⟨q.1,0,none⟩)):=by rw[<-hq'];exact(uh HDr).reg.cell (qF3 hkq)
   have c5:wr.cell? ⟨d,5,none⟩=some (.int .i64 c.window):=(uh HDr).blk.cell rfl;have HRow:=hide (show ∀w',Keeps (qCc b v) w w'->Mk.RowRep w' q.1 q.2 (ls k) from λw' hk'=>by rw[<-hq'];exact(uh HD w' hk').row k hkq);have HP:=hide (Mk.past_any q.1 q.2 (ls k) t wr (uh HRow wr (uh HO).kp) (by have:=uh HL k;omega));have HLk:=hide (qS6 ls k t);have HLN:=hide (qL0 ls k t (uh HL));obtain⟨l,hl⟩:∃l,ls k=l:=⟨_,rfl⟩;have HRl:=hide (uh HR k);have hlk:=uh HL k;rw[hl]at HRl HP HRow HLk hlk;have hple:=Mk.pastN_le l t;obtain⟨len,hlen⟩:∃len,l.length=len:=⟨_,rfl⟩;obtain⟨p,hp⟩:∃p,Mk.pastN l t=p:=⟨_,rfl⟩;have HSR:=hide (show qXj l t=((len-p:Nat):Int)::qDe (l.drop p) by unfold qXj;rw[hp,hlen]);rw[hp]at HP hple;rw[hlen]at hple hlk;have HLE:=hide hlen;obtain⟨r,hr⟩:∃r:Nat,len-p=r:=⟨_,rfl⟩;have hrI:(len:Int)-(p:Int)=(r:Int):=by omega
   have hwr1:IntKind.i64.wrap ((len:Int)-(p:Int))=(r:Int):=by rw[IntKind.wrap_i64];omega
   rw[hr]at HSR;clear hl hlen hp hq' hkq HDr;go_wp2_with fail
   refine(uh HP).mono ?_;rintro e W1 ⟨rfl,hk1⟩;have HO1:=hide ((uh HO).still hk1);clear hk1 cr c5 HP;go_wp2_with (go_at_call 198;refine(Mk.rowLen_int q.1 q.2 l len _ (uh HRow _ (uh HO1).kp) (by rw[uh HLE])).mono ?_;rintro e w' ⟨rfl,hw'⟩;rw[hw'];clear hw' w')
   have hlb:(bs++qBv (qOr ls k t)).length<=140737488320000:=by
    have h1:=qA0 (qOr ls k t);have h2:=uh HLN;rw[List.length_append];omega
   refine(qB5 b v _ r w W1 (uh HO1) (by omega) (by omega) (by omega)).mono ?_;rintro e W2 ⟨rfl,hw2⟩;have HO2:=hide hw2;clear hw2 HO1 HO;go_wp2_with fail
   go_loopw [9] (λi wr=>∃(j:Nat),i=.int .i64 ((p+j:Nat):Int)/\j<=r/\Hid (Wrote w b v (bs++qBv (qOr ls k t)++enc r++qBv (qDe ((l.drop p).take j))) wr)) (λi _=>len-(intOf i).toNat)
   case atStart=>exact⟨0,rfl,Nat.zero_le _,by show Wrote _ _ _ _ _;simp only[List.take_zero,qDe,List.flatMap_nil,qB7,List.append_nil];exact uh HO2⟩
   case round =>
    obtain⟨j,rfl,hj,HOr⟩:=hrel;obtain⟨pj,hpj⟩:∃pj,p+j=pj:=⟨_,rfl⟩;rw[hpj]
    by_cases hjr:j<r
    ·have hpl:pj<len:=by omega
     have hplI:(pj:Int)<(len:Int):=by omega
     have hpl2:pj<l.length:=by rw[uh HLE];exact hpl
     obtain⟨x,hx⟩:∃x,qCf l pj=x:=⟨_,rfl⟩;have HX:=hide hx;have HNX:=hide (qYh l p j x (by rw[hpj];exact hpl2) (by rw[hpj];exact hx));obtain⟨x0,x1,x2,x3⟩:=uh HRl x (by rw[<-hx];exact zEz hpl2);have HPL:=hide hpl2;have hlb2:(bs++qBv (qOr ls k t)++enc r++qBv (qDe ((l.drop p).take j))).length<=140737488330000:=by
      have h1:=qA0 (qDe ((l.drop p).take j));have h2:=qBs r;rw[qJk,List.length_take,List.length_drop,uh HLE]at h1;rw[List.length_append,List.length_append];omega
     clear hx hpl2
     go_wp2_with (first
        | (go_at_call 198;refine(Mk.rowLen_int q.1 q.2 l len _ (uh HRow _ (uh HOr).kp) (by rw[uh HLE])).mono ?_;rintro e w' ⟨rfl,hw'⟩;rw[hw'];clear hw' w')
        | (go_at_call 199;fail))
     refine(Mk.rowAt_is q.1 q.2 l pj x _ (uh HRow _ (uh HOr).kp) (uh HPL) (uh HX)).mono ?_;rintro e W3 ⟨rfl,hk3⟩;have HO3:=hide ((uh HOr).still hk3);clear hk3;go_wp2_with fail
     refine(qB5 b v _ x.sz w W3 (uh HO3) (by omega) (by omega) (by omega)).mono ?_;rintro e W4 ⟨rfl,hw4⟩;have HO4:=hide hw4;clear hw4 HO3;go_wp2_with fail
     refine(Mk.rowAt_is q.1 q.2 l pj x _ (uh HRow _ (uh HO4).kp) (uh HPL) (uh HX)).mono ?_;rintro e W5 ⟨rfl,hk5⟩;have HO5:=hide ((uh HO4).still hk5);clear hk5 HO4;go_wp2_with fail
     refine(qB5 b v _ x.t w W5 (uh HO5) (by omega) (by omega) (by have:=qBs x.sz;rw[List.length_append];omega)).mono ?_;rintro e W6 ⟨rfl,hw6⟩;have HO6:=hide hw6;clear hw6 HO5;go_wp2
     go_roundw
     case rel =>
      refine⟨j+1,by go_num,by omega,?_⟩;show Wrote _ _ _ _ _;have:=uh HO6;rw[uh HNX,qAo,qAz,qC3];simp only[List.append_assoc]at this ⊢;exact this
     case measure=>simp[intOf];omega
    ·have hjE:j=r:=by omega
     have hpl:pj=len:=by omega
     clear hpj;subst hpl;have hf:decide ((pj:Int)<(pj:Int))=false:=by simp
     go_wp2_with (go_at_call 198;refine(Mk.rowLen_int q.1 q.2 l pj _ (uh HRow _ (uh HOr).kp) (by rw[uh HLE])).mono ?_;rintro e w' ⟨rfl,hw'⟩;rw[hw'];clear hw' w')
     go_roundw
     case rel =>
      refine⟨k+1,by go_num,by omega,?_⟩;show Wrote _ _ _ _ _;have:=uh HOr;rw[uh HLk,uh HSR,qAo,qAz];rw[List.take_of_length_le (by rw[List.length_drop,uh HLE];omega)]at this;simp only[List.append_assoc]at this ⊢;exact this
     case measure=>simp[intOf];omega
  ·have hkE:k=n:=by omega
   subst hkE;go_wp2
   go_end0
   exact⟨rfl,uh HO⟩
end
section
open Go.RowKit
attribute [local go_sem ↓] Pa.execOp_loadP Pa.execOp_storeP qEa qDp qDo qE5
attribute [local go_sem] Pa.run_loadP qF4 qE6 qE7 qBf qAc qAb qH7 qF1
def qJ4(wd:Nat)(cs:List Int)(r:Nat): List Int:=(List.range wd).map λj=>cs.getD (r*16+j) 0
def qEi(rs wd:Nat)(cs:List Int): List Int:=(List.range rs).flatMap (qJ4 wd cs)
def qVk(c:Cfg)(p:Pa.Pn): List Int:=p.no::qEi c.rows.toNat c.width.toNat p.cs
def qDu(c:Cfg)(l:List Pa.Pn): List Int:=l.flatMap (qVk c)
def zFu(c:Cfg)(o:Pa.Pn)(cl:List Pa.Pn)(t:Int): List Int:=((qBb c o cl t).length:Int)::qDu c (qBb c o cl t)
theorem qJe(wd:Nat)(cs:List Int)(r:Nat): qJ4 (wd+1) cs r=qJ4 wd cs r++[cs.getD (r*16+wd) 0]:=by simp[qJ4,List.range_succ]
theorem qLx(rs wd:Nat)(cs:List Int): qEi (rs+1) wd cs=qEi rs wd cs++qJ4 wd cs rs:=by simp[qEi,List.range_succ]
theorem qMw(wd:Nat)(cs:List Int)(r:Nat): (qJ4 wd cs r).length=wd:=by simp[qJ4]
theorem qI8(rs wd:Nat)(cs:List Int): (qEi rs wd cs).length=rs*wd:=by
 induction rs with
 | zero=>simp[qEi]
 | succ n ih=>rw[qLx,List.length_append,qMw,ih,Nat.succ_mul]
theorem qQ0(c:Cfg)(a b:List Pa.Pn): qDu c (a++b)=qDu c a++qDu c b:=by simp[qDu]
theorem qQ8(c:Cfg)(p:Pa.Pn)(h3:c.rows.toNat<=3)(h16:c.width.toNat<=16): (qVk c p).length<=49:=by
 unfold qVk;rw[List.length_cons,qI8];have:=Nat.mul_le_mul h3 h16;omega
theorem qJ0(c:Cfg)(l:List Pa.Pn)(h3:c.rows.toNat<=3)(h16:c.width.toNat<=16): (qDu c l).length<=49*l.length:=by
 induction l with
 | nil=>simp[qDu]
 | cons p l ih =>
  have h1:=qQ8 c p h3 h16;have e:qDu c (p::l)=qVk c p++qDu c l:=by simp[qDu]
  rw[e,List.length_append,List.length_cons];omega
theorem qUu(c:Cfg)(L:List Pa.Pn)(k:Nat)(h:k<L.length): qDu c (L.take (k+1))=qDu c (L.take k)++qVk c (Pa.pnAt L k):=by
 rw[List.take_succ_eq_append_getElem h,qQ0]
 congr 1
 simp[qDu,Pa.pnAt,List.getD_eq_getElem?_getD,List.getElem?_eq_getElem h]
theorem qVm(d q:Nat)(og:Option Nat)(c:Cfg)(o:Pa.Pn)(cl:List Pa.Pn)(b:Nat)(v:Value)(bs:List Nat)(m:Int)(w:World)(h:ORep w d q og c o cl)(hw:WRep w b v bs)(hfd:¬qCc b v d)(hc:c.paned)(hl:cl.length<=1000)(hp:∀p∈cl,OkP c p)(ho:OkP c o)(hcs:∀x∈o.cs,0<=x/\x<=4611686018427387904)(hls:∀p∈cl,∀x∈p.cs,0<=x/\x<=4611686018427387904)(r0:0<=c.rows)(r3:c.rows<=3)(wd0:0<=c.width)(wd1:c.width<=16)(m0:-100<=m)(m1:m<=4611686018427387904)(hbl:bs.length<=140737480000000):
  Calls Tryz.prog 161 #[.pointer (some ⟨d,0,none⟩),.pointer (some ⟨b,0,none⟩),.int .i64 m] w λe w'=>e=.returned (.tuple #[])/\Wrote w b v (bs++qBv (zFu c o cl (m-c.window))) w':=by
 have c5:w.cell? ⟨d,5,none⟩=some (.int .i64 c.window):=h.blk.cell (by rw[qB2 c o q 5 (by omega)];rfl);have c7:w.cell? ⟨d,7,none⟩=some (.int .i64 c.rows):=h.blk.cell (by rw[qB2 c o q 7 (by omega)];rfl);have c8:w.cell? ⟨d,8,none⟩=some (.int .i64 c.width):=h.blk.cell (by rw[qB2 c o q 8 (by omega)];rfl);have hdl:=h.blk.lt;have hw0:=hc.w0;have hw1:=hc.w1;obtain⟨t,ht⟩:∃t,m-c.window=t:=⟨_,rfl⟩;have hsub:IntKind.i64.wrap (m-c.window)=t:=by rw[IntKind.wrap_i64];omega
 rw[ht];have HPN:=hide (qS3 d q og c o cl t w h hc hl hp ho);have HSO:=hide (show zFu c o cl t=((qBb c o cl t).length:Int)::qDu c (qBb c o cl t) from rfl)
 have HPL:=hide (show(qBb c o cl t).length<=1001 by
    unfold qBb;rw[List.length_append,List.length_drop]
    split <;> simp <;> omega)
 have HLS:=hide (show ∀p∈qBb c o cl t,OkP c p/\∀x∈p.cs,0<=x/\x<=4611686018427387904 from λp hp'=>by
    unfold qBb at hp';rcases List.mem_append.1 hp' with h1 | h1
    ·exact⟨hp p (List.mem_of_mem_drop h1),hls p (List.mem_of_mem_drop h1)⟩
    ·split at h1
     ·rw[List.mem_singleton]at h1;rw[h1];exact⟨ho,hcs⟩
     ·cases h1)
 generalize qBb c o cl t=L at *;have HW:=hide hw;have HFD:=hide hfd;have HTN:=hide ht;obtain⟨rs,hrs⟩:∃rs:Nat,c.rows=rs:=⟨c.rows.toNat,by omega⟩;obtain⟨wd,hwd⟩:∃wd:Nat,c.width=wd:=⟨c.width.toNat,by omega⟩;have HPA:=hide (show ∀p,qVk c p=p.no::qEi rs wd p.cs from λp=>by unfold qVk;rw[hrs,hwd];rfl);have HR3:=hide (show c.rows.toNat<=3/\c.width.toNat<=16 by omega);rw[hrs]at c7 r3;rw[hwd]at c8 wd1;clear hc hp ho hcs hls h hl hw hfd ht hrs hwd r0 wd0;have hrs3:rs<=3:=by omega
 have hwd16:wd<=16:=by omega
 go_enter Tryz.func161,Tryz.ntmps161
 go_wp2_with fail
 refine(uh HPN).mono ?_;rintro e W1 ⟨pv,rfl,hown1,hk1⟩;obtain⟨va,vcap,hv,hva⟩:=qCh hown1;subst hv;have HLT:=hide (uh HW).lt;have HW1:=hide (Wrote.refl ((uh HW).still hk1));have HK1:=hide hk1;have HOW:=hide hown1;have HVA:=hide hva;have d7:W1.cell? ⟨d,7,none⟩=some (.int .i64 rs):=hk1.cell c7 (λh=>h);have d8:W1.cell? ⟨d,8,none⟩=some (.int .i64 wd):=hk1.cell c8 (λh=>h);have hdl1:d<W1.heap.size:=Nat.lt_of_lt_of_le hdl hk1.size;have HSZ:=hide hk1.size;have HD7:=hide d7;have HD8:=hide d8;clear hk1 HPN hown1 hva c5 c7 c8 d7 d8 hdl hsub;generalize hn:L.length=n at *;have HN:=hide hn;clear hn;have hn1:n<=1001:=uh HPL;go_wp2_with fail
 refine(qB5 b v bs n W1 W1 (uh HW1) (by omega) (by omega) (by omega)).mono ?_;rintro e W2 ⟨rfl,hw2⟩;have HO2:=hide hw2;clear hw2 HW1;have hlen0:(bs++enc (n:Int)).length<=140737480000010:=by have:=qBs (n:Int);rw[List.length_append];omega
 obtain⟨bs0,hbs0⟩:∃bs0,bs++enc (n:Int)=bs0:=⟨_,rfl⟩;rw[hbs0]at hlen0 HO2;have HB0:=hide hbs0;clear hbs0;go_wp2_with fail
 go_loopw [26] (λi wr=>∃k:Nat,i=.int .i64 k/\k<=n/\Hid (Wrote W1 b v (bs0++qBv (qDu c (L.take k))) wr)) (λi _=>n-(intOf i).toNat)
 case atStart=>exact⟨0,rfl,Nat.zero_le _,by show Wrote _ _ _ _ _;simp only[List.take_zero,qDu,List.flatMap_nil,qB7,List.append_nil];exact uh HO2⟩
 case round =>
  obtain⟨k,rfl,hk2,HO⟩:=hrel;have hk0:(0:Int)<=(k:Int):=by omega
  by_cases hlk:k<n
  ·obtain⟨g,hg,hgb⟩:=uh HVA (by omega)
   subst hg;have hkl:k<L.length:=by rw[uh HN];exact hlk
   obtain⟨v',hwr,hvr,hkr⟩:=uh HO
   have HBW:=hide (show Pa.BRow wr g vcap L from by
      refine Pa.brow_of_owns (uh HN) (qRj (qNn (uh HOW) hkr (λi hi h=>?_)));have:g=i:=by simpa[Value.ownBlock] using hi
      have:=uh HLT i h
      omega)
   have hrg:=qAq ((uh HBW).range k hkl);rw[Pa.Pn.cells_length]at hrg;have hbv:qAu wr g (k*49) 49=.agg (Pa.pnAt L k).cells.toArray:=by unfold qAu;rw[hrg.1]
   have hbh:qA2 wr g (k*49) 49=true:=hrg.2;have HTK:=hide (qUu c L k hkl)
   have HM:=hide (uh HLS (Pa.pnAt L k) (by
        have:Pa.pnAt L k=L[k]:=by simp[Pa.pnAt,List.getD_eq_getElem?_getD,List.getElem?_eq_getElem hkl]
        rw[this];exact List.getElem_mem hkl))
   have HLK:=hide (show(bs0++qBv (qDu c (L.take k))).length<=140737481000000 by
      have h1:=qA0 (qDu c (L.take k));have h2:=qJ0 c (L.take k) (uh HR3).1 (uh HR3).2;rw[List.length_take]at h2;rw[List.length_append]
      omega)
   obtain⟨bk,hbk⟩:∃bk,bs0++qBv (qDu c (L.take k))=bk:=⟨_,rfl⟩;rw[hbk]at HLK hwr;have HBK:=hide hbk;have HWr:=hide hwr;have HVr:=hide hvr;have HKr:=hide hkr;have HLTr:=hide hwr.lt;clear hrg hkl hbk hwr hvr hkr HO;generalize Pa.pnAt L k=x at *;obtain⟨W2,hst,hb2,hk2w⟩:=qMi x wr;have HB2:=hide hb2;have hxl:=x.len;have hxc:=x.cells_length;have HKa:=hide hk2w;have HWa:=hide ((uh HWr).still hk2w);have HNF:=hide (show ¬qCc b v' wr.heap.size from λhf=>by have:=uh HLTr _ hf;omega);have HNFd:=hide (qFd (uh HFD) (uh HVr) hdl1);have hgs:g≠wr.heap.size:=by have:=(uh HBW).lt;omega
   have hin:(k:Int)<(n:Int):=by omega
   have hno:W2.cell? ⟨wr.heap.size,0,none⟩=some (.int .i64 x.no):=hb2.cell rfl;have HC7:=hide (show ∀w',Keeps (qCc b v') W2 w'->w'.cell? ⟨d,7,none⟩=some (.int .i64 rs) from λw' hk'=>hk'.cell (hk2w.cell ((uh HKr).cell (uh HD7) (uh HFD)) (λh=>h)) (uh HNFd));have HC8:=hide (show ∀w',Keeps (qCc b v') W2 w'->w'.cell? ⟨d,8,none⟩=some (.int .i64 wd) from λw' hk'=>hk'.cell (hk2w.cell ((uh HKr).cell (uh HD8) (uh HFD)) (λh=>h)) (uh HNFd));have hno0:=(uh HM).1.1;have hno1:=(uh HM).1.2.1;have HXB:=hide (uh HM).2;have hbk1:=uh HLK;clear hb2 hk2w;go_wp2_with fail
   refine(qDs b v' bk x.no W2 (uh HWa) hno0 (by omega) (by omega)).mono ?_;rintro e W3 ⟨rfl,hw3⟩;have HO3:=hide hw3;clear hw3 hno hbv hbh hst;have e7:W3.cell? ⟨d,7,none⟩=some (.int .i64 rs):=uh HC7 W3 (uh HO3).kp;go_wp2_with fail
   clear e7;generalize hxb:wr.heap.size=xb at *;obtain⟨wo,hwo⟩:∃wo,wo=wr:=⟨_,rfl⟩;rw[<-hwo]at HKa HKr HBW;clear hwo hxb HWr HLTr;go_loopw [39] (λi wr=>∃r:Nat,i=.int .i64 r/\r<=rs/\Hid (Wrote W2 b v' (bk++enc x.no++qBv (qEi r wd x.cs)) wr)) (λi _=>rs-(intOf i).toNat)
   case atStart=>exact⟨0,rfl,Nat.zero_le _,by show Wrote _ _ _ _ _;simp only[qEi,List.range_zero,List.flatMap_nil,qB7,List.append_nil];exact uh HO3⟩
   case round =>
    obtain⟨r,rfl,hr2,HOr⟩:=hrel;have hr0:(0:Int)<=(r:Int):=by omega
    by_cases hrl:r<rs
    ·have hrI:(r:Int)<(rs:Int):=by omega
     have hr3:(r:Int)<3:=by omega
     have e8:wr.cell? ⟨d,8,none⟩=some (.int .i64 wd):=uh HC8 wr (uh HOr).kp;obtain⟨bk2,hbk2⟩:∃bk2,bk++enc x.no++qBv (qEi r wd x.cs)=bk2:=⟨_,rfl⟩;have hbl2:bk2.length<=140737481001000:=by
      have h1:=qA0 (qEi r wd x.cs);have h2:=qBs x.no;rw[qI8]at h1;have:=Nat.mul_le_mul (show r<=3 by omega) hwd16;rw[<-hbk2,List.length_append,List.length_append];omega
     rw[hbk2]at HOr;have HBK2:=hide hbk2;clear hbk2;go_wp2_with fail
     clear e8;obtain⟨wp,hwp⟩:∃wp,wp=wr:=⟨_,rfl⟩;clear hwp;go_loopw [47] (λi wr=>∃j:Nat,i=.int .i64 j/\j<=wd/\Hid (Wrote W2 b v' (bk2++qBv (qJ4 j x.cs r)) wr)) (λi _=>wd-(intOf i).toNat)
     case atStart=>exact⟨0,rfl,Nat.zero_le _,by show Wrote _ _ _ _ _;simp only[qJ4,List.range_zero,List.map_nil,qB7,List.append_nil];exact uh HOr⟩
     case round =>
      obtain⟨j,rfl,hj2,HOj⟩:=hrel;have hj0:(0:Int)<=(j:Int):=by omega
      by_cases hjl:j<wd
      ·have hjI:(j:Int)<(wd:Int):=by omega
       have hj16:(j:Int)<16:=by omega
       have hil:r*16+j<x.cs.length:=by omega
       obtain⟨y,hy⟩:∃y,x.cs.getD (r*16+j) 0=y:=⟨_,rfl⟩;have hy2:x.cs[r*16+j]?=some y:=by rw[<-hy,List.getD_eq_getElem?_getD,List.getElem?_eq_getElem hil];rfl
       obtain⟨y0,y1⟩:=uh HXB y (List.mem_of_getElem? hy2)
       have hcy:wr.cell? ⟨xb,1+r*16+j,none⟩=some (.int .i64 y):=(uh HOj).kp.cell ((uh HB2).cell (by
            unfold Pa.Pn.cells;rw[show 1+r*16+j=(r*16+j)+1 by omega,List.getElem?_cons_succ,List.getElem?_map,hy2]
            rfl)) (uh HNF)
       have HNX:=hide (show qJ4 (j+1) x.cs r=qJ4 j x.cs r++[y] by rw[qJe,hy]);have hbl3:(bk2++qBv (qJ4 j x.cs r)).length<=140737481002000:=by
        have h1:=qA0 (qJ4 j x.cs r);rw[qMw]at h1;rw[List.length_append];omega
       clear hy hy2 hil;go_wp2_with fail
       refine(qB5 b v' _ y W2 wr (uh HOj) y0 (by omega) (by omega)).mono ?_;rintro e W5 ⟨rfl,hw5⟩;have HO5:=hide hw5;clear hw5 hcy;go_wp2
       go_roundw
       case rel =>
        refine⟨j+1,by go_num,by omega,?_⟩;show Wrote _ _ _ _ _;have:=uh HO5;rw[uh HNX,qAo,qC3];simp only[List.append_assoc]at this ⊢;exact this
       case measure=>simp[intOf];omega
      ·have hjE:j=wd:=by omega
       subst hjE;go_wp2
       go_roundw
       case rel =>
        refine⟨r+1,by go_num,by omega,?_⟩;show Wrote _ _ _ _ _;have:=uh HOj;rw[<-uh HBK2]at this;rw[qLx,qAo];simp only[List.append_assoc]at this ⊢;exact this
       case measure=>simp[intOf];omega
    ·have hrE:r=rs:=by omega
     subst hrE;go_wp2
     go_roundw
     case rel =>
      refine⟨k+1,by go_num,by omega,?_⟩;show Wrote _ _ _ _ _;have h5:=Wrote.then (uh HVr) (uh HKr) (Wrote.pre (uh HKa) (uh HOr));rw[uh HTK,qAo,uh HPA,qAz];rw[<-uh HBK]at h5;simp only[List.append_assoc]at h5 ⊢;exact h5
     case measure=>simp[intOf];omega
  ·have hkE:k=n:=by omega
   subst hkE;go_wp2
   go_end0
   refine⟨rfl,Wrote.pre (uh HK1) ?_⟩;have h5:=uh HO;rw[List.take_of_length_le (by rw[uh HN];omega),<-uh HB0]at h5;rw[uh HSO,qAz,<-List.append_assoc];exact h5
end
end Go.Proofs.YtahnliehdjncdabGreatDoor
