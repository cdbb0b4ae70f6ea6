import Derived.BigRegion
import Derived.Deep.RegionHeld3
import Derived.Test.YtahnliehdjncdabGreatDoorXAA
import Derived.Shelf.Spec.TrailingZeros
import Derived.Deep.AppendLies
import Derived.Laws.AppendOwnNone
import Derived.Laws.Bits128
import Derived.Laws.BitsAllLaws
set_option maxRecDepth 100000
set_option maxHeartbeats 16000000
namespace Go.Proofs.YtahnliehdjncdabGreatDoor
section
open Go.RowKit
theorem qWp(hi lo:Int)(w:World)(h0:0<=hi)(h1:hi<=268435456)(l0:0<=lo)(l1:lo<18446744073709551616):
  Calls Tryz.prog 178 #[.int .u64 hi,.int .u64 lo,.int .u64 2305843009213693951] w λe w'=>e=.returned (.int .u64 ((hi*18446744073709551616+lo)%2305843009213693951))/\Keeps (λ_=>False) w w':=by
 have hm:hi.tmod 2305843009213693951=hi:=by rw[Int.tmod_eq_emod_of_nonneg h0];omega
 have HD:=hide (qPc hi lo w h0 h1 l0 l1)
 go_enter Tryz.func178,Tryz.ntmps178
 go_wp2_with fail
 refine(uh HD).mono ?_
 rintro e w1 ⟨⟨q,rfl⟩,hk⟩
 have HK:=hide hk
 clear hk
 go_wp2
 go_ret
 exact⟨rfl,uh HK⟩
def qDn(a b key:Int): Int:=(a*key+b)%2305843009213693951
theorem qIj(a b key:Int): 0<=qDn a b key/\qDn a b key<2305843009213693951:=by unfold qDn;omega
theorem qJx(a b key:Int)(w:World)(a0:0<=a)(a1:a<2305843009213693951)(b0:0<=b)(b1:b<2305843009213693951)(k0:0<=key)(k1:key<=2147483648):
  Calls Tryz.prog 132 #[.agg #[.int .i64 a,.int .i64 b],.int .i64 key] w λe w'=>e=.returned (.int .i64 (qDn a b key))/\Keeps (λ_=>False) w w':=by
 have p0:0<=a*key:=Int.mul_nonneg a0 k0
 have p1:a*key<=2305843009213693950*2147483648:=Int.mul_le_mul (by omega) k1 k0 (by omega)
 have wa:IntKind.u64.wrap a=a:=by rw[IntKind.wrap_u64];omega
 have wb:IntKind.u64.wrap b=b:=by rw[IntKind.wrap_u64];omega
 have wk:IntKind.u64.wrap key=key:=by rw[IntKind.wrap_u64];omega
 have HM:=hide (λw=>qK1 a key a0 (by omega) k0 (by omega) w)
 go_enter Tryz.func132,Tryz.ntmps132
 go_wp2_with fail
 refine(uh HM _).mono ?_
 rintro e w' ⟨rfl,rfl⟩
 have hadd:=λW=>qPl (a*key%18446744073709551616) b (by omega) b0 W
 have HP:=hide (show qDn a b key=(a*key+b)%2305843009213693951 from rfl)
 have HK:=hide ((Keeps.refl (λ_=>False) w).alloc (.cells #[.int .i64 a,.int .i64 b] 29))
 have hx:(w.alloc (.cells #[.int .i64 a,.int .i64 b] 29)).cell? ⟨w.heap.size,1,none⟩=some (.int .i64 b):=(Blk.new w [.int .i64 a,.int .i64 b] 29).cell rfl
 generalize w.alloc (.cells #[.int .i64 a,.int .i64 b] 29)=W at *
 generalize a*key=p at *
 go_wp2_with fail
 refine(qWp _ _ _ (by omega) (by omega) (by omega) (by omega)).mono ?_
 rintro e w1 ⟨rfl,hk⟩
 have HK2:=hide ((uh HK).then hk)
 clear hk
 have hf:IntKind.i64.wrap (((p/18446744073709551616+(p%18446744073709551616+b)/18446744073709551616)*18446744073709551616+(p+b)%18446744073709551616)%2305843009213693951)=(p+b)%2305843009213693951:=by
  rw[IntKind.wrap_i64];omega
 go_wp2
 go_ret
 exact⟨by rw[uh HP];rfl,uh HK2⟩
def Tab(w:World): Prop:=TabAt 2 Lib.deBruijn64tab w
theorem Tab.keeps{M:Nat->Prop}{w w':World}(h:Tab w)(hk:Keeps M w w')(h0:¬M 2): Tab w':=λj hj=>hk.cell (h j hj) h0
theorem Tab.lt{w:World}(h:Tab w): 2<w.heap.size:=World.block_lt_of_cell? w _ (h 0 (by decide))
theorem tz64_core(x k idx:Nat)(w:World)(hx0:((x:Int)==0)=false)(key:IntKind.u64.wrap (bits BinOp.and IntKind.u64 (x:Int) (IntKind.u64.wrap (-(x:Int)))*285870213051353865)/288230376151711744=(idx:Int))(hi:idx<64)(hk:k<64)(hcell:w.cell? ⟨2,idx,none⟩=some (.int .u8 k)):
  Calls Tryz.prog 232 #[.int .u64 x] w λe w'=>e=.returned (.int .i64 k)/\w'=w:=by
 go_enter Tryz.func232,Tryz.ntmps232
 go_wp2_with (simp only[key])
 go_ret
 exact⟨rfl,rfl⟩
theorem tz64_zero(w:World):
  Calls Tryz.prog 232 #[.int .u64 0] w λe w'=>e=.returned (.int .i64 64)/\w'=w:=by
 go_enter Tryz.func232,Tryz.ntmps232
 go_wp2
 go_ret
 exact⟨rfl,rfl⟩
theorem qYx(x:Nat)(hx:x<18446744073709551616)(w:World)(hT:Tab w):
  Calls Tryz.prog 232 #[.int .u64 x] w λe w'=>e=.returned (.int .i64 (Lib.ctz 64 x))/\w'=w:=by
 by_cases hx0:x=0
 ·subst hx0
  exact tz64_zero w
 ·obtain⟨hlow,hk⟩:=Lib.lowest_bit 64 x hx0 hx
  obtain⟨hi,htab⟩:=Lib.deBruijn64_at _ hk
  have hcell:=hT _ hi
  rw[htab]at hcell
  exact tz64_core x _ _ w (by simp;omega) (tz64_key x _ hx hx0 hlow) hi hk hcell
def qJm(q:Int): Int:=min (1+(Lib.ctz 64 q.toNat:Int)) 40
theorem qZh(q:Int): 1<=qJm q/\qJm q<=40:=by unfold qJm;omega
theorem qY4(q:Int)(w:World)(q0:0<=q)(q1:q<9223372036854775808)(hT:Tab w):
  Calls Tryz.prog 196 #[.int .i64 q] w λe w'=>e=.returned (.int .i64 (qJm q))/\w'=w:=by
 obtain⟨x,rfl⟩:=Int.eq_ofNat_of_zero_le q0
 have wq:IntKind.u64.wrap (x:Int)=(x:Int):=by rw[IntKind.wrap_u64];omega
 have HZ:=hide (qYx x (by omega) w hT)
 have HR:=hide (show qJm (x:Int)=min (1+(Lib.ctz 64 x:Int)) 40 by unfold qJm;rw[Int.toNat_natCast])
 have hz:Lib.ctz 64 x<=64:=by
  by_cases hx0:x=0
  ·subst hx0;decide
  ·exact Nat.le_of_lt (Lib.lowest_bit 64 x hx0 (by omega)).2
 generalize Lib.ctz 64 x=z at *
 clear hT
 go_enter Tryz.func196,Tryz.ntmps196
 go_wp2_with fail
 refine(uh HZ).mono ?_
 rintro e w' ⟨rfl,rfl⟩
 by_cases hc:(40:Int)<1+(z:Int)
 ·have HM:=hide (show qJm (x:Int)=40 by rw[uh HR];omega)
  go_wp2
  go_ret
  exact⟨qBc (uh HM).symm,rfl⟩
 ·have HM:=hide (show qJm (x:Int)=1+(z:Int) by rw[uh HR];omega)
  go_wp2
  go_ret
  exact⟨qBc (uh HM).symm,rfl⟩
theorem qKe{P:Program}{w:World}(base:Nat)(t ty e:TypeId)(i:TypeInfo)(size:Nat)(ht:P.underlying t=some (.slice e))(hi:P.info? e=some i)(v:Value)(n:Nat)(xs:List Value)(hown:w.ownsRow base e size v n xs)(ad:Option Addr)(c:Nat):
  (Builtin.append_ #[t,t] ty #[v,.slice ad 0 c]).run P w=.ok v w:=by
 rcases hown.2 with ⟨rfl,rfl⟩ | ⟨g,cap,cur,rfl,_,_,hnc,_⟩
 ·cases ad <;> simp[Builtin.append_,run_underlying ht,sizeOf,typeInfo,hi,Builtin.lenOf,Builtin.firstCells,loadCells,loadCellsFrom]
 ·cases ad <;> simp[Builtin.append_,run_underlying ht,sizeOf,typeInfo,hi,Builtin.lenOf,Builtin.firstCells,hnc,storeCells,loadCells,loadCellsFrom]
theorem qDy{P:Program}{w:World}{ops:Array Oper}{rest:List Oper}{o:Oper}{a:Act}{Q:Exit->Act->World->Prop}(hgd:o.guard=none)(s x:Operand)(t:TypeId)(ho:o.op=.call { callee:=.builtin .append,args:=#[s,x],argTypes:=#[t,t] })(base:Nat)(e:TypeId)(i:TypeInfo)(size:Nat)(ht:P.underlying t=some (.slice e))(hi:P.info? e=some i)(v:Value)(n:Nat)(xs:List Value)(hs:a.eval s=v)(hown:w.ownsRow base e size v n xs)(ad:Option Addr)(c:Nat)(hx:a.eval x=.slice ad 0 c)(h:wpList P ops Q rest (a.put o.dst v) w): wpList P ops Q (o::rest) a w:=by
 refine wpList_plain hgd λK hK=>?_
 have hrun:=qKe (P:=P) (w:=w) base t o.type e i size ht hi v n xs hown ad c
 unfold Oper.wp
 simp[execOp,ho,resolve,invoke,builtin,hs,hx,hrun,Result.andThen]
 exact hK _ _ h
theorem qPq{M:Nat->Prop}{w w':World}{base:Nat}{t size:Nat}{v:Value}{n:Nat}{xs:List Value}(h:w.ownsRow base t size v n xs)(hk:Keeps M w w')(hn:∀i,v.ownBlock=some i->¬M i): w'.ownsRow base t size v n xs:=by
 refine⟨h.1,?_⟩
 rcases h.2 with h2 | ⟨g,cap,cur,rfl,hb,hg,r⟩
 ·exact .inl h2
 ·exact .inr ⟨g,cap,cur,rfl,hb,by rw[hk.block g (Array.getElem?_eq_some_iff.1 hg).1 (hn g rfl)];exact hg,r⟩
theorem qB4{w:World}{base T size n:Nat}{v:Value}{xs:List Value}(h:w.ownsRow base T size v n xs): ∃a cap,v=.slice a n cap/\(0<n->∃g,a=some ⟨g,0,none⟩/\base<=g):=by
 rcases h.2 with ⟨h1,h2⟩ | ⟨g,cap,cur,h1,hb,_⟩
 ·exact⟨none,0,by rw[h1,h2],λh=>by omega⟩
 ·exact⟨some ⟨g,0,none⟩,cap,h1,λ_=>⟨g,rfl,hb⟩⟩
def qHj: Nat->Nat->List Nat
 | 0,n=>[n]
 | f+1,n=>if n<=127 then[n] else(n%128+128)::qHj f (n/128)
def enc(n:Int): List Nat:=qHj 9 n.toNat
def qB2(l:List Int): List Nat:=l.flatMap enc
theorem qC8: qB2 []=[]:=rfl
theorem qBk(n:Int)(l:List Int): qB2 (n::l)=enc n++qB2 l:=by simp[qB2]
theorem qAr(a b:List Int): qB2 (a++b)=qB2 a++qB2 b:=by simp[qB2]
theorem qCo(n:Int): qB2 [n]=enc n:=by simp[qB2]
theorem qRw(f n:Nat): (qHj f n).length<=f+1:=by
 induction f generalizing n with
 | zero=>simp[qHj]
 | succ f ih =>
  unfold qHj
  split
  ·simp
  ·have:=ih (n/128);simp;omega
theorem qBd(n:Int): (enc n).length<=10:=qRw 9 _
theorem qAv(l:List Int): (qB2 l).length<=10*l.length:=by
 induction l with
 | nil=>simp[qB2]
 | cons a l ih=>have:=qBd a;rw[qBk,List.length_append,List.length_cons];omega
theorem qUs(f n:Nat)(h:n<128 ^ (f+1)): ∀x∈qHj f n,x<256:=by
 induction f generalizing n with
 | zero=>intro x hx;simp[qHj]at hx;subst hx;omega
 | succ f ih =>
  intro x hx
  unfold qHj at hx
  split at hx
  ·simp at hx;omega
  ·rcases List.mem_cons.1 hx with hx | hx
   ·omega
   ·exact ih (n/128) (by have h2:128 ^ (f+1+1)=128 ^ (f+1)*128:=Nat.pow_succ .. ;rw[h2]at h;exact(Nat.div_lt_iff_lt_mul (by omega)).2 h) x hx
theorem qXd(n:Int)(h:n<=9223372036854775807): ∀x∈enc n,x<256:=qUs 9 _ (by
   have:(128:Nat) ^ (9+1)=1180591620717411303424:=by decide
   rw[this];omega)
def qBy(l:List Nat): List Value:=l.map λ(n:Nat)=>.int .u8 (n:Int)
theorem qNw(a b:List Nat): qBy (a++b)=qBy a++qBy b:=by simp[qBy]
theorem zAm: (Tryz.prog.info? 5).map (λi=>(i.zero,i.size,i.bytes))=some (some (.int .u8 0),1,1):=by kernel_rfl
def WRow(w:World)(v:Value)(bs:List Nat): Prop :=
 w.ownsRow 0 5 1 v bs.length (qBy bs)\/∃g,v=.slice (some ⟨g,0,none⟩) bs.length bs.length/\w.heap[g]?=some (.cells (qBy bs).toArray 5 (bs.length,bs.length+1))
theorem WRow.lt{w:World}{v:Value}{bs:List Nat}(h:WRow w v bs)(i:Nat)(hi:v.ownBlock=some i): i<w.heap.size:=by
 rcases h with h | ⟨g,rfl,h⟩
 ·exact(h.lt i hi).2
 ·have:g=i:=by simpa[Value.ownBlock] using hi
  subst this
  exact(Array.getElem?_eq_some_iff.1 h).1
theorem WRow.keeps{M:Nat->Prop}{w w':World}{v:Value}{bs:List Nat}(h:WRow w v bs)(hk:Keeps M w w')(hn:∀i,v.ownBlock=some i->¬M i): WRow w' v bs:=by
 rcases h with h | ⟨g,rfl,h⟩
 ·exact .inl (qPq h hk hn)
 ·exact .inr ⟨g,rfl,by rw[hk.block g (Array.getElem?_eq_some_iff.1 h).1 (hn g rfl)];exact h⟩
theorem WRow.form{w:World}{v:Value}{bs:List Nat}(h:WRow w v bs): ∃a cap,v=.slice a bs.length cap:=by
 rcases h with h | ⟨g,rfl,h⟩
 ·obtain⟨a,cap,hv,_⟩:=qB4 h;exact⟨a,cap,hv⟩
 ·exact⟨_,_,rfl⟩
theorem WRow.cells{w:World}{v:Value}{bs:List Nat}(h:WRow w v bs): (bs.length=0/\v=.slice none 0 0)\/∃g cap,v=.slice (some ⟨g,0,none⟩) bs.length cap/\∀(i:Nat) u,(qBy bs)[i]?=some u->w.cell? ⟨g,i,none⟩=some u:=by
 rcases h with h | ⟨g,rfl,h⟩
 ·rcases h.2 with ⟨h1,h2⟩ | ⟨g,cap,cur,h1,_,h3,h4,h5,h6,h7⟩
  ·exact .inl ⟨h2,h1⟩
  ·refine .inr ⟨g,cap,h1,λi u hu=>?_⟩
   have hi:i<bs.length:=by have:=(List.getElem?_eq_some_iff.1 hu).1;simpa[qBy] using this
   have:cur[i]?=some u:=by
    rw[<-h7,List.getElem?_take,if_pos (by omega)]at hu
    simpa using hu
   simp[World.cell?,h3,this]
 ·refine .inr ⟨g,_,rfl,λi u hu=>?_⟩
  simp[World.cell?,h,hu]
theorem qPu(w:World)(ty:TypeId)(v:Value)(bs:List Nat)(h:WRow w v bs)(ad:Addr)(c:Nat)(y:Nat)(hnews:w.cell? ad=some (.int .u8 (y:Int)))(had:ad.add 0=ad)(hl:bs.length<=140737488355320):
  ∃g cap w',(Builtin.append_ #[136,136] ty #[v,.slice (some ad) 1 c]).run Tryz.prog w=.ok (.slice (some ⟨g,0,none⟩) (bs.length+1) cap) w' /\
   w'.ownsRow 0 5 1 (.slice (some ⟨g,0,none⟩) (bs.length+1) cap) (bs.length+1) (qBy bs++[.int .u8 (y:Int)])/\w.grownBy w' v.ownBlock/\(v.ownBlock=some g\/g=w.heap.size)/\g<w'.heap.size:=by
 obtain⟨i0,hi0,hz0,hz1,hz2⟩:=info_parts zAm
 have hn:∀(j:Nat) u,[Value.int .u8 (y:Int)][j]?=some u->w.cell? (ad.add j)=some u:=by
  intro j u hu
  cases j with
  | zero=>rw[had,hnews];exact hu
  | succ j=>simp at hu
 rcases h with h | ⟨g,rfl,h⟩
 ·exact run_append_lies (P:=Tryz.prog) w 136 ty 0 5 i0 _ 1 1 Tryz.underlying136 hi0 hz0 hz1 hz2 rfl (by omega) v bs.length (qBy bs) h ad 1 c [.int .u8 (y:Int)] rfl hn (by simp[Value.oneCell']) (by omega) (by unfold maxLen;omega) (by omega) (Nat.zero_le _) w.heap.size rfl
 ·have hr:=run_append_grow (P:=Tryz.prog) w 136 ty 5 i0 _ Tryz.underlying136 hi0 hz0 ⟨g,0,none⟩ bs.length bs.length (qBy bs) (by simp[qBy,hz1]) (λj u hu=>by
      have hadd:(⟨g,0,none⟩:Addr).add j=⟨g,j,none⟩:=by unfold Addr.add;split <;> simp_all
      rw[hadd]
      simp[World.cell?,h,hu]) ad 1 c [.int .u8 (y:Int)] (by simp[hz1]) hn (by omega) (by omega) (growslice_fits (by omega) (by rw[hz2];omega))
  have hge:=grownCap_ge w (bs.length+1) bs.length 5
  have hcm:grownCap w (bs.length+1) bs.length 5<=maxLen:=grownCap_le_maxLen w (bs.length+1) bs.length 5 (by unfold maxLen;omega)
  refine⟨w.heap.size,_,_,hr,⟨by simp[qBy],.inr ⟨w.heap.size,_,_,rfl,Nat.zero_le _,heap_alloc_new w.drew _,hge,hcm,?_,?_⟩⟩,⟨rfl,rfl,rfl,by simp,λk hk _=>Below.heap_alloc w.drew _ _ hk⟩,.inr rfl,by simp⟩
  ·simp only[Array.size_append,List.size_toArray,size_zeroCells]
   simp[qBy,Value.cells]
   omega
  ·simp only[Array.toList_append]
   have e:(bs.length+1)*1=(qBy bs++[Value.int .u8 (y:Int)]).length:=by simp[qBy]
   rw[e]
   exact List.take_left
theorem qGv{w:World}{ops:Array Oper}{rest:List Oper}{o:Oper}{a:Act}{Q:Exit->Act->World->Prop}(hgd:o.guard=none)(s x:Operand)(ho:o.op=.call { callee:=.builtin .append,args:=#[s,x],argTypes:=#[136,136] })(v:Value)(bs:List Nat)(n:Nat)(hbn:bs.length=n)(hs:a.eval s=v)(hw:WRow w v bs)(ad:Addr)(c:Nat)(y:Nat)(hx:a.eval x=.slice (some ad) 1 c)(hnews:w.cell? ad=some (.int .u8 (y:Int)))(had:ad.add 0=ad)(hl:n<=140737488355320)(H:Nat)(hH:w.heap.size=H)(h:∀g cap w',w'.ownsRow 0 5 1 (.slice (some ⟨g,0,none⟩) (n+1) cap) (n+1) (qBy bs++[.int .u8 (y:Int)])->w.grownBy w' v.ownBlock->(v.ownBlock=some g\/g=H)->g<w'.heap.size->wpList Tryz.prog ops Q rest (a.put o.dst (.slice (some ⟨g,0,none⟩) (n+1) cap)) w'): wpList Tryz.prog ops Q (o::rest) a w:=by
 subst hbn hH
 refine wpList_plain hgd λK hK=>?_
 obtain⟨g,cap,w',hr,h2,h3,h4,h5⟩:=qPu w o.type v bs hw ad c y hnews had hl
 unfold Oper.wp execOp
 simp only[ho,resolve,invoke,builtin,Sem.run_bind,Sem.run_pure,Result.andThen_ok,List.map_toArray,List.map_cons,List.map_nil,hs,hx,hr]
 exact hK _ _ (h g cap w' h2 h3 h4 h5)
structure WRep (w:World) (b:Nat) (v:Value) (bs:List Nat):Prop where
 blk:Blk w b [v] 138
 row:WRow w v bs
 ne:v.ownBlock≠some b
 small:∀x∈bs,x<256
def qB3(b:Nat)(v:Value)(i:Nat): Prop:=i=b\/v.ownBlock=some i
theorem WRep.keeps{M:Nat->Prop}{w w':World}{b:Nat}{v:Value}{bs:List Nat}(h:WRep w b v bs)(hk:Keeps M w w')(hn:∀i,qB3 b v i->¬M i): WRep w' b v bs :=
 ⟨h.blk.keeps hk (hn b (.inl rfl)),h.row.keeps hk (λi hi=>hn i (.inr hi)),h.ne,h.small⟩
theorem WRep.still{w w':World}{b:Nat}{v:Value}{bs:List Nat}(h:WRep w b v bs)(hk:Keeps (λ_=>False) w w'): WRep w' b v bs:=h.keeps hk (λ_ _ h=>h)
theorem WRep.lt{w:World}{b:Nat}{v:Value}{bs:List Nat}(h:WRep w b v bs)(i:Nat)(hi:qB3 b v i): i<w.heap.size:=by
 rcases hi with hi | hi
 ·rw[hi];exact h.blk.lt
 ·exact h.row.lt i hi
def Wrote(w:World)(b:Nat)(v:Value)(bs:List Nat)(w':World): Prop :=
 ∃v',WRep w' b v' bs/\(∀i,v'.ownBlock=some i->v.ownBlock=some i\/w.heap.size<=i)/\Keeps (qB3 b v) w w'
theorem Wrote.refl{w:World}{b:Nat}{v:Value}{bs:List Nat}(h:WRep w b v bs): Wrote w b v bs w:=⟨v,h,λ_ hi=>.inl hi,Keeps.refl _ _⟩
theorem WRep.cells{w w':World}{b:Nat}{v:Value}{bs:List Nat}{o:Obj}(h:WRep w b v bs)(hg:(w.alloc o).grownBy w' v.ownBlock): w'.cell? ⟨b,0,none⟩=some v/\w'.frozen? ⟨b,0,none⟩=false:=by
 have hb1:w'.heap[b]?=w.heap[b]?:=by
  rw[hg.block b (by have:=h.blk.lt;simp;omega) (λe=>h.ne e.symm),Below.heap_alloc _ _ _ h.blk.lt]
 exact⟨(World.cell?_of_block (a:=⟨b,0,none⟩) hb1).trans (h.blk.cell rfl),(World.frozen?_of_block (a:=⟨b,0,none⟩) hb1).trans (h.blk.frozen 0)⟩
theorem WRep.more{w w':World}{b:Nat}{v:Value}{bs:List Nat}{o:Obj}{g n cap y:Nat}(h:WRep w b v bs)(hn:bs.length=n)(hg:(w.alloc o).grownBy w' v.ownBlock)(hown:w'.ownsRow 0 5 1 (.slice (some ⟨g,0,none⟩) (n+1) cap) (n+1) (qBy bs++[.int .u8 (y:Int)]))(hat:v.ownBlock=some g\/g=w.heap.size+1)(hy:y<256): Wrote w b v (bs++[y]) (w'.setCell ⟨b,0,none⟩ (.slice (some ⟨g,0,none⟩) (n+1) cap)):=by
 have hlt:=h.blk.lt
 have hb1:w'.heap[b]?=w.heap[b]?:=by
  rw[hg.block b (by simp;omega) (λe=>h.ne e.symm),Below.heap_alloc _ _ _ hlt]
 have hblk:Blk w' b [v] 138:=by unfold Blk;rw[hb1];exact h.blk
 have hgb:g≠b:=by
  rcases hat with e | e
  ·intro e2;exact h.ne (by rw[e,e2])
  ·omega
 refine⟨.slice (some ⟨g,0,none⟩) (n+1) cap,⟨hblk.setCell 0 _,?_,?_,?_⟩,?_,?_⟩
 ·refine .inl ?_
  rw[List.length_append,hn,qNw]
  exact(qPq hown ((Keeps.refl (λi=>i=b) w').setCell (p:=⟨b,0,none⟩) (Or.inl rfl) _) (λi hi e=>hgb ((show g=i by simpa[Value.ownBlock] using hi).trans e)))
 ·intro e;exact hgb (by simpa[Value.ownBlock] using e)
 ·intro x hx
  rcases List.mem_append.1 hx with hx | hx
  ·exact h.small x hx
  ·rw[List.mem_singleton]at hx;omega
 ·intro i hi
  have hi':g=i:=by simpa[Value.ownBlock] using hi
  rcases hat with e | e
  ·exact .inl (by rw[e,hi'])
  ·exact .inr (by omega)
 ·exact(((Keeps.refl (qB3 b v) w).alloc o).grown hg (λk hk=>.inl (.inr hk))).setCell (p:=⟨b,0,none⟩) (Or.inl (.inl rfl)) _
theorem Wrote.then{w w1 w2:World}{b:Nat}{v v1:Value}{bs2:List Nat}(hv:∀i,v1.ownBlock=some i->v.ownBlock=some i\/w.heap.size<=i)(hk:Keeps (qB3 b v) w w1)(h2:Wrote w1 b v1 bs2 w2): Wrote w b v bs2 w2:=by
 obtain⟨v2,hw2,hv2,hk2⟩:=h2
 have hs:=hk.size
 refine⟨v2,hw2,λi hi=>?_,hk.trans hk2 (λi hi hlt=>?_)⟩
 ·rcases hv2 i hi with h | h
  ·exact hv i h
  ·exact .inr (by omega)
 ·rcases hi with hi | hi
  ·exact .inl hi
  ·rcases hv i hi with h | h
   ·exact .inr h
   ·omega
theorem qDa(b:Nat)(v:Value)(bs:List Nat)(n:Int)(w:World)(h:WRep w b v bs)(n0:0<=n)(n1:n<=9223372036854775807)(hl:bs.length<=140737488355300):
  Calls Tryz.prog 58 #[.pointer (some ⟨b,0,none⟩),.int .i64 n] w λe w'=>e=.returned (.tuple #[])/\Wrote w b v (bs++enc n) w':=by
 obtain⟨m,rfl⟩:=Int.eq_ofNat_of_zero_le n0
 have HS:=hide (qXd (m:Int) n1)
 have HE:=hide (show enc (m:Int)=qHj 9 m by unfold enc;rw[Int.toNat_natCast])
 have HW:=hide h
 have wq:IntKind.u64.wrap (m:Int)=(m:Int):=by rw[IntKind.wrap_u64];omega
 clear h n0
 go_enter Tryz.func58,Tryz.ntmps58
 go_wp2
 go_loopw [4] (λx wr=>∃(f r:Nat) (pre:List Nat) (v':Value),x=.int .u64 r/\r<=9223372036854775807/\f<=9/\r<128 ^ (f+1)/\pre.length+f=bs.length+9/\Hid (bs++enc (m:Int)=pre++qHj f r)/\Hid (WRep wr b v' pre)/\Hid (∀i,v'.ownBlock=some i->v.ownBlock=some i\/w.heap.size<=i)/\Hid (Keeps (qB3 b v) w wr)) (λx _=>(intOf x).toNat)
 case atStart=>exact⟨9,m,bs,v,rfl,by omega,by omega,(by have:(128:Nat) ^ (9+1)=1180591620717411303424:=(by decide);omega),rfl,by show _=_;rw[uh HE],HW,λi hi=>.inl hi,Keeps.refl _ _⟩
 case round =>
  obtain⟨f,r,pre,v',rfl,hr,hf,hrf,hpl,HEQ,HWr,HVr,HKr⟩:=hrel
  obtain⟨va,vcap,hv⟩:=(uh HWr).row.form
  subst hv
  have hc0:wr.cell? ⟨b,0,none⟩=some (.slice va pre.length vcap):=(uh HWr).blk.cell rfl
  have hfz:=(uh HWr).blk.frozen
  have hlt:=(uh HWr).blk.lt
  have hbw:=(uh HKr).size
  have hpl2:pre.length<=140737488355310:=by omega
  have HSP:=hide (uh HWr).small
  generalize hpn:pre.length=pl at *
  have HPN:=hide hpn
  have HOW:=hide (show WRow wr (.slice va pl vcap) pre from(uh HWr).row)
  clear hpn
  have HNE:=hide (uh HWr).ne
  have w8:IntKind.u8.wrap (r:Int)=((r%256:Nat):Int):=by rw[IntKind.wrap_u8'];omega
  by_cases h127:127<r
  ·have hd:decide ((127:Int)<(r:Int))=true:=by simp;omega
   have or8:bits BinOp.or IntKind.u8 ((r%256:Nat):Int) 128=((r%128+128:Nat):Int):=by
    have h1:=u8_or_nat (r%256) 128 (by omega) (by omega)
    rw[show((128:Nat):Int)=128 from rfl]at h1
    rw[h1]
    congr 1
    have hall:∀x:Fin 256,x.val ||| 128=x.val%128+128:=by decide
    have:=hall ⟨r%256,by omega⟩
    simp only at this
    rw[this]
    omega
   generalize hy:r%128+128=y at *
   have HY:=hide hy
   clear hy
   generalize r%256=r8 at *
   go_wp2_with (at_builtin;refine qGv rfl _ _ rfl (.slice va pl vcap) pre pl (uh HPN) rfl ((uh HOW).keeps ((Keeps.refl (λ_=>False) wr).alloc _) (λ_ _ h=>h)) ⟨wr.heap.size,0,none⟩ 1 y rfl (by simp) rfl (by omega) (wr.heap.size+1) (by simp) ?_;intro gg cap' w3 hown3 hgrow hat hl3;have hcw:=WRep.cells (uh HWr) hgrow;obtain⟨hc3,hf3⟩:=hcw)
   have HM:=hide (WRep.more (y:=y) (uh HWr) (uh HPN) hgrow hown3 hat (by have:=uh HY;omega))
   obtain⟨f',hf'⟩:∃f',f=f'+1:=by
    cases f with
    | zero=>simp at hrf;omega
    | succ f=>exact⟨f,rfl⟩
   subst hf'
   go_roundw
   case rel =>
    obtain⟨v2,hw2,hv2,hk2⟩:=Wrote.then (uh HVr) (uh HKr) (uh HM)
    refine⟨f',r/128,pre++[y],v2,by go_num,by omega,by omega,?_,by rw[List.length_append,uh HPN,List.length_singleton];omega,?_,hw2,hv2,hk2⟩
    ·rw[Nat.pow_succ]at hrf
     exact(Nat.div_lt_iff_lt_mul (by omega)).2 hrf
    ·show _=_
     rw[uh HEQ,List.append_assoc]
     conv=>lhs;unfold qHj
     rw[if_neg (by omega),uh HY]
     rfl
   case measure=>simp[intOf];omega
  ·have hd:decide ((127:Int)<(r:Int))=false:=by simp;omega
   have HR:=hide (show qHj f r=[r%256] by
      cases f with
      | zero=>unfold qHj;rw[Nat.mod_eq_of_lt (by omega)]
      | succ f=>unfold qHj;rw[if_pos (by omega),Nat.mod_eq_of_lt (by omega)])
   have HY:=hide (show r%256<256 by omega)
   generalize r%256=y at *
   go_wp2_with (at_builtin;refine qGv rfl _ _ rfl (.slice va pl vcap) pre pl (uh HPN) rfl ((uh HOW).keeps ((Keeps.refl (λ_=>False) wr).alloc _) (λ_ _ h=>h)) ⟨wr.heap.size,0,none⟩ 1 y rfl (by simp) rfl (by omega) (wr.heap.size+1) (by simp) ?_;intro gg cap' w3 hown3 hgrow hat hl3;have hcw:=WRep.cells (uh HWr) hgrow;obtain⟨hc3,hf3⟩:=hcw)
   have HM:=hide (WRep.more (y:=y) (uh HWr) (uh HPN) hgrow hown3 hat (uh HY))
   go_end0
   refine⟨rfl,?_⟩
   rw[uh HEQ,uh HR]
   exact Wrote.then (uh HVr) (uh HKr) (uh HM)
end
end Go.Proofs.YtahnliehdjncdabGreatDoor
