import Derived.Test.YtahnliehdjncdabGreatDoorXAB
import Derived.Deep.MidRow
import Derived.Test.YtahnliehdjncdabGreatDoorXAA
import Derived.Laws.BytesArg
import Derived.Lib.SlBytesConst
set_option maxRecDepth 100000
set_option maxHeartbeats 16000000
namespace Go.Proofs.YtahnliehdjncdabGreatDoor
section
open Go.RowKit
theorem qTh(hi lo u v z m q1 n q:Int)(hU:u=hi*8+lo/2305843009213693952)(hV:v=lo*8%18446744073709551616)(hZ:z=v%4294967296)(hM:m=u*4294967296+v/4294967296)(hN:n=m-q1*18446744073709551608)(h1:q*18446744073709551608<=n*4294967296+z)(h2:n*4294967296+z<(q+1)*18446744073709551608):
  IntKind.u64.wrap (IntKind.u64.wrap (IntKind.u64.wrap (n*4294967296)+z)-IntKind.u64.wrap (q*18446744073709551608))/8=(hi*18446744073709551616+lo)%2305843009213693951:=by
 simp only[IntKind.wrap_u64]
 have e:m*4294967296+z=8*(hi*18446744073709551616+lo):=by omega
 omega
theorem qWx(hi lo:Int)(w:World)(h0:0<=hi)(h1:hi<=1099511627776)(l0:0<=lo)(l1:lo<18446744073709551616):
  Calls Tryz.prog 221 #[.int .u64 hi,.int .u64 lo,.int .u64 2305843009213693951] w λe w'=>(∃q,e=.returned (.tuple #[.int .u64 q,.int .u64 ((hi*18446744073709551616+lo)%2305843009213693951)]))/\Keeps (λ_=>False) w w':=by
 by_cases hz:hi=0
 ·subst hz
  exact qPc 0 lo w (by omega) (by omega) l0 l1
 ·have hzb:(hi==0)=false:=by simp[hz]
  have hle:¬(2305843009213693951<=hi):=by omega
  have hand:bits .and .u64 18446744073709551608 4294967295=4294967288:=by decide +kernel
  obtain⟨u,hu,HU⟩:∃u,bits .or .u64 (hi*8) (lo/2305843009213693952)=u/\Hid (u=hi*8+lo/2305843009213693952):=⟨_,zA1 hi (lo/2305843009213693952) h0 (by omega) (by omega) (by omega),rfl⟩
  obtain⟨v,hv,HV⟩:∃v,IntKind.u64.wrap (lo*8)=v/\Hid (v=lo*8%18446744073709551616):=⟨_,IntKind.wrap_u64 _,rfl⟩
  have u0:0<=u:=by have:=uh HU;omega
  have u1:u<=8796093022217:=by have:=uh HU;omega
  have v0:0<=v:=by have:=uh HV;omega
  have v1:v<18446744073709551616:=by have:=uh HV;omega
  obtain⟨z,hzz,HZ⟩:∃z,bits .and .u64 v 4294967295=z/\Hid (z=v%4294967296):=by
   obtain⟨x,rfl⟩:=Int.eq_ofNat_of_zero_le v0
   exact⟨_,Mul64.maskN x (by omega),by show _=_;omega⟩
  have z0:0<=z:=by have:=uh HZ;omega
  have z1:z<4294967296:=by have:=uh HZ;omega
  have hd:u.tdiv 4294967295=u/4294967295:=Int.tdiv_eq_ediv_of_nonneg u0
  obtain⟨y,HY⟩:∃y,Hid (y=v/4294967296):=⟨_,rfl⟩
  have hy:v/4294967296=y:=(uh HY).symm
  have y0:0<=y:=by omega
  have y1:y<4294967296:=by omega
  go_enter Tryz.func221,Tryz.ntmps221
  go_wp2_with (go_at_call 244;refine(qTc _).mono ?_;rintro e w' ⟨rfl,rfl⟩)
  go_loop [15,16] (λa b=>∃q r:Int,a=.int .u64 q/\b=.int .u64 r/\0<=q/\q<=4096/\0<=r/\r<4294967296/\Hid (q*4294967295+r=u)/\Hid (u*4294967296+y<(q+1)*18446744073709551608)) (λa _=>(intOf a).toNat)
  case atStart=>exact⟨u/4294967295,u-u/4294967295*4294967295,by first | rfl | go_num,by first | rfl | go_num,by omega,by omega,by omega,by omega,by show _=_;omega,by show _<_;omega⟩
  case round =>
   obtain⟨q,r,rfl,rfl,q0,q1,r0,r1,HQ,HT⟩:=hrel
   by_cases hc:4294967296*r+y<q*4294967288
   ·have q2:1<=q:=by omega
    by_cases hb:4294967296<=r+4294967295
    ·have HT2:=hide (show u*4294967296+y<q*18446744073709551608 by have:=uh HQ;omega)
     have HQ2:=hide (show(q-1)*18446744073709551608<=u*4294967296+y by have:=uh HQ;omega)
     clear HQ HT
     have HQ:=HQ2
     have HT:=HT2
     obtain⟨n,HN⟩:∃n,Hid (n=u*4294967296+y-(q-1)*18446744073709551608):=⟨_,rfl⟩
     have n0:0<=n:=by have:=uh HN;have:=uh HQ;have:=uh HT;omega
     have n1:n<18446744073709551608:=by have:=uh HN;have:=uh HQ;have:=uh HT;omega
     have hn:IntKind.u64.wrap (IntKind.u64.wrap (IntKind.u64.wrap (u*4294967296)+y)-IntKind.u64.wrap ((q-1)*18446744073709551608))=n:=by
      have:=uh HN
      simp only[IntKind.wrap_u64]
      omega
     have hnd:n.tdiv 4294967295=n/4294967295:=Int.tdiv_eq_ediv_of_nonneg n0
     have HFIN:=hide (λq0 a b=>qTh hi lo u v z (u*4294967296+y) (q-1) n q0 (uh HU) (uh HV) (uh HZ) (by rw[uh HY]) (uh HN) a b)
     go_wp2_with (first | simp only[hn] | simp only[hnd])
     go_loop [16,18] (λb a=>∃q r:Int,a=.int .u64 q/\b=.int .u64 r/\0<=q/\q<=4294967296/\0<=r/\r<4294967296/\Hid (q*4294967295+r=n)/\Hid (n*4294967296+z<(q+1)*18446744073709551608)) (λ_ a=>(intOf a).toNat)
     case atStart=>exact⟨n/4294967295,n-n/4294967295*4294967295,by first | rfl | go_num,by first | rfl | go_num,by omega,by omega,by omega,by omega,by show _=_;omega,by show _<_;omega⟩
     case round =>
      clear HQ HT hn
      obtain⟨q,r,rfl,rfl,q0,q1,r0,r1,HQ,HT⟩:=hrel
      by_cases hbig:4294967296<=q
      ·by_cases hb:4294967296<=r+4294967295
       ·go_wp2
        go_ret2
        exact⟨⟨_,by rw[uh HFIN (q-1) (by have:=uh HQ;omega) (by have:=uh HQ;omega)];rfl⟩,Keeps.refl _ _⟩
       ·go_wp2
        go_round
        case rel=>exact⟨q-1,r+4294967295,by first | rfl | go_num,by first | rfl | go_num,by omega,by omega,by omega,by omega,by have:=uh HQ;show _=_;omega,by have:=uh HQ;show _<_;omega⟩
        case measure=>simp[intOf];omega
      ·by_cases hc:4294967296*r+z<q*4294967288
       ·have q2:1<=q:=by omega
        by_cases hb:4294967296<=r+4294967295
        ·go_wp2
         go_ret2
         exact⟨⟨_,by rw[uh HFIN (q-1) (by have:=uh HQ;omega) (by have:=uh HQ;omega)];rfl⟩,Keeps.refl _ _⟩
        ·go_wp2
         go_round
         case rel=>exact⟨q-1,r+4294967295,by first | rfl | go_num,by first | rfl | go_num,by omega,by omega,by omega,by omega,by have:=uh HQ;show _=_;omega,by have:=uh HQ;show _<_;omega⟩
         case measure=>simp[intOf];omega
       ·go_wp2
        go_ret2
        exact⟨⟨_,by rw[uh HFIN q (by have:=uh HQ;omega) (uh HT)];rfl⟩,Keeps.refl _ _⟩
    ·go_wp2
     go_round
     case rel=>exact⟨q-1,r+4294967295,by first | rfl | go_num,by first | rfl | go_num,by omega,by omega,by omega,by omega,by have:=uh HQ;show _=_;omega,by have:=uh HQ;show _<_;omega⟩
     case measure=>simp[intOf];omega
   ·have HQ2:=hide (show q*18446744073709551608<=u*4294967296+y by have:=uh HQ;omega)
    clear HQ
    have HQ:=HQ2
    obtain⟨n,HN⟩:∃n,Hid (n=u*4294967296+y-(q)*18446744073709551608):=⟨_,rfl⟩
    have n0:0<=n:=by have:=uh HN;have:=uh HQ;have:=uh HT;omega
    have n1:n<18446744073709551608:=by have:=uh HN;have:=uh HQ;have:=uh HT;omega
    have hn:IntKind.u64.wrap (IntKind.u64.wrap (IntKind.u64.wrap (u*4294967296)+y)-IntKind.u64.wrap ((q)*18446744073709551608))=n:=by
     have:=uh HN
     simp only[IntKind.wrap_u64]
     omega
    have hnd:n.tdiv 4294967295=n/4294967295:=Int.tdiv_eq_ediv_of_nonneg n0
    have HFIN:=hide (λq0 a b=>qTh hi lo u v z (u*4294967296+y) (q) n q0 (uh HU) (uh HV) (uh HZ) (by rw[uh HY]) (uh HN) a b)
    go_wp2_with (first | simp only[hn] | simp only[hnd])
    go_loop [16,18] (λb a=>∃q r:Int,a=.int .u64 q/\b=.int .u64 r/\0<=q/\q<=4294967296/\0<=r/\r<4294967296/\Hid (q*4294967295+r=n)/\Hid (n*4294967296+z<(q+1)*18446744073709551608)) (λ_ a=>(intOf a).toNat)
    case atStart=>exact⟨n/4294967295,n-n/4294967295*4294967295,by first | rfl | go_num,by first | rfl | go_num,by omega,by omega,by omega,by omega,by show _=_;omega,by show _<_;omega⟩
    case round =>
     clear HQ HT hn
     obtain⟨q,r,rfl,rfl,q0,q1,r0,r1,HQ,HT⟩:=hrel
     by_cases hbig:4294967296<=q
     ·by_cases hb:4294967296<=r+4294967295
      ·go_wp2
       go_ret2
       exact⟨⟨_,by rw[uh HFIN (q-1) (by have:=uh HQ;omega) (by have:=uh HQ;omega)];rfl⟩,Keeps.refl _ _⟩
      ·go_wp2
       go_round
       case rel=>exact⟨q-1,r+4294967295,by first | rfl | go_num,by first | rfl | go_num,by omega,by omega,by omega,by omega,by have:=uh HQ;show _=_;omega,by have:=uh HQ;show _<_;omega⟩
       case measure=>simp[intOf];omega
     ·by_cases hc:4294967296*r+z<q*4294967288
      ·have q2:1<=q:=by omega
       by_cases hb:4294967296<=r+4294967295
       ·go_wp2
        go_ret2
        exact⟨⟨_,by rw[uh HFIN (q-1) (by have:=uh HQ;omega) (by have:=uh HQ;omega)];rfl⟩,Keeps.refl _ _⟩
       ·go_wp2
        go_round
        case rel=>exact⟨q-1,r+4294967295,by first | rfl | go_num,by first | rfl | go_num,by omega,by omega,by omega,by omega,by have:=uh HQ;show _=_;omega,by have:=uh HQ;show _<_;omega⟩
        case measure=>simp[intOf];omega
      ·go_wp2
       go_ret2
       exact⟨⟨_,by rw[uh HFIN q (by have:=uh HQ;omega) (uh HT)];rfl⟩,Keeps.refl _ _⟩
theorem Blk.newAt{w:World}{b:Nat}(hs:w.heap.size=b)(cs:List Value)(T:TypeId): Blk (w.alloc (.cells cs.toArray T)) b cs T:=by subst hs;exact Blk.new w cs T
def qEj(ty:TypeId)(v:Value): Sem Next:=do pure (.value (<-Instr.loadAt ty v))
theorem qAb(ρ:Operand->Value)(dst:Option Tmp)(x:Operand)(ty:TypeId)(pos:String)(after:Array Edge)(guard:Option (Nat×Bool)):
  execOp ρ { dst,op:=.load 32 x,type:=ty,pos,after,guard }=qEj 32 (ρ x):=rfl
theorem qAe(ρ:Operand->Value)(dst:Option Tmp)(x:Operand)(ty:TypeId)(pos:String)(after:Array Edge)(guard:Option (Nat×Bool)):
  execOp ρ { dst,op:=.load 34 x,type:=ty,pos,after,guard }=qEj 34 (ρ x):=rfl
def qBr(w:World)(b o n:Nat): List Value:=(List.range n).map λj=>(w.cell? ⟨b,o+j,none⟩).getD undef
def qAp(w:World)(b o n:Nat): Value:=.agg (qBr w b o n).toArray
def qAw(w:World)(b o n:Nat): Bool:=(List.range n).all λj=>(w.cell? ⟨b,o+j,none⟩).isSome
theorem qE4{w:World}{b o n:Nat}(h:qAw w b o n=true): w.rangeAt b o (qBr w b o n):=by
 intro j v hv
 have hj:j<n:=by have:=(List.getElem?_eq_some_iff.1 hv).1;simpa[qBr] using this
 have hs:(w.cell? ⟨b,o+j,none⟩).isSome=true:=by simp only[qAw,List.all_eq_true]at h;exact h j (by simpa using hj)
 obtain⟨u,hu⟩:=Option.isSome_iff_exists.1 hs
 simp[qBr,hj,hu]at hv
 rw[hu,hv]
theorem qTb: (Tryz.prog.info? 32).map (·.size)=some 20:=by kernel_rfl
theorem zAy: (Tryz.prog.info? 34).map (·.size)=some 26:=by kernel_rfl
theorem qAg(w:World)(b o:Nat)(h:qAw w b o 20=true): (qEj 32 (.pointer (some ⟨b,o,none⟩))).run Tryz.prog w=.ok (.value (qAp w b o 20)) w:=by
 unfold qEj
 rw[Sem.run_bind,run_loadAt_mid w b o 32 (qBr w b o 20) _ (qE4 h) Tryz.underlying32 rfl (by rw[qTb];simp[qBr])]
 rfl
theorem qAl(w:World)(b o:Nat)(h:qAw w b o 26=true): (qEj 34 (.pointer (some ⟨b,o,none⟩))).run Tryz.prog w=.ok (.value (qAp w b o 26)) w:=by
 unfold qEj
 rw[Sem.run_bind,run_loadAt_mid w b o 34 (qBr w b o 26) _ (qE4 h) Tryz.underlying34 rfl (by rw[zAy];simp[qBr])]
 rfl
theorem qAm{w:World}{b o:Nat}{cs:List Value}(h:w.rangeAt b o cs): qBr w b o cs.length=cs/\qAw w b o cs.length=true:=by
 constructor
 ·apply List.ext_getElem?
  intro j
  by_cases hj:j<cs.length
  ·have:=h j cs[j] (List.getElem?_eq_getElem hj)
   simp[qBr,hj,this]
  ·simp[qBr,hj]
 ·simp only[qAw,List.all_eq_true,List.mem_range]
  intro j hj
  rw[h j cs[j] (List.getElem?_eq_getElem hj)];rfl
theorem qAd(w:World)(b o n:Nat): qAp w.drew b o n=qAp w b o n:=rfl
theorem qAc(w:World)(b o n:Nat): qAw w.drew b o n=qAw w b o n:=rfl
theorem qAk{w:World}{b o n:Nat}(h:qAw w b o n=true)(O:Obj): qAw (w.alloc O) b o n=true:=by
 simp only[qAw,List.all_eq_true]at h ⊢
 intro j hj
 obtain⟨u,hu⟩:=Option.isSome_iff_exists.1 (h j hj)
 rw[World.cell?_alloc_lt _ _ _ (World.block_lt_of_cell? w _ hu)];exact h j hj
theorem qAj{w:World}{b o n:Nat}(h:qAw w b o n=true)(O:Obj): qAp (w.alloc O) b o n=qAp w b o n:=by
 have hc:qBr (w.alloc O) b o n=qBr w b o n:=by
  unfold qBr
  apply List.map_congr_left
  intro j hj
  simp only[qAw,List.all_eq_true]at h
  obtain⟨u,hu⟩:=Option.isSome_iff_exists.1 (h j hj)
  rw[World.cell?_alloc_lt _ _ _ (World.block_lt_of_cell? w _ hu)]
 unfold qAp;rw[hc]
theorem qQw(w:World)(l:List Value)(T:TypeId): (w.alloc (.cells l.toArray T)).rangeAt w.heap.size 0 l:=by
 intro j v hv
 rw[Nat.zero_add,World.cell?_alloc_new]
 simpa using hv
theorem qB7(w:World)(l:List Value)(T:TypeId)(n:Nat)(h:l.length=n): qAw (w.alloc (.cells l.toArray T)) w.heap.size 0 n=true:=by
 subst h;exact(qAm (qQw w l T)).2
theorem qAf(w:World)(l:List Value)(T:TypeId)(n:Nat)(h:l.length=n): qAp (w.alloc (.cells l.toArray T)) w.heap.size 0 n=.agg l.toArray:=by
 subst h;unfold qAp;rw[(qAm (qQw w l T)).1]
theorem qAi(w:World)(l:List Value)(T:TypeId)(n:Nat): qAw (w.alloc (.cells l.toArray T)) w.heap.size 0 n=decide (n<=l.length):=by
 rw[Bool.eq_iff_iff]
 simp only[qAw,List.all_eq_true,List.mem_range,decide_eq_true_eq,Nat.zero_add,World.cell?_alloc_new]
 constructor
 ·intro h
  rcases Nat.lt_or_ge l.length n with hl | hl
  ·have:=h l.length hl
   simp at this
  ·exact hl
 ·intro h j hj
  have hj':j<l.length:=by omega
  simp[hj']
theorem qAn{w:World}{b o n:Nat}(h:b≠w.heap.size)(O:Obj): qAw (w.alloc O) b o n=qAw w b o n:=by
 unfold qAw
 congr 1;funext j
 rw[World.cell?_alloc_old _ _ _ h]
theorem qAo{w:World}{b o n:Nat}(h:b≠w.heap.size)(O:Obj): qAp (w.alloc O) b o n=qAp w b o n:=by
 unfold qAp qBr
 congr 2
 apply List.map_congr_left
 intro j _
 rw[World.cell?_alloc_old _ _ _ h]
theorem qBj{w:World}{b:Nat}{l:List Value}{T:TypeId}(h:Blk w b l T)(n:Nat)(hn:l.length=n): qAp w b 0 n=.agg l.toArray/\qAw w b 0 n=true:=by
 have hr:=qAm (w:=w) (b:=b) (o:=0) (cs:=l) (λj v hv=>by rw[Nat.zero_add];exact h.cell hv)
 subst hn
 exact⟨by unfold qAp;rw[hr.1],hr.2⟩
theorem qBl{w:World}{b:Nat}{l:List Value}{T:TypeId}(h:Blk w b l T)(o n:Nat)(cs:List Value)(hcs:(l.drop o).take n=cs)(hn:cs.length=n): qAp w b o n=.agg cs.toArray/\qAw w b o n=true:=by
 have hr:=qAm (w:=w) (b:=b) (o:=o) (cs:=cs) (λj v hv=>by
    rw[<-hcs,List.getElem?_take]at hv
    split at hv
    ·exact h.cell (by simpa using hv)
    ·cases hv)
 subst hn
 exact⟨by unfold qAp;rw[hr.1],hr.2⟩
theorem qMq(w:World)(l:List Value)(T:TypeId)(o n:Nat): (w.alloc (.cells l.toArray T)).rangeAt w.heap.size o ((l.drop o).take n):=by
 intro j v hv
 rw[World.cell?_alloc_new]
 rw[List.getElem?_take]at hv
 split at hv
 ·simpa using hv
 ·cases hv
theorem qRs(w:World)(l:List Value)(T:TypeId)(o n:Nat)(h:o+n<=l.length): qAw (w.alloc (.cells l.toArray T)) w.heap.size o n=true:=by
 have:=(qAm (qMq w l T o n)).2
 rwa [show((l.drop o).take n).length=n by simp;omega]at this
theorem qRi(w:World)(l:List Value)(T:TypeId)(o n:Nat)(h:o+n<=l.length): qAp (w.alloc (.cells l.toArray T)) w.heap.size o n=.agg ((l.drop o).take n).toArray:=by
 have:=(qAm (qMq w l T o n)).1
 rw[show((l.drop o).take n).length=n by simp;omega]at this
 unfold qAp;rw[this]
theorem qXc(hi lo:Int)(w:World)(h0:0<=hi)(h1:hi<=1099511627776)(l0:0<=lo)(l1:lo<18446744073709551616):
  Calls Tryz.prog 178 #[.int .u64 hi,.int .u64 lo,.int .u64 2305843009213693951] w λe w'=>e=.returned (.int .u64 ((hi*18446744073709551616+lo)%2305843009213693951))/\Keeps (λ_=>False) w w':=by
 have hm:hi.tmod 2305843009213693951=hi:=by rw[Int.tmod_eq_emod_of_nonneg h0];omega
 have HD:=hide (qWx hi lo w h0 h1 l0 l1)
 go_enter Tryz.func178,Tryz.ntmps178
 go_wp2_with fail
 refine(uh HD).mono ?_
 rintro e w1 ⟨⟨q,rfl⟩,hk⟩
 have HK:=hide hk
 clear hk
 go_wp2
 go_ret
 exact⟨rfl,uh HK⟩
theorem qY3(a b key:Int)(w:World)(a0:0<=a)(a1:a<=1099511627776)(b0:0<=b)(b1:b<2305843009213693951)(k0:0<=key)(k1:key<=2305843009213693951):
  Calls Tryz.prog 132 #[.agg #[.int .i64 a,.int .i64 b],.int .i64 key] w λe w'=>e=.returned (.int .i64 (qDn a b key))/\Keeps (λ_=>False) w w':=by
 have p0:0<=a*key:=Int.mul_nonneg a0 k0
 have p1:a*key<=1099511627776*2305843009213693951:=Int.mul_le_mul a1 k1 k0 (by omega)
 have wa:IntKind.u64.wrap a=a:=by rw[IntKind.wrap_u64];omega
 have wb:IntKind.u64.wrap b=b:=by rw[IntKind.wrap_u64];omega
 have wk:IntKind.u64.wrap key=key:=by rw[IntKind.wrap_u64];omega
 have HM:=hide (λw=>qK1 a key a0 (by omega) k0 (by omega) w)
 go_enter Tryz.func132,Tryz.ntmps132
 go_wp2_with fail
 refine(uh HM _).mono ?_
 rintro e w' ⟨rfl,rfl⟩
 have hadd:=λW=>qPl (a*key%18446744073709551616) b (by omega) b0 W
 have HP:=hide (show qDn a b key=(a*key+b)%2305843009213693951 from rfl)
 have HK:=hide ((Keeps.refl (λ_=>False) w).alloc (.cells #[.int .i64 a,.int .i64 b] 29))
 have hx:(w.alloc (.cells #[.int .i64 a,.int .i64 b] 29)).cell? ⟨w.heap.size,1,none⟩=some (.int .i64 b):=(Blk.new w [.int .i64 a,.int .i64 b] 29).cell rfl
 generalize w.alloc (.cells #[.int .i64 a,.int .i64 b] 29)=W at *
 generalize a*key=p at *
 go_wp2_with fail
 refine(qXc _ _ _ (by omega) (by omega) (by omega) (by omega)).mono ?_
 rintro e w1 ⟨rfl,hk⟩
 have HK2:=hide ((uh HK).then hk)
 clear hk
 have hf:IntKind.i64.wrap (((p/18446744073709551616+(p%18446744073709551616+b)/18446744073709551616)*18446744073709551616+(p+b)%18446744073709551616)%2305843009213693951)=(p+b)%2305843009213693951:=by
  rw[IntKind.wrap_i64];omega
 go_wp2
 go_ret
 exact⟨by rw[uh HP];rfl,uh HK2⟩
def qCs: List Nat:=[115,107,101,116,99,104,32,49]
theorem qV7: Tryz.prog.underlying 5=some (.int .u8):=by kernel_rfl
theorem qMu{w:World}{base T n:Nat}{v:Value}{xs:List Value}(h:w.ownsRow base T 1 v n xs): (n=0/\v=.slice none 0 0)\/∃g cap,v=.slice (some ⟨g,0,none⟩) n cap/\∀(i:Nat) u,xs[i]?=some u->w.cell? ⟨g,i,none⟩=some u:=by
 rcases h.2 with ⟨h1,h2⟩ | ⟨g,cap,cur,h1,_,h3,h4,h5,h6,h7⟩
 ·exact .inl ⟨h2,h1⟩
 ·refine .inr ⟨g,cap,h1,λi u hu=>?_⟩
  have hi:i<n:=by have:=(List.getElem?_eq_some_iff.1 hu).1;have:=h.1;omega
  have:cur[i]?=some u:=by
   rw[<-h7]at hu
   rw[List.getElem?_take]at hu
   rw[if_pos (by omega)]at hu
   simpa using hu
  simp[World.cell?,h3,this]
theorem qS1: ∀x∈qCs,x<256:=by decide
theorem qNj(w:World):
  Calls Tryz.prog 57 #[] w λe w'=>∃b v,e=.returned (.pointer (some ⟨b,0,none⟩))/\WRep w' b v qCs/\(∀i,qB3 b v i->w.heap.size<=i)/\Keeps (λ_=>False) w w':=by
 have kc:=λ(w:World) (C:Array Value) (n c:Nat)=>Lib.run_convert_bytes_const (P:=Tryz.prog) w 136 5 C n c Tryz.underlying136 qV7
 go_enter Tryz.func57,Tryz.ntmps57
 go_wp2
 go_ret
 have hk1:Keeps (λ_=>False) w (w.alloc (.cells (qBy qCs).toArray 5 (8,9))):=(Keeps.refl _ _).alloc _
 refine⟨w.heap.size+1,.slice (some ⟨w.heap.size,0,none⟩) 8 8,rfl,⟨Blk.newAt (by simp) [_] _,.inr ⟨w.heap.size,rfl,?_⟩,by simp[Value.ownBlock],qS1⟩,λi hi=>?_,hk1.alloc _⟩
 ·rw[Below.heap_alloc _ _ _ (by simp)]
  exact heap_alloc_new w _
 ·rcases hi with hi | hi
  ·omega
  ·have:w.heap.size=i:=by simpa[Value.ownBlock] using hi
   omega
def qC4(ps:List (Nat×Nat)): List Value:=ps.map λp=>.pointer (some ⟨p.1,p.2,none⟩)
def PartsAt(w:World)(ps:List (Nat×Nat))(ns:List Int): Prop:=ps.length=ns.length/\∀(i:Nat) p n,ps[i]?=some p->ns[i]?=some n->w.cell? ⟨p.1,p.2,none⟩=some (.int .i64 n)
theorem qYb(b:Nat)(v:Value)(bs:List Nat)(pv:Value)(base:Nat)(ps:List (Nat×Nat))(ns:List Int)(w:World)(h:WRep w b v bs)(hp:w.ownsRow base 170 1 pv ps.length (qC4 ps))(ha:PartsAt w ps ns)(hd:∀p,p∈ps->¬qB3 b v p.1)(hpv:∀i,pv.ownBlock=some i->¬qB3 b v i)(hn:∀n,n∈ns->0<=n/\n<=9223372036854775807)(hl:bs.length+10*ns.length<=140737488355300)(hl2:ns.length<=1000):
  Calls Tryz.prog 85 #[.pointer (some ⟨b,0,none⟩),pv] w λe w'=>e=.returned (.tuple #[])/\Wrote w b v (bs++qB2 ns) w':=by
 have HW:=hide h
 have HP:=hide hp
 have HA:=hide ha
 have HD:=hide hd
 have HPV:=hide hpv
 have HN:=hide hn
 have HLE:=hide ha.1
 obtain⟨va,vcap,hv,hva⟩:=qB4 hp
 have HVA:=hide hva
 have hlen:ps.length=ns.length:=ha.1
 clear h hp ha hd hpv hn hva
 subst hv
 generalize hm:ps.length=m at *
 have HM:=hide hm
 have HLM:=hide hlen
 clear hm hlen
 have hm3:m<=1000:=by have:=uh HLM;omega
 go_enter Tryz.func85,Tryz.ntmps85
 go_wp2
 go_loopw [8] (λi wr=>∃(k:Nat) (v':Value),i=.int .i64 k/\k<=m/\Hid (WRep wr b v' (bs++qB2 (ns.take k)))/\Hid (∀i,v'.ownBlock=some i->v.ownBlock=some i\/w.heap.size<=i)/\Hid (Keeps (qB3 b v) w wr)) (λi _=>m-(intOf i).toNat)
 case atStart=>exact⟨0,v,rfl,Nat.zero_le _,by show WRep _ _ _ _;rw[List.take_zero,qC8,List.append_nil];exact uh HW,λi hi=>.inl hi,Keeps.refl _ _⟩
 case round =>
  obtain⟨k,v',rfl,hk,HWr,HVr,HKr⟩:=hrel
  by_cases hlk:k<m
  ·obtain⟨g,hg,hgb⟩:=uh HVA (by omega)
   subst hg
   have hkp:k<ps.length:=by rw[uh HM];exact hlk
   have hkn:k<ns.length:=by rw[<-uh HLM];exact hlk
   obtain⟨p,hpk⟩:∃p,ps[k]?=some p:=⟨_,List.getElem?_eq_getElem hkp⟩
   obtain⟨n,hnk⟩:∃n,ns[k]?=some n:=⟨_,List.getElem?_eq_getElem hkn⟩
   have hrow:=qPq (uh HP) (uh HKr) (uh HPV)
   have hck:wr.cell? ⟨g,k,none⟩=some (.pointer (some ⟨p.1,p.2,none⟩)):=by
    rcases qMu hrow with ⟨h0,_⟩ | ⟨g',cap',hv',hc⟩
    ·omega
    ·cases hv';exact hc k _ (by unfold qC4;rw[List.getElem?_map,hpk];rfl)
   have hcp:wr.cell? ⟨p.1,p.2,none⟩=some (.int .i64 n):=(uh HKr).cell ((uh HA).2 k p n hpk hnk) (uh HD p (List.mem_of_getElem? hpk))
   obtain⟨n0,n1⟩:=uh HN n (List.mem_of_getElem? hnk)
   have HNX:=hide (show bs++qB2 (ns.take k)++enc n=bs++qB2 (ns.take (k+1)) by
      rw[List.append_assoc]
      congr 1
      rw[List.take_add_one,hnk,qAr]
      simp[qB2])
   have hlb:(bs++qB2 (ns.take k)).length<=140737488355300:=by
    have:=qAv (ns.take k)
    have h2:(ns.take k).length<=ns.length:=by rw[List.length_take];omega
    rw[List.length_append];omega
   have hk0:(0:Int)<=(k:Int):=by omega
   have hkm:(k:Int)<(m:Int):=by omega
   clear hrow hpk hnk hkp hkn
   go_wp2_with fail
   refine(qDa b v' (bs++qB2 (ns.take k)) n wr (uh HWr) n0 n1 hlb).mono ?_
   rintro e w1 ⟨rfl,hw1⟩
   have HW1:=hide (Wrote.then (uh HVr) (uh HKr) hw1)
   clear hw1 hck hcp
   go_wp2
   go_roundw
   case rel =>
    obtain⟨v2,hw2,hv2,hk2⟩:=uh HW1
    rw[uh HNX]at hw2
    exact⟨k+1,v2,by go_num,by omega,hw2,hv2,hk2⟩
   case measure=>simp[intOf];omega
  ·have hkm:k=m:=by omega
   subst hkm
   go_wp2
   go_end0
   refine⟨rfl,v',?_,uh HVr,uh HKr⟩
   have:=uh HWr
   rwa [List.take_of_length_le (by rw[<-uh HLM];omega)]at this
end
end Go.Proofs.YtahnliehdjncdabGreatDoor
