import Derived.Laws.Bits128
import Derived.Laws.BitsAllLaws
import Derived.Test.YtahnliehdjncdabGreatDoorXAN
import Derived.Test.YtahnliehdjncdabGreatDoorXAR
import Derived.Deep.OwnRows
import Derived.Laws.MakeOwn
import Derived.Test.YtahnliehdjncdabGreatDoorXAQ
import Derived.Deep.LoopGhost
set_option maxRecDepth 100000
set_option maxHeartbeats 16000000
namespace Go.Proofs.YtahnliehdjncdabGreatDoor
section
open Go.RowKit
theorem qNn{M:Nat->Prop}{w w':World}{base:Nat}{t size:Nat}{v:Value}{n:Nat}{xs:List Value}(h:w.ownsRow base t size v n xs)(hk:Keeps M w w')(hn:∀i,v.ownBlock=some i->¬M i): w'.ownsRow base t size v n xs:=by
 refine⟨h.1,?_⟩;rcases h.2 with h2 | ⟨g,cap,cur,rfl,hb,hg,r⟩
 ·exact .inl h2
 ·exact .inr ⟨g,cap,cur,rfl,hb,by rw[hk.block g (Array.getElem?_eq_some_iff.1 hg).1 (hn g rfl)];exact hg,r⟩
theorem qCh{w:World}{base T size n:Nat}{v:Value}{xs:List Value}(h:w.ownsRow base T size v n xs): ∃a cap,v=.slice a n cap/\(0<n->∃g,a=some ⟨g,0,none⟩/\base<=g):=by
 rcases h.2 with ⟨h1,h2⟩ | ⟨g,cap,cur,h1,hb,_⟩
 ·exact⟨none,0,by rw[h1,h2],λh=>by omega⟩
 ·exact⟨some ⟨g,0,none⟩,cap,h1,λ_=>⟨g,rfl,hb⟩⟩
def qOo: Nat->Nat->List Nat
 | 0,n=>[n]
 | f+1,n=>if n<=127 then[n] else(n%128+128)::qOo f (n/128)
def enc(n:Int): List Nat:=qOo 9 n.toNat
def qBv(l:List Int): List Nat:=l.flatMap enc
theorem qB7: qBv []=[]:=rfl
theorem qAz(n:Int)(l:List Int): qBv (n::l)=enc n++qBv l:=by simp[qBv]
theorem qAo(a b:List Int): qBv (a++b)=qBv a++qBv b:=by simp[qBv]
theorem qC3(n:Int): qBv [n]=enc n:=by simp[qBv]
theorem qUo(f n:Nat): (qOo f n).length<=f+1:=by
 induction f generalizing n with
 | zero=>simp[qOo]
 | succ f ih =>
  unfold qOo
  split
  ·simp
  ·have:=ih (n/128);simp;omega
theorem qBs(n:Int): (enc n).length<=10:=qUo 9 _
theorem qA0(l:List Int): (qBv l).length<=10*l.length:=by
 induction l with
 | nil=>simp[qBv]
 | cons a l ih=>have:=qBs a;rw[qAz,List.length_append,List.length_cons];omega
theorem qYj(f n:Nat)(h:n<128 ^ (f+1)): ∀x∈qOo f n,x<256:=by
 induction f generalizing n with
 | zero=>intro x hx;simp[qOo]at hx;subst hx;omega
 | succ f ih =>
  intro x hx;unfold qOo at hx
  split at hx
  ·simp at hx;omega
  ·rcases List.mem_cons.1 hx with hx | hx
   ·omega
   ·exact ih (n/128) (by have h2:128 ^ (f+1+1)=128 ^ (f+1)*128:=Nat.pow_succ .. ;rw[h2]at h;exact(Nat.div_lt_iff_lt_mul (by omega)).2 h) x hx
theorem qLw(n:Int)(h:n<=9223372036854775807): ∀x∈enc n,x<256:=qYj 9 _ (by
   have:(128:Nat) ^ (9+1)=1180591620717411303424:=by decide
   rw[this];omega)
def qDh(l:List Nat): List Value:=l.map λ(n:Nat)=>.int .u8 (n:Int)
theorem qO5(a b:List Nat): qDh (a++b)=qDh a++qDh b:=by simp[qDh]
theorem zFq: (Tryz.prog.info? 5).map (λi=>(i.zero,i.size,i.bytes))=some (some (.int .u8 0),1,1):=by kernel_rfl
def WRow(w:World)(v:Value)(bs:List Nat): Prop :=
 w.ownsRow 0 5 1 v bs.length (qDh bs)\/∃g,v=.slice (some ⟨g,0,none⟩) bs.length bs.length/\w.heap[g]?=some (.cells (qDh bs).toArray 5 (bs.length,bs.length+1))
theorem WRow.lt{w:World}{v:Value}{bs:List Nat}(h:WRow w v bs)(i:Nat)(hi:v.ownBlock=some i): i<w.heap.size:=by
 rcases h with h | ⟨g,rfl,h⟩
 ·exact(h.lt i hi).2
 ·have:g=i:=by simpa[Value.ownBlock] using hi
  subst this;exact(Array.getElem?_eq_some_iff.1 h).1
theorem WRow.keeps{M:Nat->Prop}{w w':World}{v:Value}{bs:List Nat}(h:WRow w v bs)(hk:Keeps M w w')(hn:∀i,v.ownBlock=some i->¬M i): WRow w' v bs:=by
 rcases h with h | ⟨g,rfl,h⟩
 ·exact .inl (qNn h hk hn)
 ·exact .inr ⟨g,rfl,by rw[hk.block g (Array.getElem?_eq_some_iff.1 h).1 (hn g rfl)];exact h⟩
theorem WRow.form{w:World}{v:Value}{bs:List Nat}(h:WRow w v bs): ∃a cap,v=.slice a bs.length cap:=by
 rcases h with h | ⟨g,rfl,h⟩
 ·obtain⟨a,cap,hv,_⟩:=qCh h;exact⟨a,cap,hv⟩
 ·exact⟨_,_,rfl⟩
theorem WRow.cells{w:World}{v:Value}{bs:List Nat}(h:WRow w v bs): (bs.length=0/\v=.slice none 0 0)\/∃g cap,v=.slice (some ⟨g,0,none⟩) bs.length cap/\∀(i:Nat) u,(qDh bs)[i]?=some u->w.cell? ⟨g,i,none⟩=some u:=by
 rcases h with h | ⟨g,rfl,h⟩
 ·rcases h.2 with ⟨h1,h2⟩ | ⟨g,cap,cur,h1,_,h3,h4,h5,h6,h7⟩
  ·exact .inl ⟨h2,h1⟩
  ·refine .inr ⟨g,cap,h1,λi u hu=>?_⟩
   have hi:i<bs.length:=by have:=(List.getElem?_eq_some_iff.1 hu).1;simpa[qDh] using this
   have:cur[i]?=some u:=by
    rw[<-h7,List.getElem?_take,if_pos (by omega)]at hu;simpa using hu
   simp[World.cell?,h3,this]
 ·refine .inr ⟨g,_,rfl,λi u hu=>?_⟩
  simp[World.cell?,h,hu]
theorem qQ7(w:World)(ty:TypeId)(v:Value)(bs:List Nat)(h:WRow w v bs)(ad:Addr)(c:Nat)(y:Nat)(hnews:w.cell? ad=some (.int .u8 (y:Int)))(had:ad.add 0=ad)(hl:bs.length<=140737488355320):
  ∃g cap w',(Builtin.append_ #[136,136] ty #[v,.slice (some ad) 1 c]).run Tryz.prog w=.ok (.slice (some ⟨g,0,none⟩) (bs.length+1) cap) w' /\
   w'.ownsRow 0 5 1 (.slice (some ⟨g,0,none⟩) (bs.length+1) cap) (bs.length+1) (qDh bs++[.int .u8 (y:Int)])/\w.grownBy w' v.ownBlock/\(v.ownBlock=some g\/g=w.heap.size)/\g<w'.heap.size:=by
 obtain⟨i0,hi0,hz0,hz1,hz2⟩:=info_parts zFq;have hn:∀(j:Nat) u,[Value.int .u8 (y:Int)][j]?=some u->w.cell? (ad.add j)=some u:=by
  intro j u hu;cases j with
  | zero=>rw[had,hnews];exact hu
  | succ j=>simp at hu
 rcases h with h | ⟨g,rfl,h⟩
 ·exact run_append_lies (P:=Tryz.prog) w 136 ty 0 5 i0 _ 1 1 Tryz.underlying136 hi0 hz0 hz1 hz2 rfl (by omega) v bs.length (qDh bs) h ad 1 c [.int .u8 (y:Int)] rfl hn (by simp[Value.oneCell']) (by omega) (by unfold maxLen;omega) (by omega) (Nat.zero_le _) w.heap.size rfl
 ·have hr:=run_append_grow (P:=Tryz.prog) w 136 ty 5 i0 _ Tryz.underlying136 hi0 hz0 ⟨g,0,none⟩ bs.length bs.length (qDh bs) (by simp[qDh,hz1]) (λj u hu=>by
      have hadd:(⟨g,0,none⟩:Addr).add j=⟨g,j,none⟩:=by unfold Addr.add;split <;> simp_all
      rw[hadd]
      simp[World.cell?,h,hu]) ad 1 c [.int .u8 (y:Int)] (by simp[hz1]) hn (by omega) (by omega) (growslice_fits (by omega) (by rw[hz2];omega))
  have hge:=grownCap_ge w (bs.length+1) bs.length 5;have hcm:grownCap w (bs.length+1) bs.length 5<=maxLen:=grownCap_le_maxLen w (bs.length+1) bs.length 5 (by unfold maxLen;omega);refine⟨w.heap.size,_,_,hr,⟨by simp[qDh],.inr ⟨w.heap.size,_,_,rfl,Nat.zero_le _,heap_alloc_new w.drew _,hge,hcm,?_,?_⟩⟩,⟨rfl,rfl,rfl,by simp,λk hk _=>Below.heap_alloc w.drew _ _ hk⟩,.inr rfl,by simp⟩
  ·simp only[Array.size_append,List.size_toArray,size_zeroCells]
   simp[qDh,Value.cells];omega
  ·simp only[Array.toList_append]
   have e:(bs.length+1)*1=(qDh bs++[Value.int .u8 (y:Int)]).length:=by simp[qDh]
   rw[e];exact List.take_left
theorem qHg{w:World}{ops:Array Oper}{rest:List Oper}{o:Oper}{a:Act}{Q:Exit->Act->World->Prop}(hgd:o.guard=none)(s x:Operand)(ho:o.op=.call { callee:=.builtin .append,args:=#[s,x],argTypes:=#[136,136] })(v:Value)(bs:List Nat)(n:Nat)(hbn:bs.length=n)(hs:a.eval s=v)(hw:WRow w v bs)(ad:Addr)(c:Nat)(y:Nat)(hx:a.eval x=.slice (some ad) 1 c)(hnews:w.cell? ad=some (.int .u8 (y:Int)))(had:ad.add 0=ad)(hl:n<=140737488355320)(H:Nat)(hH:w.heap.size=H)(h:∀g cap w',w'.ownsRow 0 5 1 (.slice (some ⟨g,0,none⟩) (n+1) cap) (n+1) (qDh bs++[.int .u8 (y:Int)])->w.grownBy w' v.ownBlock->(v.ownBlock=some g\/g=H)->g<w'.heap.size->wpList Tryz.prog ops Q rest (a.put o.dst (.slice (some ⟨g,0,none⟩) (n+1) cap)) w'): wpList Tryz.prog ops Q (o::rest) a w:=by
 subst hbn hH;refine wpList_plain hgd λK hK=>?_
 obtain⟨g,cap,w',hr,h2,h3,h4,h5⟩:=qQ7 w o.type v bs hw ad c y hnews had hl;unfold Oper.wp execOp;simp only[ho,resolve,invoke,builtin,Sem.run_bind,Sem.run_pure,Result.andThen_ok,List.map_toArray,List.map_cons,List.map_nil,hs,hx,hr];exact hK _ _ (h g cap w' h2 h3 h4 h5)
structure WRep (w:World) (b:Nat) (v:Value) (bs:List Nat):Prop where
 blk:Blk w b [v] 138
 row:WRow w v bs
 ne:v.ownBlock≠some b
 small:∀x∈bs,x<256
def qCc(b:Nat)(v:Value)(i:Nat): Prop:=i=b\/v.ownBlock=some i
theorem WRep.keeps{M:Nat->Prop}{w w':World}{b:Nat}{v:Value}{bs:List Nat}(h:WRep w b v bs)(hk:Keeps M w w')(hn:∀i,qCc b v i->¬M i): WRep w' b v bs :=
 ⟨h.blk.keeps hk (hn b (.inl rfl)),h.row.keeps hk (λi hi=>hn i (.inr hi)),h.ne,h.small⟩
theorem WRep.still{w w':World}{b:Nat}{v:Value}{bs:List Nat}(h:WRep w b v bs)(hk:Keeps (λ_=>False) w w'): WRep w' b v bs:=h.keeps hk (λ_ _ h=>h)
theorem WRep.lt{w:World}{b:Nat}{v:Value}{bs:List Nat}(h:WRep w b v bs)(i:Nat)(hi:qCc b v i): i<w.heap.size:=by
 rcases hi with hi | hi
 ·rw[hi];exact h.blk.lt
 ·exact h.row.lt i hi
def Wrote(w:World)(b:Nat)(v:Value)(bs:List Nat)(w':World): Prop :=
 ∃v',WRep w' b v' bs/\(∀i,v'.ownBlock=some i->v.ownBlock=some i\/w.heap.size<=i)/\Keeps (qCc b v) w w'
theorem Wrote.refl{w:World}{b:Nat}{v:Value}{bs:List Nat}(h:WRep w b v bs): Wrote w b v bs w:=⟨v,h,λ_ hi=>.inl hi,Keeps.refl _ _⟩
theorem WRep.cells{w w':World}{b:Nat}{v:Value}{bs:List Nat}{o:Obj}(h:WRep w b v bs)(hg:(w.alloc o).grownBy w' v.ownBlock): w'.cell? ⟨b,0,none⟩=some v/\w'.frozen? ⟨b,0,none⟩=false:=by
 have hb1:w'.heap[b]?=w.heap[b]?:=by
  rw[hg.block b (by have:=h.blk.lt;simp;omega) (λe=>h.ne e.symm),Below.heap_alloc _ _ _ h.blk.lt]
 exact⟨(World.cell?_of_block (a:=⟨b,0,none⟩) hb1).trans (h.blk.cell rfl),(World.frozen?_of_block (a:=⟨b,0,none⟩) hb1).trans (h.blk.frozen 0)⟩
theorem WRep.more{w w':World}{b:Nat}{v:Value}{bs:List Nat}{o:Obj}{g n cap y:Nat}(h:WRep w b v bs)(hn:bs.length=n)(hg:(w.alloc o).grownBy w' v.ownBlock)(hown:w'.ownsRow 0 5 1 (.slice (some ⟨g,0,none⟩) (n+1) cap) (n+1) (qDh bs++[.int .u8 (y:Int)]))(hat:v.ownBlock=some g\/g=w.heap.size+1)(hy:y<256): Wrote w b v (bs++[y]) (w'.setCell ⟨b,0,none⟩ (.slice (some ⟨g,0,none⟩) (n+1) cap)):=by
 have hlt:=h.blk.lt;have hb1:w'.heap[b]?=w.heap[b]?:=by
  rw[hg.block b (by simp;omega) (λe=>h.ne e.symm),Below.heap_alloc _ _ _ hlt]
 have hblk:Blk w' b [v] 138:=by unfold Blk;rw[hb1];exact h.blk
 have hgb:g≠b:=by
  rcases hat with e | e
  ·intro e2;exact h.ne (by rw[e,e2])
  ·omega
 refine⟨.slice (some ⟨g,0,none⟩) (n+1) cap,⟨hblk.setCell 0 _,?_,?_,?_⟩,?_,?_⟩
 ·refine .inl ?_
  rw[List.length_append,hn,qO5];exact(qNn hown ((Keeps.refl (λi=>i=b) w').setCell (p:=⟨b,0,none⟩) (Or.inl rfl) _) (λi hi e=>hgb ((show g=i by simpa[Value.ownBlock] using hi).trans e)))
 ·intro e;exact hgb (by simpa[Value.ownBlock] using e)
 ·intro x hx
  rcases List.mem_append.1 hx with hx | hx
  ·exact h.small x hx
  ·rw[List.mem_singleton]at hx;omega
 ·intro i hi
  have hi':g=i:=by simpa[Value.ownBlock] using hi
  rcases hat with e | e
  ·exact .inl (by rw[e,hi'])
  ·exact .inr (by omega)
 ·exact(((Keeps.refl (qCc b v) w).alloc o).grown hg (λk hk=>.inl (.inr hk))).setCell (p:=⟨b,0,none⟩) (Or.inl (.inl rfl)) _
theorem Wrote.then{w w1 w2:World}{b:Nat}{v v1:Value}{bs2:List Nat}(hv:∀i,v1.ownBlock=some i->v.ownBlock=some i\/w.heap.size<=i)(hk:Keeps (qCc b v) w w1)(h2:Wrote w1 b v1 bs2 w2): Wrote w b v bs2 w2:=by
 obtain⟨v2,hw2,hv2,hk2⟩:=h2;have hs:=hk.size;refine⟨v2,hw2,λi hi=>?_,hk.trans hk2 (λi hi hlt=>?_)⟩
 ·rcases hv2 i hi with h | h
  ·exact hv i h
  ·exact .inr (by omega)
 ·rcases hi with hi | hi
  ·exact .inl hi
  ·rcases hv i hi with h | h
   ·exact .inr h
   ·omega
theorem qDs(b:Nat)(v:Value)(bs:List Nat)(n:Int)(w:World)(h:WRep w b v bs)(n0:0<=n)(n1:n<=9223372036854775807)(hl:bs.length<=140737488355300):
  Calls Tryz.prog 58 #[.pointer (some ⟨b,0,none⟩),.int .i64 n] w λe w'=>e=.returned (.tuple #[])/\Wrote w b v (bs++enc n) w':=by
 obtain⟨m,rfl⟩:=Int.eq_ofNat_of_zero_le n0;have HS:=hide (qLw (m:Int) n1);have HE:=hide (show enc (m:Int)=qOo 9 m by unfold enc;rw[Int.toNat_natCast]);have HW:=hide h;have wq:IntKind.u64.wrap (m:Int)=(m:Int):=by rw[IntKind.wrap_u64];omega
 clear h n0;go_enter Tryz.func58,Tryz.ntmps58
 go_wp2
 go_loopw [4] (λx wr=>∃(f r:Nat) (pre:List Nat) (v':Value),x=.int .u64 r/\r<=9223372036854775807/\f<=9/\r<128 ^ (f+1)/\pre.length+f=bs.length+9/\Hid (bs++enc (m:Int)=pre++qOo f r)/\Hid (WRep wr b v' pre)/\Hid (∀i,v'.ownBlock=some i->v.ownBlock=some i\/w.heap.size<=i)/\Hid (Keeps (qCc b v) w wr)) (λx _=>(intOf x).toNat)
 case atStart=>exact⟨9,m,bs,v,rfl,by omega,by omega,(by have:(128:Nat) ^ (9+1)=1180591620717411303424:=(by decide);omega),rfl,by show _=_;rw[uh HE],HW,λi hi=>.inl hi,Keeps.refl _ _⟩
 case round =>
  obtain⟨f,r,pre,v',rfl,hr,hf,hrf,hpl,HEQ,HWr,HVr,HKr⟩:=hrel;obtain⟨va,vcap,hv⟩:=(uh HWr).row.form;subst hv;have hc0:wr.cell? ⟨b,0,none⟩=some (.slice va pre.length vcap):=(uh HWr).blk.cell rfl;have hfz:=(uh HWr).blk.frozen;have hlt:=(uh HWr).blk.lt;have hbw:=(uh HKr).size;have hpl2:pre.length<=140737488355310:=by omega
  have HSP:=hide (uh HWr).small;generalize hpn:pre.length=pl at *;have HPN:=hide hpn;have HOW:=hide (show WRow wr (.slice va pl vcap) pre from(uh HWr).row);clear hpn;have HNE:=hide (uh HWr).ne;have w8:IntKind.u8.wrap (r:Int)=((r%256:Nat):Int):=by rw[IntKind.wrap_u8'];omega
  by_cases h127:127<r
  ·have hd:decide ((127:Int)<(r:Int))=true:=by simp;omega
   have or8:bits BinOp.or IntKind.u8 ((r%256:Nat):Int) 128=((r%128+128:Nat):Int):=by
    have h1:=u8_or_nat (r%256) 128 (by omega) (by omega);rw[show((128:Nat):Int)=128 from rfl]at h1;rw[h1]
    congr 1
    have hall:∀x:Fin 256,x.val ||| 128=x.val%128+128:=by decide
    have:=hall ⟨r%256,by omega⟩;simp only at this;rw[this];omega
   generalize hy:r%128+128=y at *;have HY:=hide hy;clear hy;generalize r%256=r8 at *;go_wp2_with (at_builtin;refine qHg rfl _ _ rfl (.slice va pl vcap) pre pl (uh HPN) rfl ((uh HOW).keeps ((Keeps.refl (λ_=>False) wr).alloc _) (λ_ _ h=>h)) ⟨wr.heap.size,0,none⟩ 1 y rfl (by simp) rfl (by omega) (wr.heap.size+1) (by simp) ?_;intro gg cap' w3 hown3 hgrow hat hl3;have hcw:=WRep.cells (uh HWr) hgrow;obtain⟨hc3,hf3⟩:=hcw)
   have HM:=hide (WRep.more (y:=y) (uh HWr) (uh HPN) hgrow hown3 hat (by have:=uh HY;omega));obtain⟨f',hf'⟩:∃f',f=f'+1:=by
    cases f with
    | zero=>simp at hrf;omega
    | succ f=>exact⟨f,rfl⟩
   subst hf';go_roundw
   case rel =>
    obtain⟨v2,hw2,hv2,hk2⟩:=Wrote.then (uh HVr) (uh HKr) (uh HM);refine⟨f',r/128,pre++[y],v2,by go_num,by omega,by omega,?_,by rw[List.length_append,uh HPN,List.length_singleton];omega,?_,hw2,hv2,hk2⟩
    ·rw[Nat.pow_succ]at hrf
     exact(Nat.div_lt_iff_lt_mul (by omega)).2 hrf
    ·show _=_
     rw[uh HEQ,List.append_assoc]
     conv=>lhs;unfold qOo
     rw[if_neg (by omega),uh HY];rfl
   case measure=>simp[intOf];omega
  ·have hd:decide ((127:Int)<(r:Int))=false:=by simp;omega
   have HR:=hide (show qOo f r=[r%256] by
      cases f with
      | zero=>unfold qOo;rw[Nat.mod_eq_of_lt (by omega)]
      | succ f=>unfold qOo;rw[if_pos (by omega),Nat.mod_eq_of_lt (by omega)])
   have HY:=hide (show r%256<256 by omega);generalize r%256=y at *;go_wp2_with (at_builtin;refine qHg rfl _ _ rfl (.slice va pl vcap) pre pl (uh HPN) rfl ((uh HOW).keeps ((Keeps.refl (λ_=>False) wr).alloc _) (λ_ _ h=>h)) ⟨wr.heap.size,0,none⟩ 1 y rfl (by simp) rfl (by omega) (wr.heap.size+1) (by simp) ?_;intro gg cap' w3 hown3 hgrow hat hl3;have hcw:=WRep.cells (uh HWr) hgrow;obtain⟨hc3,hf3⟩:=hcw)
   have HM:=hide (WRep.more (y:=y) (uh HWr) (uh HPN) hgrow hown3 hat (uh HY));go_end0
   refine⟨rfl,?_⟩;rw[uh HEQ,uh HR];exact Wrote.then (uh HVr) (uh HKr) (uh HM)
end
section
open Go.RowKit
attribute [local go_sem ↓] Pa.execOp_loadP Pa.execOp_storeP qEa qDp qDo qE5
attribute [local go_sem] Pa.run_loadP qF4 qE6 qE7 qBf qAc qAb qH7 qF1
theorem qRj{w:World}{base T size n:Nat}{v:Value}{xs:List Value}(h:w.ownsRow base T size v n xs): w.ownsRow 0 T size v n xs:=by
 refine⟨h.1,?_⟩;rcases h.2 with h2 | ⟨g,cap,cur,h1,hb,r⟩
 ·exact .inl h2
 ·exact .inr ⟨g,cap,cur,h1,Nat.zero_le _,r⟩
theorem qU6(d q:Nat)(og:Option Nat)(c:Cfg)(o:Pa.Pn)(cl:List Pa.Pn)(t:Int)(w:World)(h:ORep w d q og c o cl)(hc:c.paned)(hl:cl.length<=1000)(hp:∀p∈cl,OkP c p)(ho:OkP c o)(hcs:∀x∈o.cs,0<=x)(hls:∀p∈cl,∀x∈p.cs,0<=x)(htp:qGh cl+qI4 o<=4611686018427387904):
  Calls Tryz.prog 208 #[.pointer (some ⟨d,0,none⟩),.int .i64 t] w λe w'=>e=.returned (.agg (qAv (qEu c o cl t)).toArray)/\Keeps (λ_=>False) w w':=by
 obtain⟨W,hW⟩:∃W,W=(w.alloc (.cells (qAv qAw).toArray 235)).alloc (.cells (qAv qAw).toArray 235):=⟨_,rfl⟩;have HK:=hide (show Keeps (λ_=>False) w W by rw[hW];exact((Keeps.refl _ _).alloc _).alloc _);have HR:=hide (show Blk W w.heap.size (qAv qAw) 235 by rw[hW];exact(Blk.new w _ _).alloc _);have HS:=hide (show Blk W (w.heap.size+1) (qAv qAw) 235 by rw[hW];exact Blk.newAt (by simp) _ _);have HW:=hide (show(w.alloc (.cells #[.int .i64 0,.int .i64 0,.int .i64 0,.int .i64 0,.int .i64 0,.int .i64 0,.int .i64 0,.int .i64 0,.int .i64 0,.int .i64 0,.int .i64 0,.int .i64 0,.int .i64 0,.int .i64 0,.int .i64 0,.int .i64 0,.int .i64 0,.int .i64 0,.int .i64 0,.int .i64 0,.int .i64 0,.int .i64 0,.int .i64 0,.int .i64 0,.int .i64 0,.int .i64 0,.int .i64 0,.int .i64 0,.int .i64 0,.int .i64 0,.int .i64 0,.int .i64 0,.int .i64 0,.int .i64 0,.int .i64 0,.int .i64 0,.int .i64 0,.int .i64 0,.int .i64 0,.int .i64 0,.int .i64 0,.int .i64 0,.int .i64 0,.int .i64 0,.int .i64 0,.int .i64 0,.int .i64 0,.int .i64 0] 235)).alloc (.cells #[.int .i64 0,.int .i64 0,.int .i64 0,.int .i64 0,.int .i64 0,.int .i64 0,.int .i64 0,.int .i64 0,.int .i64 0,.int .i64 0,.int .i64 0,.int .i64 0,.int .i64 0,.int .i64 0,.int .i64 0,.int .i64 0,.int .i64 0,.int .i64 0,.int .i64 0,.int .i64 0,.int .i64 0,.int .i64 0,.int .i64 0,.int .i64 0,.int .i64 0,.int .i64 0,.int .i64 0,.int .i64 0,.int .i64 0,.int .i64 0,.int .i64 0,.int .i64 0,.int .i64 0,.int .i64 0,.int .i64 0,.int .i64 0,.int .i64 0,.int .i64 0,.int .i64 0,.int .i64 0,.int .i64 0,.int .i64 0,.int .i64 0,.int .i64 0,.int .i64 0,.int .i64 0,.int .i64 0,.int .i64 0] 235)=W from hW.symm);have HSZ:=hide (show W.heap.size=w.heap.size+2 by rw[hW];simp);have HPN:=hide (qS3 d q og c o cl t W (h.still (uh HK)) hc hl hp ho);have HCO:=hide (qXd c o cl t)
 have HPL:=hide (show(qBb c o cl t).length<=1001 by
    unfold qBb;rw[List.length_append,List.length_drop]
    split <;> simp <;> omega)
 have HLS:=hide (show ∀p∈qBb c o cl t,∀x∈p.cs,0<=x from λp hp=>by
    unfold qBb at hp;rcases List.mem_append.1 hp with h1 | h1
    ·exact hls p (List.mem_of_mem_drop h1)
    ·split at h1
     ·rw[List.mem_singleton]at h1;rw[h1];exact hcs
     ·cases h1)
 have HST:=hide (show qGh (qBb c o cl t)<=4611686018427387904 by
    have h1:=qM5 cl (qEh c cl t);have h2:0<=qI4 o:=qK3 _;unfold qBb;rw[qFo]
    split
    ·simp only[qGh];omega
    ·simp only[qGh];omega)
 generalize qBb c o cl t=L at *;clear hW hc hp ho hcs hls h hl htp;go_enter Tryz.func208,Tryz.ntmps208
 go_wp2_with fail
 rw[uh HW];refine(uh HPN).mono ?_;rintro e W1 ⟨v,rfl,hown1,hk1⟩;obtain⟨va,vcap,hv,hva⟩:=qCh hown1;subst hv;have HR1:=hide ((uh HR).keeps hk1 (λh=>h));have HS1:=hide ((uh HS).keeps hk1 (λh=>h));have HK1:=hide ((uh HK).then hk1);have HOW:=hide hown1;have HVA:=hide hva;clear hk1 HPN HW hown1 hva HR HS HK;generalize hrb:w.heap.size=rb at *;have HRB:=hide hrb;clear hrb;generalize hn:L.length=n at *;have HN:=hide hn;clear hn;have hn1:n<=1001:=uh HPL;go_wp2_with fail
 go_loopw [12] (λi wr=>∃k:Nat,i=.int .i64 k/\k<=n/\Hid (Blk wr (rb+1) (qAv (qVq (L.take k))) 235)/\Hid (Keeps (λi=>i=rb+1) W1 wr)) (λi _=>n-(intOf i).toNat)
 case atStart=>exact⟨0,rfl,Nat.zero_le _,HS1,Keeps.refl _ _⟩
 case round =>
  obtain⟨k,rfl,hk2,HBr,HKr⟩:=hrel;have hk0:(0:Int)<=(k:Int):=by omega
  by_cases hlk:k<n
  ·obtain⟨g,hg,hgb⟩:=uh HVA (by omega)
   subst hg;have hkl:k<L.length:=by rw[uh HN];exact hlk
   have hgr:g≠rb+1:=by have:=uh HSZ;omega
   have HBW:=hide (show Pa.BRow wr g vcap L from by
      refine Pa.brow_of_owns (uh HN) (qRj (qNn (uh HOW) (uh HKr) (λi hi h=>?_)));have:g=i:=by simpa[Value.ownBlock] using hi
      omega)
   have hrg:=qAq ((uh HBW).range k hkl);rw[Pa.Pn.cells_length]at hrg;have hbv:qAu wr g (k*49) 49=.agg (Pa.pnAt L k).cells.toArray:=by unfold qAu;rw[hrg.1]
   have hbh:qA2 wr g (k*49) 49=true:=hrg.2;have HD:=hide (Pa.pnAt_drop L k hkl)
   have HM:=hide (show Pa.pnAt L k∈L by
      have:Pa.pnAt L k=L[k]:=by simp[Pa.pnAt,List.getD_eq_getElem?_getD,List.getElem?_eq_getElem hkl]
      rw[this];exact List.getElem_mem hkl)
   clear hrg hkl;generalize Pa.pnAt L k=x at *;obtain⟨W2,hst,hb2,hk2w⟩:=qMi x wr;have HB2:=hide hb2;have hxl:=x.len;have hxc:=x.cells_length
   have hpt:=qBh hb2 1 48 (qAv x.cs) (by
      unfold Pa.Pn.cells;simp only[List.drop_succ_cons,List.drop_zero]
      exact List.take_of_length_le (by simp[x.len])) (by simp[qAv,x.len])
   have hv2:qAu W2 wr.heap.size 1 48=.agg (qAv x.cs).toArray:=hpt.1;have hh2:=hpt.2;have HBa:=hide ((uh HBr).keeps hk2w (λh=>h));have HKa:=hide ((uh HKr).trans hk2w (λ_ h=>h.elim));have HXB:=hide (show ∀z∈x.cs,0<=z from λz hz=>uh HLS x (uh HM) z hz);have HSB:=hide (show ∀z∈qVq (L.take k),0<=z from λz hz=>(qWb _ (λp hp=>uh HLS p (List.mem_of_mem_take hp)) z hz).1)
   have HNX:=hide (show qVq (L.take (k+1))=qLc (qVq (L.take k)) x by
      rw[<-qS4]
      congr 1
      have hlen:k<L.length:=by rw[uh HN];omega
      rw[List.take_succ_eq_append_getElem hlen]
      congr 2
      have h1:=uh HD;rw[List.drop_eq_getElem_cons hlen]at h1
      exact(List.cons.inj h1).1)
   have HSX:=hide (show ∀z∈List.zipWith (·+·) (qVq (L.take k)) x.cs,z<=4611686018427387904 from λz hz=>by
      have h1:z∈qVq (L.take (k+1)):=by rw[uh HNX];exact hz
      have h2:=qWb _ (λp hp=>uh HLS p (List.mem_of_mem_take hp)) z h1;have h3:=zBx L (k+1);have h4:=uh HST
      omega)
   have hgs:g≠wr.heap.size:=by have:=(uh HBW).lt;omega
   clear hb2 hk2w hpt hgr;have hin:(k:Int)<(n:Int):=by omega
   go_wp2_with fail
   refine(zHq (rb+1) (qVq (L.take k)) x.cs W2 (qFl _) x.len (uh HBa) (uh HSB) (uh HXB) (uh HSX)).mono ?_;rintro e Wb ⟨rfl,hbb,hkb⟩;have HBb:=hide hbb;have HKb:=hide ((uh HKa).then hkb);clear hbb hkb;go_wp2
   go_roundw
   case rel =>
    refine⟨k+1,by go_num,by omega,?_,uh HKb⟩;show Blk _ _ _ _;rw[uh HNX];exact uh HBb
   case measure=>simp[intOf];omega
  ·have hkn:k=n:=by omega
   subst hkn;have htk:L.take k=L:=List.take_of_length_le (by rw[uh HN];omega);rw[htk,uh HCO]at HBr;have hsl:(qEu c o cl t).length=48:=by rw[<-uh HCO];exact qFl _
   have HRl:=hide ((uh HR1).keeps (uh HKr) (by omega));obtain⟨S,hS⟩:∃S,S=qEu c o cl t:=⟨_,rfl⟩;rw[<-hS]at HBr hsl;have HSS:=hide hS;clear hS;have hr3:=qBl (uh HBr) 48 (by simp[qAv,hsl]);have hv3:qAu wr (rb+1) 0 48=.agg (qAv S).toArray:=hr3.1;have hh3:=hr3.2;have hth:wr.there rb 0 48:=λj hj=>⟨(uh HRl).some (by simpa[qAv,qBf] using hj),(uh HRl).frozen _⟩
   have HLV:=hide (zC1 wr rb S (uh HRl) hsl);clear hr3;go_wp2
   refine bodyPost_ret (v:=.agg (qAv S).toArray) ?_ rfl ⟨by rw[uh HSS],?_⟩
   ·simp[results,Tryz.results208,asAddr,uh HLV]
   ·have hrb:=uh HRB
    exact Keeps.setCells (Or.inr (by omega)) _ _ _ ((uh HK1).trans (uh HKr) (λi hi hlt=>by omega))
end
section
open Go.RowKit
attribute [local go_sem ↓] Pa.execOp_loadP Pa.execOp_storeP qEa qE5 qDp qDo
attribute [local go_sem] Pa.run_loadP qF4 qE6 qE7 qIb qBf qAc qAb qH7 qF1
def qNj(c:Cfg)(cnt:List Int)(key:Int)(j:Nat): Int:=cnt.getD (j*16+(qB3 c key j).toNat) 0
def qKv(c:Cfg)(cnt:List Int)(key:Int): Nat->Int
 | 0=>qNj c cnt key 0
 | j+1=>min (qKv c cnt key j) (qNj c cnt key j)
def qryO(c:Cfg)(o:Pa.Pn)(cl:List Pa.Pn)(key m:Int): Int:=qKv c (qEu c o cl (m-c.window)) key c.rows.toNat
theorem qUs(d:Nat)(a m:Int)(w:World)(ha:inB a 0 2147483648=false):
  Calls Tryz.prog 160 #[.pointer (some ⟨d,0,none⟩),.int .i64 a,.int .i64 m] w λe w'=>e=.returned (.tuple #[.slice none 0 0,.int .i64 10])/\Keeps (λ_=>False) w w':=by
 go_enter Tryz.func160,Tryz.ntmps160
 go_wp2_with (go_at_call 151;refine(qVd _ _).mono ?_;rintro e w' ⟨rfl,rfl⟩)
 go_ret2
 exact⟨rfl,Keeps.refl _ _⟩
theorem qSu(d q:Nat)(og:Option Nat)(c:Cfg)(o:Pa.Pn)(cl:List Pa.Pn)(a m:Int)(w:World)(h:ORep w d q og c o cl)(ha:inB a 0 2147483648=true)(hc:c.paned)(hrw:c.rowed)(m0:-4611686018427387904<=m)(m1:m<=4611686018427387904)(hl:cl.length<=1000)(hp:∀p∈cl,OkP c p)(ho:OkP c o)(hcs:∀x∈o.cs,0<=x)(hls:∀p∈cl,∀x∈p.cs,0<=x)(htp:qGh cl+qI4 o<=4611686018427387904):
  Calls Tryz.prog 160 #[.pointer (some ⟨d,0,none⟩),.int .i64 a,.int .i64 m] w λe w'=>∃g,e=.returned (.tuple #[.slice (some ⟨g,0,none⟩) 1 1,.int .i64 0])/\w.heap.size<=g/\Blk w' g [.int .i64 (qryO c o cl a m)] 3/\Keeps (λ_=>False) w w':=by
 have ha1:0<=a/\a<=2147483648:=by simpa[inB] using ha
 obtain⟨a0,a1⟩:=ha1;have c5:w.cell? ⟨d,5,none⟩=some (.int .i64 c.window):=h.blk.cell (qB2 c o q 5 (by omega));have hwin:=hc.w0;have hwin1:=hc.w1;have hwm:IntKind.i64.wrap (m-c.window)=m-c.window:=by rw[IntKind.wrap_i64];omega
 have HT:=hide h;have HRW:=hide hrw;have HCN:=hide (λW (k:Keeps (λ_=>False) w W)=>qU6 d q og c o cl (m-c.window) W (h.still k) hc hl hp ho hcs hls htp);have HQ:=hide (show qryO c o cl a m=qKv c (qEu c o cl (m-c.window)) a c.rows.toNat from rfl);have hlt:=h.blk.lt;clear h hc hrw hp ho hcs hls htp;go_enter Tryz.func160,Tryz.ntmps160
 go_wp2_with (first | (go_at_call 151;refine(qVd _ _).mono ?_;rintro e w' ⟨rfl,hw'⟩;rw[hw'];clear hw' w') | fail)
 refine(uh HCN w (Keeps.refl _ _)).mono ?_;rintro e Wc ⟨rfl,hkc⟩;have HTc:=hide ((uh HT).still hkc);have HKc:=hide hkc;clear hkc c5
 have HCL:=hide (show(qEu c o cl (m-c.window)).length=48 by
    unfold qEu
    split
    ·exact qK1 (qFl _)
    ·exact qFl _)
 have HPLC:=hide (λW (k:Keeps (λ_=>False) Wc W)=>qOg d c o q a W ((uh HTc).still k).blk (uh HRW) a0 a1);generalize qEu c o cl (m-c.window)=cnt at *;go_wp2_with fail
 refine(uh HPLC Wc (Keeps.refl _ _)).mono ?_;rintro e Wp ⟨b0,b1,b2,rfl,hpl,hkp⟩;have HPL:=hide hpl;have HTp:=hide ((uh HTc).still hkp);have HKp:=hide ((uh HKc).then hkp);obtain⟨R,hR⟩:∃R:Nat,c.rows=(R:Int):=⟨c.rows.toNat,by have:=(uh HRW).r0;omega⟩;have hR3:R<=3:=by have:=(uh HRW).r1;omega
 have hR1:1<=R:=by have:=(uh HRW).r0;omega
 have c7:Wp.cell? ⟨d,7,none⟩=some (.int .i64 (R:Int)):=hR ▸ (uh HTp).blk.cell (qB2 c o q 7 (by omega));have hdp:=(uh HTp).blk.lt;have hdp1:d<Wp.heap.size+1:=by omega
 have HR:=hide hR;clear hpl hkp hR hlt hwm
 have HPP:=hide (show ∀k,k<R->∃pk:Nat,pk<16/\(qB3 c a k).toNat=pk/\([Value.int .i64 b0,.int .i64 b1,.int .i64 b2]:List Value)[k]?=some (.int .i64 (pk:Int)) from λk hk=>by
    have hb:=qJu c (uh HRW) a k;obtain⟨p0,p1,p2⟩:=uh HPL;rw[uh HR]at p1 p2;refine⟨(qB3 c a k).toNat,by omega,rfl,?_⟩;have hk3:k=0\/k=1\/k=2:=by omega
    rcases hk3 with e | e | e
    ·subst e;rw[Int.toNat_of_nonneg hb.1,p0];rfl
    ·subst e;rw[Int.toNat_of_nonneg hb.1,p1 (by omega)];rfl
    ·subst e;rw[Int.toNat_of_nonneg hb.1,p2 (by omega)];rfl)
 obtain⟨p0,hp0,hpe,hcell⟩:=uh HPP 0 (by omega);have hb0:b0=(p0:Int):=by simpa using hcell
 clear hcell;subst hb0;have HP0:=hide hpe;clear hpe;obtain⟨V1,hst,hc1,hp1,hk1⟩:∃V1,(Pa.storeP 235 (.pointer (some ⟨Wp.heap.size,0,none⟩)) (.agg (qAv cnt).toArray)).run Tryz.prog ((Wp.alloc (.cells #[.int .i64 0,.int .i64 0,.int .i64 0,.int .i64 0,.int .i64 0,.int .i64 0,.int .i64 0,.int .i64 0,.int .i64 0,.int .i64 0,.int .i64 0,.int .i64 0,.int .i64 0,.int .i64 0,.int .i64 0,.int .i64 0,.int .i64 0,.int .i64 0,.int .i64 0,.int .i64 0,.int .i64 0,.int .i64 0,.int .i64 0,.int .i64 0,.int .i64 0,.int .i64 0,.int .i64 0,.int .i64 0,.int .i64 0,.int .i64 0,.int .i64 0,.int .i64 0,.int .i64 0,.int .i64 0,.int .i64 0,.int .i64 0,.int .i64 0,.int .i64 0,.int .i64 0,.int .i64 0,.int .i64 0,.int .i64 0,.int .i64 0,.int .i64 0,.int .i64 0,.int .i64 0,.int .i64 0,.int .i64 0] 235)).alloc (.cells #[.int .i64 0,.int .i64 0,.int .i64 0] 243))=.ok .skip V1 /\
   Blk V1 Wp.heap.size (qAv cnt) 235/\Blk V1 (Wp.heap.size+1) [.int .i64 0,.int .i64 0,.int .i64 0] 243/\Keeps (λ_=>False) Wp V1:=by
  have hb:Blk ((Wp.alloc (.cells #[.int .i64 0,.int .i64 0,.int .i64 0,.int .i64 0,.int .i64 0,.int .i64 0,.int .i64 0,.int .i64 0,.int .i64 0,.int .i64 0,.int .i64 0,.int .i64 0,.int .i64 0,.int .i64 0,.int .i64 0,.int .i64 0,.int .i64 0,.int .i64 0,.int .i64 0,.int .i64 0,.int .i64 0,.int .i64 0,.int .i64 0,.int .i64 0,.int .i64 0,.int .i64 0,.int .i64 0,.int .i64 0,.int .i64 0,.int .i64 0,.int .i64 0,.int .i64 0,.int .i64 0,.int .i64 0,.int .i64 0,.int .i64 0,.int .i64 0,.int .i64 0,.int .i64 0,.int .i64 0,.int .i64 0,.int .i64 0,.int .i64 0,.int .i64 0,.int .i64 0,.int .i64 0,.int .i64 0,.int .i64 0] 235)).alloc (.cells #[.int .i64 0,.int .i64 0,.int .i64 0] 243)) Wp.heap.size (qAv qAw) 235:=(Blk.new Wp (qAv qAw) _).alloc _;have hb2:Blk ((Wp.alloc (.cells #[.int .i64 0,.int .i64 0,.int .i64 0,.int .i64 0,.int .i64 0,.int .i64 0,.int .i64 0,.int .i64 0,.int .i64 0,.int .i64 0,.int .i64 0,.int .i64 0,.int .i64 0,.int .i64 0,.int .i64 0,.int .i64 0,.int .i64 0,.int .i64 0,.int .i64 0,.int .i64 0,.int .i64 0,.int .i64 0,.int .i64 0,.int .i64 0,.int .i64 0,.int .i64 0,.int .i64 0,.int .i64 0,.int .i64 0,.int .i64 0,.int .i64 0,.int .i64 0,.int .i64 0,.int .i64 0,.int .i64 0,.int .i64 0,.int .i64 0,.int .i64 0,.int .i64 0,.int .i64 0,.int .i64 0,.int .i64 0,.int .i64 0,.int .i64 0,.int .i64 0,.int .i64 0,.int .i64 0,.int .i64 0] 235)).alloc (.cells #[.int .i64 0,.int .i64 0,.int .i64 0] 243)) (Wp.heap.size+1) [.int .i64 0,.int .i64 0,.int .i64 0] 243:=Blk.newAt (by simp) _ _;have hk:Keeps (λ_=>False) Wp ((Wp.alloc (.cells #[.int .i64 0,.int .i64 0,.int .i64 0,.int .i64 0,.int .i64 0,.int .i64 0,.int .i64 0,.int .i64 0,.int .i64 0,.int .i64 0,.int .i64 0,.int .i64 0,.int .i64 0,.int .i64 0,.int .i64 0,.int .i64 0,.int .i64 0,.int .i64 0,.int .i64 0,.int .i64 0,.int .i64 0,.int .i64 0,.int .i64 0,.int .i64 0,.int .i64 0,.int .i64 0,.int .i64 0,.int .i64 0,.int .i64 0,.int .i64 0,.int .i64 0,.int .i64 0,.int .i64 0,.int .i64 0,.int .i64 0,.int .i64 0,.int .i64 0,.int .i64 0,.int .i64 0,.int .i64 0,.int .i64 0,.int .i64 0,.int .i64 0,.int .i64 0,.int .i64 0,.int .i64 0,.int .i64 0,.int .i64 0] 235)).alloc (.cells #[.int .i64 0,.int .i64 0,.int .i64 0] 243)):=((Keeps.refl _ _).alloc _).alloc _;generalize(Wp.alloc (.cells #[.int .i64 0,.int .i64 0,.int .i64 0,.int .i64 0,.int .i64 0,.int .i64 0,.int .i64 0,.int .i64 0,.int .i64 0,.int .i64 0,.int .i64 0,.int .i64 0,.int .i64 0,.int .i64 0,.int .i64 0,.int .i64 0,.int .i64 0,.int .i64 0,.int .i64 0,.int .i64 0,.int .i64 0,.int .i64 0,.int .i64 0,.int .i64 0,.int .i64 0,.int .i64 0,.int .i64 0,.int .i64 0,.int .i64 0,.int .i64 0,.int .i64 0,.int .i64 0,.int .i64 0,.int .i64 0,.int .i64 0,.int .i64 0,.int .i64 0,.int .i64 0,.int .i64 0,.int .i64 0,.int .i64 0,.int .i64 0,.int .i64 0,.int .i64 0,.int .i64 0,.int .i64 0,.int .i64 0,.int .i64 0] 235)).alloc (.cells #[.int .i64 0,.int .i64 0,.int .i64 0] 243)=V at *;refine⟨_,qF1 V Wp.heap.size cnt (uh HCL) (λj hj=>⟨hb.some (by simpa[qAv,qBf] using hj),hb.frozen _⟩),?_,?_,?_⟩
  ·have h1:=Blk.setCells (qAv cnt) 0 _ _ hb (by simp[qAv,uh HCL,qBf])
   have e:over (qAv qAw) 0 (qAv cnt)=qAv cnt:=by
    unfold over;rw[List.drop_eq_nil_of_le (by simp[qAv,qBf,uh HCL])];simp
   rw[e]at h1;exact h1
  ·exact hb2.keeps (M:=λi=>i=Wp.heap.size) (Keeps.setCells (M:=λi=>i=Wp.heap.size) (Or.inl rfl) _ _ _ (Keeps.refl _ _)) (λh=>by have h':Wp.heap.size+1=Wp.heap.size:=h;omega)
  ·exact Keeps.setCells (Or.inr (Nat.le_refl _)) _ _ _ hk
 have HC1:=hide hc1;have HP1:=hide hp1;have HK1:=hide hk1;have HT1:=hide ((uh HTp).still hk1);have g0:V1.cell? ⟨Wp.heap.size+1,0,none⟩=some (.int .i64 0):=hp1.cell rfl;have g1:V1.cell? ⟨Wp.heap.size+1,1,none⟩=some (.int .i64 0):=hp1.cell rfl;have g2:V1.cell? ⟨Wp.heap.size+1,2,none⟩=some (.int .i64 0):=hp1.cell rfl;have gf:=hp1.frozen;have gr:V1.cell? ⟨d,7,none⟩=some (.int .i64 (R:Int)):=hk1.cell c7 (λh=>h);have hx:cnt[p0]?=some (qNj c cnt a 0):=by
  unfold qNj;have hl:p0<cnt.length:=by rw[uh HCL];omega
  rw[uh HP0,Nat.zero_mul,Nat.zero_add,List.getD_eq_getElem?_getD,List.getElem?_eq_getElem hl];rfl
 have gx:V1.cell? ⟨Wp.heap.size,p0,none⟩=some (.int .i64 (qNj c cnt a 0)):=hc1.cell (by unfold qAv;rw[List.getElem?_map,hx];rfl);have hp00:(0:Int)<=(p0:Int):=by omega
 have hp16:(p0:Int)<16:=by omega
 clear hc1 hp1 hk1 c7 hx;go_wp2_with fail
 obtain⟨V2,hV2⟩:∃V2,V2=((V1.setCell ⟨Wp.heap.size+1,0,none⟩ (.int .i64 p0)).setCell ⟨Wp.heap.size+1,1,none⟩ (.int .i64 b1)).setCell ⟨Wp.heap.size+1,2,none⟩ (.int .i64 b2):=⟨_,rfl⟩;rw[<-hV2];have HP2:=hide (show Blk V2 (Wp.heap.size+1) [.int .i64 p0,.int .i64 b1,.int .i64 b2] 243 by rw[hV2];exact(((uh HP1).setCell 0 _).setCell 1 _).setCell 2 _);have hkv:Keeps (λi=>i=Wp.heap.size+1) V1 V2:=by rw[hV2];exact(((Keeps.refl (λi=>i=Wp.heap.size+1) V1).setCell (p:=⟨Wp.heap.size+1,0,none⟩) (Or.inl rfl) _).setCell (p:=⟨Wp.heap.size+1,1,none⟩) (Or.inl rfl) _).setCell (p:=⟨Wp.heap.size+1,2,none⟩) (Or.inl rfl) _
 have HC2:=hide ((uh HC1).keeps hkv (λh=>by have h':Wp.heap.size=Wp.heap.size+1:=h;omega));have HK2:=hide (show Keeps (λ_=>False) w V2 from((uh HKp).then (uh HK1)).trans hkv (λi hi hlt=>by have:=(uh HKp).size;omega));clear hV2 hkv g0 g1 g2 gf gr gx hst;generalize Wp.heap.size=P at *;go_loopw [10,37] (λs i wr=>∃k:Nat,i=.int .i64 k/\k<=R/\s=.int .i64 (qKv c cnt a k)/\Hid (Keeps (λ_=>False) V2 wr)) (λ_ i _=>R-(intOf i).toNat)
 case atStart=>exact⟨0,rfl,Nat.zero_le _,rfl,Keeps.refl _ _⟩
 case round =>
  obtain⟨k,rfl,hk,rfl,HKr⟩:=hrel;have hk0:(0:Int)<=(k:Int):=by omega
  by_cases hlt:k<R
  ·have hk3:(k:Int)<3:=by omega
   obtain⟨pk,hpk,hpe,hcell⟩:=uh HPP k hlt;have hq0:(0:Int)<=(pk:Int):=by omega
   have hq1:(pk:Int)<16:=by omega
   have cp:wr.cell? ⟨P+1,k,none⟩=some (.int .i64 (pk:Int)):=(uh HKr).cell ((uh HP2).cell hcell) (λh=>h);have hx:cnt[k*16+pk]?=some (qNj c cnt a k):=by
    unfold qNj;have hl:k*16+pk<cnt.length:=by rw[uh HCL];omega
    rw[hpe,List.getD_eq_getElem?_getD,List.getElem?_eq_getElem hl];rfl
   have cx:wr.cell? ⟨P,k*16+pk,none⟩=some (.int .i64 (qNj c cnt a k)):=(uh HKr).cell ((uh HC2).cell (by unfold qAv;rw[List.getElem?_map,hx];rfl)) (λh=>h);have HMN:=hide (show qKv c cnt a (k+1)=min (qKv c cnt a k) (qNj c cnt a k) from rfl);clear hx hpe hcell;generalize qKv c cnt a k=L at *;generalize qNj c cnt a k=x at *;rcases Int.lt_trichotomy L x with hc | hc | hc
   all_goals
    go_wp2_with fail
    go_quiet (fail)
    go_wp2
    go_roundw
    case rel =>
     refine⟨k+1,by go_num,by omega,?_,(uh HKr).then (Keeps.drewN _ _ _)⟩;rw[uh HMN]
     congr 1
     omega
    case measure=>simp[intOf];omega
  ·have hkR:k=R:=by omega
   subst hkR;have hrn:c.rows.toNat=k:=by rw[uh HR];simp
   rw[hrn]at HQ;go_wp2
   go_ret2
   have hs:=((uh HK2).then (uh HKr)).size;exact⟨wr.heap.size,rfl,hs,by rw[uh HQ];exact Blk.new wr [.int .i64 (qKv c cnt a k)] 3,((uh HK2).then (uh HKr)).alloc _⟩
end
section
open Go.RowKit
structure OInv (c:Cfg) (rel last:Int) (o:Pa.Pn) (cl:List Pa.Pn):Prop where
 on0:0<=o.no
 onT:o.no*qBd c<=last
 asc:cl.Pairwise (λa b=>a.no<b.no)
 lt:∀p∈cl,0<=p.no/\p.no<o.no
 ocs:∀x∈o.cs,0<=x
 ccs:∀p∈cl,∀x∈p.cs,0<=x
 tops:qGh cl+qI4 o<=rel
 len:(cl.length:Int)<=c.panes
theorem zA4: ∀(l:List Pa.Pn) (a b:Int),l.Pairwise (λa b=>a.no<b.no)->(∀p∈l,a<=p.no/\p.no<b)->(l.length:Int)<=max (b-a) 0
 | [],a,b,_,_=>by simp;omega
 | p::l,a,b,h,hb=>by
  rw[List.pairwise_cons]at h;have h1:=hb p (by simp);have h2:=zA4 l (p.no+1) b h.2 (λq hq=>⟨by have:=h.1 q hq;omega,(hb q (by simp[hq])).2⟩);rw[List.length_cons]
  push_cast
  omega
theorem OInv.zero(c:Cfg)(hp:1<=c.panes): OInv c 0 0 Pa.pn0 []:=by
 refine⟨Int.le_refl _,by show(0:Int)*_<=0;simp,List.Pairwise.nil,(λp hp=>(List.not_mem_nil hp).elim),?_,(λp hp=>(List.not_mem_nil hp).elim),?_,(by show(0:Int)<=_;omega)⟩
 ·intro x hx
  have hx':x∈List.replicate 48 (0:Int):=hx;rw[(List.mem_replicate.1 hx').2];omega
 ·have:qI4 Pa.pn0<=0:=qRm (Int.le_refl _) (λx hx=>by
     have hx':x∈List.replicate 48 (0:Int):=hx;rw[(List.mem_replicate.1 hx').2]
     omega)
  show 0+qI4 Pa.pn0<=0;omega
theorem qVo(c:Cfg)(h:c.rowed)(key:Int)(cs:List Int): ∀n i:Nat,(qEy c key n cs).getD i 0<=cs.getD i 0+(if i<n*16 then 1 else 0)
 | 0,i=>by rw[if_neg (by omega)];exact Int.le_of_eq (Int.add_zero _).symm
 | n+1,i=>by
  have hp:=qJu c h key n;obtain⟨p,hpe⟩:∃p:Nat,(qB3 c key n).toNat=p:=⟨_,rfl⟩;have hp16:p<16:=by omega
  have h1:=qVo c h key cs n i;have h2:=qVo c h key cs n (n*16+p);rw[if_neg (by omega)]at h2;unfold qEy zCp;rw[hpe,List.getD_eq_getElem?_getD,List.getElem?_set]
  by_cases e:n*16+p=i
  ·rw[if_pos e]
   subst e;rw[if_pos (show n*16+p<(n+1)*16 by omega)]
   by_cases hl:n*16+p<(qEy c key n cs).length
   ·rw[if_pos hl];simp only[Option.getD_some];omega
   ·rw[if_neg hl]
    rw[List.getD_eq_getElem?_getD,List.getElem?_eq_none (by omega)]at h2;simp only[Option.getD_none]at h2 ⊢;omega
  ·rw[if_neg e,<-List.getD_eq_getElem?_getD]
   split
   ·split at h1 <;> omega
   ·rw[if_neg (by omega)]at h1;exact h1
theorem zE6(c:Cfg)(h:c.rowed)(key:Int)(n:Nat)(p:Pa.Pn): qI4 (qVc c key n p)<=qI4 p+1:=by
 have ht:0<=qI4 p:=qK3 _;refine qRm (by omega) (λx hx=>?_);obtain⟨i,hi,rfl⟩:=List.mem_iff_getElem.1 hx;have hl:i<p.cs.length:=by have:=qEx c key p.cs n;have h2:i<(qEy c key n p.cs).length:=hi;omega
 have h1:=qVo c h key p.cs n i;rw[List.getD_eq_getElem?_getD,List.getElem?_eq_getElem (show i<(qEy c key n p.cs).length from hi),List.getD_eq_getElem?_getD,List.getElem?_eq_getElem hl]at h1;have h2:p.cs[i]<=qI4 p:=qSa (List.getElem_mem hl);have h3:(qEy c key n p.cs)[i]'hi<=p.cs[i]+(if i<n*16 then 1 else 0):=h1;show(qEy c key n p.cs)[i]'hi<=_
 split at h3 <;> omega
theorem OInv.cel{c:Cfg}{rel last:Int}{o:Pa.Pn}{cl:List Pa.Pn}(h:OInv c rel last o cl): (∀x∈o.cs,0<=x/\x<=rel)/\∀p∈cl,∀x∈p.cs,0<=x/\x<=rel:=by
 have h1:=h.tops;have h2:=qJ7 cl;have h3:0<=qI4 o:=qK3 _;refine⟨λx hx=>⟨h.ocs x hx,?_⟩,λp hp x hx=>⟨h.ccs p hp x hx,?_⟩⟩
 ·have:x<=qI4 o:=qSa hx
  omega
 ·have h4:x<=qI4 p:=qSa hx
  obtain⟨a,b,hab⟩:=List.append_of_mem hp;rw[hab,qFo]at h1;have h5:=qJ7 a;have h6:=qJ7 b;simp only[qGh]at h1;omega
theorem zFg{c:Cfg}{p:Pa.Pn}{last:Int}(h0:0<=p.no)(hT:p.no*qBd c<=last)(hl:last<=4611686018427387904)(hL:1<=qBd c)(hL1:qBd c<=1000): OkP c p:=by
 have h1:p.no*1<=p.no*qBd c:=Int.mul_le_mul_of_nonneg_left hL h0;have h2:(p.no+1)*qBd c=p.no*qBd c+qBd c:=by rw[Int.add_mul,Int.one_mul]
 have h3:0<=p.no*qBd c:=Int.mul_nonneg h0 (by omega);exact⟨h0,by omega,by omega,by omega⟩
theorem OInv.okO{c:Cfg}{rel last:Int}{o:Pa.Pn}{cl:List Pa.Pn}(h:OInv c rel last o cl)(hl:last<=4611686018427387904)(hL:1<=qBd c)(hL1:qBd c<=1000): OkP c o:=zFg h.on0 h.onT hl hL hL1
theorem OInv.okC{c:Cfg}{rel last:Int}{o:Pa.Pn}{cl:List Pa.Pn}(h:OInv c rel last o cl)(hl:last<=4611686018427387904)(hL:1<=qBd c)(hL1:qBd c<=1000): ∀p∈cl,OkP c p:=λp hp=>by
 have h1:=h.lt p hp;have h2:p.no*qBd c<=o.no*qBd c:=Int.mul_le_mul_of_nonneg_right (by omega) (by omega);exact zFg h1.1 (Int.le_trans h2 h.onT) hl hL hL1
theorem qKb(c:Cfg)(hL:0<=qBd c)(t:Int): ∀l:List Pa.Pn,l.Pairwise (λa b=>a.no<b.no)->∀p∈l.drop (qEh c l t),t<qF6 c p
 | [],_,p,hp=>by simp at hp
 | q::l,h,p,hp=>by
  rw[List.pairwise_cons]at h;unfold qEh at hp;rw[List.takeWhile_cons]at hp
  split at hp
  ·rw[List.length_cons,List.drop_succ_cons]at hp
   exact qKb c hL t l h.2 p hp
  ·rename_i hq
   have hq':t<qF6 c q:=by simpa using hq
   rw[List.length_nil,List.drop_zero]at hp;rcases List.mem_cons.1 hp with e | e
   ·rw[e];exact hq'
   ·have h1:=h.1 p e
    have h2:(q.no+1)*qBd c<=(p.no+1)*qBd c:=Int.mul_le_mul_of_nonneg_right (by omega) hL;unfold qF6 at hq' ⊢;omega
theorem zEf{c:Cfg}{rel last:Int}{o:Pa.Pn}{cl:List Pa.Pn}(h:OInv c rel last o cl)(y:It)(m:Int)(hL:1<=qBd c)(hw:c.panes*qBd c=c.window)(hp:1<=c.panes)(hrw:c.rowed)(hy:last<=y.t)(hm:y.t<=m):
  OInv c (rel+1) y.t (qYa c o cl y m).1 (qYa c o cl y m).2:=by
 obtain⟨n,hn⟩:∃n,n=y.t/qBd c:=⟨_,rfl⟩;have hon:o.no<=n:=by rw[hn];exact(Int.le_ediv_iff_mul_le (by omega)).2 (Int.le_trans h.onT hy)
 have hnT:n*qBd c<=y.t:=by rw[hn];exact Int.ediv_mul_le _ (by omega)
 have hnU:y.t<(n+1)*qBd c:=by rw[hn];exact Int.lt_ediv_add_one_mul_self _ (by omega)
 -- behind the turn
 have ht:∃o2 l2,qBp o cl n=(o2,l2)/\o2.no=n/\l2.Pairwise (λa b=>a.no<b.no)/\(∀p∈l2,0<=p.no/\p.no<n)/\(∀x∈o2.cs,0<=x)/\(∀p∈l2,∀x∈p.cs,0<=x)/\qGh l2+qI4 o2<=rel:=by
  have hz:∀x∈qAw,0<=x:=λx hx=>by
   have hx':x∈List.replicate 48 (0:Int):=hx;rw[(List.mem_replicate.1 hx').2];omega
  have hzt:qI4 (qNg n)<=0:=qRm (Int.le_refl _) (λx hx=>by
     have hx':x∈List.replicate 48 (0:Int):=hx;rw[(List.mem_replicate.1 hx').2]
     omega)
  have htp:=h.tops;have hto:0<=qI4 o:=qK3 _;unfold qBp
  by_cases h1:o.no=n
  ·rw[if_pos h1]
   exact⟨o,cl,rfl,h1,h.asc,λp hp=>by rw[<-h1];exact h.lt p hp,h.ocs,h.ccs,h.tops⟩
  ·rw[if_neg h1]
   by_cases h2:o.cs=qAw
   ·rw[if_pos h2]
    exact⟨qNg n,cl,rfl,rfl,h.asc,λp hp=>by have:=h.lt p hp;omega,hz,h.ccs,by omega⟩
   ·rw[if_neg h2]
    refine⟨qNg n,cl++[o],rfl,rfl,?_,?_,hz,?_,by rw[qFo];simp only[qGh];omega⟩
    ·rw[List.pairwise_append]
     exact⟨h.asc,List.pairwise_singleton _ _,λa ha b hb=>by rw[List.mem_singleton.1 hb];exact(h.lt a ha).2⟩
    ·intro p hp
     rcases List.mem_append.1 hp with e | e
     ·have:=h.lt p e;omega
     ·rw[List.mem_singleton.1 e];have:=h.on0;omega
    ·intro p hp
     rcases List.mem_append.1 hp with e | e
     ·exact h.ccs p e
     ·rw[List.mem_singleton.1 e];exact h.ocs
 obtain⟨o2,l2,he,e1,e2,e3,e4,e5,e6⟩:=ht;have hrel:qYa c o cl y m=(qVc c y.k c.rows.toNat o2,l2.drop (qEh c l2 (m-c.window))):=by unfold qYa;rw[<-hn,he]
 rw[hrel];have hasc:(l2.drop (qEh c l2 (m-c.window))).Pairwise (λa b=>a.no<b.no):=e2.sublist (List.drop_sublist _ _);refine⟨by show 0<=o2.no;rw[e1];have:=h.on0;omega,by show o2.no*_<=_;rw[e1];exact hnT,hasc,λp hp=>by show _/\p.no<o2.no;rw[e1];exact e3 p (List.mem_of_mem_drop hp),?_,λp hp x hx=>e5 p (List.mem_of_mem_drop hp) x hx,?_,?_⟩
 ·intro x hx
  exact(qQp (c:=c) (key:=y.k) (B:=qI4 o2) (λx hx=>⟨e4 x hx,qSa hx⟩) (qK3 _) c.rows.toNat x hx).1
 ·have h1:=zE6 c hrw y.k c.rows.toNat o2
  have h2:=qM5 l2 (qEh c l2 (m-c.window));show qGh (l2.drop (qEh c l2 (m-c.window)))+qI4 (qVc c y.k c.rows.toNat o2)<=rel+1;omega
 ·have hb:=zA4 _ (n-c.panes) n hasc (λp hp=>by
     refine⟨?_,(e3 p (List.mem_of_mem_drop hp)).2⟩;have h1:=qKb c (by omega) (m-c.window) l2 e2 p hp;unfold qF6 at h1;have h2:(n-c.panes)*qBd c<(p.no+1)*qBd c:=by
      rw[Int.sub_mul,hw];omega
     have h3:=Int.lt_of_mul_lt_mul_right h2 (by omega)
     omega)
  show((l2.drop (qEh c l2 (m-c.window))).length:Int)<=c.panes;omega
end
section
open Go.RowKit
attribute [local go_sem ↓] qAd qAe
attribute [local go_sem] qAf qAl qAc qAb qAm qAn qAh qAk
theorem zJk: (Tryz.prog.info? 222).map (λi=>(i.zero,i.size,i.bytes))=some (some (.pointer none),1,8):=by kernel_rfl
def zFm(ty:TypeId)(ps:Array (Nat×Value)): Sem Next:=do pure (.value (<-Instr.build ty ps))
theorem qP3(ρ:Operand->Value)(dst:Option Tmp)(x:Array (Nat×Operand))(ty:TypeId)(pos:String)(after:Array Edge)(guard:Option (Nat×Bool)):
  execOp ρ { dst,op:=.build 228 x,type:=ty,pos,after,guard }=zFm 228 (x.map λ(i,y)=>(i,ρ y)):=rfl
theorem qXm(c:Cfg)(rg n:Nat)(w:World):
  (zFm 228 #[(0,.agg c.cells.toArray),(1,.slice (some ⟨rg,0,none⟩) n n)]).run Tryz.prog w=.ok (.value (.agg (qO8 c rg n).toArray)) w:=by kernel_rfl
attribute [local go_sem ↓] qP3
attribute [local go_sem] qXm
theorem qZz(z:Value)(n:Nat): (madeCells #[z] n).toList=List.replicate n z:=by
 apply List.ext_getElem?;intro j
 by_cases h:j<n
 ·simp[madeCells,h,Nat.mod_one]
 ·simp[madeCells,h]
theorem zBu(qs:List (Nat×Option Nat))(n k q:Nat)(hk:qs.length=k)(hkn:k<n): (qFv qs++List.replicate (n-k) (Value.pointer none)).set k (.pointer (some ⟨q,0,none⟩))=qFv (qs++[(q,none)])++List.replicate (n-(k+1)) (.pointer none):=by
 obtain⟨r,hr⟩:∃r,n-k=r+1:=⟨n-k-1,by omega⟩;have hl:(qFv qs).length=k:=by simp[qFv,hk]
 rw[hr,show n-(k+1)=r by omega,List.set_append_right _ _ (by omega),hl,Nat.sub_self,List.replicate_succ,List.set_cons_zero];simp[qFv]
theorem qKh(qs:List (Nat×Option Nat))(p:Nat×Option Nat)(j:Nat): qAt (qs++[p]) j=if j<qs.length then qAt qs j else if j=qs.length then p else(0,none):=by
 unfold qAt;simp only[List.getD_eq_getElem?_getD]
 by_cases h:j<qs.length
 ·simp[h,List.getElem?_append_left h]
 ·by_cases h2:j=qs.length
  ·subst h2;simp
  ·rw[List.getElem?_eq_none (by simp;omega),if_neg h,if_neg h2];rfl
theorem qM2(c:Cfg)(n:Nat)(w:World)(b0:0<=c.bits)(b1:c.bits<=4)(hn:2 ^ c.bits.toNat=n):
  Calls Tryz.prog 152 #[c.val] w λe w'=>∃d rg qs,e=.returned (.pointer (some ⟨d,0,none⟩))/\w.heap.size<=d/\w.heap.size<=rg/\(∀i a,i<qs.length->qf (qAt qs i) a->w.heap.size<=a)/\qs.length=n/\DRep w' d rg qs c (λ_=>[])/\Keeps (λ_=>False) w w':=by
 obtain⟨W,hW⟩:∃W,W=w.alloc (.cells c.cells.toArray 32):=⟨_,rfl⟩;have HKW:=hide (show Keeps (λ_=>False) w W by rw[hW];exact(Keeps.refl _ _).alloc _);have hcW:Blk W w.heap.size c.cells 32:=by rw[hW];exact Blk.new w _ _
 have HW0:=hide hW;clear hW;have c6:W.cell? ⟨w.heap.size,6,none⟩=some (.int .i64 c.bits):=hcW.cell rfl;have HCW:=hide hcW;have hnI:(2:Int) ^ c.bits.toNat=(n:Int):=by rw[<-hn];simp
 have hn16:n<=16:=by
  rw[<-hn];have:=Nat.pow_le_pow_right (n:=2) (by omega) (show c.bits.toNat<=4 by omega);simpa using this
 have hn1:1<=n:=by rw[<-hn];exact Nat.one_le_two_pow
 have hwn:wrap64 (n:Int)=(n:Int):=by unfold wrap64;omega
 have hmk:=λW=>run_make_row' (P:=Tryz.prog) 221 222 (.pointer none) 8 Tryz.underlying221 zJk rfl .i64 .i64 n (by omega) (by omega) W
 clear hcW hn;unfold Cfg.val;go_enter Tryz.func152,Tryz.ntmps152
 go_wp2_with fail
 rw[show w.alloc (.cells #[.int .i64 c.kind,.int .i64 c.lag,.int .i64 c.skew,.int .i64 c.cap,.int .i64 c.k,.int .i64 c.window,.int .i64 c.bits,.int .i64 c.rows,.int .i64 c.width,.int .i64 c.panes,.int .i64 c.size,.int .i64 c.degree,.int .i64 c.half,.int .i64 c.mark,.int .i64 c.s00,.int .i64 c.s01,.int .i64 c.s10,.int .i64 c.s11,.int .i64 c.s20,.int .i64 c.s21] 32)=W from(uh HW0).symm]
 have HB1:=hide (show Blk (W.alloc (.cells (madeCells #[.pointer none] n) 222)) W.heap.size (qFv []++List.replicate (n-0) (.pointer none)) 222 by
    have:=Blk.new W (madeCells #[.pointer none] n).toList 222;rw[Array.toArray_toList]at this;rw[qZz]at this
    exact this)
 have HWS:=hide (show W.heap.size=w.heap.size+1 by rw[uh HW0];simp);rw[uh HWS]at HB1;have HK1:=hide ((uh HKW).alloc (.cells (madeCells #[.pointer none] n) 222));have HC1:=hide ((uh HCW).alloc (.cells (madeCells #[.pointer none] n) 222));generalize W.alloc (.cells (madeCells #[.pointer none] n) 222)=W1 at *;generalize hcb:w.heap.size=cb at *;have HCB:=hide hcb;clear hcb hmk c6
 go_loopw [11] (λi wr=>∃(k:Nat) (qs:List (Nat×Option Nat)),i=.int .i64 k/\k<=n/\Hid (qs.length=k)/\Hid (Blk wr (cb+1) (qFv qs++List.replicate (n-k) (.pointer none)) 222)/\Hid (Blk wr cb c.cells 32) /\
     Hid (∀j,j<k->(qAt qs j).2=none/\cb+1<(qAt qs j).1/\Mk.RowRep wr (qAt qs j).1 none [])/\Hid (∀i j,i<k->j<k->(qAt qs i).1=(qAt qs j).1->i=j)/\Hid (Keeps (λ_=>False) w wr)) (λi _=>n-(intOf i).toNat)
 case atStart=>exact⟨0,[],rfl,Nat.zero_le _,rfl,HB1,HC1,λj hj=>by omega,λi j hi=>by omega,HK1⟩
 case round =>
  obtain⟨k,qs,rfl,hk,HQL,HBr,HCr,HRr,HDr,HKr⟩:=hrel;have hk0:(0:Int)<=(k:Int):=by omega
  have hbf:=(uh HBr).frozen
  by_cases hlt:k<n
  ·have hkn:(k:Int)<(n:Int):=by omega
   go_wp2_with fail
   refine(Mk.rowNew_any wr).mono ?_;rintro e W2 ⟨rfl,hr2,hk2,hz2⟩;have hb2:=(uh HBr).keeps hk2 (λh=>h)
   have hcell:W2.cell? ⟨cb+1,k,none⟩=some (.pointer none):=hb2.cell (by
      have hl:(qFv qs).length=k:=by simp[qFv,uh HQL]
      rw[List.getElem?_append_right (by omega),hl,Nat.sub_self,List.getElem?_replicate,if_pos (by omega)])
   have hf2:=hb2.frozen;have HB2:=hide hb2;have HR2:=hide hr2;have HK2:=hide hk2;have HZ:=hide (show cb+1<wr.heap.size from(uh HBr).lt);clear hb2 hr2 hk2;go_wp2
   have HKS:=hide ((Keeps.refl (λa=>a=cb+1) W2).setCell (p:=⟨cb+1,k,none⟩) (Or.inl rfl) (.pointer (some ⟨wr.heap.size,0,none⟩)));refine⟨⟨k+1,qs++[(wr.heap.size,none)],by go_num,by omega,?_,?_,?_,?_,?_,?_⟩,by simp[intOf];omega⟩
   ·show _=_;simp[uh HQL]
   ·show Blk _ _ _ _
    rw[<-zBu qs n k wr.heap.size (uh HQL) hlt];exact(uh HB2).setCell k _
   ·exact((uh HCr).keeps (uh HK2) (λh=>h)).keeps (uh HKS) (by omega)
   ·intro j hj
    rw[qKh,uh HQL]
    by_cases h1:j<k
    ·rw[if_pos h1]
     obtain⟨a1,a2,a3⟩:=uh HRr j h1;exact⟨a1,a2,(a3.still (uh HK2)).keeps (uh HKS) (by omega) (λ_ h=>by cases h)⟩
    ·rw[if_neg h1,if_pos (show j=k by omega)]
     refine⟨rfl,uh HZ,?_⟩;have:=uh HZ;exact(uh HR2).keeps (uh HKS) (λh=>by have h':wr.heap.size=cb+1:=h;omega) (λ_ h=>by cases h)
   ·intro i j hi hj h
    rw[qKh,qKh,uh HQL]at h
    by_cases h1:i<k <;> by_cases h2:j<k
    ·rw[if_pos h1,if_pos h2]at h;exact uh HDr i j h1 h2 h
    ·rw[if_pos h1,if_neg h2,if_pos (show j=k by omega)]at h
     have:=(uh HRr i h1).2.2.lt.1;have h':(qAt qs i).1=wr.heap.size:=h;omega
    ·rw[if_neg h1,if_pos h2,if_pos (show i=k by omega)]at h
     have:=(uh HRr j h2).2.2.lt.1;have h':wr.heap.size=(qAt qs j).1:=h;omega
    ·omega
   ·exact((uh HKr).then (uh HK2)).trans (uh HKS) (λi hi hlt=>by have:=uh HCB;omega)
  ·have hkn:k=n:=by omega
   subst hkn;have hkf:decide ((k:Int)<(k:Int))=false:=by simp
   obtain⟨hv,hh⟩:=qBl (uh HCr) 20 rfl;go_wp2
   go_ret
   have hcb:=uh HCB;have hql:=uh HQL;have hlt:=(uh HBr).lt;have hBr:Blk wr (cb+1) (qFv qs) 222:=by have:=uh HBr;rw[Nat.sub_self]at this;simpa using this
   have hq:∀i a,i<qs.length->qf (qAt qs i) a->a=(qAt qs i).1:=λi a hi h=>by
    rcases h with h | h
    ·exact h
    ·rw[(uh HRr i (by omega)).1]at h;cases h
   have hka:∀O,Keeps (λ_=>False) wr (wr.alloc O):=λO=>(Keeps.refl (λ_=>False) wr).alloc O
   refine⟨wr.heap.size,cb+1,qs,rfl,?_,?_,?_,hql,⟨?_,?_,?_,?_,?_,?_⟩,?_⟩
   ·omega
   ·omega
   ·intro i a hi h
    have h1:=hq i a hi h;have h2:=(uh HRr i (by omega)).2.1;omega
   ·rw[hql];exact Blk.new wr (qO8 c (cb+1) k) 228
   ·exact hBr.keeps (hka _) (λh=>h)
   ·intro i hi
    obtain⟨a1,a2,a3⟩:=uh HRr i (by omega);rw[a1];exact a3.still (hka _)
   ·intro i j a hi hj h1 h2
    exact uh HDr i j (by omega) (by omega) ((hq i a hi h1).symm.trans (hq j a hj h2))
   ·intro i hi
    obtain⟨a1,a2,a3⟩:=uh HRr i (by omega);have:=a3.lt.1;exact⟨λh=>by have:=hq i _ hi h;omega,λh=>by have:=hq i _ hi h;omega⟩
   ·omega
   ·exact(uh HKr).alloc _
def qQu(d:Nat): Value:=.func (.func 153) #[.pointer (some ⟨d,0,none⟩)] #[]
def qQo(d:Nat): Value:=.func (.func 157) #[.pointer (some ⟨d,0,none⟩)] #[]
def qP1(d:Nat): Value:=.func (.func 156) #[.pointer (some ⟨d,0,none⟩)] #[]
def qPl(d:Nat): Value:=.func (.func 154) #[.pointer (some ⟨d,0,none⟩)] #[]
def qG0: Value:=.func (.func 155) #[] #[]
theorem qKm(c:Cfg)(n:Nat)(w:World)(b0:0<=c.bits)(b1:c.bits<=4)(hn:2 ^ c.bits.toNat=n):
  Calls Tryz.prog 113 #[c.val] w λe w'=>∃d rg qs,e=.returned (.agg #[qQu d,qPl d,qG0,qP1 d,qQo d])/\w.heap.size<=d/\w.heap.size<=rg/\(∀i a,i<qs.length->qf (qAt qs i) a->w.heap.size<=a)/\qs.length=n/\DRep w' d rg qs c (λ_=>[])/\Keeps (λ_=>False) w w':=by
 obtain⟨W,hW⟩:∃W,W=(w.alloc (.cells c.cells.toArray 32)).alloc (.cells #[.nilFunc,.nilFunc,.nilFunc,.nilFunc,.nilFunc] 101):=⟨_,rfl⟩;have HT:=hide (show Blk W (w.heap.size+1) [.nilFunc,.nilFunc,.nilFunc,.nilFunc,.nilFunc] 101 by rw[hW];exact Blk.newAt (by simp) _ _);have HK:=hide (show Keeps (λ_=>False) w W by rw[hW];exact((Keeps.refl (λ_=>False) w).alloc _).alloc _);have HW:=hide hW;have HN:=hide (qM2 c n W b0 b1 hn);clear hW hn;unfold Cfg.val at *;go_enter Tryz.func113,Tryz.ntmps113
 go_wp2_with fail
 rw[show(w.alloc (.cells #[.int .i64 c.kind,.int .i64 c.lag,.int .i64 c.skew,.int .i64 c.cap,.int .i64 c.k,.int .i64 c.window,.int .i64 c.bits,.int .i64 c.rows,.int .i64 c.width,.int .i64 c.panes,.int .i64 c.size,.int .i64 c.degree,.int .i64 c.half,.int .i64 c.mark,.int .i64 c.s00,.int .i64 c.s01,.int .i64 c.s10,.int .i64 c.s11,.int .i64 c.s20,.int .i64 c.s21] 32)).alloc (.cells #[.nilFunc,.nilFunc,.nilFunc,.nilFunc,.nilFunc] 101)=W from(uh HW).symm];generalize hcb:w.heap.size=cb at *;have HCB:=hide hcb;clear hcb;refine(uh HN).mono ?_;rintro e w2 ⟨d,rg,qs,rfl,hd,hrg,hqs,hql,hc2,hk2⟩;have HC2:=hide hc2;have HT2:=hide ((uh HT).keeps hk2 (λh=>h));have HK2:=hide ((uh HK).then hk2);have HSZ:=hide (uh HK).size;have HLT:=hide (uh HT).lt;have HQS:=hide hqs;have HQL:=hide hql;clear hc2 hk2 HT HK HN hqs hql;have f0:=(uh HT2).frozen;have q0:w2.cell? ⟨cb+1,0,none⟩=some .nilFunc:=(uh HT2).cell rfl;have q1:w2.cell? ⟨cb+1,1,none⟩=some .nilFunc:=(uh HT2).cell rfl;have q2:w2.cell? ⟨cb+1,2,none⟩=some .nilFunc:=(uh HT2).cell rfl;have q3:w2.cell? ⟨cb+1,3,none⟩=some .nilFunc:=(uh HT2).cell rfl;have q4:w2.cell? ⟨cb+1,4,none⟩=some .nilFunc:=(uh HT2).cell rfl;go_wp2
 have hcb:=uh HCB;have hsz:=uh HSZ;have hkf:Keeps (λi=>i=cb+1) w2 (((((w2.setCell ⟨cb+1,0,none⟩ (qQu d)).setCell ⟨cb+1,1,none⟩ (qPl d)).setCell ⟨cb+1,2,none⟩ qG0).setCell ⟨cb+1,3,none⟩ (qP1 d)).setCell ⟨cb+1,4,none⟩ (qQo d)):=(((((Keeps.refl (λi=>i=cb+1) w2).setCell (p:=⟨cb+1,0,none⟩) (Or.inl rfl) _).setCell (p:=⟨cb+1,1,none⟩) (Or.inl rfl) _).setCell (p:=⟨cb+1,2,none⟩) (Or.inl rfl) _).setCell (p:=⟨cb+1,3,none⟩) (Or.inl rfl) _).setCell (p:=⟨cb+1,4,none⟩) (Or.inl rfl) _;refine bodyPost_ret (v:=.agg #[qQu d,qPl d,qG0,qP1 d,qQo d]) (by simp[results,Tryz.results113,go_sem,q0,q1,q2,q3,q4,qQu,qPl,qG0,qP1,qQo]) rfl ⟨d,rg,qs,rfl,by omega,by omega,λi a hi h=>by have:=uh HQS i a hi h;omega,uh HQL,?_,?_⟩
 ·exact(uh HC2).keeps hkf (λh=>by have:=uh HLT;omega) (λh=>by have:=uh HLT;omega) (λi a hi h1 h2=>by have:=uh HQS i a hi h1;have:=uh HLT;omega)
 ·exact(uh HK2).trans hkf (λi hi hlt=>by omega)
end
end Go.Proofs.YtahnliehdjncdabGreatDoor
namespace Go.Proofs.YtahnliehdjncdabGreatDoor.Dr
open Go.RowKit
def Own(w:World)(base:Nat)(v:Value)(l:List It): Prop:=w.ownsRow base 254 5 v l.length (flat l)
theorem Own.keeps{M:Nat->Prop}{w w':World}{base:Nat}{v:Value}{l:List It}(h:Own w base v l)(hk:Keeps M w w')(hn:∀i,v.ownBlock=some i->¬M i): Own w' base v l:=by
 rcases h.2 with ⟨h1,h2⟩ | ⟨g,cap,cur,h1,h2,h3,h4⟩
 ·exact⟨h.1,.inl ⟨h1,h2⟩⟩
 ·refine⟨h.1,.inr ⟨g,cap,cur,h1,h2,?_,h4⟩⟩
  have hlt:g<w.heap.size:=(Array.getElem?_eq_some_iff.1 h3).1;rw[hk.block g hlt (hn g (by rw[h1];simp[Value.ownBlock]))];exact h3
theorem Own.base{w:World}{base:Nat}{v:Value}{l:List It}(h:Own w base v l)(i:Nat)(hi:v.ownBlock=some i): base<=i:=by
 rcases h.2 with ⟨h1,_⟩ | ⟨g,cap,cur,h1,h2,_⟩
 ·rw[h1]at hi;simp[Value.ownBlock]at hi
 ·rw[h1]at hi
  have:g=i:=by simpa[Value.ownBlock] using hi
  omega
theorem qQd(l:List It): ∀u∈flat l,u.oneCell'=true:=by
 induction l with
 | nil=>simp[flat]
 | cons x l ih =>
  intro u hu;simp only[flat,List.mem_cons]at hu;rcases hu with rfl | rfl | rfl | rfl | rfl | hu
  ·rfl
  ·rfl
  ·rfl
  ·rfl
  ·rfl
  ·exact ih u hu
theorem qCz{w:World}{ops:Array Oper}{rest:List Oper}{o:Oper}{a:Act}{Q:Exit->Act->World->Prop}(hgd:o.guard=none)(s x:Operand)(ho:o.op=.call { callee:=.builtin .append,args:=#[s,x],argTypes:=#[261,261] })(base:Nat)(v:Value)(A:List It)(k:Nat)(hk:A.length=k)(hs:a.eval s=v)(hown:Own w base v A)(sb m c:Nat)(B:List It)(hm:B.length=m)(hx:a.eval x=.slice (some ⟨sb,0,none⟩) m c)(hB:∀j u,(flat B)[j]?=some u->w.cell? ⟨sb,j,none⟩=some u)(hpos:0<m)(hlen:k+m<=100000)(hbase:base<=w.heap.size)(h:∀g c' w1,Own w1 base (.slice (some ⟨g,0,none⟩) (k+m) c') (A++B)->Keeps (λi=>v.ownBlock=some i) w w1->(v.ownBlock=some g\/w.heap.size<=g)->wpList Tryz.prog ops Q rest (a.put o.dst (.slice (some ⟨g,0,none⟩) (k+m) c')) w1): wpList Tryz.prog ops Q (o::rest) a w:=by
 obtain⟨i0,hi0,hz0,hz1,hz2⟩:=info_parts qHw;subst hk hm;refine wpList_append_lies w hgd s x 261 ho base 254 i0 _ 5 40 Tryz.underlying261 hi0 hz0 hz1 hz2 (by rfl) (by omega) v A.length (flat A) hs hown ⟨sb,0,none⟩ B.length c (flat B) hx (qD6 B) ?_ (qQd B) hpos (by unfold maxLen;omega) (by omega) hbase w.heap.size rfl ?_
 ·intro j u hu
  rw[Addr.add_lit,Nat.zero_add];exact hB j u hu
 ·intro g c' w' hown' hgrow hat hlt'
  refine h g c' w' ?_ ⟨hgrow.os,hgrow.tape,hgrow.output,hgrow.size,λk hk hn=>hgrow.block k hk (λh=>hn h.symm)⟩ ?_
  ·show w'.ownsRow base 254 5 _ (A++B).length (flat (A++B))
   rw[qFf,List.length_append];exact hown'
  ·rcases hat with h1 | h1
   ·exact .inl h1
   ·exact .inr (by omega)
theorem Own.row{w:World}{base g n c:Nat}{l:List It}(_:l.length=n)(h:Own w base (.slice (some ⟨g,0,none⟩) n c) l): IRow w g c l/\base<=g:=by
 rcases h.2 with ⟨h1,_⟩ | ⟨g',cap',cur,h1,h2,h3,h4,h5,h6,h7⟩
 ·cases h1
 ·cases h1
  exact⟨⟨⟨cur.toList,by unfold Blk;simpa using h3,by simpa using h6,h7⟩,h4,h5⟩,h2⟩
theorem qQx(g n cap:Nat)(w:World): (binOp BinOp.eql 261 (.slice (some ⟨g,0,none⟩) n cap) (.slice none 0 0)).run Tryz.prog w=.ok (.bool false) w:=by kernel_rfl
theorem qL7(w:World): (binOp BinOp.eql 261 (.slice none 0 0) (.slice none 0 0)).run Tryz.prog w=.ok (.bool true) w:=by kernel_rfl
attribute [local go_sem] qQx qL7
theorem qHj(w:World):
  Calls Tryz.prog 243 #[.slice none 0 0] w λe w'=>e=.returned (.slice none 0 0)/\w'=w:=by
 go_enter Tryz.func243,Tryz.ntmps243
 go_wp2
 go_ret
 exact⟨rfl,rfl⟩
theorem qMf(g cap:Nat)(l:List It)(w:World)(h:IRow w g cap l)(hl:l.length<=1000):
  Calls Tryz.prog 243 #[.slice (some ⟨g,0,none⟩) l.length cap] w λe w'=>∃g' c',e=.returned (.slice (some ⟨g',0,none⟩) l.length c')/\w.heap.size<=g'/\IRow w' g' c' l/\Keeps (λ_=>False) w w':=by
 obtain⟨n,hn⟩:∃n,n=l.length:=⟨_,rfl⟩;have HR:=hide h;have HN:=hide hn;rw[<-hn]at hl ⊢;obtain⟨i0,hi0,hz0,hz1,hz2⟩:=info_parts qHw;clear hn h
 have HE:=hide (show Own (w.alloc (.cells #[] 254)) w.heap.size (.slice (some ⟨w.heap.size,0,none⟩) 0 0) [] from
    ⟨rfl,.inr ⟨w.heap.size,0,#[],rfl,Nat.le_refl _,heap_alloc_new w _,Nat.le_refl _,Nat.zero_le _,rfl,rfl⟩⟩)
 have HK:=hide ((Keeps.refl (λ_=>False) w).alloc (.cells #[] 254))
 by_cases h0:n=0
 ·subst h0
  have HL:=hide (show l=[] from List.length_eq_zero_iff.1 (uh HN).symm);go_enter Tryz.func243,Tryz.ntmps243
  go_wp2_with (at_builtin;refine qEl rfl _ _ 261 rfl w.heap.size 254 i0 5 Tryz.underlying261 hi0 _ 0 [] rfl (uh HE) (some ⟨g,0,none⟩) cap rfl ?_)
  go_ret
  refine⟨w.heap.size,0,rfl,Nat.le_refl _,?_,uh HK⟩;rw[uh HL];exact(Own.row rfl (uh HE)).1
 ·have HC:=hide (show ∀j u,(flat l)[j]?=some u->(w.alloc (.cells #[] 254)).cell? ⟨g,j,none⟩=some u from λj u hu=>by
     obtain⟨cur,hb,hl,ht⟩:=(uh HR).ex;refine(uh HK).cell (hb.cell ?_) (λh=>h);have hj:j<l.length*5:=by have:=(List.getElem?_eq_some_iff.1 hu).1;rwa [qD6]at this
     rw[<-ht,List.getElem?_take,if_pos hj]at hu
     exact hu)
  have hpos:0<n:=by omega
  go_enter Tryz.func243,Tryz.ntmps243
  go_wp2_with (at_builtin;refine qCz rfl _ _ rfl w.heap.size _ [] 0 rfl rfl (uh HE) g n cap l (uh HN).symm rfl (uh HC) hpos (by omega) (by simp) ?_;intro g2 c2 W2 hown2 hk2 hat2)
  have how:=Own.row (by have:=uh HN;simp;omega) hown2;have HO:=hide how.1;have HG:=hide how.2
  have HK2:=hide (((uh HK).trans hk2 (λi hi hlt=>by
         have hi':(Value.slice (some ⟨w.heap.size,0,none⟩) 0 0).ownBlock=some i:=hi;have:w.heap.size=i:=by simpa[Value.ownBlock] using hi'
         omega)))
  clear how hown2 hk2 hat2;go_wp2
  go_ret
  exact⟨g2,c2,rfl,uh HG,uh HO,uh HK2⟩
def allL: Nat->List It->List It
 | 0,_=>[]
 | f+1,l=>if l.length=0 then[] else itAt l 0::allL f (takeL l)
theorem takeL_length(l:List It): (takeL l).length=l.length-1:=by
 unfold takeL;rw[qDk];simp
end Go.Proofs.YtahnliehdjncdabGreatDoor.Dr
namespace Go.Proofs.YtahnliehdjncdabGreatDoor.Dr
open Go.RowKit
theorem qFk(q:Nat)(og:Option Nat)(l:List It)(n:Int)(w:World)(h:QRep w q og l)(hn:(l.length:Int)=n):
  Calls Tryz.prog 217 #[.pointer (some ⟨q,0,none⟩)] w λe w'=>e=.returned (.int .i64 n)/\w'=w :=
 (len_any q og l w h).mono λ_ _ ⟨he,hw⟩=>⟨by rw[he,hn],hw⟩
theorem qU7(q g:Nat)(l:List It)(x:It)(w:World)(h:QRep w q (some g) l)(hl:l.length<=900)(hl0:0<l.length)(hx:itAt l 0=x):
  Calls Tryz.prog 218 #[.pointer (some ⟨q,0,none⟩)] w λe w'=>e=.returned (.tuple #[.agg #[.int .i64 x.t,.int .i64 x.k,.int .i64 x.d,.int .i64 x.n,.int .i64 x.v],.bool true])/\QRep w' q (some g) (takeL l)/\Keeps (λk=>k=q\/k=g) w w' :=
 (take_any q g l w h hl hl0).mono λ_ _ ⟨he,hw⟩=>⟨by rw[he,hx];rfl,hw⟩
theorem all_some(q g:Nat)(l:List It)(w:World)(h:QRep w q (some g) l)(hl:l.length<=900):
  Calls Tryz.prog 219 #[.pointer (some ⟨q,0,none⟩)] w λe w'=>∃g cp,e=.returned (.slice (some ⟨g,0,none⟩) l.length cp)/\w.heap.size<=g/\IRow w' g cp (allL (l.length+1) l)/\(allL (l.length+1) l).length=l.length/\Keeps (λ_=>False) w w':=by
 obtain⟨n,hn⟩:∃n,n=l.length:=⟨_,rfl⟩;obtain⟨i0,hi0,hz0,hz1,hz2⟩:=info_parts qHw;have HN:=hide hn;have HQ:=hide h;rw[<-hn]at hl ⊢;obtain⟨hne,cap,hb,hr⟩:=h;have hq0:w.cell? ⟨q,0,none⟩=some (.func (.func 215) #[] #[]):=hb.cell rfl;have hq1:w.cell? ⟨q,1,none⟩=some (.slice (some ⟨g,0,none⟩) n cap):=by rw[hn];exact hb.cell rfl
 have HCL:=hide (show ∀W,Keeps (λ_=>False) w W->Calls Tryz.prog 243 #[.slice (some ⟨g,0,none⟩) n cap] W λe w'=>∃g1 c1,e=.returned (.slice (some ⟨g1,0,none⟩) n c1)/\W.heap.size<=g1/\IRow w' g1 c1 l/\Keeps (λ_=>False) W w' from λW hW=>by
    rw[hn];exact qMf g cap l W (hr.keeps hW (λh=>h)) (by omega))
 clear hb hr hn;go_enter Tryz.func219,Tryz.ntmps219
 go_wp2_with fail
 go_region_held3 (λw'=>w'.cell? ⟨q,0,none⟩=some (.func (.func 215) #[] #[])/\w'.cell? ⟨q,1,none⟩=some (.slice (some ⟨g,0,none⟩) n cap))
  (first | (go_split_ands;exact⟨by assumption,by assumption⟩) | (go_split_ands;exact⟨((Keeps.refl (λ_=>False) _).alloc _).cell (by assumption) (λh=>h),((Keeps.refl (λ_=>False) _).alloc _).cell (by assumption) (λh=>h)⟩) | (go_split_ands;exact⟨hka.cell (by assumption) (λh=>h),hka.cell (by assumption) (λh=>h)⟩))
  (first | (go_at_call 243;refine(uh HCL _ (by exact(Keeps.refl _ _).drew)).mono ?_;rintro e W1 ⟨g1,c1,rfl,hg1,hrow,hka⟩))
 have HK1:=hide (((Keeps.refl (λ_=>False) w).drew).then hka);have HG1:=hide (show w.heap.size<=g1 from hg1);have HZ1:=hide (uh HK1).size;have HGL:=hide hrow.lt;have HROW:=hide hrow;clear hrow hka HCL hg1;obtain⟨W2,hW2⟩:∃W2,W2=W1.alloc (.cells #[.func (.func 215) #[] #[],.slice (some ⟨g1,0,none⟩) n c1] 285):=⟨_,rfl⟩;have HB2:=hide (show Blk W2 W1.heap.size [qCw,.slice (some ⟨g1,0,none⟩) n c1] 285 by rw[hW2];exact Blk.new W1 _ _);have HA2:=hide (show Keeps (λ_=>False) W1 W2 by rw[hW2];exact(Keeps.refl (λ_=>False) W1).alloc _);have HW2:=hide hW2;clear hW2;have HQR:=hide (show QRep W2 W1.heap.size (some g1) l from⟨by have:=uh HGL;omega,c1,by rw[<-uh HN];exact uh HB2,(uh HROW).keeps (uh HA2) (λh=>h)⟩);have HK2:=hide ((uh HK1).then (uh HA2));obtain⟨wm,hmk,hown,hgr⟩:=run_make_own (P:=Tryz.prog) W2 w.heap.size 261 254 i0 _ 5 Tryz.underlying261 hi0 hz0 hz1 .i64 .i64 n (by rw[hz2];omega) (by unfold maxLen;omega) (uh HK2).size;have HKM:=hide (show Keeps (λ_=>False) W2 wm from(Keeps.refl (λ_=>False) W2).grown hgr (λk hk=>by cases hk));have HOM:=hide (show Own wm w.heap.size (.slice (some ⟨W2.heap.size,0,none⟩) 0 n) [] from hown);clear hown hgr;go_wp2_with fail
 rw[show W1.alloc (.cells #[.func (.func 215) #[] #[],.slice (some ⟨g1,0,none⟩) n c1] 285)=W2 from(uh HW2).symm];refine(qFk q (some g) l n W2 ((uh HQ).keeps (uh HK2) (λh=>h) (λ_ _ h=>h)) (by rw[uh HN])).mono ?_;rintro e w' ⟨rfl,hw'⟩;rw[hw'];clear hw' w';have HRB:=hide (show W1.heap.size<W2.heap.size from(uh HB2).lt);have HGB:=hide (show g1<W2.heap.size from((uh HQR).lt.2 g1 rfl).1);have HRG:=hide (show W1.heap.size≠g1 from((uh HQR).lt.2 g1 rfl).2);have HRBW:=hide (show w.heap.size<=W1.heap.size from uh HZ1);generalize hrb:W1.heap.size=rb at *;generalize hga:W2.heap.size=ga0 at *;go_wp2_with fail
 go_loopg [4] (n) (λgk v wr=>∃(m dn:List It) (ga cp:Nat),v=.slice (some ⟨ga,0,none⟩) dn.length cp/\Hid (m.length=gk)/\Hid (dn.length+gk=n)/\Hid (ga≠rb/\ga≠g1)/\Hid (Own wr w.heap.size (.slice (some ⟨ga,0,none⟩) dn.length cp) dn)/\Hid (QRep wr rb (some g1) m)/\Hid (Keeps (λ_=>False) w wr)/\Hid (allL (n+1) l=dn++allL (gk+1) m))
 case atStart=>exact⟨l,[],ga0,n,rfl,(uh HN).symm,by show _=_;simp,⟨by have:=uh HRB;omega,by have:=uh HGB;omega⟩,HOM,(uh HQR).keeps (uh HKM) (λh=>h) (λ_ _ h=>h),(uh HK2).then (uh HKM),rfl⟩
 case round =>
  obtain⟨m,dn,ga,cp,rfl,HM,HDN,HGA,HO,HQr,HKr,HE⟩:=hrel;obtain⟨k,hk⟩:∃k,dn.length=k:=⟨_,rfl⟩;rw[hk];have HKE:=hide hk;clear hk
  by_cases h0:gk=0
  ·go_wp2_with (go_at_call 217;refine(qFk rb (some g1) m 0 _ (uh HQr) (by have:=uh HM;omega)).mono ?_;rintro e w' ⟨rfl,hw'⟩;rw[hw'];clear hw' w')
   go_ret
   have hkn:k=n:=by have:=uh HDN;have:=uh HKE;omega
   subst hkn;have ho:=Own.row rfl (uh HO);have hall:allL (k+1) l=dn:=by
    rw[uh HE,h0];unfold allL;rw[if_pos (by have:=uh HM;omega),List.append_nil]
   refine⟨ga,cp,rfl,ho.2,?_,?_,uh HKr⟩
   ·rw[hall];exact ho.1
   ·rw[hall];exact uh HKE
  ·have hgt:(0:Int)<(gk:Int):=by omega
   have hgN:0<gk:=by omega
   obtain⟨x,hx⟩:∃x,itAt m 0=x:=⟨_,rfl⟩;have HTK:=hide (qU7 rb g1 m x wr (uh HQr) (by have:=uh HM;have:=uh HDN;omega) (by have:=uh HM;omega) hx);have HX:=hide hx;clear hx
   go_wp2_with (first | (go_at_call 217;refine(qFk rb (some g1) m gk _ (uh HQr) (by have:=uh HM;omega)).mono ?_;rintro e w' ⟨rfl,hw'⟩;rw[hw'];clear hw' w') | (go_at_call 218;refine(uh HTK).mono ?_;rintro e W3 ⟨rfl,hq3,hk3⟩;have HQ3:=hide hq3;have HK3:=hide hk3;clear hq3 hk3;have HO3:=hide (show Own W3 w.heap.size (.slice (some ⟨ga,0,none⟩) k cp) dn by rw[<-uh HKE];exact(uh HO).keeps (uh HK3) (λi hi h=>by
             have hi':ga=i:=by simpa[Value.ownBlock] using hi
             rcases h with h | h
             ·exact(uh HGA).1 (by omega)
             ·exact(uh HGA).2 (by omega)))) | (at_builtin;refine qCz rfl _ _ rfl w.heap.size _ dn k (uh HKE) rfl (by exact(uh HO3).keeps (((Keeps.refl (λ_=>False) W3).alloc _).alloc _) (λ_ _ h=>h)) (W3.heap.size+1) 1 1 [x] rfl rfl (by exact λj u hu=>(Blk.newAt (by simp) (flat [x]) 254).cell hu) (by omega) (by have:=uh HDN;have:=uh HKE;omega) (by have h1:=(uh HKr).size;have h2:=(uh HK3).size;simp;omega) ?_;intro g2 c2 W4 hown4 hk4 hat4))
   have HBND:=hide (show W3.heap.size<=W4.heap.size/\wr.heap.size<=W3.heap.size/\w.heap.size<=wr.heap.size from⟨by have:=hk4.size;simp at this;omega,(uh HK3).size,(uh HKr).size⟩);have hq3:=uh HQ3;have hlt3:=hq3.lt
   have HK4:=hide (((Keeps.refl (λi=>i=ga) W3).alloc (.cells #[.int .i64 x.t,.int .i64 x.k,.int .i64 x.d,.int .i64 x.n,.int .i64 x.v] 254)).alloc (.cells #[.int .i64 x.t,.int .i64 x.k,.int .i64 x.d,.int .i64 x.n,.int .i64 x.v] 254) |>.trans hk4 (λi hi hlt=>by
         have hi':(Value.slice (some ⟨ga,0,none⟩) k cp).ownBlock=some i:=hi;have:ga=i:=by simpa[Value.ownBlock] using hi'
         exact this.symm))
   have HO4:=hide hown4
   have HAT:=hide (show g2=ga\/W3.heap.size<=g2 from by
      rcases hat4 with h | h
      ·have h':(Value.slice (some ⟨ga,0,none⟩) k cp).ownBlock=some g2:=h
       exact .inl (by have:ga=g2:=(by simpa[Value.ownBlock] using h');exact this.symm)
      ·exact .inr (by simp at h;omega))
   clear hown4 hk4 hat4;have HGN:=hide (show w.heap.size<=ga from(uh HO).base ga (by simp[Value.ownBlock]));go_wp2
   go_roundg (gk-1)
   case measure=>omega
   case rel =>
    have hgl:=(hlt3.2 g1 rfl).1;have hgr:=hlt3.1;have hGA:=uh HGA;refine⟨takeL m,dn++[x],g2,c2,?_,?_,?_,?_,?_,?_,?_,?_⟩
    ·rw[List.length_append,uh HKE];rfl
    ·show _=_;rw[takeL_length];have:=uh HM;omega
    ·show _=_;rw[List.length_append];have:=uh HDN;simp;omega
    ·show _/\_
     rcases uh HAT with h | h
     ·rw[h];exact hGA
     ·exact⟨by omega,by omega⟩
    ·show Own _ _ _ _
     rw[List.length_append,uh HKE];exact uh HO4
    ·exact hq3.keeps (uh HK4) (λh=>hGA.1 h.symm) (λg hg h=>by injection hg with hg;exact hGA.2 (by rw[hg];exact h.symm))
    ·have hK3:Keeps (λ_=>False) w W3:=(uh HKr).trans (uh HK3) (λi hi hlt=>by
        rcases hi with hi | hi
        ·have:=uh HRBW;omega
        ·have:=uh HG1;omega)
     exact hK3.trans (uh HK4) (λi hi hlt=>by have:=uh HGN;omega)
    ·show _=_
     rw[uh HE]
     conv=>lhs;unfold allL
     rw[if_neg (by have:=uh HM;omega),uh HX,show gk-1+1=gk by omega];simp
end Go.Proofs.YtahnliehdjncdabGreatDoor.Dr
namespace Go.Proofs.YtahnliehdjncdabGreatDoor.Dr
open Go.RowKit
theorem all_none(q:Nat)(w:World)(h:QRep w q none []):
  Calls Tryz.prog 219 #[.pointer (some ⟨q,0,none⟩)] w λe w'=>∃g cp,e=.returned (.slice (some ⟨g,0,none⟩) 0 cp)/\w.heap.size<=g/\IRow w' g cp []/\Keeps (λ_=>False) w w':=by
 obtain⟨i0,hi0,hz0,hz1,hz2⟩:=info_parts qHw;have HQ:=hide h;have hb:=h.2;have hq0:w.cell? ⟨q,0,none⟩=some (.func (.func 215) #[] #[]):=hb.cell rfl;have hq1:w.cell? ⟨q,1,none⟩=some (.slice none 0 0):=hb.cell rfl;clear hb h;go_enter Tryz.func219,Tryz.ntmps219
 go_wp2_with fail
 go_region_held3 (λw'=>w'.cell? ⟨q,0,none⟩=some (.func (.func 215) #[] #[])/\w'.cell? ⟨q,1,none⟩=some (.slice none 0 0))
  (first | (go_split_ands;exact⟨by assumption,by assumption⟩) | (go_split_ands;exact⟨((Keeps.refl (λ_=>False) _).alloc _).cell (by assumption) (λh=>h),((Keeps.refl (λ_=>False) _).alloc _).cell (by assumption) (λh=>h)⟩))
  (first | (go_at_call 243;refine(qHj _).mono ?_;rintro e w' ⟨rfl,rfl⟩))
 obtain⟨W2,hW2⟩:∃W2,W2=(w.alloc (.cells #[.func (.func 215) #[] #[],.slice none 0 0] 285)).drew:=⟨_,rfl⟩;have HB2:=hide (show Blk W2 w.heap.size [qCw,.slice none 0 0] 285 by rw[hW2];exact(Blk.new w _ _).drew);have HK2:=hide (show Keeps (λ_=>False) w W2 by rw[hW2];exact((Keeps.refl (λ_=>False) w).alloc _).drew);have HW2:=hide hW2;clear hW2;have HQR:=hide (show QRep W2 w.heap.size none [] from⟨rfl,uh HB2⟩);obtain⟨wm,hmk,hown,hgr⟩:=run_make_own (P:=Tryz.prog) W2 w.heap.size 261 254 i0 _ 5 Tryz.underlying261 hi0 hz0 hz1 .i64 .i64 0 (by rw[hz2];omega) (by unfold maxLen;omega) (uh HK2).size;have HKM:=hide (show Keeps (λ_=>False) W2 wm from(Keeps.refl (λ_=>False) W2).grown hgr (λk hk=>by cases hk));have HOM:=hide (show Own wm w.heap.size (.slice (some ⟨W2.heap.size,0,none⟩) 0 0) [] from hown);have hmk2:(Instr.makeSlice 261 (.int .i64 0) (.int .i64 0)).run Tryz.prog W2=.ok (.slice (some ⟨W2.heap.size,0,none⟩) 0 0) wm:=hmk;clear hown hgr hmk;go_wp2_with fail
 rw[show(w.alloc (.cells #[.func (.func 215) #[] #[],.slice none 0 0] 285)).drew=W2 from(uh HW2).symm];refine(qFk q none [] 0 W2 ((uh HQ).keeps (uh HK2) (λh=>h) (λ_ h=>by cases h)) rfl).mono ?_;rintro e w' ⟨rfl,hw'⟩;rw[hw'];clear hw' w';generalize hrb:w.heap.size=rb at *;go_wp2_with fail
 go_loopg [4] (0) (λgk v wr=>v=.slice (some ⟨W2.heap.size,0,none⟩) 0 0/\wr=wm)
 case atStart=>exact⟨rfl,rfl⟩
 case round =>
  obtain⟨rfl,hwr⟩:=hrel;rw[hwr];clear hwr wr;go_wp2_with (go_at_call 217;refine(qFk rb none [] 0 _ ((uh HQR).keeps (uh HKM) (λh=>h) (λ_ h=>by cases h)) rfl).mono ?_;rintro e w' ⟨rfl,hw'⟩;rw[hw'];clear hw' w')
  go_ret
  have ho:=Own.row rfl (uh HOM);exact⟨W2.heap.size,0,rfl,by rw[hrb];exact ho.2,ho.1,(uh HK2).then (uh HKM)⟩
theorem qWd(l:List It)(i j:Nat)(x:It)(hi:i<l.length): itAt (l.set i x) j=if j=i then x else itAt l j:=by
 unfold itAt;simp only[List.getD_eq_getElem?_getD,List.getElem?_set]
 by_cases h:i=j
 ·subst h;simp[hi]
 ·simp[h,Ne.symm h]
theorem qBx(l:List It)(i j t:Nat)(hi:i<l.length)(hj:j<l.length): itAt (swapL l i j) t=if t=j then itAt l i else if t=i then itAt l j else itAt l t:=by
 unfold swapL;rw[qWd _ _ _ _ (by simpa using hj)]
 by_cases h:t=j
 ·rw[if_pos h,if_pos h]
 ·rw[if_neg h,if_neg h,qWd _ _ _ _ hi]
theorem zCq{a b:List It}(h:a.length=b.length)(hh:∀t,t<a.length->itAt a t=itAt b t): a=b:=by
 apply List.ext_getElem h;intro i h1 h2;have:=hh i h1;simpa[itAt,List.getD_eq_getElem?_getD,List.getElem?_eq_getElem h1,List.getElem?_eq_getElem h2] using this
theorem qSb(l:List It)(t:Nat)(h:t<l.length): itAt l.reverse t=itAt l (l.length-1-t):=by
 unfold itAt;simp only[List.getD_eq_getElem?_getD];rw[List.getElem?_reverse h]
theorem reverse_any(g cap n:Nat)(l:List It)(w:World)(hn:l.length=n)(hn9:n<=900)(hr:IRow w g cap l):
  Calls Tryz.prog 220 #[.slice (some ⟨g,0,none⟩) n cap] w λe w'=>e=.returned (.tuple #[])/\IRow w' g cap l.reverse/\Keeps (·=g) w w':=by
 have HR:=hide hr;have HN:=hide hn;clear hr hn;go_enter Tryz.func220,Tryz.ntmps220
 go_wp2_with fail
 go_loopw [2,3] (λa b wr=>∃(k:Nat) (jj:Int) (m:List It),a=.int .i64 k/\b=.int .i64 jj/\k<=n/\-900<=jj/\jj<=900/\Hid (jj=(n:Int)-1-k)/\Hid (m.length=n)/\Hid (∀t,t<n->itAt m t=if t<k\/n<=t+k then itAt l (n-1-t) else itAt l t)/\Hid (IRow wr g cap m)/\Hid (Keeps (·=g) w wr)) (λa _ _=>n-(intOf a).toNat)
 case atStart=>exact⟨0,(n:Int)-1,l,rfl,rfl,Nat.zero_le _,by omega,by omega,by show _=_;simp,HN,λt ht=>by rw[if_neg (by omega)],HR,Keeps.refl _ _⟩
 case round =>
  obtain⟨k,jj,m,rfl,rfl,hk,j0,j1,HJ,HL,HM,HI,HK⟩:=hrel
  by_cases hlt:(k:Int)<jj
  ·obtain⟨j,rfl⟩:∃j:Nat,jj=(j:Int):=⟨jj.toNat,by omega⟩
   have hjn:j<n:=by have:=uh HJ;omega
   have hkn:k<n:=by omega
   have hij:k≠j:=by omega
   have hj9:j<=900:=by omega
   have hi0:(0:Int)<=(k:Int):=by omega
   have hin:(k:Int)<(n:Int):=by omega
   have hjz:(0:Int)<=(j:Int):=by omega
   have hjn2:(j:Int)<(n:Int):=by omega
   obtain⟨x0,x1,x2,x3,x4⟩:=(uh HI).cells k (by rw[uh HL];exact hkn);obtain⟨y0,y1,y2,y3,y4⟩:=(uh HI).cells j (by rw[uh HL];exact hjn);have hf:=(uh HI).frozen;have hne:k*5≠j*5:=by omega
   have HS:=hide (show swapL m k j=(m.set k (itAt m j)).set j (itAt m k) from rfl);have HSW:=hide (λt=>qBx m k j t (by rw[uh HL];exact hkn) (by rw[uh HL];exact hjn));have HE1:=hide (uh HM k hkn);have HE2:=hide (uh HM j hjn);generalize itAt m k=x at *;generalize itAt m j=y at *;go_wp2_with fail
   go_region
   have HP:=hide (((uh HI).put k y).put j x);have HKP:=hide ((((Keeps.refl (λi=>i=g) wr).putTk (Or.inl rfl) k y).putTk (Or.inl rfl) j x))
   have HD:=hide (show ∀t,t<n->itAt (swapL m k j) t=if t<k+1\/n<=t+(k+1) then itAt l (n-1-t) else itAt l t from λt ht=>by
      have hJ:=uh HJ;have hjk:j=n-1-k:=by omega
      rw[uh HSW t]
      by_cases h1:t=j
      ·rw[if_pos h1,if_pos (by omega),uh HE1,if_neg (by omega),h1]
       congr 1;omega
      ·rw[if_neg h1]
       by_cases h2:t=k
       ·rw[if_pos h2,if_pos (by omega),uh HE2,if_neg (by omega),h2]
        congr 1
       ·rw[if_neg h2,uh HM t ht]
        by_cases h3:t<k\/n<=t+k
        ·rw[if_pos h3,if_pos (by omega)]
        ·rw[if_neg h3,if_neg (by omega)])
   have hw1:IntKind.i64.wrap ((k:Int)+1)=(k:Int)+1:=by rw[IntKind.wrap_i64];omega
   have hw2:IntKind.i64.wrap ((j:Int)-1)=(j:Int)-1:=by rw[IntKind.wrap_i64];omega
   go_wp2_with fail
   refine⟨⟨k+1,(j:Int)-1,swapL m k j,by go_num,rfl,by omega,by omega,by omega,?_,?_,HD,?_,?_⟩,by simp[intOf];omega⟩
   ·show _=_;have:=uh HJ;omega
   ·show _=_;rw[qAp];exact uh HL
   ·show IRow _ _ _ _;rw[uh HS];exact(uh HP).drew
   ·exact((uh HK).then (uh HKP)).drew
  ·have hd:decide ((k:Int)<jj)=false:=by simp;omega
   go_wp2
   go_end0
   refine⟨rfl,?_,uh HK⟩;have hlm:=uh HL;have hln:=uh HN;have hJ:=uh HJ
   have:m=l.reverse:=zCq (by simp;omega) (λt ht=>by
      rw[uh HM t (by omega),qSb l t (by omega),hln]
      by_cases h3:t<k\/n<=t+k
      ·rw[if_pos h3]
      ·rw[if_neg h3];congr 1;omega)
   rw[<-this];exact uh HI
end Go.Proofs.YtahnliehdjncdabGreatDoor.Dr
