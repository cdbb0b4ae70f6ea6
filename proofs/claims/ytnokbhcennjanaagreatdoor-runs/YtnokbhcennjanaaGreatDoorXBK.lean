import Derived.Test.YtnokbhcennjanaaGreatDoorXBD
open Go.RowKit Go.Proofs.Tryz
set_option maxRecDepth 100000
set_option maxHeartbeats 16000000
namespace Go.Proofs.YtnokbhcennjanaaGreatDoor
section
attribute [local go_sem ↓] AN B2
attribute [local go_sem] AO B4 A5 A6 AI AJ BC BD Bf B3
theorem zN2: (prog.info? 106).map (λa=>(a.zero,a.size,a.bytes))=some (some (.pointer none),1,8):=by kernel_rfl
theorem zLd(id:Int)(c:Cfg)(w:World):
  (Instr.build 113 #[(0,.int .i64 id),(1,.agg c.cells.toArray)]).run prog w=.ok (.agg (C4 ⟨0,.slice none 0 0,.slice none 0 0⟩ (CH id c)).toArray) w:=by kernel_rfl
theorem Nf(ρ:Operand->Value)(dst:Option Tmp)(x:Array (Nat×Operand))(c:TypeId)(pos:String)(after:Array Edge)(guard:Option (Nat×Bool)):
  execOp ρ { dst,op:=.build 113 x,type:=c,pos,after,guard }=GC 113 (x.map λ(a,y)=>(a,ρ y)):=rfl
theorem Oe(id:Int)(c:Cfg)(w:World):
  (GC 113 #[(0,.int .i64 id),(1,.agg c.cells.toArray)]).run prog w=.ok (.value (.agg (C4 ⟨0,.slice none 0 0,.slice none 0 0⟩ (CH id c)).toArray)) w:=by
 unfold GC;rw[jm,zLd];rfl
attribute [local go_sem ↓] Nf
attribute [local go_sem] Oe
theorem Tu(a b:List (RB×aG)): E0 (a++b)=E0 a++E0 b:=by simp[E0]
theorem TA{i k:World}{u:Obj}{e:Nat}{v nv:Value}{clock aC:Int}{ps:List (RB×aG)}{b2:RB}{x:aG}{l m H:Nat}(j:aZ i e v clock aC ps)(N:ps.length=m)(P:nv=.slice (some ⟨l,0,none⟩) (m+1) H)(C:b2=⟨i.heap.size,.slice none 0 0,.slice none 0 0⟩)(V:x.items=[])(W:x.events=[])(Q:k.ownsRow 0 106 1 nv (m+1) (E0 ps++[.pointer (some ⟨b2.s,0,none⟩)]))(n:((i.alloc (.cells (C4 b2 x).toArray 113)).alloc u).drew.grownBy k v.ownBlock)(r:v.ownBlock=some l\/l=i.heap.size+2):
  aZ (k.setCell ⟨e,2,none⟩ nv) e nv clock aC (ps++[(b2,x)])/\aA (bG e v ps) i (k.setCell ⟨e,2,none⟩ nv)/\(∀a,bG e nv (ps++[(b2,x)]) a->bG e v ps a\/i.heap.size<=a):=by
 have S:bN (i.alloc (.cells (C4 b2 x).toArray 113)) b2 x:=by
  subst C;refine⟨aD.new i _ 113,?_,?_,?_,?_,?_⟩
  ·rw[V];exact ir _ _ _ _
  ·rw[W];exact ir _ _ _ _
  ·intro d;cases d
  ·intro d;cases d
  intro a d;cases d
 have o:∀a,b2.aQ a->a=i.heap.size:=by
  intro a c;subst C;rcases c with c | c | c
  ·exact c
  ·cases c
  cases c
 generalize U:i.alloc (.cells (C4 b2 x).toArray 113)=G at *
 have L:lO i G:=by rw[<-U];exact(aA.refl (λ_=>False) i).alloc _
 have t:nv.ownBlock=some l:=by rw[P];rfl
 have A:aA (λa=>v.ownBlock=some a) i k:=(((L.mono (M':=λa=>v.ownBlock=some a) (λ_ _ d=>d.elim)).alloc u).drew).grown n (λF z=>Or.inl z);have s:aA (λa=>a=e) k (k.setCell ⟨e,2,none⟩ nv):=(aA.refl (λa=>a=e) k).setCell (p:=⟨e,2,none⟩) (Or.inl rfl) _;have X:=j.aF.lt;have J:l≠e:=by
  rcases r with d | d
  ·intro I;exact j.ev (by rw[d,I])
  omega
 have E:∀a,v.ownBlock=some a->a<i.heap.size:=λa c=>j.lt a (.inr (.inl c));have T:bN k b2 x:=(S.still (((aA.refl (λ_=>False) G).alloc u).drew)).keeps (M:=λa=>v.ownBlock=some a) ⟨n.os,n.tape,n.output,n.size,λF z O=>n.block F z (λd=>O d.symm)⟩ (λa c d=>by have w:=o a c;have q:=E a d;omega);refine⟨⟨?_,?_,?_,?_,?_,?_⟩,?_,?_⟩
 ·exact(j.aF.keeps A (λd=>j.ev d)).setCell 2 nv
 ·have:=A2 Q s (λa c d=>by rw[t]at c;injection c with c;omega);rw[Tu,hY,N];exact this
 ·intro p h;rcases ig.1 h with h | h
  ·exact((j.bM p h).keeps A (λa c d=>(j.ef p h a c).2 d)).keeps s (λa c d=>(j.ef p h a c).1 d)
  rw[ij]at h;subst h;exact T.keeps s (λa c d=>by have:=o a c;omega)
 ·refine iY.2 ⟨j.apart,ka _ _,?_⟩;intro p h Y D a c R;rw[ij]at D;subst D;have w:=(j.bM p h).lt a c;have q:=o a R;omega
 ·rw[t];intro d;injection d with d;exact J d
 ·intro p h a c;rw[t];rcases ig.1 h with h | h
  ·refine⟨(j.ef p h a c).1,λd=>?_⟩;injection d with d;have w:=(j.bM p h).lt a c;rcases r with q | q
   ·exact(j.ef p h a c).2 (by rw[q,d])
   omega
  rw[ij]at h;subst h;have w:=o a c;refine⟨by omega,λd=>?_⟩;injection d with d;rcases r with B | B
  ·have:=E l B;omega
  omega
 ·exact(A.mono (M':=bG e v ps) (λa _ d=>.inr (.inl d))).trans s (λa c _=>.inl c)
 intro a c;rcases c with c | c | ⟨p,h,c⟩
 ·exact .inl (.inl c)
 ·rw[t]at c;injection c with c;rcases r with d | d
  ·exact .inl (.inr (.inl (by rw[d,c])))
  exact .inr (by omega)
 rcases ig.1 h with h | h
 ·exact .inl (.inr (.inr ⟨p,h,c⟩))
 rw[ij]at h;subst h;exact .inr (by have:=o a c;omega)
theorem Ns(ps:List (RB×aG))(clock aC:Int)(o:aO): CK ⟨clock,aC,ps.map (·.2)⟩ o =
  if Ab o.id 0 99=true/\(BI ps o.id)=none then(if Ak o.cfg=true then(if ps.length=6 then(⟨clock,aC,ps.map (·.2)⟩,4,[]) else(⟨clock,aC,ps.map (·.2)++[CH o.id o.cfg]⟩,0,[])) else(⟨clock,aC,ps.map (·.2)⟩,3,[])) else(⟨clock,aC,ps.map (·.2)⟩,2,[]):=by
 unfold CK;simp only[G6,im];have:((BI ps o.id).map (·.2)).isNone=true↔BI ps o.id=none:=by cases BI ps o.id <;> simp
 simp only[this]
theorem Vk(e:Nat)(v:Value)(clock aC:Int)(ps:List (RB×aG))(o:aO)(w:World)(a:aZ w e v clock aC ps)(P:ps.length<=1000)(C:¬(Ab o.id 0 99=true/\BI ps o.id=none/\Ak o.cfg=true/\ps.length≠6)):
  Calls prog 60 #[.pointer (some ⟨e,0,none⟩),o.val] w λu U=>u=.returned (.int .i64 (CK ⟨clock,aC,ps.map (·.2)⟩ o).2.1)/\(CK ⟨clock,aC,ps.map (·.2)⟩ o).2.2=[]/\Dc w e v ps (CK ⟨clock,aC,ps.map (·.2)⟩ o).1 U:=by
 have d:=Aa (Ns ps clock aC o);have i:o.cells[1]?=some (.int .i64 o.id):=rfl;have G:=Aa a;have t:lO w (w.alloc (.cells o.cells.toArray 48)):=(aA.refl (λ_=>False) w).alloc _;have z:=Aa (show aD (w.alloc (.cells o.cells.toArray 48)) w.heap.size o.cells 48 from aD.new w o.cells 48);have m:=Aa (a.still t);have H:=Aa t;have I:=Aa C;clear a t C;unfold aO.val;go_enter func60,ntmps60;go_wp2_with fail
 generalize w.alloc (.cells o.cells.toArray 48)=F at *
 generalize R:w.heap.size=T at *
 clear R;refine(Ge e v clock aC o.id ps F m.o P).mono ?_;rintro u l ⟨rfl,E⟩;rw[E];clear E l;obtain⟨S,N⟩:=Eg z.o 5 20 o.cfg.cells rfl rfl;go_wp2_with fail
 refine(O0 o.cfg F).mono ?_;rintro u l ⟨rfl,k⟩;have o1:l.cell? ⟨T,1,none⟩=some (.int .i64 o.id):=k.cell (z.o.cell rfl) id;have J:l.cell? ⟨e,2,none⟩=some v:=k.cell (m.o.aF.cell rfl) id;have Q:∃q s,v=.slice q ps.length s:=by
  rcases m.o.row.2 with ⟨i,L⟩ | ⟨g,s,V,i,_⟩
  ·exact⟨none,0,by rw[i,L]⟩
  exact⟨some ⟨g,0,none⟩,s,i⟩
 have h:=Aa (H.o.then k);clear k S N i;have A:∀(x:World) (r:Int),lO w x->CK ⟨clock,aC,ps.map (·.2)⟩ o=(⟨clock,aC,ps.map (·.2)⟩,r,[])->Ending.returned (.int .i64 r)=.returned (.int .i64 (CK ⟨clock,aC,ps.map (·.2)⟩ o).2.1)/\(CK ⟨clock,aC,ps.map (·.2)⟩ o).2.2=[]/\Dc w e v ps (CK ⟨clock,aC,ps.map (·.2)⟩ o).1 x:=by
  intro x r O M;rw[M];exact⟨rfl,rfl,Lz G.o O⟩
 have c:=Aa A;clear A;by_cases W:o.id<0
 ·go_wp2;go_ret;exact c.o _ 2 h.o (by rw[d.o,hZ (λa=>by obtain⟨q,b⟩:=Bp a.1;omega)])
 by_cases X:99<o.id
 ·go_wp2;go_ret;exact c.o _ 2 h.o (by rw[d.o,hZ (λa=>by obtain⟨q,b⟩:=Bp a.1;omega)])
 have B:Ab o.id 0 99=true:=by simp[Ab];omega
 have n:=Aa B;clear B;cases hf:BI ps o.id with
 | some p =>
  unfold Fq;go_wp2;go_ret;exact c.o _ 2 h.o (by rw[d.o,hZ (λa=>by rw[hf]at a;cases a.2)])
 | none =>
  unfold Fq;cases hv:Ak o.cfg with
  | false =>
   go_wp2;go_ret;exact c.o _ 3 h.o (by rw[d.o,h9 ⟨n.o,hf⟩,hv];rfl)
  | true =>
   have j:ps.length=6:=by
    have:=I.o;by_cases j:ps.length=6
    ·exact j
    exact absurd ⟨n.o,hf,hv,j⟩ this
   obtain⟨Y,Z,D⟩:=Q;rw[D,j]at J;clear D;go_wp2;go_ret;exact c.o _ 4 h.o (by rw[d.o,h9 ⟨n.o,hf⟩,hv,h9 rfl,h9 j])
