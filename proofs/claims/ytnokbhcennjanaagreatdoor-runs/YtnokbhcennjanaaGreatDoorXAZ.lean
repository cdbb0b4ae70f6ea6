import Derived.Test.YtnokbhcennjanaaGreatDoorXAY
open Go.RowKit Go.Proofs.Tryz
set_option maxRecDepth 100000
set_option maxHeartbeats 16000000
namespace Go.Proofs.YtnokbhcennjanaaGreatDoor
section
attribute [local go_sem ↓] AN B2
attribute [local go_sem] AO B4 A5 A6 AI AJ BC BD Bf B3
theorem zOy: (prog.info? 66).map (λa=>(a.zero,a.size,a.bytes))=some (some (.pointer none),1,8):=by kernel_rfl
def J1(t:TypeId)(x y:Value): Sem Next:=do pure (.value (<-Builtin.append_ #[51,51] t #[x,y]))
theorem N8(ρ:Operand->Value)(dst:Option Tmp)(x y:Operand)(a:TypeId)(pos:String)(after:Array Edge)(guard:Option (Nat×Bool)):
  execOp ρ { dst,op:=.call { callee:=.builtin .append,args:=#[x,y],argTypes:=#[51,51] },type:=a,pos,after,guard }=J1 a (ρ x) (ρ y):=by
 rw[BigFrame.execOp_builtin,BigFrame.builtin_append];simp[J1]
theorem NC(a:World)(e:Option Addr)(m h:Nat)(l:List Value)(d:Value)(x:d.oneCell'=true)(v:a.ownsRow 0 66 1 (.slice e m h) m l)(D:m<=6):
  ∃c j i,(∀k,(J1 k (.slice e m h) (.slice (some ⟨a.heap.size,0,none⟩) 1 1)).run prog (a.alloc (.cells #[d] 66))=.ok (.value (.slice (some ⟨c,0,none⟩) (m+1) j)) i) /\
   i.ownsRow 0 66 1 (.slice (some ⟨c,0,none⟩) (m+1) j) (m+1) (l++[d])/\(a.alloc (.cells #[d] 66)).grownBy i (Value.slice e m h).ownBlock/\((Value.slice e m h).ownBlock=some c\/c=a.heap.size+1)/\c<i.heap.size:=by
 obtain⟨C,u,z,A,B⟩:=jh zOy;obtain⟨c,j,i,n,o,q,r,s⟩:=run_append_lies (P:=prog) (a.alloc (.cells #[d] 66)) 51 51 0 66 C _ 1 8 underlying51 u z A B rfl (by omega) (.slice e m h) m l (v.alloc _) ⟨a.heap.size,0,none⟩ 1 1 [d] rfl (iT (cs:=#[d]) (t:=66) (fr:=(0,0)) (iJ a _)) (by simp[x]) (by omega) (by unfold maxLen;omega) (by omega) (by omega) (a.heap.size+1) (by simp);refine⟨c,j,i,λk=>?_,o,q,r,s⟩;unfold J1;rw[jm];have w:Builtin.append_ #[51,51] k #[Value.slice e m h,.slice (some ⟨a.heap.size,0,none⟩) 1 1]=Builtin.append_ #[51,51] 51 #[Value.slice e m h,.slice (some ⟨a.heap.size,0,none⟩) 1 1]:=rfl;rw[w,n];rfl
theorem SD(id:Int)(c:Cfg)(k e:Nat)(i:Option Addr)(m j:Nat)(ps:List (SB×aI))(w:World)(C:1<=k)(D:k<=5)(Q:Ak c=true)(H:c.kind=k)(u:w.cell? ⟨e,1,none⟩=some (.slice i m j))(F:∀a,w.frozen? ⟨e,a,none⟩=false)(N:w.ownsRow 0 66 1 (.slice i m j) m (AV ps))(L:m<=6)(v:some e≠(Value.slice i m j).ownBlock):
  Calls prog 37 #[.int .i64 id,c.val,.agg (B1 k).toArray] w λB d=>∃h:SB,B=.returned (.pointer (some ⟨h.s,0,none⟩))/\bJ d h (AQ id c k)/\(∀a,h.aQ k a->w.heap.size<=a)/\lO w d /\
   d.cell? ⟨e,1,none⟩=some (.slice i m j)/\e<d.heap.size/\(∀a,d.frozen? ⟨e,a,none⟩=false)/\∃n q l,(∀R,(J1 R (.slice i m j) (.slice (some ⟨d.heap.size,0,none⟩) 1 1)).run prog (d.alloc (.cells #[.pointer (some ⟨h.s,0,none⟩)] 66))=.ok (.value (.slice (some ⟨n,0,none⟩) (m+1) q)) l) /\
   l.ownsRow 0 66 1 (.slice (some ⟨n,0,none⟩) (m+1) q) (m+1) (AV ps++[.pointer (some ⟨h.s,0,none⟩)])/\(d.alloc (.cells #[.pointer (some ⟨h.s,0,none⟩)] 66)).grownBy l (Value.slice i m j).ownBlock/\((Value.slice i m j).ownBlock=some n\/n=d.heap.size+1)/\n<l.heap.size /\
   l.cell? ⟨e,1,none⟩=some (.slice i m j)/\(∀a,l.frozen? ⟨e,a,none⟩=false):=by
 refine(Nn id c k w C D Q H).mono ?_;rintro B d ⟨h,rfl,P,G,r⟩;have I:e<w.heap.size:=kA w _ u;have s:d.cell? ⟨e,1,none⟩=some (.slice i m j):=r.cell u (λh=>h);have z:e<d.heap.size:=kA d _ s;have x:∀a,d.frozen? ⟨e,a,none⟩=false:=λa=>(r.frozen (p:=⟨e,a,none⟩) I (λh=>h)).trans (F a);obtain⟨n,q,l,O,M,t,E,J⟩:=NC d i m j (AV ps) (.pointer (some ⟨h.s,0,none⟩)) rfl (A2 N r (λ_ _ o=>o)) L;have A:e<(d.alloc (.cells #[.pointer (some ⟨h.s,0,none⟩)] 66)).heap.size:=by simp;omega
 refine⟨h,rfl,P,G,r,s,z,x,n,q,l,O,M,t,E,J,?_,λa=>?_⟩
 ·rw[t.cell_far ⟨e,1,none⟩ A v,lE _ _ _ z];exact s
 rw[t.frozen_far ⟨e,a,none⟩ A v,World.frozen?_alloc_old _ _ _ (by show e≠_;omega)];exact x a
attribute [local go_sem ↓ 2000] N8
attribute [local go_sem ↓] Go.wp_at_zero Go.wp_at_succ
theorem US(n:Int)(e:Nat)(v:Value)(clock:Int)(ps:List (SB×aI))(o:aO)(w:World)(c:aX w e v clock ps)(hi:bQ n clock (ps.map (·.2)))(bf:Ab o.id 0 99=true)(aa:Cf ps o.id=none)(am:Ak o.cfg=true)(bz:ps.length<6):
  Calls prog 20 #[.pointer (some ⟨e,0,none⟩),o.val] w λz bu=>aS w e v ps clock (ps.map (·.2)++[AQ o.id o.cfg o.cfg.kind.toNat]) 0 [] z bu:=by
 obtain⟨a,af,ag,ai,a8,bc⟩:=Fw am;have M:=Aa af;have a0:=Aa am;have aw:=Aa (show o.cfg.kind.toNat=a by omega);clear af;have d:o.cells[1]?=some (.int .i64 o.id):=rfl;have L:=Aa c;have bi:ps.length<=1000:=by have:=hi.bX;rw[im]at this;omega
 have ar:=Aa aa;clear c hi aa;unfold aO.val;go_enter func20,ntmps20;go_wp2_with fail
 obtain⟨C,an,D,A,P⟩:=C5 w o.cells;have r:=Aa (L.o.still D.o);rw[<-an];clear an;have N:=Aa (show ∀j,aN e v ps j->j<w.heap.size from L.o.lt);generalize H:w.heap.size=bq at *
 have az:=Aa H;clear H;refine(AK _ _ _ C).mono ?_;rintro z l ⟨rfl,h⟩;rw[h,bf];clear h l;have I:=A.o.c1;go_wp2_with fail
 refine(EM e v clock o.id ps C r.o bi).mono ?_;rintro z l ⟨rfl,h⟩;rw[h,ar.o];clear h l;unfold EB;obtain⟨bn,bd⟩:=Eg A.o 5 20 o.cfg.cells rfl rfl;go_wp2_with fail
 refine(L3 o.cfg a C M.o ag ai a8 bc).mono ?_;rintro z l ⟨rfl,h⟩;unfold B1 fn;have bk:∃a1 F,v=.slice a1 ps.length F:=by
  rcases r.o.row.2 with ⟨d,a3⟩ | ⟨g,F,bx,d,_⟩
  ·exact⟨none,0,by rw[d,a3]⟩
  exact⟨some ⟨g,0,none⟩,F,d⟩
 obtain⟨m,q,bp⟩:=bk;subst bp;have x:lO C (l.alloc (.cells #[.func (.func (Bu a)) #[] #[],.func (.func (Bg a)) #[] #[],.func (.func (Bh a)) #[] #[],.func (.func (AR a)) #[] #[],.func (.func (AW a)) #[] #[],.func (.func (Bo a)) #[] #[]] 75)):=h.alloc _;have S:=Aa (P.o.keeps x id);have O:=Aa (A.o.keeps x id);have u:=Aa (r.o.still x);have s:=Aa (aD.new l [.func (.func (Bu a)) #[] #[],.func (.func (Bg a)) #[] #[],.func (.func (Bh a)) #[] #[],.func (.func (AR a)) #[] #[],.func (.func (AW a)) #[] #[],.func (.func (Bo a)) #[] #[]] 75);have ax:=Aa (D.o.then x);have a5:l.cell? ⟨e,1,none⟩=some (.slice m ps.length q):=(r.o.still h).aF.cell rfl;have b0:e<l.heap.size:=(r.o.still h).aF.lt;clear h x bn bd I;go_wp2_with fail
 clear a5;generalize l.alloc (.cells #[.func (.func (Bu a)) #[] #[],.func (.func (Bg a)) #[] #[],.func (.func (Bh a)) #[] #[],.func (.func (AR a)) #[] #[],.func (.func (AW a)) #[] #[],.func (.func (Bo a)) #[] #[]] 75)=t at *
 generalize bg:l.heap.size=b4 at *
 generalize aj:ps.length=k at *
 have E:=Aa aj;clear bg aj r P A D;have Z:t.cell? ⟨e,1,none⟩=some (.slice m k q):=by have:=u.o.aF.cell (i:=1) rfl;exact this
 have ab:=u.o.aF.frozen;have I:=O.o.c1;obtain⟨bo,be⟩:=Eg O.o 5 20 o.cfg.cells rfl rfl;have br:=s.o.c0;have bs:=s.o.c1;have bt:=s.o.c2;have b9:=s.o.c3;have ca:=s.o.c4;have cb:=s.o.c5;have R:=Aa (show t.ownsRow 0 66 1 (.slice m k q) k (AV ps) by have:=u.o.row;rw[E.o]at this;exact this);have a9:some e≠(Value.slice m k q).ownBlock:=λc=>u.o.ev c.symm;have bl:k<=6:=by omega
 go_region_with (first | (go_at_call 37;refine(SD o.id o.cfg a e m k q ps t.drew ag ai a0.o M.o Z ab (by exact A2 R.o ((aA.refl (λ_=>False) t).drew) (λ_ _ c=>c)) bl a9).mono ?_;rintro z cc ⟨a2,rfl,al,ad,ah,a6,b1,ba,U,T,bv,bm,ak,ae,Y,bj,a7,bb⟩))
 all_goals
  have ap:=Vt u.o E.o rfl al ad (((aA.refl (λ_=>False) t).drew).then ah) ak ae Y;obtain⟨V,G,X⟩:=ap;have Q:=Aa (S.o.keeps G (λc=>by have:=N.o _ c;omega));have aq:=Aa V;have au:=Aa G;have ay:=Aa X;have b3:bq+1<t.heap.size:=S.o.lt;clear V G X ak ae Y bj bm a7 bb a6 ba al ad ah I bo be br bs bt Z ab R;generalize bv.setCell ⟨e,1,none⟩ (.slice (some ⟨U,0,none⟩) (k+1) T)=cd at *
  obtain⟨b5,b6,b7,b8⟩:=Q.o.three;go_wp2;refine CZ Q.o (λao J=>by simp[results,results20,go_sem,J.c0,J.c1,J.c2,Av]) rfl (λao B=>?_);have av:=Aa B;have B:=av.o;have H:=az.o;have a4:=ax.o;have W:=ay.o;have bh:aA (aN e (.slice m k q) ps) w ao:=((a4.mono (M':=aN e (.slice m k q) ps) (λ_ _ c=>c.elim)).then au.o).trans B (λj hi b2=>by omega);rw[E.o];refine⟨.slice none 0 0,.slice (some ⟨U,0,none⟩) (k+1) T,ps++[(a2,AQ o.id o.cfg a)],rfl,aq.o.keeps B (λj hi c=>?_),?_,ir _ _ _ _,bh,λj hi=>?_,λj hi=>?_⟩
  ·rcases W j hi with d | d
   ·have:=N.o j d;omega
   omega
  ·rw[iy,aw.o];rfl
  ·rcases W j hi with d | d
   ·exact .inl d
   exact .inr (by omega)
  simp[Value.ownBlock]at hi
