import Derived.Test.YtnokbhcennjanaaGreatDoorXAL
open Go.RowKit Go.Proofs.Tryz
set_option maxRecDepth 100000
set_option maxHeartbeats 16000000
namespace Go.Proofs.YtnokbhcennjanaaGreatDoor
section
attribute [local go_sem ↓] AH Bs
attribute [local go_sem] AI Bt A3 A4 AJ AL B8 B9 Bd B2
theorem zPs: (prog.info? 66).map (λa=>(a.zero,a.size,a.bytes))=some (some (.pointer none),1,8):=by kernel_rfl
def JG(t:TypeId)(x y:Value): Sem Next:=do pure (.value (<-Builtin.append_ #[51,51] t #[x,y]))
theorem NW(ρ:Operand->Value)(dst:Option Tmp)(x y:Operand)(a:TypeId)(pos:String)(after:Array Edge)(guard:Option (Nat×Bool)):
  execOp ρ { dst,op:=.call { callee:=.builtin .append,args:=#[x,y],argTypes:=#[51,51] },type:=a,pos,after,guard }=JG a (ρ x) (ρ y):=by
 rw[BigFrame.execOp_builtin,BigFrame.builtin_append];simp[JG]
theorem Ob(a:World)(d:Option Addr)(m e:Nat)(k:List Value)(u:Value)(x:u.oneCell'=true)(v:a.ownsRow 0 66 1 (.slice d m e) m k)(D:m<=6):
  ∃c i h,(∀j,(JG j (.slice d m e) (σ a.heap.size 1 1)).run prog (a.alloc (.cells #[u] 66))=.ok (.value (σ c (m+1) i)) h) /\
   h.ownsRow 0 66 1 (σ c (m+1) i) (m+1) (k++[u])/\(a.alloc (.cells #[u] 66)).grownBy h (Value.slice d m e).ownBlock/\((Value.slice d m e).ownBlock=some c\/c=a.heap.size+1)/\c<h.heap.size:=by
 obtain⟨C,s,z,A,B⟩:=jg zPs;obtain⟨c,i,h,l,n,o,q,r⟩:=run_append_lies (P:=prog) (a.alloc (.cells #[u] 66)) 51 51 0 66 C _ 1 8 underlying51 s z A B rfl (by omega) (.slice d m e) m k (v.alloc _) ⟨a.heap.size,0,none⟩ 1 1 [u] rfl (iJ (cs:=#[u]) (t:=66) (fr:=(0,0)) (iH a _)) (by simp[x]) (by omega) (by unfold maxLen;omega) (by omega) (by omega) (a.heap.size+1) (by simp);refine⟨c,i,h,λj=>?_,n,o,q,r⟩;unfold JG;rw[jq];have w:Builtin.append_ #[51,51] j #[Value.slice d m e,σ a.heap.size 1 1]=Builtin.append_ #[51,51] 51 #[Value.slice d m e,σ a.heap.size 1 1]:=rfl;rw[w,l];rfl
theorem To(id:Int)(c:Cfg)(k e:Nat)(i:Option Addr)(m j:Nat)(ps:List (SB×aJ))(w:World)(C:1<=k)(D:k<=5)(Q:Ak c=true)(H:c.kind=k)(u:w.cell? ⟨e,1,none⟩=some (.slice i m j))(F:∀a,w.frozen? ⟨e,a,none⟩=false)(N:w.ownsRow 0 66 1 (.slice i m j) m (Ba ps))(L:m<=6)(v:some e≠(Value.slice i m j).ownBlock):
  Calls prog 37 #[ι id,c.val,.agg (B6 k).toArray] w λB d=>∃h:SB,B=.returned (π h.s)/\bJ d h (AT id c k)/\(∀a,h.aQ k a->w.heap.size<=a)/\lX w d /\
   d.cell? ⟨e,1,none⟩=some (.slice i m j)/\e<d.heap.size/\(∀a,d.frozen? ⟨e,a,none⟩=false)/\∃n q l,(∀R,(JG R (.slice i m j) (σ d.heap.size 1 1)).run prog (d.alloc (.cells #[π h.s] 66))=.ok (.value (σ n (m+1) q)) l) /\
   l.ownsRow 0 66 1 (σ n (m+1) q) (m+1) (Ba ps++[π h.s])/\(d.alloc (.cells #[π h.s] 66)).grownBy l (Value.slice i m j).ownBlock/\((Value.slice i m j).ownBlock=some n\/n=d.heap.size+1)/\n<l.heap.size /\
   l.cell? ⟨e,1,none⟩=some (.slice i m j)/\(∀a,l.frozen? ⟨e,a,none⟩=false):=by
 refine(NC id c k w C D Q H).mono ?_;rintro B d ⟨h,rfl,P,G,r⟩;have I:e<w.heap.size:=kG w _ u;have s:κ d e 1 (.slice i m j):=r.cell u (λo=>o);have z:e<d.heap.size:=kG d _ s;have x:∀a,d.frozen? ⟨e,a,none⟩=false:=λa=>(r.frozen (p:=⟨e,a,none⟩) I (λo=>o)).trans (F a);obtain⟨n,q,l,O,M,t,E,J⟩:=Ob d i m j (Ba ps) (π h.s) rfl (An N r (λ_ _ o=>o)) L;have A:e<(d.alloc (.cells #[π h.s] 66)).heap.size:=by simp;omega
 refine⟨h,rfl,P,G,r,s,z,x,n,q,l,O,M,t,E,J,?_,λa=>?_⟩
 ·rw[t.cell_far ⟨e,1,none⟩ A v,lM _ _ _ z];exact s
 rw[t.frozen_far ⟨e,a,none⟩ A v,World.frozen?_alloc_old _ _ _ (by show e≠_;omega)];exact x a
attribute [local go_sem ↓ 2000] NW
attribute [local go_sem ↓] Go.wp_at_zero Go.wp_at_succ
theorem Vz(n:Int)(e:Nat)(v:Value)(clock:Int)(ps:List (SB×aJ))(o:aO)(w:World)(c:aX w e v clock ps)(hi:bQ n clock (ps.map (·.2)))(bg:Ab o.id 0 99=true)(ab:Cj ps o.id=none)(an:Ak o.cfg=true)(b0:ps.length<6):
  Calls prog 20 #[π e,o.val] w λA bv=>aS w e v ps clock (ps.map (·.2)++[AT o.id o.cfg o.cfg.kind.toNat]) 0 [] A bv:=by
 obtain⟨a,ag,ah,aj,a9,bd⟩:=F2 an;have N:=Aa ag;have a1:=Aa an;have ax:=Aa (show o.cfg.kind.toNat=a by omega);clear ag;have h:o.cells[1]?=some (ι o.id):=rfl;have M:=Aa c;have bj:ps.length<=1000:=by have:=hi.bX;rw[iu]at this;omega
 have au:=Aa ab;clear c hi ab;unfold aO.val;go_enter func20,ntmps20;go_wp2_with fail
 obtain⟨D,ao,E,B,Q⟩:=CC w o.cells;have s:=Aa (M.o.still E.o);rw[<-ao];clear ao;have O:=Aa (show ∀k,aN e v ps k->k<w.heap.size from M.o.lt);generalize I:w.heap.size=br at *
 have a0:=Aa I;clear I;refine(AN _ _ _ D).mono ?_;rintro A m ⟨rfl,j⟩;rw[j,bg];clear j m;have J:=B.o.c1;go_wp2_with fail
 refine(ET e v clock o.id ps D s.o bj).mono ?_;rintro A m ⟨rfl,j⟩;rw[j,au.o];clear j m;unfold EH;obtain⟨bo,be⟩:=El B.o 5 20 o.cfg.cells rfl rfl;go_wp2_with fail
 refine(LG o.cfg a D N.o ah aj a9 bd).mono ?_;rintro A m ⟨rfl,j⟩;unfold B6 fn;have bl:∃a2 G,v=.slice a2 ps.length G:=by
  rcases s.o.row.2 with ⟨h,a4⟩ | ⟨g,G,bz,h,_⟩
  ·exact⟨none,0,by rw[h,a4]⟩
  exact⟨some ⟨g,0,none⟩,G,h⟩
 obtain⟨q,r,bq⟩:=bl;subst bq;have z:lX D (m.alloc (.cells #[.func (.func (Bi a)) #[] #[],.func (.func (AU a)) #[] #[],.func (.func (AV a)) #[] #[],.func (.func (AO a)) #[] #[],.func (.func (AR a)) #[] #[],.func (.func (Be a)) #[] #[]] 75)):=j.alloc _;have T:=Aa (Q.o.keeps z id);have P:=Aa (B.o.keeps z id);have x:=Aa (s.o.still z);have t:=Aa (aD.new m [.func (.func (Bi a)) #[] #[],.func (.func (AU a)) #[] #[],.func (.func (AV a)) #[] #[],.func (.func (AO a)) #[] #[],.func (.func (AR a)) #[] #[],.func (.func (Be a)) #[] #[]] 75);have ay:=Aa (E.o.then z);have a6:κ m e 1 (.slice q ps.length r):=(s.o.still j).aF.cell rfl;have b1:e<m.heap.size:=(s.o.still j).aF.lt;clear j z bo be J;go_wp2_with fail
 clear a6;generalize m.alloc (.cells #[.func (.func (Bi a)) #[] #[],.func (.func (AU a)) #[] #[],.func (.func (AV a)) #[] #[],.func (.func (AO a)) #[] #[],.func (.func (AR a)) #[] #[],.func (.func (Be a)) #[] #[]] 75)=d at *
 generalize bh:m.heap.size=u at *
 generalize ak:ps.length=l at *
 have F:=Aa ak;clear bh ak s Q B E;have aa:κ d e 1 (.slice q l r):=by have:=x.o.aF.cell (i:=1) rfl;exact this
 have ad:=x.o.aF.frozen;have J:=P.o.c1;obtain⟨bp,bf⟩:=El P.o 5 20 o.cfg.cells rfl rfl;have bs:κ d u 0 (.func (.func (Bi a)) #[] #[]):=t.o.cell rfl;have bt:κ d u 1 (.func (.func (AU a)) #[] #[]):=t.o.cell rfl;have bu:κ d u 2 (.func (.func (AV a)) #[] #[]):=t.o.cell rfl;have b9:κ d u 3 (.func (.func (AO a)) #[] #[]):=t.o.cell rfl;have ca:κ d u 4 (.func (.func (AR a)) #[] #[]):=t.o.cell rfl;have cb:κ d u 5 (.func (.func (Be a)) #[] #[]):=t.o.cell rfl;have S:=Aa (show d.ownsRow 0 66 1 (.slice q l r) l (Ba ps) by have:=x.o.row;rw[F.o]at this;exact this);have ba:some e≠(Value.slice q l r).ownBlock:=λc=>x.o.ev c.symm;have bm:l<=6:=by omega
 go_region_with (first | (go_at_call 37;refine(To o.id o.cfg a e q l r ps d.drew ah aj a1.o N.o aa ad (by exact An S.o ((aA.refl (λ_=>False) d).drew) (λ_ _ c=>c)) bm ba).mono ?_;rintro A cc ⟨a3,rfl,am,ae,ai,a7,b2,bb,V,U,bx,bn,al,af,Z,bk,a8,bc⟩))
 all_goals
  have aq:=Vu x.o F.o rfl am ae (((aA.refl (λ_=>False) d).drew).then ai) al af Z;obtain⟨W,H,Y⟩:=aq;have R:=Aa (T.o.keeps H (λc=>by have:=O.o _ c;omega));have ar:=Aa W;have av:=Aa H;have az:=Aa Y;have b4:br+1<d.heap.size:=T.o.lt;clear W H Y al af Z bk bn a8 bc a7 bb am ae ai J bp bf bs bt bu aa ad S;generalize bx.setCell ⟨e,1,none⟩ (σ V (l+1) U)=cd at *
  obtain⟨b5,b6,b7,b8⟩:=R.o.three;go_wp2;refine Dj R.o (λap L=>by simp[results,results20,go_sem,L.c0,L.c1,L.c2,Aw]) rfl (λap C=>?_);have aw:=Aa C;have C:=aw.o;have I:=a0.o;have a5:=ay.o;have X:=az.o;have bi:aA (aN e (.slice q l r) ps) w ap:=((a5.mono (M':=aN e (.slice q l r) ps) (λ_ _ c=>c.elim)).then av.o).trans C (λk hi b3=>by omega);rw[F.o];refine⟨.slice none 0 0,σ V (l+1) U,ps++[(a3,AT o.id o.cfg a)],rfl,ar.o.keeps C (λk hi c=>?_),?_,iy _ _ _ _,bi,λk hi=>?_,λk hi=>?_⟩
  ·rcases X k hi with h | h
   ·have:=O.o k h;omega
   omega
  ·rw[iB,ax.o];rfl
  ·rcases X k hi with h | h
   ·exact .inl h
   exact .inr (by omega)
  simp[Value.ownBlock]at hi
