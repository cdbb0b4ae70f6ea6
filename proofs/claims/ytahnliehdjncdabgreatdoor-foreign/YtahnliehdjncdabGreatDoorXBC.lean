import Derived.Deep.DrawnRows
import Derived.Test.YtahnliehdjncdabGreatDoorXBB
set_option maxRecDepth 100000
set_option maxHeartbeats 16000000
namespace Go.Proofs.YtahnliehdjncdabGreatDoor
section
open Go.RowKit
attribute [local go_sem ↓] qAd qAe
attribute [local go_sem] qAf qAl qAc qAb qAm qAn qAi qAj qAh qAk
theorem zIj: (Tryz.prog.info? 74).map (λi=>(i.zero,i.size,i.bytes))=some (some (.pointer none),1,8):=by kernel_rfl
def qRo(t:TypeId)(x y:Value): Sem Next:=do pure (.value (<-Builtin.append_ #[58,58] t #[x,y]))
theorem qK7(ρ:Operand->Value)(dst:Option Tmp)(x y:Operand)(ty:TypeId)(pos:String)(after:Array Edge)(guard:Option (Nat×Bool)):
  execOp ρ { dst,op:=.call { callee:=.builtin .append,args:=#[x,y],argTypes:=#[58,58] },type:=ty,pos,after,guard }=qRo ty (ρ x) (ρ y):=by
 rw[BigFrame.execOp_builtin,BigFrame.builtin_append];simp[qRo]
theorem qKx(w2:World)(va:Option Addr)(m vcap:Nat)(xs:List Value)(u:Value)(hu:u.oneCell'=true)(hown:w2.ownsRow 0 74 1 (.slice va m vcap) m xs)(hm:m<=6):
  ∃gg cap' w3,(∀t,(qRo t (.slice va m vcap) (.slice (some ⟨w2.heap.size,0,none⟩) 1 1)).run Tryz.prog (w2.alloc (.cells #[u] 74))=.ok (.value (.slice (some ⟨gg,0,none⟩) (m+1) cap')) w3) /\
   w3.ownsRow 0 74 1 (.slice (some ⟨gg,0,none⟩) (m+1) cap') (m+1) (xs++[u])/\(w2.alloc (.cells #[u] 74)).grownBy w3 (Value.slice va m vcap).ownBlock/\((Value.slice va m vcap).ownBlock=some gg\/gg=w2.heap.size+1)/\gg<w3.heap.size:=by
 obtain⟨i0,hi0,hz0,hz1,hz2⟩:=info_parts zIj;obtain⟨gg,cap',w3,h1,h2,h3,h4,h5⟩:=run_append_lies (P:=Tryz.prog) (w2.alloc (.cells #[u] 74)) 58 58 0 74 i0 _ 1 8 Tryz.underlying58 hi0 hz0 hz1 hz2 rfl (by omega) (.slice va m vcap) m xs (hown.alloc _) ⟨w2.heap.size,0,none⟩ 1 1 [u] rfl (World.news_of_block (cs:=#[u]) (t:=74) (fr:=(0,0)) (heap_alloc_new w2 _)) (by simp[hu]) (by omega) (by unfold maxLen;omega) (by omega) (by omega) (w2.heap.size+1) (by simp);refine⟨gg,cap',w3,λt=>?_,h2,h3,h4,h5⟩;unfold qRo;rw[Sem.run_bind];have ht:Builtin.append_ #[58,58] t #[Value.slice va m vcap,.slice (some ⟨w2.heap.size,0,none⟩) 1 1]=Builtin.append_ #[58,58] 58 #[Value.slice va m vcap,.slice (some ⟨w2.heap.size,0,none⟩) 1 1]:=rfl;rw[ht,h1];rfl
theorem qQv(id:Int)(c:Cfg)(k e:Nat)(va:Option Addr)(m vcap:Nat)(ps:List (SB×Ser))(w:World)(h1:1<=k)(h5:k<=5)(hvv:qA5 c=true)(hkd:c.kind=k)(hce:w.cell? ⟨e,1,none⟩=some (.slice va m vcap))(hfe:∀i,w.frozen? ⟨e,i,none⟩=false)(hrow:w.ownsRow 0 74 1 (.slice va m vcap) m (ptrs ps))(hm:m<=6)(hev:some e≠(Value.slice va m vcap).ownBlock):
  Calls Tryz.prog 48 #[.int .i64 id,c.val,.agg (qBc k).toArray] w λr w2=>∃b2:SB,r=.returned (.pointer (some ⟨b2.s,0,none⟩))/\SRep w2 b2 (qCe id c k)/\(∀i,b2.foot k i->w.heap.size<=i)/\Keeps (λ_=>False) w w2 /\
   w2.cell? ⟨e,1,none⟩=some (.slice va m vcap)/\e<w2.heap.size/\(∀i,w2.frozen? ⟨e,i,none⟩=false)/\∃gg cap' w3,(∀t,(qRo t (.slice va m vcap) (.slice (some ⟨w2.heap.size,0,none⟩) 1 1)).run Tryz.prog (w2.alloc (.cells #[.pointer (some ⟨b2.s,0,none⟩)] 74))=.ok (.value (.slice (some ⟨gg,0,none⟩) (m+1) cap')) w3) /\
   w3.ownsRow 0 74 1 (.slice (some ⟨gg,0,none⟩) (m+1) cap') (m+1) (ptrs ps++[.pointer (some ⟨b2.s,0,none⟩)])/\(w2.alloc (.cells #[.pointer (some ⟨b2.s,0,none⟩)] 74)).grownBy w3 (Value.slice va m vcap).ownBlock/\((Value.slice va m vcap).ownBlock=some gg\/gg=w2.heap.size+1)/\gg<w3.heap.size /\
   w3.cell? ⟨e,1,none⟩=some (.slice va m vcap)/\(∀i,w3.frozen? ⟨e,i,none⟩=false):=by
 refine(qJc id c k w h1 h5 hvv hkd).mono ?_;rintro r w2 ⟨b2,rfl,hs2,hft2,hk2⟩;have hle:e<w.heap.size:=World.block_lt_of_cell? w _ hce;have hce2:w2.cell? ⟨e,1,none⟩=some (.slice va m vcap):=hk2.cell hce (λh=>h);have hle2:e<w2.heap.size:=World.block_lt_of_cell? w2 _ hce2;have hfe2:∀i,w2.frozen? ⟨e,i,none⟩=false:=λi=>(hk2.frozen (p:=⟨e,i,none⟩) hle (λh=>h)).trans (hfe i)
 obtain⟨gg,cap',w3,hrun3,hown3,hgrow,hat,hlt3⟩:=qKx w2 va m vcap (ptrs ps) (.pointer (some ⟨b2.s,0,none⟩)) rfl (qBk hrow hk2 (λ_ _ h=>h)) hm;have hlt:e<(w2.alloc (.cells #[.pointer (some ⟨b2.s,0,none⟩)] 74)).heap.size:=by simp;omega
 refine⟨b2,rfl,hs2,hft2,hk2,hce2,hle2,hfe2,gg,cap',w3,hrun3,hown3,hgrow,hat,hlt3,?_,λi=>?_⟩
 ·rw[hgrow.cell_far ⟨e,1,none⟩ hlt hev,World.cell?_alloc_lt _ _ _ hle2];exact hce2
 ·rw[hgrow.frozen_far ⟨e,i,none⟩ hlt hev,World.frozen?_alloc_old _ _ _ (by show e≠_;omega)];exact hfe2 i
attribute [local go_sem ↓ 2000] qK7
attribute [local go_sem ↓] Go.wp_at_zero Go.wp_at_succ
theorem qX7(n:Int)(e:Nat)(v:Value)(clock:Int)(ps:List (SB×Ser))(o:OpM)(w:World)(h:ERep w e v clock ps)(hi:EInv n clock (ps.map (·.2)))(hid:inB o.id 0 99=true)(hf:qD9 ps o.id=none)(hv:qA5 o.cfg=true)(h6:ps.length<6):
  Calls Tryz.prog 31 #[.pointer (some ⟨e,0,none⟩),o.val] w λr w'=>StepPost w e v ps clock (ps.map (·.2)++[qCe o.id o.cfg o.cfg.kind.toNat]) 0 [] r w':=by
 obtain⟨k,hk,hk1,hk5,hcm,hft⟩:=qFh hv;have HKD:=hide hk;have HVC:=hide hv;have HKN:=hide (show o.cfg.kind.toNat=k by omega);clear hk;have h1:o.cells[1]?=some (.int .i64 o.id):=rfl;have HE:=hide h;have HI:=hide hi;have hl:ps.length<=1000:=by have:=hi.six;rw[List.length_map]at this;omega
 have HF:=hide hf;clear h hi hf;unfold OpM.val;go_enter Tryz.func31,Tryz.ntmps31
 go_wp2_with fail
 have hk0:Keeps (λ_=>False) w ((w.alloc (.cells o.cells.toArray 34)).alloc (.cells #[.int .i64 0,.slice none 0 0,.string ⟨#[]⟩] 38)):=((Keeps.refl (λ_=>False) w).alloc _).alloc _;have HO0:=hide (show Blk ((w.alloc (.cells o.cells.toArray 34)).alloc (.cells #[.int .i64 0,.slice none 0 0,.string ⟨#[]⟩] 38)) w.heap.size o.cells 34 from(Blk.new w o.cells 34).alloc _);have HR0:=hide (show Blk ((w.alloc (.cells o.cells.toArray 34)).alloc (.cells #[.int .i64 0,.slice none 0 0,.string ⟨#[]⟩] 38)) (w.heap.size+1) [.int .i64 0,.slice none 0 0,.string qAa] 38 from Blk.newAt (by simp) [_,_,_] 38);have HE0:=hide ((uh HE).still hk0);have HK0:=hide hk0;clear hk0;generalize(w.alloc (.cells o.cells.toArray 34)).alloc (.cells #[.int .i64 0,.slice none 0 0,.string ⟨#[]⟩] 38)=w0 at *;have HLT:=hide (show ∀i,EFoot e v ps i->i<w.heap.size from(uh HE).lt);generalize hob:w.heap.size=ob at *;have HOB:=hide hob;clear hob;have hsz0:ob+1<w0.heap.size:=(uh HR0).lt;refine(qAg _ _ _ w0).mono ?_;rintro r w1 ⟨rfl,hw1⟩;rw[hw1,hid];clear hw1 w1;have hoi:w0.cell? ⟨ob,1,none⟩=some (.int .i64 o.id):=(uh HO0).cell rfl;go_wp2_with fail
 refine(qD2 e v clock o.id ps w0 (uh HE0) hl).mono ?_;rintro r w1 ⟨rfl,hw1⟩;rw[hw1,uh HF];clear hw1 w1;unfold qI7;obtain⟨hv0,hh0⟩:=qBh (uh HO0) 5 20 o.cfg.cells rfl rfl;go_wp2_with fail
 refine(qI1 o.cfg k w0 (uh HKD) hk1 hk5 hcm hft).mono ?_;rintro r w1 ⟨rfl,hw1⟩;unfold qBc fn;have hlv:∃a cap,v=.slice a ps.length cap:=by
  rcases(uh HE0).row.2 with ⟨h1,h2⟩ | ⟨g,cap,cur,h1,_⟩
  ·exact⟨none,0,by rw[h1,h2]⟩
  ·exact⟨some ⟨g,0,none⟩,cap,h1⟩
 obtain⟨va,vcap,hvv⟩:=hlv;subst hvv;have hka:Keeps (λ_=>False) w0 (w1.alloc (.cells #[.func (.func (qBw k)) #[] #[],.func (.func (qA7 k)) #[] #[],.func (.func (qA8 k)) #[] #[],.func (.func (qAr k)) #[] #[],.func (.func (qA6 k)) #[] #[],.func (.func (qA9 k)) #[] #[]] 83)):=hw1.alloc _;have HRa:=hide ((uh HR0).keeps hka (λh=>h));have HOa:=hide ((uh HO0).keeps hka (λh=>h));have HEa:=hide ((uh HE0).still hka);have HTa:=hide (Blk.new w1 [.func (.func (qBw k)) #[] #[],.func (.func (qA7 k)) #[] #[],.func (.func (qA8 k)) #[] #[],.func (.func (qAr k)) #[] #[],.func (.func (qA6 k)) #[] #[],.func (.func (qA9 k)) #[] #[]] 83);have HKa:=hide ((uh HK0).then hka);have hc1:w1.cell? ⟨e,1,none⟩=some (.slice va ps.length vcap):=((uh HE0).still hw1).blk.cell rfl;have hle:e<w1.heap.size:=((uh HE0).still hw1).blk.lt;have h6':(ps.length:Int)<6:=by omega
 clear hw1 hka hv0 hh0 hoi;go_wp2_with fail
 clear hc1;generalize w1.alloc (.cells #[.func (.func (qBw k)) #[] #[],.func (.func (qA7 k)) #[] #[],.func (.func (qA8 k)) #[] #[],.func (.func (qAr k)) #[] #[],.func (.func (qA6 k)) #[] #[],.func (.func (qA9 k)) #[] #[]] 83)=wa at *;generalize hkb:w1.heap.size=kb at *;generalize hm:ps.length=m at *;have HM:=hide hm;clear hkb hm HE0 HR0 HO0 HK0;have hce:wa.cell? ⟨e,1,none⟩=some (.slice va m vcap):=by have:=(uh HEa).blk.cell (i:=1) rfl;exact this
 have hfe:=(uh HEa).blk.frozen;have hoi:wa.cell? ⟨ob,1,none⟩=some (.int .i64 o.id):=(uh HOa).cell rfl;obtain⟨hva,hha⟩:=qBh (uh HOa) 5 20 o.cfg.cells rfl rfl;have t0:wa.cell? ⟨kb,0,none⟩=some (.func (.func (qBw k)) #[] #[]):=(uh HTa).cell rfl;have t1:wa.cell? ⟨kb,1,none⟩=some (.func (.func (qA7 k)) #[] #[]):=(uh HTa).cell rfl;have t2:wa.cell? ⟨kb,2,none⟩=some (.func (.func (qA8 k)) #[] #[]):=(uh HTa).cell rfl;have t3:wa.cell? ⟨kb,3,none⟩=some (.func (.func (qAr k)) #[] #[]):=(uh HTa).cell rfl;have t4:wa.cell? ⟨kb,4,none⟩=some (.func (.func (qA6 k)) #[] #[]):=(uh HTa).cell rfl;have t5:wa.cell? ⟨kb,5,none⟩=some (.func (.func (qA9 k)) #[] #[]):=(uh HTa).cell rfl;have HROW:=hide (show wa.ownsRow 0 74 1 (.slice va m vcap) m (ptrs ps) by have:=(uh HEa).row;rw[uh HM]at this;exact this);have hev:some e≠(Value.slice va m vcap).ownBlock:=λh=>(uh HEa).ev h.symm
 have hm6:m<=6:=by omega
 go_region_with (first | (go_at_call 48;refine(qQv o.id o.cfg k e va m vcap ps wa.drew hk1 hk5 (uh HVC) (uh HKD) hce hfe (by exact qBk (uh HROW) ((Keeps.refl (λ_=>False) wa).drew) (λ_ _ h=>h)) hm6 hev).mono ?_;rintro r w2 ⟨b2,rfl,hs2,hft2,hk2,hce2,hle2,hfe2,gg,cap',w3,hrun3,hown3,hgrow,hat,hlt3,hce3,hfe3⟩))
 all_goals
  have HCR:=qYk (uh HEa) (uh HM) rfl hs2 hft2 (((Keeps.refl (λ_=>False) wa).drew).then hk2) hown3 hgrow hat;obtain⟨hE4,hk4,hL4⟩:=HCR;have HR4:=hide ((uh HRa).keeps hk4 (λh=>by have:=uh HLT _ h;omega));have HE4:=hide hE4;have HK4:=hide hk4;have HL4:=hide hL4;have hsza:ob+1<wa.heap.size:=(uh HRa).lt;clear hE4 hk4 hL4 hown3 hgrow hat hlt3 hrun3 hce3 hfe3 hce2 hfe2 hs2 hft2 hk2 hoi hva hha t0 t1 t2 hce hfe HROW;generalize w3.setCell ⟨e,1,none⟩ (.slice (some ⟨gg,0,none⟩) (m+1) cap')=w4 at *;have r0:w4.cell? ⟨ob+1,0,none⟩=some (.int .i64 0):=(uh HR4).cell rfl;have r1:w4.cell? ⟨ob+1,1,none⟩=some (.slice none 0 0):=(uh HR4).cell rfl;have r2:w4.cell? ⟨ob+1,2,none⟩=some (.string qAa):=(uh HR4).cell rfl;have rf:=(uh HR4).frozen;go_wp2
  have hbf:=(((uh HR4).setCell 0 (.int .i64 0)).setCell 1 (.slice none 0 0)).setCell 2 (.string qAa);have HKF:=hide ((((Keeps.refl (λi=>i=ob+1) w4).setCell (p:=⟨ob+1,0,none⟩) (Or.inl rfl) (.int .i64 0)).setCell (p:=⟨ob+1,1,none⟩) (Or.inl rfl) (.slice none 0 0)).setCell (p:=⟨ob+1,2,none⟩) (Or.inl rfl) (.string qAa));have e9:(((w4.setCell ⟨ob+1,0,none⟩ (.int .i64 0)).setCell ⟨ob+1,1,none⟩ (.slice none 0 0)).setCell ⟨ob+1,2,none⟩ (.string ⟨#[]⟩))=(((w4.setCell ⟨ob+1,0,none⟩ (.int .i64 0)).setCell ⟨ob+1,1,none⟩ (.slice none 0 0)).setCell ⟨ob+1,2,none⟩ (.string qAa)):=rfl
  first | rw[e9] | skip
  generalize(((w4.setCell ⟨ob+1,0,none⟩ (.int .i64 0)).setCell ⟨ob+1,1,none⟩ (.slice none 0 0)).setCell ⟨ob+1,2,none⟩ (.string qAa))=w9 at *;have q0:w9.cell? ⟨ob+1,0,none⟩=some (.int .i64 0):=hbf.cell rfl;have q1:w9.cell? ⟨ob+1,1,none⟩=some (.slice none 0 0):=hbf.cell rfl;have q2:w9.cell? ⟨ob+1,2,none⟩=some (.string qAa):=hbf.cell rfl;refine bodyPost_ret (v:=qC0 0 (.slice none 0 0)) (by simp[results,Tryz.results31,go_sem,q0,q1,q2,qC0]) rfl ?_;have hkf:=uh HKF;have hob:=uh HOB;have hKa:=uh HKa;have hL:=uh HL4;have hkk:Keeps (EFoot e (.slice va m vcap) ps) w w9:=((hKa.mono (M':=EFoot e (.slice va m vcap) ps) (λ_ _ h=>h.elim)).then (uh HK4)).trans hkf (λi hi hlt=>by omega);rw[uh HM];refine⟨.slice none 0 0,.slice (some ⟨gg,0,none⟩) (m+1) cap',ps++[(b2,qCe o.id o.cfg k)],rfl,(uh HE4).keeps hkf (λi hi h=>?_),?_,World.ownsRow_nil _ _ _ _,hkk,λi hi=>?_,λi hi=>?_⟩
  ·rcases hL i hi with h1 | h1
   ·have:=uh HLT i h1;omega
   ·omega
  ·rw[List.map_append,uh HKN];rfl
  ·rcases hL i hi with h1 | h1
   ·exact .inl h1
   ·exact .inr (by omega)
  ·simp[Value.ownBlock]at hi
end
end Go.Proofs.YtahnliehdjncdabGreatDoor
