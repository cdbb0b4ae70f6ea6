import Derived.Test.YtahnliehdjncdabGreatDoorXAU
set_option maxRecDepth 100000
set_option maxHeartbeats 16000000
namespace Go.Proofs.YtahnliehdjncdabGreatDoor
section
open Go.RowKit
attribute [local go_sem ↓] qAd qAe
attribute [local go_sem] qAf qAl qAc qAb qAm qAn qAi qAj qAh qAk
def qCe(id:Int)(c:Cfg)(k:Nat): Ser:=⟨id,c,k,0,0,[0,0,0,0,0,0,0,0,0,0,0,0],[],qC9,0⟩
theorem zHz(id:Int)(c:Cfg)(f n p r k s a q z v l:Value)(qb:Nat)(w:World):
  (Instr.build 105 #[(0,.int .i64 id),(1,c.val),(2,.agg #[f,n,p,r,k,s]),(3,.agg #[a,q,z,v,l]),(4,.pointer (some ⟨qb,0,none⟩))]).run Tryz.prog w =
  .ok (.agg (.int .i64 id::c.vals [f,n,p,r,k,s,a,q,z,v,l,.pointer (some ⟨qb,0,none⟩),.int .i64 0,.int .i64 0,.int .i64 0,.int .i64 0,.int .i64 0,.int .i64 0,.int .i64 0,.int .i64 0,.int .i64 0,.int .i64 0,.int .i64 0,.int .i64 0,.int .i64 0,.int .i64 0]).toArray) w:=by kernel_rfl
def qCv(ty:TypeId)(ps:Array (Nat×Value)): Sem Next:=do pure (.value (<-Instr.build ty ps))
theorem qN4(ρ:Operand->Value)(dst:Option Tmp)(x:Array (Nat×Operand))(ty:TypeId)(pos:String)(after:Array Edge)(guard:Option (Nat×Bool)):
  execOp ρ { dst,op:=.build 105 x,type:=ty,pos,after,guard }=qCv 105 (x.map λ(i,y)=>(i,ρ y)):=rfl
theorem qUv(id:Int)(c:Cfg)(f n p r k s a q z v l:Value)(qb:Nat)(w:World):
  (qCv 105 #[(0,.int .i64 id),(1,.agg c.cells.toArray),(2,.agg #[f,n,p,r,k,s]),(3,.agg #[a,q,z,v,l]),(4,.pointer (some ⟨qb,0,none⟩))]).run Tryz.prog w =
  .ok (.value (.agg (.int .i64 id::c.vals [f,n,p,r,k,s,a,q,z,v,l,.pointer (some ⟨qb,0,none⟩),.int .i64 0,.int .i64 0,.int .i64 0,.int .i64 0,.int .i64 0,.int .i64 0,.int .i64 0,.int .i64 0,.int .i64 0,.int .i64 0,.int .i64 0,.int .i64 0,.int .i64 0,.int .i64 0]).toArray)) w:=by
 unfold qCv;rw[Sem.run_bind];have:=zHz id c f n p r k s a q z v l qb w;unfold Cfg.val at this;unfold Cfg.cells;rw[this];rfl
attribute [local go_sem ↓] qN4
attribute [local go_sem] qUv
theorem qJc(id:Int)(c:Cfg)(k:Nat)(w:World)(h1:1<=k)(h5:k<=5)(hvv:qA5 c=true)(hkd:c.kind=k):
  Calls Tryz.prog 48 #[.int .i64 id,c.val,.agg (qBc k).toArray] w λe w'=>∃b,e=.returned (.pointer (some ⟨b.s,0,none⟩))/\SRep w' b (qCe id c k)/\(∀i,b.foot k i->w.heap.size<=i)/\Keeps (λ_=>False) w w':=by
 have hown:=qZ9 k h1 h5;have HKD:=hide hkd;have HVV:=hide hvv;clear hkd hvv;have HB:=hide (show Blk ((w.alloc (.cells c.cells.toArray 32)).alloc (.cells (qBc k).toArray 83)) w.heap.size c.cells 32 from(Blk.new w c.cells 32).alloc _);have HT:=hide (show Blk ((w.alloc (.cells c.cells.toArray 32)).alloc (.cells (qBc k).toArray 83)) (w.heap.size+1) (qBc k) 83 from Blk.newAt (by simp) _ _);have HK:=hide (((Keeps.refl (λ_=>False) w).alloc (.cells c.cells.toArray 32)).alloc (.cells (qBc k).toArray 83));have hex:∃W,W=((w.alloc (.cells c.cells.toArray 32)).alloc (.cells (qBc k).toArray 83)):=⟨_,rfl⟩;unfold Cfg.val qBc fn;go_enter Tryz.func48,Tryz.ntmps48
 go_wp2_with fail
 obtain⟨W,hW⟩:=hex;have e0:(w.alloc (.cells #[.int .i64 c.kind,.int .i64 c.lag,.int .i64 c.skew,.int .i64 c.cap,.int .i64 c.k,.int .i64 c.window,.int .i64 c.bits,.int .i64 c.rows,.int .i64 c.width,.int .i64 c.panes,.int .i64 c.size,.int .i64 c.degree,.int .i64 c.half,.int .i64 c.mark,.int .i64 c.s00,.int .i64 c.s01,.int .i64 c.s10,.int .i64 c.s11,.int .i64 c.s20,.int .i64 c.s21] 32)).alloc (.cells #[.func (.func (qBw k)) #[] #[],.func (.func (qA7 k)) #[] #[],.func (.func (qA8 k)) #[] #[],.func (.func (qAr k)) #[] #[],.func (.func (qA6 k)) #[] #[],.func (.func (qA9 k)) #[] #[]] 83)=W:=hW.symm;rw[e0];rw[<-hW]at HB HT HK;clear e0 hW;generalize hcb:w.heap.size=cb at *;have HCB:=hide hcb;clear hcb;have hsz:cb+1<W.heap.size:=(uh HT).lt;have hsz0:cb<W.heap.size:=(uh HB).lt;obtain⟨hv,hh⟩:=qBl (uh HB) 20 rfl;have t0:W.cell? ⟨cb+1,0,none⟩=some (.func (.func (qBw k)) #[] #[]):=(uh HT).cell rfl;have t1:W.cell? ⟨cb+1,1,none⟩=some (.func (.func (qA7 k)) #[] #[]):=(uh HT).cell rfl;have t2:W.cell? ⟨cb+1,2,none⟩=some (.func (.func (qA8 k)) #[] #[]):=(uh HT).cell rfl;have t3:W.cell? ⟨cb+1,3,none⟩=some (.func (.func (qAr k)) #[] #[]):=(uh HT).cell rfl;have t4:W.cell? ⟨cb+1,4,none⟩=some (.func (.func (qA6 k)) #[] #[]):=(uh HT).cell rfl;have t5:W.cell? ⟨cb+1,5,none⟩=some (.func (.func (qA9 k)) #[] #[]):=(uh HT).cell rfl;go_region_held3 (λw'=>qAu w' cb 0 20=.agg c.cells.toArray/\qA2 w' cb 0 20=true/\w'.cell? ⟨cb+1,0,none⟩=some (.func (.func (qBw k)) #[] #[])/\w'.cell? ⟨cb+1,1,none⟩=some (.func (.func (qA7 k)) #[] #[])/\w'.cell? ⟨cb+1,2,none⟩=some (.func (.func (qA8 k)) #[] #[])/\w'.cell? ⟨cb+1,3,none⟩=some (.func (.func (qAr k)) #[] #[])/\w'.cell? ⟨cb+1,4,none⟩=some (.func (.func (qA6 k)) #[] #[])/\w'.cell? ⟨cb+1,5,none⟩=some (.func (.func (qA9 k)) #[] #[]))
  (first | (simp[*,qAc,qAb,qAi,qAj,World.cell?_alloc_some];done) | (go_split_ands;exact⟨(qBm hk2 (λh=>h) (by have:=hk1.size;simp at this;omega)).1.trans (by assumption),(qBm hk2 (λh=>h) (by have:=hk1.size;simp at this;omega)).2.trans (by assumption),hk2.cell (by assumption) (λh=>h),hk2.cell (by assumption) (λh=>h),hk2.cell (by assumption) (λh=>h),hk2.cell (by assumption) (λh=>h),hk2.cell (by assumption) (λh=>h),hk2.cell (by assumption) (λh=>h)⟩) | (go_split_ands;exact⟨(qBm hk1 (λh=>h) (by simpa using hsz0)).1.trans (by assumption),(qBm hk1 (λh=>h) (by simpa using hsz0)).2.trans (by assumption),hk1.cell (by assumption) (λh=>h),hk1.cell (by assumption) (λh=>h),hk1.cell (by assumption) (λh=>h),hk1.cell (by assumption) (λh=>h),hk1.cell (by assumption) (λh=>h),hk1.cell (by assumption) (λh=>h)⟩))
  (first | (go_at_call 76;refine(new_any _).mono ?_;rintro e w2 ⟨rfl,hq2,hk2,hz2⟩) | (refine(zBa c k _ h1 h5 (uh HVV) (uh HKD)).mono ?_;rintro e w1 ⟨nb,rfl,hd1,hn1,hk1⟩))
 go_wp2
 go_ret
 have hkw:Keeps (λ_=>False) w w1:=((uh HK).drew).then hk1;have hs1:=hkw.size;have hka:∀O,Keeps (λ_=>False) w2 (w2.alloc O):=λO=>(Keeps.refl (λ_=>False) w2).alloc O
 have hcb:=uh HCB;have hn2:=hn1.still hk2;have hz2:w2.heap.size=w1.heap.size+1:=hz2;refine⟨⟨w1.heap.size+1,w1.heap.size,none,nb⟩,rfl,⟨Blk.newAt hz2 (qCi ⟨w1.heap.size+1,w1.heap.size,none,nb⟩ (qCe id c k)) 105,hq2.keeps (hka _) (λh=>h) (λ_ _ h=>h),hn2.still (hka _),?_,?_,λi hi=>⟨?_,?_,?_⟩⟩,?_,(hkw.then hk2).alloc _⟩
 ·show w1.heap.size+1≠w1.heap.size;omega
 ·intro g hg;cases hg
 ·have:=hn1.lt i hi;show i≠w1.heap.size+1;omega
 ·have:=hn1.lt i hi;show i≠w1.heap.size;omega
 ·intro hg;cases hg
 ·intro i hi
  rcases hi with hi | hi | hi | hi
  ·have:i=w1.heap.size+1:=hi
   omega
  ·have:i=w1.heap.size:=hi
   omega
  ·cases hi
  ·have h1:=hd1 i hi
   have h2:=(uh HK).size;rw[World.size_drew]at h1;omega
end
section
open Go.RowKit
attribute [local go_sem ↓] qAd qAe
attribute [local go_sem] qAf qAl qAc qAb qAm qAn qAi qAj qAh qAk
structure OpM where
 kind:Int
 id:Int
 a:Int
 b:Int
 c:Int
 cfg:Cfg
 bytes:ByteArray
def OpM.cells(o:OpM): List Value:=.int .i64 o.kind::.int .i64 o.id::.int .i64 o.a::.int .i64 o.b::.int .i64 o.c::o.cfg.vals [.string o.bytes]
def OpM.val(o:OpM): Value:=.agg o.cells.toArray
def qAa: ByteArray:=⟨#[]⟩
def qC0(code:Int)(v:Value): Value:=.agg #[.int .i64 code,v,.string qAa]
theorem qGg(code:Int)(w:World):
  Calls Tryz.prog 38 #[.int .i64 code] w λe w'=>e=.returned (qC0 code (.slice none 0 0))/\Keeps (λ_=>False) w w':=by
 go_enter Tryz.func38,Tryz.ntmps38
 go_wp2
 refine bodyPost_ret (v:=qC0 code (.slice none 0 0)) (by simp[results,Tryz.results38,go_sem,qC0];rfl) rfl ⟨rfl,?_⟩
 repeat (first | exact Keeps.refl _ _ | apply Keeps.alloc)
def ptrs(ps:List (SB×Ser)): List Value:=ps.map λp=>.pointer (some ⟨p.1.s,0,none⟩)
structure ERep (w:World) (e:Nat) (v:Value) (clock:Int) (ps:List (SB×Ser)):Prop where
 blk:Blk w e [.int .i64 clock,v] 60
 row:w.ownsRow 0 74 1 v ps.length (ptrs ps)
 reps:∀p,p∈ps->SRep w p.1 p.2
 apart:ps.Pairwise (λp q=>∀i,p.1.foot p.2.k i->¬q.1.foot q.2.k i)
 ev:v.ownBlock≠some e
 ef:∀p,p∈ps->∀i,p.1.foot p.2.k i->i≠e/\v.ownBlock≠some i
def EFoot(e:Nat)(v:Value)(ps:List (SB×Ser))(i:Nat): Prop:=i=e\/v.ownBlock=some i\/∃p,p∈ps/\p.1.foot p.2.k i
theorem qM9{w:World}{v:Value}{n:Nat}{xs:List Value}(h:w.ownsRow 0 74 1 v n xs): (n=0/\(v=.slice none 0 0\/∃g cap,v=.slice (some ⟨g,0,none⟩) 0 cap))\/∃g cap,v=.slice (some ⟨g,0,none⟩) n cap/\∀i u,xs[i]?=some u->w.cell? ⟨g,i,none⟩=some u:=by
 rcases h.2 with ⟨h1,h2⟩ | ⟨g,cap,cur,h1,_,h3,h4,h5,h6,h7⟩
 ·exact .inl ⟨h2,.inl h1⟩
 ·refine .inr ⟨g,cap,h1,λi u hu=>?_⟩
  have hi:i<n:=by have:=(List.getElem?_eq_some_iff.1 hu).1;have:=h.1;omega
  have:cur[i]?=some u:=by
   rw[<-h7]at hu;rw[List.getElem?_take]at hu;rw[if_pos (by omega)]at hu;simpa using hu
  simp[World.cell?,h3,this]
def qD9(ps:List (SB×Ser))(id:Int): Option (SB×Ser):=ps.find? (λp=>p.2.id==id)
def qI7: Option (SB×Ser)->Value
 | some p=>.pointer (some ⟨p.1.s,0,none⟩)
 | none=>.pointer none
theorem qD2(e:Nat)(v:Value)(clock id:Int)(ps:List (SB×Ser))(w:World)(h:ERep w e v clock ps)(hl:ps.length<=1000):
  Calls Tryz.prog 46 #[.pointer (some ⟨e,0,none⟩),.int .i64 id] w λr w'=>r=.returned (qI7 (qD9 ps id))/\w'=w:=by
 have hc1:w.cell? ⟨e,1,none⟩=some v:=h.blk.cell rfl;rcases qM9 h.row with ⟨h0,hv⟩ | ⟨g,cap,hv,hcells⟩
 ·have hps:ps=[]:=List.length_eq_zero_iff.1 h0
  subst hps;clear h h0;rcases hv with hv | ⟨g,cap,hv⟩
  all_goals
   subst hv;go_enter Tryz.func46,Tryz.ntmps46
   go_wp2
   go_loop [12] (λi=>i=.int .i64 0) (λ_=>0)
   case atStart=>rfl
   case round =>
    subst hrel;go_wp2
    go_ret
    exact⟨rfl,rfl⟩
 ·subst hv
  have HC:=hide hcells;have HS:=hide (show ∀p,p∈ps->w.cell? ⟨p.1.s,0,none⟩=some (.int .i64 p.2.id) from λp hp=>(h.reps p hp).blk.cell rfl);clear h hcells;generalize hn:ps.length=n at *;have HN:=hide hn;clear hn;go_enter Tryz.func46,Tryz.ntmps46
  go_wp2
  go_loop [12] (λi=>∃k:Nat,k<=n/\i=.int .i64 k/\Hid (qD9 ps id=qD9 (ps.drop k) id)) (λi=>n-(intOf i).toNat)
  case atStart=>exact⟨0,Nat.zero_le _,rfl,rfl⟩
  case round =>
   obtain⟨k,hk,rfl,HE⟩:=hrel
   by_cases hlt:k<n
   ·obtain⟨p,hp⟩:∃p,ps[k]?=some p:=⟨ps[k]'(by rw[uh HN];exact hlt),List.getElem?_eq_getElem _⟩
    have hd:ps.drop k=p::ps.drop (k+1):=by
     rw[List.drop_eq_getElem_cons (by rw[uh HN];exact hlt)];rw[List.getElem?_eq_getElem (by rw[uh HN];exact hlt)]at hp;cases hp;rfl
    have hck:w.cell? ⟨g,k,none⟩=some (.pointer (some ⟨p.1.s,0,none⟩)):=uh HC k _ (by unfold ptrs;rw[List.getElem?_map,hp];rfl);have hid:=uh HS p (List.mem_of_getElem? hp);have hk0:(0:Int)<=(k:Int):=by omega
    have hkn:(k:Int)<(n:Int):=by omega
    cases hb:(p.2.id==id)
    ·have HE':=hide (show qD9 ps id=qD9 (ps.drop (k+1)) id by rw[uh HE,hd];unfold qD9;rw[List.find?_cons];rw[hb])
     clear hd hp;go_wp2
     go_round
     case rel=>exact⟨k+1,by omega,by go_num,HE'⟩
     case measure=>simp[intOf];omega
    ·have HE':=hide (show qD9 ps id=some p by rw[uh HE,hd];unfold qD9;rw[List.find?_cons];rw[hb])
     clear hd hp;go_wp2
     go_ret
     exact⟨by rw[uh HE'];rfl,rfl⟩
   ·have HE':=hide (show qD9 ps id=none by rw[uh HE,List.drop_eq_nil_of_le (by rw[uh HN];omega)];rfl)
    go_wp2
    go_ret
    exact⟨by rw[uh HE'];rfl,rfl⟩
theorem ERep.lt{w:World}{e:Nat}{v:Value}{clock:Int}{ps:List (SB×Ser)}(h:ERep w e v clock ps)(i:Nat)(hi:EFoot e v ps i): i<w.heap.size:=by
 rcases hi with hi | hi | ⟨p,hp,hi⟩
 ·subst hi;exact h.blk.lt
 ·exact(h.row.lt i hi).2
 ·exact(h.reps p hp).lt i hi
theorem qBk{M:Nat->Prop}{w w':World}{base:Nat}{t size:Nat}{v:Value}{n:Nat}{xs:List Value}(h:w.ownsRow base t size v n xs)(hk:Keeps M w w')(hn:∀i,v.ownBlock=some i->¬M i): w'.ownsRow base t size v n xs:=by
 refine⟨h.1,?_⟩;rcases h.2 with h2 | ⟨g,cap,cur,rfl,hb,hg,r⟩
 ·exact .inl h2
 ·exact .inr ⟨g,cap,cur,rfl,hb,by rw[hk.block g (Array.getElem?_eq_some_iff.1 hg).1 (hn g rfl)];exact hg,r⟩
theorem qJd{w:World}{base base':Nat}{t size:Nat}{v:Value}{n:Nat}{xs:List Value}(h:w.ownsRow base t size v n xs)(hb:base'<=base): w.ownsRow base' t size v n xs:=by
 refine⟨h.1,?_⟩;rcases h.2 with h2 | ⟨g,cap,cur,rfl,hbb,r⟩
 ·exact .inl h2
 ·exact .inr ⟨g,cap,cur,rfl,Nat.le_trans hb hbb,r⟩
theorem ERep.keeps{M:Nat->Prop}{w w':World}{e:Nat}{v:Value}{clock:Int}{ps:List (SB×Ser)}(h:ERep w e v clock ps)(hk:Keeps M w w')(hn:∀i,EFoot e v ps i->¬M i): ERep w' e v clock ps :=
 ⟨h.blk.keeps hk (hn _ (.inl rfl)),qBk h.row hk (λi hi=>hn i (.inr (.inl hi))),λp hp=>(h.reps p hp).keeps hk (λi hi=>hn i (.inr (.inr ⟨p,hp,hi⟩))),h.apart,h.ev,h.ef⟩
theorem ERep.still{w w':World}{e:Nat}{v:Value}{clock:Int}{ps:List (SB×Ser)}(h:ERep w e v clock ps)(hk:Keeps (λ_=>False) w w'): ERep w' e v clock ps:=h.keeps hk (λ_ _ h=>h)
def StepPost(w:World)(e:Nat)(v:Value)(ps:List (SB×Ser))(clock':Int)(xs':List Ser)(code:Int)(nums:List Int)(r:Ending)(w':World): Prop :=
 ∃nv v' ps',r=.returned (qC0 code nv)/\ERep w' e v' clock' ps'/\ps'.map (·.2)=xs'/\w'.ownsRow w.heap.size 3 1 nv nums.length (ints nums)/\Keeps (EFoot e v ps) w w' /\
  (∀i,EFoot e v' ps' i->EFoot e v ps i\/w.heap.size<=i)/\(∀i,nv.ownBlock=some i->¬EFoot e v' ps' i)
def ansB(code:Int)(v:Value)(bs:ByteArray): Value:=.agg #[.int .i64 code,v,.string bs]
def qG9(w:World)(e:Nat)(v:Value)(ps:List (SB×Ser))(clock':Int)(xs':List Ser)(code:Int)(nums:List Int)(bs:ByteArray)(r:Ending)(w':World): Prop :=
 ∃nv v' ps',r=.returned (ansB code nv bs)/\ERep w' e v' clock' ps'/\ps'.map (·.2)=xs'/\w'.ownsRow w.heap.size 3 1 nv nums.length (ints nums)/\Keeps (EFoot e v ps) w w' /\
  (∀i,EFoot e v' ps' i->EFoot e v ps i\/w.heap.size<=i)/\(∀i,nv.ownBlock=some i->¬EFoot e v' ps' i)
theorem StepPost.b{w:World}{e:Nat}{v:Value}{ps:List (SB×Ser)}{clock':Int}{xs':List Ser}{code:Int}{nums:List Int}{r:Ending}{w':World}(h:StepPost w e v ps clock' xs' code nums r w'): qG9 w e v ps clock' xs' code nums qAa r w':=h
theorem qB8{w w':World}{e:Nat}{v:Value}{clock:Int}{ps:List (SB×Ser)}{code:Int}{nums:List Int}{nv:Value}(h:ERep w e v clock ps)(hk:Keeps (λ_=>False) w w')(hn:w'.ownsRow w.heap.size 3 1 nv nums.length (ints nums)):
  StepPost w e v ps clock (ps.map (·.2)) code nums (.returned (qC0 code nv)) w':=by
 refine⟨nv,v,ps,rfl,h.still hk,rfl,hn,hk.mono (λ_ _ h=>h.elim),λi hi=>.inl hi,λi hi hf=>?_⟩;have h1:=h.lt i hf;have h2:=(hn.lt i hi).1;omega
structure EInv (n:Int) (clock:Int) (xs:List Ser):Prop where
 c0:0<=clock
 c1:clock<=4611686018427387904
 six:xs.length<=6
 sers:∀x,x∈xs->SInv n x
 marks:∀x,x∈xs->x.last=0\/x.last<=clock-x.c.lag
theorem zE8(n:Int)(e:Nat)(v:Value)(clock:Int)(ps:List (SB×Ser))(o:OpM)(w:World)(h:ERep w e v clock ps)(hi:EInv n clock (ps.map (·.2)))(hf:qD9 ps o.id=none):
  Calls Tryz.prog 35 #[.pointer (some ⟨e,0,none⟩),o.val] w λr w'=>StepPost w e v ps clock (ps.map (·.2)) 2 [] r w':=by
 have h1:o.cells[1]?=some (.int .i64 o.id):=rfl;have HE:=hide h;have HI:=hide hi;have hl:ps.length<=1000:=by have:=hi.six;rw[List.length_map]at this;omega
 have HF:=hide hf;clear h hi hf;unfold OpM.val;go_enter Tryz.func35,Tryz.ntmps35
 go_wp2_with fail
 have hk0:Keeps (λ_=>False) w ((w.alloc (.cells o.cells.toArray 34)).alloc (.cells #[.int .i64 0,.slice none 0 0,.string ⟨#[]⟩] 38)):=((Keeps.refl (λ_=>False) w).alloc _).alloc _;have HO0:=hide (show Blk ((w.alloc (.cells o.cells.toArray 34)).alloc (.cells #[.int .i64 0,.slice none 0 0,.string ⟨#[]⟩] 38)) w.heap.size o.cells 34 from(Blk.new w o.cells 34).alloc _);have HR0:=hide (show Blk ((w.alloc (.cells o.cells.toArray 34)).alloc (.cells #[.int .i64 0,.slice none 0 0,.string ⟨#[]⟩] 38)) (w.heap.size+1) [.int .i64 0,.slice none 0 0,.string qAa] 38 from Blk.newAt (by simp) [_,_,_] 38);have HE0:=hide ((uh HE).still hk0);have HK0:=hide hk0;clear hk0;generalize(w.alloc (.cells o.cells.toArray 34)).alloc (.cells #[.int .i64 0,.slice none 0 0,.string ⟨#[]⟩] 38)=w0 at *;have HLT:=hide (show ∀i,EFoot e v ps i->i<w.heap.size from(uh HE).lt);generalize hob:w.heap.size=ob at *;have HOB:=hide hob;clear hob;have hsz0:ob+1<w0.heap.size:=(uh HR0).lt;refine(qD2 e v clock o.id ps w0 (uh HE0) hl).mono ?_;rintro r w1 ⟨rfl,hw1⟩;rw[hw1];clear hw1 w1;rw[uh HF];unfold qI7;go_wp2_with fail
 refine(qGg 2 w0).mono ?_;rintro r w1 ⟨rfl,hk1⟩;unfold qC0;have HR1:=hide ((uh HR0).keeps hk1 (λh=>h));have HK1:=hide ((uh HK0).then hk1);clear hk1;have r0:w1.cell? ⟨ob+1,0,none⟩=some (.int .i64 0):=(uh HR1).cell rfl;have r1:w1.cell? ⟨ob+1,1,none⟩=some (.slice none 0 0):=(uh HR1).cell rfl;have r2:w1.cell? ⟨ob+1,2,none⟩=some (.string qAa):=(uh HR1).cell rfl;have rf:=(uh HR1).frozen;go_wp2
 have hbf:=(((uh HR1).setCell 0 (.int .i64 2)).setCell 1 (.slice none 0 0)).setCell 2 (.string qAa);have HKF:=hide ((((Keeps.refl (λi=>i=ob+1) w1).setCell (p:=⟨ob+1,0,none⟩) (Or.inl rfl) (.int .i64 2)).setCell (p:=⟨ob+1,1,none⟩) (Or.inl rfl) (.slice none 0 0)).setCell (p:=⟨ob+1,2,none⟩) (Or.inl rfl) (.string qAa));have e9:(((w1.setCell ⟨ob+1,0,none⟩ (.int .i64 2)).setCell ⟨ob+1,1,none⟩ (.slice none 0 0)).setCell ⟨ob+1,2,none⟩ (.string ⟨#[]⟩))=(((w1.setCell ⟨ob+1,0,none⟩ (.int .i64 2)).setCell ⟨ob+1,1,none⟩ (.slice none 0 0)).setCell ⟨ob+1,2,none⟩ (.string qAa)):=rfl
 first | rw[e9] | skip
 generalize(((w1.setCell ⟨ob+1,0,none⟩ (.int .i64 2)).setCell ⟨ob+1,1,none⟩ (.slice none 0 0)).setCell ⟨ob+1,2,none⟩ (.string qAa))=w9 at *;have q0:w9.cell? ⟨ob+1,0,none⟩=some (.int .i64 2):=hbf.cell rfl;have q1:w9.cell? ⟨ob+1,1,none⟩=some (.slice none 0 0):=hbf.cell rfl;have q2:w9.cell? ⟨ob+1,2,none⟩=some (.string qAa):=hbf.cell rfl;refine bodyPost_ret (v:=qC0 2 (.slice none 0 0)) (by simp[results,Tryz.results35,go_sem,q0,q1,q2,qC0]) rfl ?_;have hkf:=uh HKF;have hob:=uh HOB;have hkk:Keeps (λ_=>False) w w9:=(uh HK1).trans hkf (λi hi hlt=>by omega);exact qB8 (uh HE) hkk (World.ownsRow_nil _ _ _ _)
theorem zB1(n:Int)(e:Nat)(v:Value)(clock:Int)(ps:List (SB×Ser))(o:OpM)(w:World)(h:ERep w e v clock ps)(hi:EInv n clock (ps.map (·.2)))(p:SB×Ser)(hf:qD9 ps o.id=some p):
  Calls Tryz.prog 35 #[.pointer (some ⟨e,0,none⟩),o.val] w λr w'=>StepPost w e v ps clock (ps.map (·.2)) 0 (qCu p.2) r w':=by
 have hmem:p∈ps:=List.mem_of_find?_eq_some hf;have HM:=hide hmem;clear hmem;have h1:o.cells[1]?=some (.int .i64 o.id):=rfl;have HE:=hide h;have HI:=hide hi;have hl:ps.length<=1000:=by have:=hi.six;rw[List.length_map]at this;omega
 have HF:=hide hf;clear h hi hf;unfold OpM.val;go_enter Tryz.func35,Tryz.ntmps35
 go_wp2_with fail
 have hk0:Keeps (λ_=>False) w ((w.alloc (.cells o.cells.toArray 34)).alloc (.cells #[.int .i64 0,.slice none 0 0,.string ⟨#[]⟩] 38)):=((Keeps.refl (λ_=>False) w).alloc _).alloc _;have HO0:=hide (show Blk ((w.alloc (.cells o.cells.toArray 34)).alloc (.cells #[.int .i64 0,.slice none 0 0,.string ⟨#[]⟩] 38)) w.heap.size o.cells 34 from(Blk.new w o.cells 34).alloc _);have HR0:=hide (show Blk ((w.alloc (.cells o.cells.toArray 34)).alloc (.cells #[.int .i64 0,.slice none 0 0,.string ⟨#[]⟩] 38)) (w.heap.size+1) [.int .i64 0,.slice none 0 0,.string qAa] 38 from Blk.newAt (by simp) [_,_,_] 38);have HE0:=hide ((uh HE).still hk0);have HK0:=hide hk0;clear hk0;generalize(w.alloc (.cells o.cells.toArray 34)).alloc (.cells #[.int .i64 0,.slice none 0 0,.string ⟨#[]⟩] 38)=w0 at *;have HLT:=hide (show ∀i,EFoot e v ps i->i<w.heap.size from(uh HE).lt);generalize hob:w.heap.size=ob at *;have HOB:=hide hob;clear hob;have hsz0:ob+1<w0.heap.size:=(uh HR0).lt;refine(qD2 e v clock o.id ps w0 (uh HE0) hl).mono ?_;rintro r w1 ⟨rfl,hw1⟩;rw[hw1];clear hw1 w1;rw[uh HF];unfold qI7;go_wp2_with fail
 refine(qSd n p.1 p.2 w0 ((uh HE0).reps p (uh HM)) ((uh HI).sers p.2 (List.mem_map_of_mem (uh HM)))).mono ?_;rintro r w1 ⟨nv,rfl,ho,hk1⟩;obtain⟨g,cap,hnv,hg1,hg2⟩:=ho.form (by omega);rw[hnv]at ho ⊢;have HOW:=hide ho;have HR1:=hide ((uh HR0).keeps hk1 (λh=>h));have HK1:=hide ((uh HK0).then hk1);have HS0:=hide ((uh HK0).size);clear hk1 ho hnv;have r0:w1.cell? ⟨ob+1,0,none⟩=some (.int .i64 0):=(uh HR1).cell rfl;have r1:w1.cell? ⟨ob+1,1,none⟩=some (.slice none 0 0):=(uh HR1).cell rfl;have r2:w1.cell? ⟨ob+1,2,none⟩=some (.string qAa):=(uh HR1).cell rfl;have rf:=(uh HR1).frozen;go_wp2
 have hbf:=(((uh HR1).setCell 0 (.int .i64 0)).setCell 1 (.slice (some ⟨g,0,none⟩) 9 cap)).setCell 2 (.string qAa);have HKF:=hide ((((Keeps.refl (λi=>i=ob+1) w1).setCell (p:=⟨ob+1,0,none⟩) (Or.inl rfl) (.int .i64 0)).setCell (p:=⟨ob+1,1,none⟩) (Or.inl rfl) (.slice (some ⟨g,0,none⟩) 9 cap)).setCell (p:=⟨ob+1,2,none⟩) (Or.inl rfl) (.string qAa));have e9:(((w1.setCell ⟨ob+1,0,none⟩ (.int .i64 0)).setCell ⟨ob+1,1,none⟩ (.slice (some ⟨g,0,none⟩) 9 cap)).setCell ⟨ob+1,2,none⟩ (.string ⟨#[]⟩))=(((w1.setCell ⟨ob+1,0,none⟩ (.int .i64 0)).setCell ⟨ob+1,1,none⟩ (.slice (some ⟨g,0,none⟩) 9 cap)).setCell ⟨ob+1,2,none⟩ (.string qAa)):=rfl
 first | rw[e9] | skip
 generalize(((w1.setCell ⟨ob+1,0,none⟩ (.int .i64 0)).setCell ⟨ob+1,1,none⟩ (.slice (some ⟨g,0,none⟩) 9 cap)).setCell ⟨ob+1,2,none⟩ (.string qAa))=w9 at *;have q0:w9.cell? ⟨ob+1,0,none⟩=some (.int .i64 0):=hbf.cell rfl;have q1:w9.cell? ⟨ob+1,1,none⟩=some (.slice (some ⟨g,0,none⟩) 9 cap):=hbf.cell rfl;have q2:w9.cell? ⟨ob+1,2,none⟩=some (.string qAa):=hbf.cell rfl;refine bodyPost_ret (v:=qC0 0 (.slice (some ⟨g,0,none⟩) 9 cap)) (by simp[results,Tryz.results35,go_sem,q0,q1,q2,qC0]) rfl ?_;have hkf:=uh HKF;have hob:=uh HOB;have hkk:Keeps (λ_=>False) w w9:=(uh HK1).trans hkf (λi hi hlt=>by omega);exact qB8 (uh HE) hkk (qBk (qJd (uh HOW) (uh HS0)) hkf (λi hi h=>(by have:g=i:=(by simpa[Value.ownBlock] using hi);omega)))
theorem qYv(n:Int)(e:Nat)(v:Value)(clock:Int)(ps:List (SB×Ser))(o:OpM)(w:World)(h:ERep w e v clock ps)(hi:EInv n clock (ps.map (·.2)))(hf:qD9 ps o.id=none):
  Calls Tryz.prog 34 #[.pointer (some ⟨e,0,none⟩),o.val] w λr w'=>StepPost w e v ps clock (ps.map (·.2)) 2 [] r w':=by
 have h1:o.cells[1]?=some (.int .i64 o.id):=rfl;have HE:=hide h;have HI:=hide hi;have hl:ps.length<=1000:=by have:=hi.six;rw[List.length_map]at this;omega
 have HF:=hide hf;clear h hi hf;unfold OpM.val;go_enter Tryz.func34,Tryz.ntmps34
 go_wp2_with fail
 have hk0:Keeps (λ_=>False) w ((w.alloc (.cells o.cells.toArray 34)).alloc (.cells #[.int .i64 0,.slice none 0 0,.string ⟨#[]⟩] 38)):=((Keeps.refl (λ_=>False) w).alloc _).alloc _;have HO0:=hide (show Blk ((w.alloc (.cells o.cells.toArray 34)).alloc (.cells #[.int .i64 0,.slice none 0 0,.string ⟨#[]⟩] 38)) w.heap.size o.cells 34 from(Blk.new w o.cells 34).alloc _);have HR0:=hide (show Blk ((w.alloc (.cells o.cells.toArray 34)).alloc (.cells #[.int .i64 0,.slice none 0 0,.string ⟨#[]⟩] 38)) (w.heap.size+1) [.int .i64 0,.slice none 0 0,.string qAa] 38 from Blk.newAt (by simp) [_,_,_] 38);have HE0:=hide ((uh HE).still hk0);have HK0:=hide hk0;clear hk0;generalize(w.alloc (.cells o.cells.toArray 34)).alloc (.cells #[.int .i64 0,.slice none 0 0,.string ⟨#[]⟩] 38)=w0 at *;have HLT:=hide (show ∀i,EFoot e v ps i->i<w.heap.size from(uh HE).lt);generalize hob:w.heap.size=ob at *;have HOB:=hide hob;clear hob;have hsz0:ob+1<w0.heap.size:=(uh HR0).lt;refine(qD2 e v clock o.id ps w0 (uh HE0) hl).mono ?_;rintro r w1 ⟨rfl,hw1⟩;rw[hw1];clear hw1 w1;rw[uh HF];unfold qI7;go_wp2_with fail
 refine(qGg 2 w0).mono ?_;rintro r w1 ⟨rfl,hk1⟩;unfold qC0;have HR1:=hide ((uh HR0).keeps hk1 (λh=>h));have HK1:=hide ((uh HK0).then hk1);clear hk1;have r0:w1.cell? ⟨ob+1,0,none⟩=some (.int .i64 0):=(uh HR1).cell rfl;have r1:w1.cell? ⟨ob+1,1,none⟩=some (.slice none 0 0):=(uh HR1).cell rfl;have r2:w1.cell? ⟨ob+1,2,none⟩=some (.string qAa):=(uh HR1).cell rfl;have rf:=(uh HR1).frozen;go_wp2
 have hbf:=(((uh HR1).setCell 0 (.int .i64 2)).setCell 1 (.slice none 0 0)).setCell 2 (.string qAa);have HKF:=hide ((((Keeps.refl (λi=>i=ob+1) w1).setCell (p:=⟨ob+1,0,none⟩) (Or.inl rfl) (.int .i64 2)).setCell (p:=⟨ob+1,1,none⟩) (Or.inl rfl) (.slice none 0 0)).setCell (p:=⟨ob+1,2,none⟩) (Or.inl rfl) (.string qAa));have e9:(((w1.setCell ⟨ob+1,0,none⟩ (.int .i64 2)).setCell ⟨ob+1,1,none⟩ (.slice none 0 0)).setCell ⟨ob+1,2,none⟩ (.string ⟨#[]⟩))=(((w1.setCell ⟨ob+1,0,none⟩ (.int .i64 2)).setCell ⟨ob+1,1,none⟩ (.slice none 0 0)).setCell ⟨ob+1,2,none⟩ (.string qAa)):=rfl
 first | rw[e9] | skip
 generalize(((w1.setCell ⟨ob+1,0,none⟩ (.int .i64 2)).setCell ⟨ob+1,1,none⟩ (.slice none 0 0)).setCell ⟨ob+1,2,none⟩ (.string qAa))=w9 at *;have q0:w9.cell? ⟨ob+1,0,none⟩=some (.int .i64 2):=hbf.cell rfl;have q1:w9.cell? ⟨ob+1,1,none⟩=some (.slice none 0 0):=hbf.cell rfl;have q2:w9.cell? ⟨ob+1,2,none⟩=some (.string qAa):=hbf.cell rfl;refine bodyPost_ret (v:=qC0 2 (.slice none 0 0)) (by simp[results,Tryz.results34,go_sem,q0,q1,q2,qC0]) rfl ?_;have hkf:=uh HKF;have hob:=uh HOB;have hkk:Keeps (λ_=>False) w w9:=(uh HK1).trans hkf (λi hi hlt=>by omega);exact qB8 (uh HE) hkk (World.ownsRow_nil _ _ _ _)
theorem qZf(k:Nat)(c:Cfg)(nt:Note)(a m:Int): (qKt k c nt a m).1=0\/(qKt k c nt a m).2=[]:=by
 unfold qKt zIp
 repeat (first | exact .inl rfl | exact .inr rfl | split)
theorem qXi(n:Int)(e:Nat)(v:Value)(clock:Int)(ps:List (SB×Ser))(o:OpM)(w:World)(h:ERep w e v clock ps)(hi:EInv n clock (ps.map (·.2)))(hn:n<=4611686018427387904)(p:SB×Ser)(hf:qD9 ps o.id=some p):
  Calls Tryz.prog 34 #[.pointer (some ⟨e,0,none⟩),o.val] w λr w'=>StepPost w e v ps clock (ps.map (·.2)) (qKt p.2.k p.2.c p.2.nt o.a (clock-p.2.c.lag)).1 (qKt p.2.k p.2.c p.2.nt o.a (clock-p.2.c.lag)).2 r w':=by
 have hmem:p∈ps:=List.mem_of_find?_eq_some hf;have HM:=hide hmem;clear hmem;have h1:o.cells[1]?=some (.int .i64 o.id):=rfl;have HE:=hide h;have HI:=hide hi;have hl:ps.length<=1000:=by have:=hi.six;rw[List.length_map]at this;omega
 have HF:=hide hf;clear h hi hf;unfold OpM.val;go_enter Tryz.func34,Tryz.ntmps34
 go_wp2_with fail
 have hk0:Keeps (λ_=>False) w ((w.alloc (.cells o.cells.toArray 34)).alloc (.cells #[.int .i64 0,.slice none 0 0,.string ⟨#[]⟩] 38)):=((Keeps.refl (λ_=>False) w).alloc _).alloc _;have HO0:=hide (show Blk ((w.alloc (.cells o.cells.toArray 34)).alloc (.cells #[.int .i64 0,.slice none 0 0,.string ⟨#[]⟩] 38)) w.heap.size o.cells 34 from(Blk.new w o.cells 34).alloc _);have HR0:=hide (show Blk ((w.alloc (.cells o.cells.toArray 34)).alloc (.cells #[.int .i64 0,.slice none 0 0,.string ⟨#[]⟩] 38)) (w.heap.size+1) [.int .i64 0,.slice none 0 0,.string qAa] 38 from Blk.newAt (by simp) [_,_,_] 38);have HE0:=hide ((uh HE).still hk0);have HK0:=hide hk0;clear hk0;generalize(w.alloc (.cells o.cells.toArray 34)).alloc (.cells #[.int .i64 0,.slice none 0 0,.string ⟨#[]⟩] 38)=w0 at *;have HLT:=hide (show ∀i,EFoot e v ps i->i<w.heap.size from(uh HE).lt);generalize hob:w.heap.size=ob at *;have HOB:=hide hob;clear hob;have hsz0:ob+1<w0.heap.size:=(uh HR0).lt;refine(qD2 e v clock o.id ps w0 (uh HE0) hl).mono ?_;rintro r w1 ⟨rfl,hw1⟩;rw[hw1];clear hw1 w1;rw[uh HF];unfold qI7;have HS0:=hide ((uh HE0).reps p (uh HM));have HSI:=hide ((uh HI).sers p.2 (List.mem_map_of_mem (uh HM)));obtain⟨l0,l1,s0,s1,p1,p8⟩:=(uh HSI).common;have cl0:=(uh HI).c0;have cl1:=(uh HI).c1;have hc25:w0.cell? ⟨p.1.s,28,none⟩=some (.func (.func (zIh p.2.k)) (qJt p.1.n.d) #[]):=(uh HS0).blk.cell rfl;have hc2:w0.cell? ⟨p.1.s,2,none⟩=some (.int .i64 p.2.c.lag):=(uh HS0).blk.cell rfl;have hce:w0.cell? ⟨e,0,none⟩=some (.int .i64 clock):=(uh HE0).blk.cell rfl;have hoa:w0.cell? ⟨ob,2,none⟩=some (.int .i64 o.a):=(uh HO0).cell rfl;have hown:=zHv p.2.k (uh HSI).k1 (uh HSI).k5;have HRL:=hide (show p.2.rel<=4611686018427387904 by have h1:=(uh HSI).rela;have h2:=(uh HSI).accn;omega);go_wp2_with fail
 go_region_held3 (λw'=>w'.cell? ⟨p.1.s,28,none⟩=some (.func (.func (zIh p.2.k)) (qJt p.1.n.d) #[])/\w'.cell? ⟨p.1.s,2,none⟩=some (.int .i64 p.2.c.lag)/\w'.cell? ⟨e,0,none⟩=some (.int .i64 clock)/\w'.cell? ⟨ob,2,none⟩=some (.int .i64 o.a))
  (first | (simp[*];done) | (go_split_ands;exact⟨hk1.cell (by assumption) (λh=>h),hk1.cell (by assumption) (λh=>h),hk1.cell (by assumption) (λh=>h),hk1.cell (by assumption) (λh=>h)⟩))
  (first | (go_at_call 54;refine(qK8 p.1.s p.2.c.lag clock _ (by go_keep) l0 l1 cl0 cl1).mono ?_;rintro e w' ⟨rfl,rfl⟩) | (refine(zF5 (rel:=p.2.rel) (last:=p.2.last) p.2.k p.1.n p.2.c p.2.nt o.a (clock-p.2.c.lag) _ _ (by first | rfl | simp) (by exact(uh HS0).note.still (Keeps.refl _ _).drew) (uh HSI).note (uh HRL) (uh HSI).lastn (uh HSI).valid (uh HSI).kind (uh HSI).k1 (uh HSI).k5 (by omega) (by omega)).mono ?_;rintro e w1 ⟨og,nn,cp,rfl,hnum,hk1⟩))
 have hk0d:Keeps (λ_=>False) w0 w1:=((Keeps.refl (λ_=>False) w0).drew).then hk1;have HR1:=hide ((uh HR0).keeps hk0d (λh=>h));have HK1:=hide ((uh HK0).then hk0d);have HSZ:=hide ((uh HK0).size);have HNUM:=hide (show qWc w1 w0.heap.size (.slice og nn cp) (qKt p.2.k p.2.c p.2.nt o.a (clock-p.2.c.lag)).2 from hnum);have HCD:=hide (qZf p.2.k p.2.c p.2.nt o.a (clock-p.2.c.lag));clear hc25 hc2 hce hoa HR0 HK0 HE0 HO0 HS0 hk1 hnum hk0d hown;generalize hnm:(qKt p.2.k p.2.c p.2.nt o.a (clock-p.2.c.lag)).2=nums at *;generalize hco:(qKt p.2.k p.2.c p.2.nt o.a (clock-p.2.c.lag)).1=code at *;have HNM:=hide hnm;have HCO:=hide hco;clear hnm hco
 by_cases hcode:code=0
 ·subst hcode
  have r0:w1.cell? ⟨ob+1,0,none⟩=some (.int .i64 0):=(uh HR1).cell rfl;have r1:w1.cell? ⟨ob+1,1,none⟩=some (.slice none 0 0):=(uh HR1).cell rfl;have r2:w1.cell? ⟨ob+1,2,none⟩=some (.string qAa):=(uh HR1).cell rfl;have rf:=(uh HR1).frozen;go_wp2
  have hbf:=(((uh HR1).setCell 0 (.int .i64 0)).setCell 1 (.slice og nn cp)).setCell 2 (.string qAa);have HKF:=hide ((((Keeps.refl (λi=>i=ob+1) w1).setCell (p:=⟨ob+1,0,none⟩) (Or.inl rfl) (.int .i64 0)).setCell (p:=⟨ob+1,1,none⟩) (Or.inl rfl) (.slice og nn cp)).setCell (p:=⟨ob+1,2,none⟩) (Or.inl rfl) (.string qAa));have e9:(((w1.setCell ⟨ob+1,0,none⟩ (.int .i64 0)).setCell ⟨ob+1,1,none⟩ (.slice og nn cp)).setCell ⟨ob+1,2,none⟩ (.string ⟨#[]⟩))=(((w1.setCell ⟨ob+1,0,none⟩ (.int .i64 0)).setCell ⟨ob+1,1,none⟩ (.slice og nn cp)).setCell ⟨ob+1,2,none⟩ (.string qAa)):=rfl
  first | rw[e9] | skip
  generalize(((w1.setCell ⟨ob+1,0,none⟩ (.int .i64 0)).setCell ⟨ob+1,1,none⟩ (.slice og nn cp)).setCell ⟨ob+1,2,none⟩ (.string qAa))=w9 at *;have q0:w9.cell? ⟨ob+1,0,none⟩=some (.int .i64 0):=hbf.cell rfl;have q1:w9.cell? ⟨ob+1,1,none⟩=some (.slice og nn cp):=hbf.cell rfl;have q2:w9.cell? ⟨ob+1,2,none⟩=some (.string qAa):=hbf.cell rfl;refine bodyPost_ret (v:=qC0 0 (.slice og nn cp)) (by simp[results,Tryz.results34,go_sem,q0,q1,q2,qC0]) rfl ?_;have hkf:=uh HKF;have hob:=uh HOB;have hkk:Keeps (λ_=>False) w w9:=(uh HK1).trans hkf (λi hi hlt=>by omega);rw[uh HNM,uh HCO]
  exact qB8 (uh HE) hkk (qJd (qBk (uh HNUM) hkf (λi hi h=>by
         rcases(uh HNUM).2 with ⟨h1,_⟩ | ⟨g,_,_,h1,h2,_⟩
         ·rw[h1]at hi;cases hi
         ·rw[h1]at hi
          have:g=i:=by simpa[Value.ownBlock] using hi
          have:=uh HSZ
          omega)) (by have:=uh HSZ;omega))
 ·have hne:(code !=0)=true:=by simpa using hcode
  have HNN:=hide (show nums=[] from(uh HCD).resolve_left hcode);clear hcode;go_wp2_with fail
  refine(qGg code w1).mono ?_;rintro r w2 ⟨rfl,hk2⟩;unfold qC0;have HR2:=hide ((uh HR1).keeps hk2 (λh=>h));have HK2:=hide ((uh HK1).then hk2);clear hk2 HR1 HK1;have r0:w2.cell? ⟨ob+1,0,none⟩=some (.int .i64 0):=(uh HR2).cell rfl;have r1:w2.cell? ⟨ob+1,1,none⟩=some (.slice none 0 0):=(uh HR2).cell rfl;have r2:w2.cell? ⟨ob+1,2,none⟩=some (.string qAa):=(uh HR2).cell rfl;have rf:=(uh HR2).frozen;go_wp2
  have hbf:=(((uh HR2).setCell 0 (.int .i64 code)).setCell 1 (.slice none 0 0)).setCell 2 (.string qAa);have HKF:=hide ((((Keeps.refl (λi=>i=ob+1) w2).setCell (p:=⟨ob+1,0,none⟩) (Or.inl rfl) (.int .i64 code)).setCell (p:=⟨ob+1,1,none⟩) (Or.inl rfl) (.slice none 0 0)).setCell (p:=⟨ob+1,2,none⟩) (Or.inl rfl) (.string qAa));have e9:(((w2.setCell ⟨ob+1,0,none⟩ (.int .i64 code)).setCell ⟨ob+1,1,none⟩ (.slice none 0 0)).setCell ⟨ob+1,2,none⟩ (.string ⟨#[]⟩))=(((w2.setCell ⟨ob+1,0,none⟩ (.int .i64 code)).setCell ⟨ob+1,1,none⟩ (.slice none 0 0)).setCell ⟨ob+1,2,none⟩ (.string qAa)):=rfl
  first | rw[e9] | skip
  generalize(((w2.setCell ⟨ob+1,0,none⟩ (.int .i64 code)).setCell ⟨ob+1,1,none⟩ (.slice none 0 0)).setCell ⟨ob+1,2,none⟩ (.string qAa))=w9 at *;have q0:w9.cell? ⟨ob+1,0,none⟩=some (.int .i64 code):=hbf.cell rfl;have q1:w9.cell? ⟨ob+1,1,none⟩=some (.slice none 0 0):=hbf.cell rfl;have q2:w9.cell? ⟨ob+1,2,none⟩=some (.string qAa):=hbf.cell rfl;refine bodyPost_ret (v:=qC0 code (.slice none 0 0)) (by simp[results,Tryz.results34,go_sem,q0,q1,q2,qC0]) rfl ?_;have hkf:=uh HKF;have hob:=uh HOB;have hkk:Keeps (λ_=>False) w w9:=(uh HK2).trans hkf (λi hi hlt=>by omega);rw[uh HNM,uh HCO,uh HNN];exact qB8 (uh HE) hkk (World.ownsRow_nil _ _ _ _)
end
section
open Go.RowKit
theorem qMx(a b:List (SB×Ser)): ptrs (a++b)=ptrs a++ptrs b:=by simp[ptrs]
theorem ERep.one{w w':World}{e:Nat}{v:Value}{clock:Int}{l1 l2:List (SB×Ser)}{p:SB×Ser}{b':SB}{x':Ser}(h:ERep w e v clock (l1++p::l2))(hk:Keeps (p.1.foot p.2.k) w w')(hs:SRep w' b' x')(hx:x'.k=p.2.k)(hn:p.1.next b' p.2.k w.heap.size): ERep w' e v clock (l1++(b',x')::l2):=by
 have hmem:p∈l1++p::l2:=by simp
 have hap:=List.pairwise_append.1 h.apart;have hap2:=List.pairwise_cons.1 hap.2.1;have hoth:∀q,q∈l1\/q∈l2->q∈l1++p::l2/\∀i,q.1.foot q.2.k i->¬p.1.foot p.2.k i:=by
  intro q hq;rcases hq with hq | hq
  ·exact⟨by simp[hq],λi hi hp=>hap.2.2 q hq p (by simp) i hi hp⟩
  ·exact⟨by simp[hq],λi hi hp=>hap2.1 q hq i hp hi⟩
 have hnew:∀q,q∈l1\/q∈l2->∀i,b'.foot x'.k i->¬q.1.foot q.2.k i:=by
  intro q hq i hi hqi;obtain⟨hm,hd⟩:=hoth q hq;rw[hx]at hi;rcases hn.2 i hi with hf | hf
  ·exact hd i hqi hf
  ·have:=(h.reps q hm).lt i hqi;omega
 have hrow:w'.ownsRow 0 74 1 v (l1++p::l2).length (ptrs (l1++p::l2)):=qBk h.row hk (λi hi hf=>(h.ef p hmem i hf).2 hi);have hptr:ptrs (l1++(b',x')::l2)=ptrs (l1++p::l2):=by
  simp only[ptrs,List.map_append,List.map_cons];rw[hn.1]
 refine⟨h.blk.keeps hk (λhf=>(h.ef p hmem e hf).1 rfl),?_,?_,?_,h.ev,?_⟩
 ·rw[hptr,show(l1++(b',x')::l2).length=(l1++p::l2).length by simp];exact hrow
 ·intro q hq
  rcases List.mem_append.1 hq with hq | hq
  ·exact(h.reps q (hoth q (.inl hq)).1).keeps hk (hoth q (.inl hq)).2
  ·rcases List.mem_cons.1 hq with hq | hq
   ·subst hq;exact hs
   ·exact(h.reps q (hoth q (.inr hq)).1).keeps hk (hoth q (.inr hq)).2
 ·refine List.pairwise_append.2 ⟨hap.1,List.pairwise_cons.2 ⟨λq hq i hi=>hnew q (.inr hq) i hi,hap2.2⟩,?_⟩
  intro q hq r hr i hi;rcases List.mem_cons.1 hr with hr | hr
  ·subst hr;exact λhf=>hnew q (.inl hq) i hf hi
  ·exact hap.2.2 q hq r (by simp[hr]) i hi
 ·intro q hq i hi
  rcases List.mem_append.1 hq with hq | hq
  ·exact h.ef q (hoth q (.inl hq)).1 i hi
  ·rcases List.mem_cons.1 hq with hq | hq
   ·subst hq
    have hi':b'.foot p.2.k i:=by rw[<-hx];exact hi
    rcases hn.2 i hi' with hf | hf
    ·exact h.ef p hmem i hf
    ·have h1:=h.lt e (.inl rfl)
     refine⟨by omega,λhv=>?_⟩;have:=h.lt i (.inr (.inl hv));omega
   ·exact h.ef q (hoth q (.inr hq)).1 i hi
theorem EFoot.one{w:World}{e:Nat}{v:Value}{l1 l2:List (SB×Ser)}{p:SB×Ser}{b':SB}{x':Ser}(hx:x'.k=p.2.k)(hn:p.1.next b' p.2.k w.heap.size)(i:Nat)(hi:EFoot e v (l1++(b',x')::l2) i):
  EFoot e v (l1++p::l2) i\/w.heap.size<=i:=by
 rcases hi with hi | hi | ⟨q,hq,hi⟩
 ·exact .inl (.inl hi)
 ·exact .inl (.inr (.inl hi))
 ·rcases List.mem_append.1 hq with hq | hq
  ·exact .inl (.inr (.inr ⟨q,by simp[hq],hi⟩))
  ·rcases List.mem_cons.1 hq with hq | hq
   ·subst hq
    have hi':b'.foot p.2.k i:=by rw[<-hx];exact hi
    rcases hn.2 i hi' with hf | hf
    ·exact .inl (.inr (.inr ⟨p,by simp,hf⟩))
    ·exact .inr hf
   ·exact .inl (.inr (.inr ⟨q,by simp[hq],hi⟩))
def qNf: List Ser->Int->Ser->List Ser
 | [],_,_=>[]
 | x::r,id,y=>if x.id==id then y::r else x::qNf r id y
def qPr(xs:List Ser)(id:Int): Option Ser:=xs.find? (λx=>x.id==id)
theorem qOf{ps:List (SB×Ser)}{id:Int}{p:SB×Ser}(h:qD9 ps id=some p): ∃l1 l2,ps=l1++p::l2/\∀y:Ser,qNf (ps.map (·.2)) id y=l1.map (·.2)++y::l2.map (·.2):=by
 obtain⟨hp,l1,l2,he,hn⟩:=List.find?_eq_some_iff_append.1 h;refine⟨l1,l2,he,λy=>?_⟩;subst he;clear h
 induction l1 with
 | nil=>simp[qNf,hp]
 | cons a l ih =>
  have ha:(a.2.id==id)=false:=by simpa using hn a (by simp)
  simp only[List.cons_append,List.map_cons,qNf,ha];rw[ih (λb hb=>hn b (by simp[hb]))];rfl
theorem qUe(ps:List (SB×Ser))(id:Int): qPr (ps.map (·.2)) id=(qD9 ps id).map (·.2):=by
 unfold qPr qD9
 induction ps with
 | nil=>rfl
 | cons a l ih =>
  simp only[List.map_cons,List.find?_cons];cases (a.2.id==id) with
  | true=>rfl
  | false=>exact ih
def zGy(a b:Int): Int:=if a<b then a else b
def qVe(x:Ser)(c:Nat): Ser:={ x with ref:=x.ref.set c (zGy (qAx x.ref c+1) 4611686018427387904) }
theorem qOz(b:SB)(x:Ser)(c:Nat)(u:Int): (qCi b x).set (35+c) (.int .i64 u)=qCi b { x with ref:=x.ref.set c u }:=by
 have h1:(qCi b x).set (35+c) (.int .i64 u)=.int .i64 x.id::x.c.vals (fn (qBw x.k)::fn (qA7 x.k)::fn (qA8 x.k)::fn (qAr x.k)::fn (qA6 x.k)::fn (qA9 x.k)::relV x.k b.n.d::qryV x.k b.n.d::swpV x.k b.n.d::savV x.k b.n.d::lodV x.k b.n.d::.pointer (some ⟨b.q,0,none⟩)::.int .i64 x.acc::.int .i64 x.rel::(x.ref.map (.int .i64 ·)).set c (.int .i64 u)):=by
  rw[Nat.add_comm];rfl
 rw[h1];unfold qCi;simp only;rw[List.map_set]
theorem zDz{n:Int}{x:Ser}(h:SInv n x)(c:Nat)(hn:(∀v,v∈x.ref->v<n)\/4611686018427387904<=n)(hc:c<12): SInv n (qVe x c):=by
 have hl:=h.reflen;have hm:qAx x.ref c∈x.ref:=by unfold qAx;rw[List.getD_eq_getElem?_getD,List.getElem?_eq_getElem (by omega)];exact List.getElem_mem _
 refine⟨h.valid,h.kind,h.k1,h.k5,h.acc0,h.accn,h.rel0,h.rela,by simp[qVe,hl],?_,h.cap,h.times,h.note,h.heap,h.last0,h.lastn,h.lastl,h.fits⟩;intro v hv;rcases List.mem_or_eq_of_mem_set hv with hv | hv
 ·exact h.refn v hv
 ·subst hv
  have h1:=h.refn _ hm;unfold zGy;rcases hn with hn | hn
  ·have h2:=hn _ hm
   split <;> omega
  ·split <;> omega
theorem qKn(x:Ser)(clock:Int)(y:It): 0<=qIw x clock y/\qIw x clock y<=11:=by
 have hk:0<=qCy x.c x.k y/\qCy x.c x.k y<=11:=by
  unfold qCy qY6 qFb qJg
  repeat (first | omega | split)
 unfold qIw
 repeat (first | omega | split)
end
section
open Go.RowKit
attribute [local go_sem ↓] qAd qAe
attribute [local go_sem] qAf qAl qAc qAb qAm qAn qAi qAj qAh qAk
def OpM.item(o:OpM): It:=⟨o.a,o.b,o.c,0⟩
theorem zDh(n:Int)(e:Nat)(v:Value)(clock:Int)(ps:List (SB×Ser))(o:OpM)(w:World)(h:ERep w e v clock ps)(hi:EInv n clock (ps.map (·.2)))(hf:qD9 ps o.id=none):
  Calls Tryz.prog 32 #[.pointer (some ⟨e,0,none⟩),o.val] w λr w'=>StepPost w e v ps clock (ps.map (·.2)) 2 [] r w':=by
 have h1:o.cells[1]?=some (.int .i64 o.id):=rfl;have HE:=hide h;have HI:=hide hi;have hl:ps.length<=1000:=by have:=hi.six;rw[List.length_map]at this;omega
 have HF:=hide hf;clear h hi hf;unfold OpM.val;go_enter Tryz.func32,Tryz.ntmps32
 go_wp2_with fail
 have hk0:Keeps (λ_=>False) w ((w.alloc (.cells o.cells.toArray 34)).alloc (.cells #[.int .i64 0,.slice none 0 0,.string ⟨#[]⟩] 38)):=((Keeps.refl (λ_=>False) w).alloc _).alloc _;have HO0:=hide (show Blk ((w.alloc (.cells o.cells.toArray 34)).alloc (.cells #[.int .i64 0,.slice none 0 0,.string ⟨#[]⟩] 38)) w.heap.size o.cells 34 from(Blk.new w o.cells 34).alloc _);have HR0:=hide (show Blk ((w.alloc (.cells o.cells.toArray 34)).alloc (.cells #[.int .i64 0,.slice none 0 0,.string ⟨#[]⟩] 38)) (w.heap.size+1) [.int .i64 0,.slice none 0 0,.string qAa] 38 from Blk.newAt (by simp) [_,_,_] 38);have HE0:=hide ((uh HE).still hk0);have HK0:=hide hk0;clear hk0;generalize(w.alloc (.cells o.cells.toArray 34)).alloc (.cells #[.int .i64 0,.slice none 0 0,.string ⟨#[]⟩] 38)=w0 at *;have HLT:=hide (show ∀i,EFoot e v ps i->i<w.heap.size from(uh HE).lt);generalize hob:w.heap.size=ob at *;have HOB:=hide hob;clear hob;have hsz0:ob+1<w0.heap.size:=(uh HR0).lt;refine(qD2 e v clock o.id ps w0 (uh HE0) hl).mono ?_;rintro r w1 ⟨rfl,hw1⟩;rw[hw1];clear hw1 w1;rw[uh HF];unfold qI7;go_wp2_with fail
 refine(qGg 2 w0).mono ?_;rintro r w1 ⟨rfl,hk1⟩;unfold qC0;have HR1:=hide ((uh HR0).keeps hk1 (λh=>h));have HK1:=hide ((uh HK0).then hk1);clear hk1;have r0:w1.cell? ⟨ob+1,0,none⟩=some (.int .i64 0):=(uh HR1).cell rfl;have r1:w1.cell? ⟨ob+1,1,none⟩=some (.slice none 0 0):=(uh HR1).cell rfl;have r2:w1.cell? ⟨ob+1,2,none⟩=some (.string qAa):=(uh HR1).cell rfl;have rf:=(uh HR1).frozen;go_wp2
 have hbf:=(((uh HR1).setCell 0 (.int .i64 2)).setCell 1 (.slice none 0 0)).setCell 2 (.string qAa);have HKF:=hide ((((Keeps.refl (λi=>i=ob+1) w1).setCell (p:=⟨ob+1,0,none⟩) (Or.inl rfl) (.int .i64 2)).setCell (p:=⟨ob+1,1,none⟩) (Or.inl rfl) (.slice none 0 0)).setCell (p:=⟨ob+1,2,none⟩) (Or.inl rfl) (.string qAa));have e9:(((w1.setCell ⟨ob+1,0,none⟩ (.int .i64 2)).setCell ⟨ob+1,1,none⟩ (.slice none 0 0)).setCell ⟨ob+1,2,none⟩ (.string ⟨#[]⟩))=(((w1.setCell ⟨ob+1,0,none⟩ (.int .i64 2)).setCell ⟨ob+1,1,none⟩ (.slice none 0 0)).setCell ⟨ob+1,2,none⟩ (.string qAa)):=rfl
 first | rw[e9] | skip
 generalize(((w1.setCell ⟨ob+1,0,none⟩ (.int .i64 2)).setCell ⟨ob+1,1,none⟩ (.slice none 0 0)).setCell ⟨ob+1,2,none⟩ (.string qAa))=w9 at *;have q0:w9.cell? ⟨ob+1,0,none⟩=some (.int .i64 2):=hbf.cell rfl;have q1:w9.cell? ⟨ob+1,1,none⟩=some (.slice none 0 0):=hbf.cell rfl;have q2:w9.cell? ⟨ob+1,2,none⟩=some (.string qAa):=hbf.cell rfl;refine bodyPost_ret (v:=qC0 2 (.slice none 0 0)) (by simp[results,Tryz.results32,go_sem,q0,q1,q2,qC0]) rfl ?_;have hkf:=uh HKF;have hob:=uh HOB;have hkk:Keeps (λ_=>False) w w9:=(uh HK1).trans hkf (λi hi hlt=>by omega);exact qB8 (uh HE) hkk (World.ownsRow_nil _ _ _ _)
theorem zH2(n:Int)(e:Nat)(v:Value)(clock:Int)(ps:List (SB×Ser))(o:OpM)(w:World)(h:ERep w e v clock ps)(hi:EInv n clock (ps.map (·.2)))(p:SB×Ser)(hf:qD9 ps o.id=some p)(hc:qIw p.2 clock o.item=0)(hn:n<=4611686018427387904):
  Calls Tryz.prog 32 #[.pointer (some ⟨e,0,none⟩),o.val] w λr w'=>StepPost w e v ps clock (qNf (ps.map (·.2)) o.id (qTc p.2 o.item)) 0 [p.2.acc+1] r w':=by
 have hmem:p∈ps:=List.mem_of_find?_eq_some hf;have HM:=hide hmem;have HC:=hide (show qIw p.2 clock ⟨o.a,o.b,o.c,0⟩=0 from hc);clear hmem hc;have h1:o.cells[1]?=some (.int .i64 o.id):=rfl;have HE:=hide h;have HI:=hide hi;have hl:ps.length<=1000:=by have:=hi.six;rw[List.length_map]at this;omega
 have HF:=hide hf;clear h hi hf;unfold OpM.val;go_enter Tryz.func32,Tryz.ntmps32
 go_wp2_with fail
 have hk0:Keeps (λ_=>False) w ((w.alloc (.cells o.cells.toArray 34)).alloc (.cells #[.int .i64 0,.slice none 0 0,.string ⟨#[]⟩] 38)):=((Keeps.refl (λ_=>False) w).alloc _).alloc _;have HO0:=hide (show Blk ((w.alloc (.cells o.cells.toArray 34)).alloc (.cells #[.int .i64 0,.slice none 0 0,.string ⟨#[]⟩] 38)) w.heap.size o.cells 34 from(Blk.new w o.cells 34).alloc _);have HR0:=hide (show Blk ((w.alloc (.cells o.cells.toArray 34)).alloc (.cells #[.int .i64 0,.slice none 0 0,.string ⟨#[]⟩] 38)) (w.heap.size+1) [.int .i64 0,.slice none 0 0,.string qAa] 38 from Blk.newAt (by simp) [_,_,_] 38);have HE0:=hide ((uh HE).still hk0);have HK0:=hide hk0;clear hk0;generalize(w.alloc (.cells o.cells.toArray 34)).alloc (.cells #[.int .i64 0,.slice none 0 0,.string ⟨#[]⟩] 38)=w0 at *;have HLT:=hide (show ∀i,EFoot e v ps i->i<w.heap.size from(uh HE).lt);generalize hob:w.heap.size=ob at *;have HOB:=hide hob;clear hob;have hsz0:ob+1<w0.heap.size:=(uh HR0).lt;refine(qD2 e v clock o.id ps w0 (uh HE0) hl).mono ?_;rintro r w1 ⟨rfl,hw1⟩;rw[hw1];clear hw1 w1;rw[uh HF];unfold qI7;have HS0:=hide ((uh HE0).reps p (uh HM));have HSI:=hide ((uh HI).sers p.2 (List.mem_map_of_mem (uh HM)));have cl0:=(uh HI).c0;have cl1:=(uh HI).c1;have hoa:w0.cell? ⟨ob,2,none⟩=some (.int .i64 o.a):=(uh HO0).cell rfl;have hobb:w0.cell? ⟨ob,3,none⟩=some (.int .i64 o.b):=(uh HO0).cell rfl;have hoc:w0.cell? ⟨ob,4,none⟩=some (.int .i64 o.c):=(uh HO0).cell rfl;go_wp2_with fail
 have hkx:Keeps (λ_=>False) w0 (w0.alloc (.cells #[.int .i64 o.a,.int .i64 o.b,.int .i64 o.c,.int .i64 0] 88)):=(Keeps.refl (λ_=>False) w0).alloc _;have HX1:=hide (Blk.new w0 [.int .i64 o.a,.int .i64 o.b,.int .i64 o.c,.int .i64 0] 88);have HE1:=hide ((uh HE0).still hkx);have HS1:=hide ((uh HS0).still hkx);have HR1:=hide ((uh HR0).keeps hkx (λh=>h));have HK1:=hide ((uh HK0).then hkx);clear hkx HE0 HS0 HR0 HK0 HO0 hoa hobb hoc;generalize w0.alloc (.cells #[.int .i64 o.a,.int .i64 o.b,.int .i64 o.c,.int .i64 0] 88)=w1 at *;generalize hxb:w0.heap.size=xb at *;clear hxb;have hx0:w1.cell? ⟨xb,0,none⟩=some (.int .i64 o.a):=(uh HX1).cell rfl;have hx1:w1.cell? ⟨xb,1,none⟩=some (.int .i64 o.b):=(uh HX1).cell rfl;have hx2:w1.cell? ⟨xb,2,none⟩=some (.int .i64 o.c):=(uh HX1).cell rfl;have hx3:w1.cell? ⟨xb,3,none⟩=some (.int .i64 0):=(uh HX1).cell rfl;have hce:w1.cell? ⟨e,0,none⟩=some (.int .i64 clock):=(uh HE1).blk.cell rfl;go_region_held3 (λw'=>w'.cell? ⟨e,0,none⟩=some (.int .i64 clock)/\w'.cell? ⟨xb,0,none⟩=some (.int .i64 o.a)/\w'.cell? ⟨xb,1,none⟩=some (.int .i64 o.b)/\w'.cell? ⟨xb,2,none⟩=some (.int .i64 o.c)/\w'.cell? ⟨xb,3,none⟩=some (.int .i64 0))
  (first | (simp[*];done) | (go_split_ands;exact⟨hk2.cell (by assumption) (λh=>h),hk2.cell (by assumption) (λh=>h),hk2.cell (by assumption) (λh=>h),hk2.cell (by assumption) (λh=>h),hk2.cell (by assumption) (λh=>h)⟩))
  (first | (go_at_call 49;refine(qM8 n p.1 p.2 ⟨o.a,o.b,o.c,0⟩ clock _ (by exact(uh HS1).still ((Keeps.refl (λ_=>False) w1).drew)) (uh HSI) cl0 cl1).mono ?_;rintro r w2 ⟨rfl,hk2⟩))
 have hk2d:Keeps (λ_=>False) w1 w2:=((Keeps.refl (λ_=>False) w1).drew).then hk2;have HX2:=hide ((uh HX1).keeps hk2d (λh=>h));have HE2:=hide ((uh HE1).still hk2d);have HS2:=hide ((uh HS1).still hk2d);have HR2:=hide ((uh HR1).keeps hk2d (λh=>h));have HK2:=hide ((uh HK1).then hk2d);clear hk2 hk2d HX1 HE1 HS1 HR1 HK1 hx0 hx1 hx2 hx3 hce;rw[uh HC];have hx0:w2.cell? ⟨xb,0,none⟩=some (.int .i64 o.a):=(uh HX2).cell rfl;have hx1:w2.cell? ⟨xb,1,none⟩=some (.int .i64 o.b):=(uh HX2).cell rfl;have hx2:w2.cell? ⟨xb,2,none⟩=some (.int .i64 o.c):=(uh HX2).cell rfl;have hx3:w2.cell? ⟨xb,3,none⟩=some (.int .i64 0):=(uh HX2).cell rfl;go_wp2_with fail
 refine(qYy n p.1 p.2 ⟨o.a,o.b,o.c,0⟩ w2 (uh HS2) (uh HSI) (by omega)).mono ?_;rintro r w3 ⟨rfl,b',hs3,hn3,hk3⟩;have hpf:∀i,p.1.foot p.2.k i->i<ob:=λi hi=>uh HLT i (.inr (.inr ⟨p,uh HM,hi⟩))
 have HR3:=hide ((uh HR2).keeps hk3 (λh=>by have:=hpf _ h;omega));have HS3:=hide hs3;have HN3:=hide hn3;have HK3:=hide hk3;have hsz2:ob<=w2.heap.size:=by have h1:=(uh HK2).size;have h2:=uh HOB;omega
 have hsz2':ob+1<w2.heap.size:=(uh HR2).lt;have hsz3:w2.heap.size<=w3.heap.size:=hk3.size;have hr3:ob+1<w3.heap.size:=(uh HR3).lt;have r0:w3.cell? ⟨ob+1,0,none⟩=some (.int .i64 0):=(uh HR3).cell rfl;have r1:w3.cell? ⟨ob+1,1,none⟩=some (.slice none 0 0):=(uh HR3).cell rfl;have r2:w3.cell? ⟨ob+1,2,none⟩=some (.string qAa):=(uh HR3).cell rfl;have rf:=(uh HR3).frozen;have hrn:ob+1≠w3.heap.size:=by omega
 have HPF:=hide hpf;clear hs3 hn3 hk3 hpf hx0 hx1 hx2 hx3 HX2;go_wp2
 have hbf:=((((uh HR3).setCell 0 (.int .i64 0)).setCell 1 (.slice (some ⟨w3.heap.size,0,none⟩) 1 1)).setCell 2 (.string qAa)).alloc (.cells #[.int .i64 (p.2.acc+1)] 3);have hkF:Keeps (λi=>i=ob+1) w3 ((((w3.setCell ⟨ob+1,0,none⟩ (.int .i64 0)).setCell ⟨ob+1,1,none⟩ (.slice (some ⟨w3.heap.size,0,none⟩) 1 1)).setCell ⟨ob+1,2,none⟩ (.string qAa)).alloc (.cells #[.int .i64 (p.2.acc+1)] 3)) :=
  ((((Keeps.refl (λi=>i=ob+1) w3).setCell (p:=⟨ob+1,0,none⟩) (Or.inl rfl) _).setCell (p:=⟨ob+1,1,none⟩) (Or.inl rfl) _).setCell (p:=⟨ob+1,2,none⟩) (Or.inl rfl) _).alloc _
 have hbn:Blk ((((w3.setCell ⟨ob+1,0,none⟩ (.int .i64 0)).setCell ⟨ob+1,1,none⟩ (.slice (some ⟨w3.heap.size,0,none⟩) 1 1)).setCell ⟨ob+1,2,none⟩ (.string qAa)).alloc (.cells #[.int .i64 (p.2.acc+1)] 3)) w3.heap.size [.int .i64 (p.2.acc+1)] 3:=Blk.newAt (by simp) [_] 3;have e9:((((w3.setCell ⟨ob+1,0,none⟩ (.int .i64 0)).setCell ⟨ob+1,1,none⟩ (.slice (some ⟨w3.heap.size,0,none⟩) 1 1)).setCell ⟨ob+1,2,none⟩ (.string ⟨#[]⟩)).alloc (.cells #[.int .i64 (p.2.acc+1)] 3))=((((w3.setCell ⟨ob+1,0,none⟩ (.int .i64 0)).setCell ⟨ob+1,1,none⟩ (.slice (some ⟨w3.heap.size,0,none⟩) 1 1)).setCell ⟨ob+1,2,none⟩ (.string qAa)).alloc (.cells #[.int .i64 (p.2.acc+1)] 3)):=rfl;rw[e9];clear e9;generalize((((w3.setCell ⟨ob+1,0,none⟩ (.int .i64 0)).setCell ⟨ob+1,1,none⟩ (.slice (some ⟨w3.heap.size,0,none⟩) 1 1)).setCell ⟨ob+1,2,none⟩ (.string qAa)).alloc (.cells #[.int .i64 (p.2.acc+1)] 3))=w9 at *;have q0:w9.cell? ⟨ob+1,0,none⟩=some (.int .i64 0):=hbf.cell rfl;have q1:w9.cell? ⟨ob+1,1,none⟩=some (.slice (some ⟨w3.heap.size,0,none⟩) 1 1):=hbf.cell rfl;have q2:w9.cell? ⟨ob+1,2,none⟩=some (.string qAa):=hbf.cell rfl;refine bodyPost_ret (v:=qC0 0 (.slice (some ⟨w3.heap.size,0,none⟩) 1 1)) (by simp[results,Tryz.results32,go_sem,q0,q1,q2,qC0]) rfl ?_;obtain⟨l1,l2,hps,hupd⟩:=qOf (uh HF);have hob:=uh HOB;have hE2:=uh HE2;have hLT:=uh HLT;have hK2:=uh HK2;have hPF:=uh HPF;rw[hupd];subst hps;have hE3:ERep w3 e v clock (l1++(b',qTc p.2 ⟨o.a,o.b,o.c,0⟩)::l2):=hE2.one (uh HK3) (uh HS3) rfl (uh HN3);have hF3:∀i,EFoot e v (l1++(b',qTc p.2 ⟨o.a,o.b,o.c,0⟩)::l2) i->EFoot e v (l1++p::l2) i\/w2.heap.size<=i:=λi hi=>EFoot.one (w:=w2) (x':=qTc p.2 ⟨o.a,o.b,o.c,0⟩) rfl (uh HN3) i hi
 refine⟨.slice (some ⟨w3.heap.size,0,none⟩) 1 1,v,l1++(b',qTc p.2 ⟨o.a,o.b,o.c,0⟩)::l2,rfl,hE3.keeps hkF (λi hi h=>?_),?_,⟨rfl,.inr ⟨w3.heap.size,1,_,rfl,by omega,hbn,by simp,by unfold maxLen;omega,rfl,rfl⟩⟩,?_,?_,?_⟩
 ·rcases hF3 i hi with h1 | h1
  ·have:=hLT i h1;omega
  ·omega
 ·simp only[List.map_append,List.map_cons];rfl
 ·refine((hK2.mono (M':=EFoot e v (l1++p::l2)) (λ_ _ h=>h.elim)).trans (uh HK3) (λi hi _=>.inr (.inr ⟨p,by simp,hi⟩))).trans hkF (λi hi hlt=>?_)
  omega
 ·intro i hi
  rcases hF3 i hi with h1 | h1
  ·exact .inl h1
  ·exact .inr (by omega)
 ·intro i hi hf
  have h1:w3.heap.size=i:=by simpa[Value.ownBlock] using hi
  have h2:=hE3.lt i hf;omega
theorem qLe(n:Int)(b:SB)(x:Ser)(cd:Nat)(w:World)(hs:SRep w b x)(hi:SInv n x)(hn:n<=4611686018427387904)(hc:cd<12):
  Calls Tryz.prog 50 #[.pointer (some ⟨b.s,0,none⟩),.int .i64 cd] w λe w'=>e=.returned (.tuple #[])/\SRep w' b (qVe x cd)/\Keeps (b.foot x.k) w w':=by
 have HS:=hide hs;have hce:=qDv b x hi.reflen cd hc;have hcr:w.cell? ⟨b.s,35+cd,none⟩=some (.int .i64 (qAx x.ref cd)):=hs.blk.cell hce;have hfs:=hs.blk.frozen;have hlt:=hs.blk.lt;have hrb:0<=qAx x.ref cd/\qAx x.ref cd<=n:=hi.refn _ (by unfold qAx;rw[List.getD_eq_getElem?_getD,List.getElem?_eq_getElem (by have:=hi.reflen;omega)];exact List.getElem_mem _);have hwr:IntKind.i64.wrap (qAx x.ref cd+1)=qAx x.ref cd+1:=qLz (by omega) (by omega);have hi0:(0:Int)<=(cd:Int):=by omega
 have hi12:(cd:Int)<12:=by omega
 clear hs hi hce;have HM:=hide (show zGy (qAx x.ref cd+1) 4611686018427387904=if qAx x.ref cd+1<4611686018427387904 then qAx x.ref cd+1 else 4611686018427387904 from rfl);generalize hv:qAx x.ref cd=v at *;have HV:=hide hv;clear hv;have hfin:∀w',w'=(w.setCell ⟨b.s,35+cd,none⟩ (.int .i64 (zGy (qAx x.ref cd+1) 4611686018427387904))).drew\/w'=w.setCell ⟨b.s,35+cd,none⟩ (.int .i64 (zGy (qAx x.ref cd+1) 4611686018427387904))->SRep w' b (qVe x cd)/\Keeps (b.foot x.k) w w':=by
  intro w' hw';have hs:=uh HS;have hk1:Keeps (λi=>i=b.s) w w':=by
   rcases hw' with h | h
   ·rw[h];exact((Keeps.refl (λi=>i=b.s) w).setCell (p:=⟨b.s,35+cd,none⟩) (Or.inl rfl) _).drew
   ·rw[h];exact((Keeps.refl (λi=>i=b.s) w).setCell (p:=⟨b.s,35+cd,none⟩) (Or.inl rfl) _)
  refine⟨⟨?_,hs.que.keeps hk1 (λh=>hs.sq h.symm) (λg hg h=>hs.sg g hg h.symm),hs.note.keeps hk1 (λi hi h=>(hs.sn i hi).1 h),hs.sq,hs.sg,hs.sn⟩,hk1.mono (λi _ h=>.inl h)⟩;have hb:=hs.blk.setCell (35+cd) (.int .i64 (zGy (qAx x.ref cd+1) 4611686018427387904));rw[qOz]at hb;rcases hw' with h | h
  ·rw[h];exact hb.drew
  ·rw[h];exact hb
 have HF:=hide hfin;clear hfin;rw[uh HV]at HF;rcases Int.lt_trichotomy (v+1) 4611686018427387904 with hlt1 | hlt1 | hlt1
 ·rw[if_pos hlt1]at HM
  rw[uh HM]at HF;clear HM;go_enter Tryz.func50,Tryz.ntmps50
  go_wp2_with fail
  go_region
  go_wp2
  go_end0
  exact⟨rfl,uh HF _ (by first | exact .inl rfl | exact .inr rfl)⟩
 ·rw[if_neg (by omega)]at HM
  rw[uh HM]at HF;clear HM;have hv2:v=4611686018427387903:=by omega
  rw[hv2]at hcr hwr hrb hlt1;clear hlt1;go_enter Tryz.func50,Tryz.ntmps50
  go_wp2_with fail
  go_region
  go_wp2
  go_end0
  exact⟨rfl,uh HF _ (by first | exact .inl rfl | exact .inr rfl)⟩
 ·rw[if_neg (by omega)]at HM
  rw[uh HM]at HF;clear HM;have hv2:v=4611686018427387904:=by omega
  rw[hv2]at hcr hwr hrb hlt1;clear hlt1;go_enter Tryz.func50,Tryz.ntmps50
  go_wp2_with fail
  go_region
  go_wp2
  go_end0
  exact⟨rfl,uh HF _ (by first | exact .inl rfl | exact .inr rfl)⟩
theorem zI8(n:Int)(e:Nat)(v:Value)(clock:Int)(ps:List (SB×Ser))(o:OpM)(w:World)(h:ERep w e v clock ps)(hi:EInv n clock (ps.map (·.2)))(p:SB×Ser)(cd:Nat)(hf:qD9 ps o.id=some p)(hc:qIw p.2 clock o.item=cd)(hc0:cd≠0)(hn:n<=4611686018427387904):
  Calls Tryz.prog 32 #[.pointer (some ⟨e,0,none⟩),o.val] w λr w'=>StepPost w e v ps clock (qNf (ps.map (·.2)) o.id (qVe p.2 cd)) cd [] r w':=by
 have hmem:p∈ps:=List.mem_of_find?_eq_some hf;have HM:=hide hmem;have HC:=hide (show qIw p.2 clock ⟨o.a,o.b,o.c,0⟩=cd from hc);have hc12:cd<12:=by have:=(qKn p.2 clock o.item).2;rw[hc]at this;omega
 clear hmem hc;have h1:o.cells[1]?=some (.int .i64 o.id):=rfl;have HE:=hide h;have HI:=hide hi;have hl:ps.length<=1000:=by have:=hi.six;rw[List.length_map]at this;omega
 have HF:=hide hf;clear h hi hf;unfold OpM.val;go_enter Tryz.func32,Tryz.ntmps32
 go_wp2_with fail
 have hk0:Keeps (λ_=>False) w ((w.alloc (.cells o.cells.toArray 34)).alloc (.cells #[.int .i64 0,.slice none 0 0,.string ⟨#[]⟩] 38)):=((Keeps.refl (λ_=>False) w).alloc _).alloc _;have HO0:=hide (show Blk ((w.alloc (.cells o.cells.toArray 34)).alloc (.cells #[.int .i64 0,.slice none 0 0,.string ⟨#[]⟩] 38)) w.heap.size o.cells 34 from(Blk.new w o.cells 34).alloc _);have HR0:=hide (show Blk ((w.alloc (.cells o.cells.toArray 34)).alloc (.cells #[.int .i64 0,.slice none 0 0,.string ⟨#[]⟩] 38)) (w.heap.size+1) [.int .i64 0,.slice none 0 0,.string qAa] 38 from Blk.newAt (by simp) [_,_,_] 38);have HE0:=hide ((uh HE).still hk0);have HK0:=hide hk0;clear hk0;generalize(w.alloc (.cells o.cells.toArray 34)).alloc (.cells #[.int .i64 0,.slice none 0 0,.string ⟨#[]⟩] 38)=w0 at *;have HLT:=hide (show ∀i,EFoot e v ps i->i<w.heap.size from(uh HE).lt);generalize hob:w.heap.size=ob at *;have HOB:=hide hob;clear hob;have hsz0:ob+1<w0.heap.size:=(uh HR0).lt;refine(qD2 e v clock o.id ps w0 (uh HE0) hl).mono ?_;rintro r w1 ⟨rfl,hw1⟩;rw[hw1];clear hw1 w1;rw[uh HF];unfold qI7;have HS0:=hide ((uh HE0).reps p (uh HM));have HSI:=hide ((uh HI).sers p.2 (List.mem_map_of_mem (uh HM)));have cl0:=(uh HI).c0;have cl1:=(uh HI).c1;have hoa:w0.cell? ⟨ob,2,none⟩=some (.int .i64 o.a):=(uh HO0).cell rfl;have hobb:w0.cell? ⟨ob,3,none⟩=some (.int .i64 o.b):=(uh HO0).cell rfl;have hoc:w0.cell? ⟨ob,4,none⟩=some (.int .i64 o.c):=(uh HO0).cell rfl;go_wp2_with fail
 have hkx:Keeps (λ_=>False) w0 (w0.alloc (.cells #[.int .i64 o.a,.int .i64 o.b,.int .i64 o.c,.int .i64 0] 88)):=(Keeps.refl (λ_=>False) w0).alloc _;have HX1:=hide (Blk.new w0 [.int .i64 o.a,.int .i64 o.b,.int .i64 o.c,.int .i64 0] 88);have HE1:=hide ((uh HE0).still hkx);have HS1:=hide ((uh HS0).still hkx);have HR1:=hide ((uh HR0).keeps hkx (λh=>h));have HK1:=hide ((uh HK0).then hkx);clear hkx HE0 HS0 HR0 HK0 HO0 hoa hobb hoc;generalize w0.alloc (.cells #[.int .i64 o.a,.int .i64 o.b,.int .i64 o.c,.int .i64 0] 88)=w1 at *;generalize hxb:w0.heap.size=xb at *;clear hxb;have hx0:w1.cell? ⟨xb,0,none⟩=some (.int .i64 o.a):=(uh HX1).cell rfl;have hx1:w1.cell? ⟨xb,1,none⟩=some (.int .i64 o.b):=(uh HX1).cell rfl;have hx2:w1.cell? ⟨xb,2,none⟩=some (.int .i64 o.c):=(uh HX1).cell rfl;have hx3:w1.cell? ⟨xb,3,none⟩=some (.int .i64 0):=(uh HX1).cell rfl;have hce:w1.cell? ⟨e,0,none⟩=some (.int .i64 clock):=(uh HE1).blk.cell rfl;go_region_held3 (λw'=>w'.cell? ⟨e,0,none⟩=some (.int .i64 clock)/\w'.cell? ⟨xb,0,none⟩=some (.int .i64 o.a)/\w'.cell? ⟨xb,1,none⟩=some (.int .i64 o.b)/\w'.cell? ⟨xb,2,none⟩=some (.int .i64 o.c)/\w'.cell? ⟨xb,3,none⟩=some (.int .i64 0))
  (first | (simp[*];done) | (go_split_ands;exact⟨hk2.cell (by assumption) (λh=>h),hk2.cell (by assumption) (λh=>h),hk2.cell (by assumption) (λh=>h),hk2.cell (by assumption) (λh=>h),hk2.cell (by assumption) (λh=>h)⟩))
  (first | (go_at_call 49;refine(qM8 n p.1 p.2 ⟨o.a,o.b,o.c,0⟩ clock _ (by exact(uh HS1).still ((Keeps.refl (λ_=>False) w1).drew)) (uh HSI) cl0 cl1).mono ?_;rintro r w2 ⟨rfl,hk2⟩))
 have hk2d:Keeps (λ_=>False) w1 w2:=((Keeps.refl (λ_=>False) w1).drew).then hk2;have HX2:=hide ((uh HX1).keeps hk2d (λh=>h));have HE2:=hide ((uh HE1).still hk2d);have HS2:=hide ((uh HS1).still hk2d);have HR2:=hide ((uh HR1).keeps hk2d (λh=>h));have HK2:=hide ((uh HK1).then hk2d);clear hk2 hk2d HX1 HE1 HS1 HR1 HK1 hx0 hx1 hx2 hx3 hce;rw[uh HC];have hne:((cd:Int) !=0)=true:=by simp;omega
 have hsz2:ob+1<w2.heap.size:=(uh HR2).lt;go_wp2_with fail
 refine(qLe n p.1 p.2 cd w2 (uh HS2) (uh HSI) (by omega) hc12).mono ?_;rintro r w3 ⟨rfl,hs3,hks⟩;have hpf:∀i,p.1.foot p.2.k i->i<ob:=λi hi=>uh HLT i (.inr (.inr ⟨p,uh HM,hi⟩))
 have HR3:=hide ((uh HR2).keeps hks (λh=>by have:=hpf _ h;omega));have HS3:=hide hs3;have HKS:=hide hks;clear hks hpf hs3;go_wp2_with fail
 refine(qGg cd w3).mono ?_;rintro r w4 ⟨rfl,hk4⟩;unfold qC0;have HR4:=hide ((uh HR3).keeps hk4 (λh=>h));have HK34:=hide hk4;clear hk4;have r0:w4.cell? ⟨ob+1,0,none⟩=some (.int .i64 0):=(uh HR4).cell rfl;have r1:w4.cell? ⟨ob+1,1,none⟩=some (.slice none 0 0):=(uh HR4).cell rfl;have r2:w4.cell? ⟨ob+1,2,none⟩=some (.string qAa):=(uh HR4).cell rfl;have rf:=(uh HR4).frozen;go_wp2
 have hbf:=(((uh HR4).setCell 0 (.int .i64 cd)).setCell 1 (.slice none 0 0)).setCell 2 (.string qAa);have HKF:=hide ((((Keeps.refl (λi=>i=ob+1) w4).setCell (p:=⟨ob+1,0,none⟩) (Or.inl rfl) (.int .i64 cd)).setCell (p:=⟨ob+1,1,none⟩) (Or.inl rfl) (.slice none 0 0)).setCell (p:=⟨ob+1,2,none⟩) (Or.inl rfl) (.string qAa));have e9:(((w4.setCell ⟨ob+1,0,none⟩ (.int .i64 cd)).setCell ⟨ob+1,1,none⟩ (.slice none 0 0)).setCell ⟨ob+1,2,none⟩ (.string ⟨#[]⟩))=(((w4.setCell ⟨ob+1,0,none⟩ (.int .i64 cd)).setCell ⟨ob+1,1,none⟩ (.slice none 0 0)).setCell ⟨ob+1,2,none⟩ (.string qAa)):=rfl
 first | rw[e9] | skip
 generalize(((w4.setCell ⟨ob+1,0,none⟩ (.int .i64 cd)).setCell ⟨ob+1,1,none⟩ (.slice none 0 0)).setCell ⟨ob+1,2,none⟩ (.string qAa))=w9 at *;have q0:w9.cell? ⟨ob+1,0,none⟩=some (.int .i64 cd):=hbf.cell rfl;have q1:w9.cell? ⟨ob+1,1,none⟩=some (.slice none 0 0):=hbf.cell rfl;have q2:w9.cell? ⟨ob+1,2,none⟩=some (.string qAa):=hbf.cell rfl;refine bodyPost_ret (v:=qC0 cd (.slice none 0 0)) (by simp[results,Tryz.results32,go_sem,q0,q1,q2,qC0]) rfl ?_;have hkf:=uh HKF;have hob:=uh HOB;obtain⟨l1,l2,hps,hupd⟩:=qOf (uh HF);have hE2:=uh HE2;have hLT:=uh HLT;have hK2:=uh HK2;rw[hupd];subst hps;have hN:p.1.next p.1 p.2.k w2.heap.size:=⟨rfl,λ_ h=>.inl h⟩;have hE3:ERep w3 e v clock (l1++(p.1,qVe p.2 cd)::l2):=hE2.one (uh HKS) (uh HS3) rfl hN;have hE4:=hE3.still (uh HK34);have hF3:∀i,EFoot e v (l1++(p.1,qVe p.2 cd)::l2) i->EFoot e v (l1++p::l2) i\/w2.heap.size<=i:=λi hi=>EFoot.one (w:=w2) (x':=qVe p.2 cd) rfl hN i hi
 refine⟨.slice none 0 0,v,l1++(p.1,qVe p.2 cd)::l2,rfl,hE4.keeps hkf (λi hi h=>?_),?_,World.ownsRow_nil _ _ _ _,?_,?_,?_⟩
 ·rcases hF3 i hi with h1 | h1
  ·have:=hLT i h1;omega
  ·omega
 ·simp only[List.map_append,List.map_cons]
 ·refine(((hK2.mono (M':=EFoot e v (l1++p::l2)) (λ_ _ h=>h.elim)).trans (uh HKS) (λi hi _=>.inr (.inr ⟨p,by simp,hi⟩))).trans (uh HK34) (λ_ h _=>h.elim)).trans hkf (λi hi hlt=>?_)
  omega
 ·intro i hi
  rcases hF3 i hi with h1 | h1
  ·exact .inl h1
  ·exact .inr (by omega)
 ·intro i hi hf
  simp[Value.ownBlock]at hi
end
end Go.Proofs.YtahnliehdjncdabGreatDoor
