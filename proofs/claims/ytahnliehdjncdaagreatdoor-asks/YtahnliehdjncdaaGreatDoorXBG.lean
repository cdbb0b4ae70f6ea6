import Derived.Test.YtahnliehdjncdaaGreatDoorXBB
import Derived.Test.YtahnliehdjncdaaGreatDoorXBD
import Derived.Test.YtahnliehdjncdaaGreatDoorXBE
import Derived.Test.YtahnliehdjncdaaGreatDoorXBF
set_option maxRecDepth 100000
set_option maxHeartbeats 16000000
namespace Go.Proofs.YtahnliehdjncdaaGreatDoor
section
open Go.RowKit
theorem qUe(all:List RIt)(mark:Int)(i:Nat)(k:Int)(hi:i<all.length):
  qIp all mark (all.drop i) i k=qIp all mark (all.drop (i+1)) (i+1) (if (rAt all i).tick=0/\(rAt all i).t<=mark/\(k<0\/(rAt all i).t<(rAt all k.toNat).t) then(i:Int) else k):=by
 rw[List.drop_eq_getElem_cons hi,qIp,<-qCc all i hi]
theorem qP7(e:Nat)(clock:Int)(b:RB)(y:RSer)(w:World)(h:RRep w b y)(hc:w.cell? ⟨e,0,none⟩=some (.int .i64 clock))(hl:y.items.length<=1152921504606846976)(l0:0<=y.c.lag)(l1:y.c.lag<=100)(c0:0<=clock)(c1:clock<=4611686018427387904):
  Calls Tryz.prog 113 #[.pointer (some ⟨e,0,none⟩),.pointer (some ⟨b.s,0,none⟩)] w λr w'=>r=.returned (.int .i64 (qE8 y.items (clock-y.c.lag)))/\Keeps (λ_=>False) w w':=by
 have hlag:w.cell? ⟨b.s,2,none⟩=some (.int .i64 y.c.lag):=h.blk.cell rfl
 have hc1:w.cell? ⟨b.s,21,none⟩=some b.iv:=h.blk.cell rfl
 obtain⟨a,cap,hv,-,ha,hcells⟩:=qCy h.its
 rw[hv]at hc1
 have HC:=hide hcells
 have HA:=hide ha
 clear h hcells ha hv
 generalize hn:y.items.length=n at *
 have HN:=hide hn
 clear hn
 generalize b.s=s at *
 generalize y.c.lag=lag at *
 generalize y.items=all at *
 go_enter Tryz.func113,Tryz.ntmps113
 go_wp2_with fail
 refine(qBy e s lag clock w hc hlag l0 l1 c0 c1).mono ?_
 rintro r w1 ⟨rfl,hk1⟩
 generalize hmk:clock-lag=mark at *
 have HMK:=hide hmk
 have HC1:=hide hc1
 have HK1:=hide hk1
 clear hmk hc1 hlag hc l0 l1 c0 c1 hk1
 go_wp2_with fail
 go_loopw [6,7] (λkv iv wr=>∃(i:Nat) (k:Int),i<=n/\iv=.int .i64 i/\kv=.int .i64 k/\(k=-1\/(0<=k/\k<(n:Int)))/\Hid (Keeps (λ_=>False) w wr)/\Hid (qE8 all mark=qIp all mark (all.drop i) i k)) (λ_ iv _=>n-(intOf iv).toNat)
 case atStart=>exact⟨0,-1,Nat.zero_le _,rfl,rfl,.inl rfl,HK1,rfl⟩
 case round =>
  obtain⟨i,k,hi,rfl,rfl,hk,HKr,HE⟩:=hrel
  have hc1:=(uh HKr).cell (uh HC1) (λh=>h)
  by_cases hlt:i<n
  ·obtain⟨g,hg⟩:=uh HA (by omega)
   have hrow:=(uh HC g hg).1
   subst hg
   have hall:i<all.length:=by rw[uh HN];exact hlt
   have z0:=(uh HKr).cell (hrow (i*5+0) _ (by rw[qBl _ _ _ hall (by omega)];rfl)) (λh=>h)
   have z1:=(uh HKr).cell (hrow (i*5+1) _ (by rw[qBl _ _ _ hall (by omega)];rfl)) (λh=>h)
   have z2:=(uh HKr).cell (hrow (i*5+2) _ (by rw[qBl _ _ _ hall (by omega)];rfl)) (λh=>h)
   have z3:=(uh HKr).cell (hrow (i*5+3) _ (by rw[qBl _ _ _ hall (by omega)];rfl)) (λh=>h)
   have z4:=(uh HKr).cell (hrow (i*5+4) _ (by rw[qBl _ _ _ hall (by omega)];rfl)) (λh=>h)
   rw[Nat.add_zero]at z0
   have HE':=hide (by have:=uh HE;rw[qUe _ _ _ _ hall]at this;exact this)
   have hkr:∀j:Nat,k=(j:Int)->j<n->wr.cell? ⟨g,j*5,none⟩=some (.int .i64 (rAt all j).t):=by
    intro j hj hjn
    have:=(uh HKr).cell (hrow (j*5+0) _ (by rw[qBl _ _ _ (by rw[uh HN];exact hjn) (by omega)];rfl)) (λh=>h)
    rw[Nat.add_zero]at this
    exact this
   have HKR:=hide hkr
   clear hkr hrow hall HE
   have hk0:(0:Int)<=(i:Int):=by omega
   have hkn:(i:Int)<(n:Int):=by omega
   generalize hx:rAt all i=x at *
   have HX:=hide hx
   clear hx
   have done:∀(k':Int) (c:Prop) [Decidable c],(if c then(i:Int) else k)=k'->True:=λ_ _ _ _=>trivial
   clear done
   by_cases ht:x.tick=0
   ·have hb1:(x.tick==0)=true:=by simpa using ht
    by_cases hm:x.t<=mark
    ·have hmd:decide (x.t<=mark)=true:=by simpa using hm
     rcases hk with hk | ⟨kk0,kkn⟩
     ·subst hk
      have HE2:=hide (by have:=uh HE';rw[if_pos ⟨ht,hm,.inl (by omega)⟩]at this;exact this)
      clear HE' ht
      go_wp2_with fail
      go_quiet (fail)
      go_wp2
      go_roundw
      case rel=>exact⟨i+1,i,by omega,by go_num,rfl,.inr ⟨by omega,by omega⟩,(by first | exact((uh HKr).alloc _).drew | exact(uh HKr).alloc _ | exact((uh HKr).alloc _).then ⟨rfl,rfl,rfl,Nat.le_refl _,λ_ _ _=>rfl⟩),HE2⟩
      case measure=>simp[intOf];omega
     ·obtain⟨j,rfl⟩:=Int.eq_ofNat_of_zero_le kk0
      have hj:=uh HKR j rfl (by omega)
      rw[Int.toNat_natCast]at HE'
      generalize hxj:rAt all j=xj at *
      have HXJ:=hide hxj
      clear hxj HKR
      have hj0:decide ((j:Int)<0)=false:=by simp
      have hca:=((Keeps.refl (λ_=>False) wr).alloc (.cells #[.int .i64 x.t,.int .i64 x.k,.int .i64 x.d,.int .i64 x.n,.int .i64 x.tick] 155)).cell hc1 (λh=>h)
      have hja:=((Keeps.refl (λ_=>False) wr).alloc (.cells #[.int .i64 x.t,.int .i64 x.k,.int .i64 x.d,.int .i64 x.n,.int .i64 x.tick] 155)).cell hj (λh=>h)
      by_cases hs:x.t<xj.t
      ·have hsd:decide (x.t<xj.t)=true:=by simpa using hs
       have HE2:=hide (by have:=uh HE';rw[if_pos ⟨ht,hm,.inr hs⟩]at this;exact this)
       clear HE' ht
       go_wp2_with fail
       go_quiet (fail)
       go_wp2
       go_roundw
       case rel=>exact⟨i+1,i,by omega,by go_num,rfl,.inr ⟨by omega,by omega⟩,(by first | exact((uh HKr).alloc _).drew | exact(uh HKr).alloc _ | exact((uh HKr).alloc _).then ⟨rfl,rfl,rfl,Nat.le_refl _,λ_ _ _=>rfl⟩),HE2⟩
       case measure=>simp[intOf];omega
      ·have hsd:decide (x.t<xj.t)=false:=by simpa using hs
       have HE2:=hide (by have:=uh HE';rw[if_neg (λh=>by rcases h.2.2 with h | h;omega;exact hs h)]at this;exact this)
       clear HE' ht
       go_wp2_with fail
       go_quiet (fail)
       go_wp2
       go_roundw
       case rel=>exact⟨i+1,j,by omega,by go_num,rfl,.inr ⟨by omega,by omega⟩,(by first | exact((uh HKr).alloc _).drew | exact(uh HKr).alloc _ | exact((uh HKr).alloc _).then ⟨rfl,rfl,rfl,Nat.le_refl _,λ_ _ _=>rfl⟩),HE2⟩
       case measure=>simp[intOf];omega
    ·have hmd:decide (x.t<=mark)=false:=by simpa using hm
     have HE2:=hide (by have:=uh HE';rw[if_neg (λh=>hm h.2.1)]at this;exact this)
     clear HE' ht HKR
     have HK':=hide hk
     clear hk
     go_wp2_with fail
     go_quiet (fail)
     go_wp2
     go_roundw
     case rel=>exact⟨i+1,k,by omega,by go_num,rfl,uh HK',(by first | exact((uh HKr).alloc _).drew | exact(uh HKr).alloc _ | exact((uh HKr).alloc _).then ⟨rfl,rfl,rfl,Nat.le_refl _,λ_ _ _=>rfl⟩),HE2⟩
     case measure=>simp[intOf];omega
   ·have hb1:(x.tick==0)=false:=by simpa using ht
    have HE2:=hide (by have:=uh HE';rw[if_neg (λh=>ht h.1)]at this;exact this)
    clear HE' ht HKR
    have HK':=hide hk
    clear hk
    go_wp2_with fail
    go_quiet (fail)
    go_wp2
    go_roundw
    case rel=>exact⟨i+1,k,by omega,by go_num,rfl,uh HK',(by first | exact((uh HKr).alloc _).drew | exact(uh HKr).alloc _ | exact((uh HKr).alloc _).then ⟨rfl,rfl,rfl,Nat.le_refl _,λ_ _ _=>rfl⟩),HE2⟩
    case measure=>simp[intOf];omega
  ·have hin:i=n:=by omega
   subst hin
   have HE':=hide (show qE8 all mark=k by rw[uh HE,List.drop_eq_nil_of_le (by rw[uh HN];exact Nat.le_refl _)];rfl)
   go_wp2
   go_ret
   exact⟨by rw[uh HMK,uh HE'];rfl,uh HKr⟩
theorem qJy(n:Int)(e:Nat)(clock:Int)(b:RB)(y:RSer)(o:OpM)(w:World)(h:RRep w b y)(hi:RInv n y)(hn:n<=1152921504606846976)(hc:w.cell? ⟨e,0,none⟩=some (.int .i64 clock))(c0:0<=clock)(c1:clock<=4611686018427387904):
  Calls Tryz.prog 112 #[.pointer (some ⟨e,0,none⟩),.pointer (some ⟨b.s,0,none⟩),o.val] w λr w'=>r=.returned (.int .i64 (qB6 y clock o))/\Keeps (λ_=>False) w w':=by
 obtain⟨k,hk,h1,h5,_,_⟩:=qCw hi.valid
 have hcases:k=1\/k=2\/k=3\/k=4\/k=5:=by omega
 cases ha:inB o.a 0 4611686018427387904
 ·rcases hcases with rfl | rfl | rfl | rfl | rfl
  ·exact qSd n e clock b y o w h hi hn hc c0 c1 hk ha
  ·exact qSo n e clock b y o w h hi hn hc c0 c1 hk ha
  ·exact qSj n e clock b y o w h hi hn hc c0 c1 hk ha
  ·exact qRx n e clock b y o w h hi hn hc c0 c1 hk ha
  ·exact qSy n e clock b y o w h hi hn hc c0 c1 hk ha
 ·rcases hcases with rfl | rfl | rfl | rfl | rfl
  ·exact qVd n e clock b y o w h hi hn hc c0 c1 hk ha
  ·exact qTu n e clock b y o w h hi hn hc c0 c1 hk ha
  ·exact qVz n e clock b y o w h hi hn hc c0 c1 hk ha
  ·exact qVo n e clock b y o w h hi hn hc c0 c1 hk ha
  ·exact qUr n e clock b y o w h hi hn hc c0 c1 hk ha
def RB.next(b b':RB)(size:Nat): Prop:=b'.s=b.s/\∀i,b'.foot i->b.foot i\/size<=i
theorem RWRep.one{w w':World}{e:Nat}{v:Value}{clock ticks:Int}{l1 l2:List (RB×RSer)}{p:RB×RSer}{b':RB}{x':RSer}(h:RWRep w e v clock ticks (l1++p::l2))(hk:Keeps p.1.foot w w')(hs:RRep w' b' x')(hn:p.1.next b' w.heap.size): RWRep w' e v clock ticks (l1++(b',x')::l2):=by
 have hmem:p∈l1++p::l2:=by simp
 have hap:=List.pairwise_append.1 h.apart
 have hap2:=List.pairwise_cons.1 hap.2.1
 have hoth:∀q,q∈l1\/q∈l2->q∈l1++p::l2/\∀i,q.1.foot i->¬p.1.foot i:=by
  intro q hq
  rcases hq with hq | hq
  ·exact⟨by simp[hq],λi hi hp=>hap.2.2 q hq p (by simp) i hi hp⟩
  ·exact⟨by simp[hq],λi hi hp=>hap2.1 q hq i hp hi⟩
 have hnew:∀q,q∈l1\/q∈l2->∀i,b'.foot i->¬q.1.foot i:=by
  intro q hq i hi hqi
  obtain⟨hm,hd⟩:=hoth q hq
  rcases hn.2 i hi with hf | hf
  ·exact hd i hqi hf
  ·have:=(h.reps q hm).lt i hqi;omega
 have hrow:w'.ownsRow 0 112 1 v (l1++p::l2).length (qIq (l1++p::l2)):=qAf h.row hk (λi hi hf=>(h.ef p hmem i hf).2 hi)
 have hptr:qIq (l1++(b',x')::l2)=qIq (l1++p::l2):=by
  simp only[qIq,List.map_append,List.map_cons]
  rw[hn.1]
 refine⟨h.blk.keeps hk (λhf=>(h.ef p hmem e hf).1 rfl),?_,?_,?_,h.ev,?_⟩
 ·rw[hptr,show(l1++(b',x')::l2).length=(l1++p::l2).length by simp];exact hrow
 ·intro q hq
  rcases List.mem_append.1 hq with hq | hq
  ·exact(h.reps q (hoth q (.inl hq)).1).keeps hk (hoth q (.inl hq)).2
  ·rcases List.mem_cons.1 hq with hq | hq
   ·subst hq;exact hs
   ·exact(h.reps q (hoth q (.inr hq)).1).keeps hk (hoth q (.inr hq)).2
 ·refine List.pairwise_append.2 ⟨hap.1,List.pairwise_cons.2 ⟨λq hq i hi=>hnew q (.inr hq) i hi,hap2.2⟩,?_⟩
  intro q hq r hr i hi
  rcases List.mem_cons.1 hr with hr | hr
  ·subst hr;exact λhf=>hnew q (.inl hq) i hf hi
  ·exact hap.2.2 q hq r (by simp[hr]) i hi
 ·intro q hq i hi
  rcases List.mem_append.1 hq with hq | hq
  ·exact h.ef q (hoth q (.inl hq)).1 i hi
  ·rcases List.mem_cons.1 hq with hq | hq
   ·subst hq
    rcases hn.2 i hi with hf | hf
    ·exact h.ef p hmem i hf
    ·have h1:=h.lt e (.inl rfl)
     refine⟨by omega,λhv=>?_⟩
     have:=h.lt i (.inr (.inl hv))
     omega
   ·exact h.ef q (hoth q (.inr hq)).1 i hi
theorem RFoot.one{w:World}{e:Nat}{v:Value}{l1 l2:List (RB×RSer)}{p:RB×RSer}{b':RB}{x':RSer}(hn:p.1.next b' w.heap.size)(i:Nat)(hi:RFoot e v (l1++(b',x')::l2) i):
  RFoot e v (l1++p::l2) i\/w.heap.size<=i:=by
 rcases hi with hi | hi | ⟨q,hq,hi⟩
 ·exact .inl (.inl hi)
 ·exact .inl (.inr (.inl hi))
 ·rcases List.mem_append.1 hq with hq | hq
  ·exact .inl (.inr (.inr ⟨q,by simp[hq],hi⟩))
  ·rcases List.mem_cons.1 hq with hq | hq
   ·subst hq
    rcases hn.2 i hi with hf | hf
    ·exact .inl (.inr (.inr ⟨p,by simp,hf⟩))
    ·exact .inr hf
   ·exact .inl (.inr (.inr ⟨q,by simp[hq],hi⟩))
theorem qLg{ps:List (RB×RSer)}{id:Int}{p:RB×RSer}(h:qB2 ps id=some p): ∃l1 l2,ps=l1++p::l2/\∀y:RSer,qL0 (ps.map (·.2)) id y=l1.map (·.2)++y::l2.map (·.2):=by
 obtain⟨hp,l1,l2,he,hn⟩:=List.find?_eq_some_iff_append.1 h
 refine⟨l1,l2,he,λy=>?_⟩
 subst he
 clear h
 induction l1 with
 | nil=>simp[qL0,hp]
 | cons a l ih =>
  have ha:(a.2.id==id)=false:=by simpa using hn a (by simp)
  simp only[List.cons_append,List.map_cons,qL0,ha]
  rw[ih (λb hb=>hn b (by simp[hb]))]
  rfl
theorem qE0(ps:List (RB×RSer))(id:Int): qI2 (ps.map (·.2)) id=(qB2 ps id).map (·.2):=by
 unfold qI2 qB2
 induction ps with
 | nil=>rfl
 | cons a l ih =>
  simp only[List.map_cons,List.find?_cons]
  cases (a.2.id==id) with
  | true=>rfl
  | false=>exact ih
def qIi(w:World)(e:Nat)(v:Value)(ps:List (RB×RSer))(s':RWS)(w':World): Prop :=
 ∃v' ps',RWRep w' e v' s'.clock s'.ticks ps'/\ps'.map (·.2)=s'.xs/\Keeps (RFoot e v ps) w w'/\(∀i,RFoot e v' ps' i->RFoot e v ps i\/w.heap.size<=i)
theorem qFu{w w':World}{e:Nat}{v:Value}{clock ticks:Int}{ps:List (RB×RSer)}(h:RWRep w e v clock ticks ps)(hk:Keeps (λ_=>False) w w'): qIi w e v ps ⟨clock,ticks,ps.map (·.2)⟩ w' :=
 ⟨v,ps,h.still hk,rfl,hk.mono (λ_ _ h=>h.elim),λ_ hi=>.inl hi⟩
theorem qSg(b:RB)(y:RSer)(nv:Value)(its:List RIt): (qDi b y).set 21 nv=qDi ⟨b.s,nv,b.ev⟩ { y with items:=its }:=rfl
theorem qLh(b:RB)(y:RSer)(nv:Value)(evs:List REv): (qDi b y).set 22 nv=qDi ⟨b.s,b.iv,nv⟩ { y with events:=evs }:=rfl
theorem zB7{w w1:World}{B:Obj}{b:RB}{y:RSer}{z:RIt}{gg n cap':Nat}{nv:Value}(h:RRep w b y)(hn:y.items.length=n)(hnv:nv=.slice (some ⟨gg,0,none⟩) (n+1) cap')(hown1:w1.ownsRow 0 155 5 nv (n+1) (qE7 y.items++z.cells))(hgrow:(w.alloc B).drew.grownBy w1 b.iv.ownBlock)(hat:b.iv.ownBlock=some gg\/gg=w.heap.size+1):
  RRep (w1.setCell ⟨b.s,21,none⟩ nv) ⟨b.s,nv,b.ev⟩ { y with items:=y.items++[z] }/\Keeps b.foot w (w1.setCell ⟨b.s,21,none⟩ nv)/\b.next ⟨b.s,nv,b.ev⟩ w.heap.size:=by
 have hnb:nv.ownBlock=some gg:=by rw[hnv];rfl
 have hk1:Keeps (λi=>b.iv.ownBlock=some i) w w1:=(((Keeps.refl _ w).alloc B).drew).grown hgrow (λk hk=>Or.inl hk)
 have hk2:Keeps (λi=>i=b.s) w1 (w1.setCell ⟨b.s,21,none⟩ nv):=(Keeps.refl (λi=>i=b.s) w1).setCell (p:=⟨b.s,21,none⟩) (Or.inl rfl) _
 have hsl:=h.blk.lt
 have hgs:gg≠b.s:=by
  rcases hat with h1 | h1
  ·intro he;exact h.si (by rw[h1,he])
  ·omega
 refine⟨⟨?_,?_,?_,?_,h.se,?_⟩,?_,rfl,?_⟩
 ·have:=(h.blk.keeps hk1 (λhh=>h.si hh)).setCell 21 nv
  rw[qSg b y nv (y.items++[z])]at this
  exact this
 ·have h2:=qAf hown1 hk2 (λi hi hh=>by rw[hnb]at hi;injection hi with hi;omega)
  show World.ownsRow _ 0 155 5 nv (y.items++[z]).length (qE7 (y.items++[z]))
  rw[List.length_append,hn]
  have:qE7 (y.items++[z])=qE7 y.items++z.cells:=by simp[qE7]
  rw[this];exact h2
 ·exact qAf (qAf h.evs hk1 (λi hi hh=>h.ie i hh hi)) hk2 (λi hi hh=>h.se (by rw[<-hh];exact hi))
 ·show nv.ownBlock≠some b.s
  rw[hnb];intro hh;injection hh with hh;exact hgs hh
 ·intro i hi hh
  have hi':gg=i:=by have:nv.ownBlock=some i:=hi;rw[hnb]at this;injection this
  have hel:=(h.evs.lt i hh).2
  rcases hat with h1 | h1
  ·exact h.ie i (by rw[h1,hi']) hh
  ·omega
 ·exact(hk1.mono (M':=b.foot) (λi _ hh=>.inr (.inl hh))).trans hk2 (λi hi _=>.inl hi)
 ·intro i hi
  rcases hi with hi | hi | hi
  ·exact .inl (.inl hi)
  ·have hi':gg=i:=by have:nv.ownBlock=some i:=hi;rw[hnb]at this;injection this
   rcases hat with h1 | h1
   ·exact .inl (.inr (.inl (by rw[h1,hi'])))
   ·exact .inr (by omega)
  ·exact .inl (.inr (.inr hi))
theorem zB4{w w1:World}{B:Obj}{b:RB}{y:RSer}{z:REv}{gg n cap':Nat}{nv:Value}(h:RRep w b y)(hn:y.events.length=n)(hnv:nv=.slice (some ⟨gg,0,none⟩) (n+1) cap')(hown1:w1.ownsRow 0 159 4 nv (n+1) (qF2 y.events++z.cells))(hgrow:(w.alloc B).drew.grownBy w1 b.ev.ownBlock)(hat:b.ev.ownBlock=some gg\/gg=w.heap.size+1):
  RRep (w1.setCell ⟨b.s,22,none⟩ nv) ⟨b.s,b.iv,nv⟩ { y with events:=y.events++[z] }/\Keeps b.foot w (w1.setCell ⟨b.s,22,none⟩ nv)/\b.next ⟨b.s,b.iv,nv⟩ w.heap.size:=by
 have hnb:nv.ownBlock=some gg:=by rw[hnv];rfl
 have hk1:Keeps (λi=>b.ev.ownBlock=some i) w w1:=(((Keeps.refl _ w).alloc B).drew).grown hgrow (λk hk=>Or.inl hk)
 have hk2:Keeps (λi=>i=b.s) w1 (w1.setCell ⟨b.s,22,none⟩ nv):=(Keeps.refl (λi=>i=b.s) w1).setCell (p:=⟨b.s,22,none⟩) (Or.inl rfl) _
 have hsl:=h.blk.lt
 have hgs:gg≠b.s:=by
  rcases hat with h1 | h1
  ·intro he;exact h.se (by rw[h1,he])
  ·omega
 refine⟨⟨?_,?_,?_,h.si,?_,?_⟩,?_,rfl,?_⟩
 ·have:=(h.blk.keeps hk1 (λhh=>h.se hh)).setCell 22 nv
  rw[qLh b y nv (y.events++[z])]at this
  exact this
 ·exact qAf (qAf h.its hk1 (λi hi hh=>h.ie i hi hh)) hk2 (λi hi hh=>h.si (by rw[<-hh];exact hi))
 ·have h2:=qAf hown1 hk2 (λi hi hh=>by rw[hnb]at hi;injection hi with hi;omega)
  show World.ownsRow _ 0 159 4 nv (y.events++[z]).length (qF2 (y.events++[z]))
  rw[List.length_append,hn]
  have:qF2 (y.events++[z])=qF2 y.events++z.cells:=by simp[qF2]
  rw[this];exact h2
 ·show nv.ownBlock≠some b.s
  rw[hnb];intro hh;injection hh with hh;exact hgs hh
 ·intro i hi hh
  have hi':gg=i:=by have:nv.ownBlock=some i:=hh;rw[hnb]at this;injection this
  have hel:=(h.its.lt i hi).2
  rcases hat with h1 | h1
  ·exact h.ie i hi (by rw[h1,hi'])
  ·omega
 ·exact(hk1.mono (M':=b.foot) (λi _ hh=>.inr (.inr hh))).trans hk2 (λi hi _=>.inl hi)
 ·intro i hi
  rcases hi with hi | hi | hi
  ·exact .inl (.inl hi)
  ·exact .inl (.inr (.inl hi))
  ·have hi':gg=i:=by have:nv.ownBlock=some i:=hi;rw[hnb]at this;injection this
   rcases hat with h1 | h1
   ·exact .inl (.inr (.inr (by rw[h1,hi'])))
   ·exact .inr (by omega)
theorem qY6{w:World}{b:RB}{y:RSer}{g cap:Nat}(h:RRep w b y)(hv:b.iv=.slice (some ⟨g,0,none⟩) y.items.length cap)(k:Nat)(hk:k<y.items.length)(t:Int):
  RRep (w.setCell ⟨g,k*5+4,none⟩ (.int .i64 t)) b { y with items:=qB0 y.items k t }/\Keeps b.foot w (w.setCell ⟨g,k*5+4,none⟩ (.int .i64 t)):=by
 have hg:b.iv.ownBlock=some g:=by rw[hv];rfl
 have hk1:Keeps (λi=>i=g) w (w.setCell ⟨g,k*5+4,none⟩ (.int .i64 t)):=(Keeps.refl (λi=>i=g) w).setCell (p:=⟨g,k*5+4,none⟩) (Or.inl rfl) _
 have hgs:g≠b.s:=λhe=>h.si (by rw[hg,he])
 refine⟨⟨h.blk.keeps hk1 (λhh=>hgs hh.symm),?_,qAf h.evs hk1 (λi hi hh=>h.ie g hg (by rw[<-hh];exact hi)),h.si,h.se,h.ie⟩,hk1.mono (λi _ hh=>.inr (.inl (by rw[hg,hh])))⟩
 have h1:=h.its
 rw[hv]at h1
 have h2:=qXm h1 (k*5+4) (.int .i64 t)
 rw[qVx _ _ hk]at h2
 show World.ownsRow _ 0 155 5 b.iv (qB0 y.items k t).length (qE7 (qB0 y.items k t))
 rw[hv,show(qB0 y.items k t).length=y.items.length by simp[qB0]]
 exact h2
theorem zCl{w:World}{b:RB}{y:RSer}(h:RRep w b y)(c:Nat)(u:Int):
  RRep (w.setCell ⟨b.s,23+c,none⟩ (.int .i64 u)) b { y with ref:=y.ref.set c u }/\Keeps b.foot w (w.setCell ⟨b.s,23+c,none⟩ (.int .i64 u)):=by
 have hk1:Keeps (λi=>i=b.s) w (w.setCell ⟨b.s,23+c,none⟩ (.int .i64 u)):=(Keeps.refl (λi=>i=b.s) w).setCell (p:=⟨b.s,23+c,none⟩) (Or.inl rfl) _
 refine⟨⟨?_,qAf h.its hk1 (λi hi hh=>h.si (by rw[<-hh];exact hi)),qAf h.evs hk1 (λi hi hh=>h.se (by rw[<-hh];exact hi)),h.si,h.se,h.ie⟩,hk1.mono (λi _ hh=>.inl hh)⟩
 have:=h.blk.setCell (23+c) (.int .i64 u)
 have h1:(qDi b y).set (23+c) (.int .i64 u)=qDi b { y with ref:=y.ref.set c u }:=by
  have h1:(qDi b y).set (23+c) (.int .i64 u)=.int .i64 y.id::y.c.vals (b.iv::b.ev::(y.ref.map (.int .i64 ·)).set c (.int .i64 u)):=by
   rw[Nat.add_comm];rfl
  rw[h1]
  unfold qDi
  simp only
  rw[List.map_set]
 rw[h1]at this
 exact this
end
section
open Go.RowKit
attribute [local go_sem ↓] qAd qAe
attribute [local go_sem] qAi qAj qAc qAb qAm qAn qAg qAh qAk qAo
theorem zCs: (Tryz.prog.info? 155).map (λi=>(i.zero,i.size,i.bytes))=some (some (.agg #[.int .i64 0,.int .i64 0,.int .i64 0,.int .i64 0,.int .i64 0]),5,40):=by kernel_rfl
theorem qK7(y:RSer)(clock:Int)(o:OpM): 0<=qB6 y clock o/\qB6 y clock o<=11:=by
 unfold qB6
 repeat (first | omega | split)
theorem zDe(e:Nat)(v:Value)(clock ticks:Int)(ps:List (RB×RSer))(o:OpM)(w:World)(h:RWRep w e v clock ticks ps)(hl:ps.length<=1000)(hf:qB2 ps o.id=none):
  Calls Tryz.prog 85 #[.pointer (some ⟨e,0,none⟩),o.val] w λr w'=>r=.returned (.tuple #[.int .i64 0,.int .i64 2])/\qIi w e v ps ⟨clock,ticks,ps.map (·.2)⟩ w':=by
 have h1:o.cells[1]?=some (.int .i64 o.id):=rfl
 have HE:=hide h
 have hk0:Keeps (λ_=>False) w (w.alloc (.cells o.cells.toArray 40)):=(Keeps.refl (λ_=>False) w).alloc _
 have HE0:=hide (h.still hk0)
 have HK0:=hide hk0
 clear h hk0
 unfold OpM.val
 go_enter Tryz.func85,Tryz.ntmps85
 go_wp2_with fail
 generalize w.alloc (.cells o.cells.toArray 40)=w0 at *
 refine(qCg e v clock ticks o.id ps w0 (uh HE0) hl).mono ?_
 rintro r w1 ⟨rfl,hw1⟩
 rw[hw1,hf]
 clear hw1 w1
 unfold qEh
 go_wp2
 go_ret2
 exact⟨rfl,qFu (uh HE) (uh HK0)⟩
theorem qZd(n:Int)(e:Nat)(v:Value)(clock ticks:Int)(ps:List (RB×RSer))(o:OpM)(w:World)(h:RWRep w e v clock ticks ps)(hi:RWInv n clock ticks (ps.map (·.2)))(hn:n<1152921504606846976)(p:RB×RSer)(hf:qB2 ps o.id=some p)(hr:qB6 p.2 clock o≠0):
  Calls Tryz.prog 85 #[.pointer (some ⟨e,0,none⟩),o.val] w λr w'=>r=.returned (.tuple #[.int .i64 0,.int .i64 (qB6 p.2 clock o)])/\qIi w e v ps ⟨clock,ticks,qL0 (ps.map (·.2)) o.id (zBu p.2 (qB6 p.2 clock o).toNat)⟩ w':=by
 have hmem:p∈ps:=List.mem_of_find?_eq_some hf
 have HM:=hide hmem
 have hip:=hi.sers p.2 (List.mem_map_of_mem hmem)
 have HIP:=hide hip
 have hl:ps.length<=1000:=by have:=hi.six;rw[List.length_map]at this;omega
 have h1:o.cells[1]?=some (.int .i64 o.id):=rfl
 have HE:=hide h
 have hk0:Keeps (λ_=>False) w (w.alloc (.cells o.cells.toArray 40)):=(Keeps.refl (λ_=>False) w).alloc _
 have HO0:=hide (show Blk (w.alloc (.cells o.cells.toArray 40)) w.heap.size o.cells 40 from Blk.new w o.cells 40)
 have HE0:=hide (h.still hk0)
 have HK0:=hide hk0
 obtain⟨hrr0,hrr1⟩:=qK7 p.2 clock o
 have hc0:=hi.c0
 have hc1:=hi.c1
 have HF:=hide hf
 clear h hk0 hip hmem hi hf
 unfold OpM.val
 go_enter Tryz.func85,Tryz.ntmps85
 go_wp2_with fail
 generalize w.alloc (.cells o.cells.toArray 40)=w0 at *
 generalize hob:w.heap.size=ob at *
 have HOB:=hide hob
 clear hob
 refine(qCg e v clock ticks o.id ps w0 (uh HE0) hl).mono ?_
 rintro r w1 ⟨rfl,hw1⟩
 rw[hw1,uh HF]
 clear hw1 w1
 unfold qEh
 obtain⟨hv0,hh0⟩:=qA4 (uh HO0) 26 rfl
 go_wp2_with fail
 refine(qJy n e clock p.1 p.2 o w0 ((uh HE0).reps p (uh HM)) (uh HIP) (by omega) ((uh HE0).blk.cell rfl) hc0 hc1).mono ?_
 rintro r w1 ⟨rfl,hk1⟩
 have HE1:=hide ((uh HE0).still hk1)
 have HK1:=hide ((uh HK0).then hk1)
 clear hk1 hv0 hh0
 generalize hcd:qB6 p.2 clock o=cd at *
 have HCD:=hide hcd
 clear hcd
 obtain⟨c,rfl⟩:=Int.eq_ofNat_of_zero_le hrr0
 have hb:((c:Int) !=0)=true:=by simpa using hr
 have hR1:=(uh HE1).reps p (uh HM)
 have hrl:=(uh HIP).refl
 have hcl:c<p.2.ref.length:=by omega
 have hcell:w1.cell? ⟨p.1.s,23+c,none⟩=some (.int .i64 (qAu p.2.ref c)):=by
  refine hR1.blk.cell ?_
  have:(qDi p.1 p.2)[23+c]?=(p.2.ref.map (Value.int .i64 ·))[c]?:=by rw[Nat.add_comm];rfl
  rw[this,List.getElem?_map,List.getElem?_eq_getElem hcl]
  unfold qAu
  rw[List.getD_eq_getElem?_getD,List.getElem?_eq_getElem hcl];rfl
 have hfz:=hR1.blk.frozen
 have hbd:=(uh HIP).refn (qAu p.2.ref c) (by unfold qAu;rw[List.getD_eq_getElem?_getD,List.getElem?_eq_getElem hcl];exact List.getElem_mem _)
 obtain⟨hbd0,hbd1⟩:=hbd
 have HEN:=hide (zCl hR1 c (qAu p.2.ref c+1))
 have hc15:(c:Int)<15:=by omega
 clear hR1 hrl hcl
 generalize hra:qAu p.2.ref c=ra at *
 have HRA:=hide hra
 clear hra
 go_wp2_with fail
 go_region
 go_wp2
 go_ret2
 obtain⟨hR2,hk2⟩:=uh HEN
 refine⟨by rw[uh HCD];rfl,?_⟩
 rw[uh HCD,Int.toNat_natCast]
 obtain⟨l1,l2,hps,hup⟩:=qLg (uh HF)
 subst hps
 have hnx:p.1.next p.1 w1.heap.size:=⟨rfl,λ_ hi=>.inl hi⟩
 have hrs:RRep (w1.setCell ⟨p.1.s,23+c,none⟩ (.int .i64 (ra+1))).drew p.1 (zBu p.2 c):=by
  have:=hR2.still ((Keeps.refl (λ_=>False) (w1.setCell ⟨p.1.s,23+c,none⟩ (.int .i64 (ra+1)))).drew)
  unfold zBu
  rw[uh HRA]
  exact this
 have hW:=(uh HE1).one hk2.drew hrs hnx
 refine⟨v,l1++(p.1,zBu p.2 c)::l2,hW,?_,?_,?_⟩
 ·simp only[hup]
  simp
 ·refine((uh HK1).mono (M':=RFoot e v (l1++p::l2)) (λ_ _ h=>h.elim)).trans hk2.drew (λi hi _=>.inr (.inr ⟨p,by simp,hi⟩))
 ·intro i hi
  rcases RFoot.one (w:=w1) hnx i hi with h | h
  ·exact .inl h
  ·exact .inr (by have:=(uh HK1).size;omega)
def qE2(w:World)(c:Int×List Int)(r:Ending)(w':World): Prop:=∃nv,r=.returned (qBu c.1 nv)/\w'.ownsRow w.heap.size 3 1 nv c.2.length (ints c.2)/\Keeps (λ_=>False) w w'
theorem qWl(e:Nat)(v:Value)(clock ticks:Int)(ps:List (RB×RSer))(o:OpM)(w:World)(h:RWRep w e v clock ticks ps)(hl:ps.length<=1000)(hf:qB2 ps o.id=none):
  Calls Tryz.prog 54 #[.pointer (some ⟨e,0,none⟩),o.val] w λr w'=>qE2 w (2,[]) r w':=by
 have h1:o.cells[1]?=some (.int .i64 o.id):=rfl
 have HE:=hide h
 clear h
 unfold OpM.val
 go_enter Tryz.func54,Tryz.ntmps54
 go_wp2_with fail
 have hk0:Keeps (λ_=>False) w ((w.alloc (.cells o.cells.toArray 40)).alloc (.cells #[.int .i64 0,.slice none 0 0,.string ⟨#[]⟩] 33)):=((Keeps.refl (λ_=>False) w).alloc _).alloc _
 have HR0:=hide (show Blk ((w.alloc (.cells o.cells.toArray 40)).alloc (.cells #[.int .i64 0,.slice none 0 0,.string ⟨#[]⟩] 33)) (w.heap.size+1) [.int .i64 0,.slice none 0 0,.string qAa] 33 from Blk.newAt (by simp) [_,_,_] 33)
 have HE0:=hide ((uh HE).still hk0)
 have HK0:=hide hk0
 clear hk0
 generalize(w.alloc (.cells o.cells.toArray 40)).alloc (.cells #[.int .i64 0,.slice none 0 0,.string ⟨#[]⟩] 33)=w0 at *
 generalize hob:w.heap.size=ob at *
 have HOB:=hide hob
 clear hob
 refine(qCg e v clock ticks o.id ps w0 (uh HE0) hl).mono ?_
 rintro r w1 ⟨rfl,hw1⟩
 rw[hw1,hf]
 clear hw1 w1
 unfold qEh
 go_wp2_with fail
 refine(qF3 2 w0).mono ?_
 rintro r w1 ⟨rfl,hk1⟩
 unfold qBu
 have HR1:=hide ((uh HR0).keeps hk1 (λh=>h))
 have HK1:=hide ((uh HK0).then hk1)
 clear hk1
 have r0:w1.cell? ⟨ob+1,0,none⟩=some (.int .i64 0):=(uh HR1).cell rfl
 have r1:w1.cell? ⟨ob+1,1,none⟩=some (.slice none 0 0):=(uh HR1).cell rfl
 have r2:w1.cell? ⟨ob+1,2,none⟩=some (.string qAa):=(uh HR1).cell rfl
 have rf:=(uh HR1).frozen
 go_wp2
 have hbf:=(((uh HR1).setCell 0 (.int .i64 2)).setCell 1 (.slice none 0 0)).setCell 2 (.string qAa)
 have HKF:=hide ((((Keeps.refl (λi=>i=ob+1) w1).setCell (p:=⟨ob+1,0,none⟩) (Or.inl rfl) (.int .i64 2)).setCell (p:=⟨ob+1,1,none⟩) (Or.inl rfl) (.slice none 0 0)).setCell (p:=⟨ob+1,2,none⟩) (Or.inl rfl) (.string qAa))
 have e9:(((w1.setCell ⟨ob+1,0,none⟩ (.int .i64 2)).setCell ⟨ob+1,1,none⟩ (.slice none 0 0)).setCell ⟨ob+1,2,none⟩ (.string ⟨#[]⟩))=(((w1.setCell ⟨ob+1,0,none⟩ (.int .i64 2)).setCell ⟨ob+1,1,none⟩ (.slice none 0 0)).setCell ⟨ob+1,2,none⟩ (.string qAa)):=rfl
 first | rw[e9] | skip
 generalize(((w1.setCell ⟨ob+1,0,none⟩ (.int .i64 2)).setCell ⟨ob+1,1,none⟩ (.slice none 0 0)).setCell ⟨ob+1,2,none⟩ (.string qAa))=w9 at *
 have q0:w9.cell? ⟨ob+1,0,none⟩=some (.int .i64 2):=hbf.cell rfl
 have q1:w9.cell? ⟨ob+1,1,none⟩=some (.slice none 0 0):=hbf.cell rfl
 have q2:w9.cell? ⟨ob+1,2,none⟩=some (.string qAa):=hbf.cell rfl
 refine bodyPost_ret (v:=qBu 2 (.slice none 0 0)) (by simp[results,Tryz.results54,go_sem,q0,q1,q2,qBu]) rfl ?_
 have hob:=uh HOB
 exact⟨_,rfl,World.ownsRow_nil _ _ _ _,(uh HK1).trans (uh HKF) (λi hi hlt=>by omega)⟩
theorem qT8(b:RB)(y:RSer)(c:Nat)(h:c<y.ref.length): (qDi b y)[23+c]?=some (.int .i64 (qAu y.ref c)):=by
 have:(qDi b y)[23+c]?=(y.ref.map (Value.int .i64 ·))[c]?:=by rw[Nat.add_comm];rfl
 rw[this,List.getElem?_map,List.getElem?_eq_getElem h]
 unfold qAu
 rw[List.getD_eq_getElem?_getD,List.getElem?_eq_getElem h];rfl
theorem qUg(n:Int)(e:Nat)(v:Value)(clock ticks:Int)(ps:List (RB×RSer))(o:OpM)(w:World)(h:RWRep w e v clock ticks ps)(hi:RWInv n clock ticks (ps.map (·.2)))(hn:n<1099511627776)(p:RB×RSer)(hf:qB2 ps o.id=some p):
  Calls Tryz.prog 54 #[.pointer (some ⟨e,0,none⟩),o.val] w λr w'=>qE2 w (0,(p.2.items.length:Int)::((p.2.items.length:Int)-(qA7 p.2.items).length)::qQu.map (qAu p.2.ref)) r w':=by
 have hmem:p∈ps:=List.mem_of_find?_eq_some hf
 have HM:=hide hmem
 have hip:=hi.sers p.2 (List.mem_map_of_mem hmem)
 have hil:=hip.items
 have hrl:=hip.refl
 have hl:ps.length<=1000:=by have:=hi.six;rw[List.length_map]at this;omega
 have h1:o.cells[1]?=some (.int .i64 o.id):=rfl
 have HE:=hide h
 have HF:=hide hf
 have hwl:=qCo p.2.items
 clear h hip hmem hi hf
 unfold OpM.val
 go_enter Tryz.func54,Tryz.ntmps54
 go_wp2_with fail
 have hk0:Keeps (λ_=>False) w ((w.alloc (.cells o.cells.toArray 40)).alloc (.cells #[.int .i64 0,.slice none 0 0,.string ⟨#[]⟩] 33)):=((Keeps.refl (λ_=>False) w).alloc _).alloc _
 have HR0:=hide (show Blk ((w.alloc (.cells o.cells.toArray 40)).alloc (.cells #[.int .i64 0,.slice none 0 0,.string ⟨#[]⟩] 33)) (w.heap.size+1) [.int .i64 0,.slice none 0 0,.string qAa] 33 from Blk.newAt (by simp) [_,_,_] 33)
 have HE0:=hide ((uh HE).still hk0)
 have HK0:=hide hk0
 clear hk0
 generalize(w.alloc (.cells o.cells.toArray 40)).alloc (.cells #[.int .i64 0,.slice none 0 0,.string ⟨#[]⟩] 33)=w0 at *
 generalize hob:w.heap.size=ob at *
 have HOB:=hide hob
 clear hob
 refine(qCg e v clock ticks o.id ps w0 (uh HE0) hl).mono ?_
 rintro r w1 ⟨rfl,hw1⟩
 rw[hw1,uh HF]
 clear hw1 w1
 unfold qEh
 have HP0:=hide ((uh HE0).reps p (uh HM))
 have hrf:∀c,c<15->w0.cell? ⟨p.1.s,23+c,none⟩=some (.int .i64 (qAu p.2.ref c)):=λc hc=>(uh HP0).blk.cell (qT8 p.1 p.2 c (by omega))
 have f0:=hrf 0 (by omega)
 have f1:=hrf 1 (by omega)
 have f2:=hrf 2 (by omega)
 have f3:=hrf 3 (by omega)
 have f4:=hrf 4 (by omega)
 have f5:=hrf 5 (by omega)
 have f6:=hrf 6 (by omega)
 have f7:=hrf 7 (by omega)
 have f8:=hrf 8 (by omega)
 have f9:=hrf 9 (by omega)
 have f10:=hrf 10 (by omega)
 have f11:=hrf 11 (by omega)
 have f12:=hrf 12 (by omega)
 have f13:=hrf 13 (by omega)
 have f14:=hrf 14 (by omega)
 clear hrf hrl
 simp only[Nat.reduceAdd]at f0 f1 f2 f3 f4 f5 f6 f7 f8 f9 f10 f11 f12 f13 f14
 have hsl:=(uh HP0).blk.lt
 go_wp2_with fail
 have hka:Keeps (λ_=>False) w0 (w0.alloc (.cells ((List.range 15).map λc=>Value.int .i64 (qAu p.2.ref c)).toArray 117)):=(Keeps.refl (λ_=>False) w0).alloc _
 have HA1:=hide (Blk.new w0 ((List.range 15).map λc=>Value.int .i64 (qAu p.2.ref c)) 117)
 have HR1:=hide ((uh HR0).keeps hka (λh=>h))
 have HP1:=hide ((uh HP0).still hka)
 have HK1:=hide ((uh HK0).then hka)
 have e1:((List.range 15).map λc=>Value.int .i64 (qAu p.2.ref c)).toArray=#[.int .i64 (qAu p.2.ref 0),.int .i64 (qAu p.2.ref 1),.int .i64 (qAu p.2.ref 2),.int .i64 (qAu p.2.ref 3),.int .i64 (qAu p.2.ref 4),.int .i64 (qAu p.2.ref 5),.int .i64 (qAu p.2.ref 6),.int .i64 (qAu p.2.ref 7),.int .i64 (qAu p.2.ref 8),.int .i64 (qAu p.2.ref 9),.int .i64 (qAu p.2.ref 10),.int .i64 (qAu p.2.ref 11),.int .i64 (qAu p.2.ref 12),.int .i64 (qAu p.2.ref 13),.int .i64 (qAu p.2.ref 14)]:=rfl
 rw[e1]at HA1 HR1 HP1 HK1
 clear e1 hka f0 f1 f2 f3 f4 f5 f6 f7 f8 f9 f10 f11 f12 f13 f14
 generalize w0.alloc (.cells #[.int .i64 (qAu p.2.ref 0),.int .i64 (qAu p.2.ref 1),.int .i64 (qAu p.2.ref 2),.int .i64 (qAu p.2.ref 3),.int .i64 (qAu p.2.ref 4),.int .i64 (qAu p.2.ref 5),.int .i64 (qAu p.2.ref 6),.int .i64 (qAu p.2.ref 7),.int .i64 (qAu p.2.ref 8),.int .i64 (qAu p.2.ref 9),.int .i64 (qAu p.2.ref 10),.int .i64 (qAu p.2.ref 11),.int .i64 (qAu p.2.ref 12),.int .i64 (qAu p.2.ref 13),.int .i64 (qAu p.2.ref 14)] 117)=w1 at *
 generalize hab:w0.heap.size=ab at *
 refine(qCa p.1 p.2 w1 (uh HP1) (by omega)).mono ?_
 rintro r w2 ⟨rfl,hw2⟩
 rw[hw2]
 clear hw2 w2
 have g5:w1.cell? ⟨ab,5,none⟩=some (.int .i64 (qAu p.2.ref 5)):=(uh HA1).cell rfl
 have g6:w1.cell? ⟨ab,6,none⟩=some (.int .i64 (qAu p.2.ref 6)):=(uh HA1).cell rfl
 have g7:w1.cell? ⟨ab,7,none⟩=some (.int .i64 (qAu p.2.ref 7)):=(uh HA1).cell rfl
 have g8:w1.cell? ⟨ab,8,none⟩=some (.int .i64 (qAu p.2.ref 8)):=(uh HA1).cell rfl
 have g9:w1.cell? ⟨ab,9,none⟩=some (.int .i64 (qAu p.2.ref 9)):=(uh HA1).cell rfl
 have g10:w1.cell? ⟨ab,10,none⟩=some (.int .i64 (qAu p.2.ref 10)):=(uh HA1).cell rfl
 have g11:w1.cell? ⟨ab,11,none⟩=some (.int .i64 (qAu p.2.ref 11)):=(uh HA1).cell rfl
 obtain⟨ia,icap,hiv,-,-,-⟩:=qCy (uh HP1).its
 have s21:w1.cell? ⟨p.1.s,21,none⟩=some (.slice ia p.2.items.length icap):=by rw[<-hiv];exact(uh HP1).blk.cell rfl
 have hobl:ob+1<w1.heap.size:=(uh HR1).lt
 have hszo:ob<=w1.heap.size:=by omega
 clear hiv
 obtain⟨i0,hi0,hz0,hz1,hz2⟩:=info_parts info3
 generalize hL:p.2.items.length=L at *
 generalize hW:(qA7 p.2.items).length=W at *
 have HL:=hide hL
 have HW:=hide hW
 have HAB:=hide hab
 clear hL hW hab
 have hwr:IntKind.i64.wrap ((L:Int)-(W:Int))=(L:Int)-(W:Int):=qIb (by omega) (by omega)
 go_wp2_with fail
 go_region
 have HO2:=hide (show(w1.alloc (.cells #[.int .i64 (L:Int),.int .i64 ((L:Int)-(W:Int))] 3)).drew.ownsRow ob 3 1 (.slice (some ⟨w1.heap.size,0,none⟩) 2 2) 2 [.int .i64 (L:Int),.int .i64 ((L:Int)-(W:Int))] from
    ⟨rfl,.inr ⟨w1.heap.size,2,#[.int .i64 (L:Int),.int .i64 ((L:Int)-(W:Int))],rfl,hszo,(Blk.new w1 [.int .i64 (L:Int),.int .i64 ((L:Int)-(W:Int))] 3).drew,by omega,by unfold maxLen;omega,rfl,rfl⟩⟩)
 have hkA:Keeps (λ_=>False) w1 (w1.alloc (.cells #[.int .i64 (L:Int),.int .i64 ((L:Int)-(W:Int))] 3)).drew:=((Keeps.refl (λ_=>False) w1).alloc _).drew
 have hszA:(w1.alloc (.cells #[.int .i64 (L:Int),.int .i64 ((L:Int)-(W:Int))] 3)).drew.heap.size=w1.heap.size+1:=by simp
 have HR2:=hide ((uh HR1).keeps hkA (λh=>h))
 have HA2:=hide ((uh HA1).keeps hkA (λh=>h))
 have HK2:=hide ((uh HK1).then hkA)
 clear hkA g5 g6 g7 g8 g9 g10 g11 s21 HR1 HA1
 generalize(w1.alloc (.cells #[.int .i64 (L:Int),.int .i64 ((L:Int)-(W:Int))] 3)).drew=w2 at *
 have g5:w2.cell? ⟨ab,5,none⟩=some (.int .i64 (qAu p.2.ref 5)):=(uh HA2).cell rfl
 have g6:w2.cell? ⟨ab,6,none⟩=some (.int .i64 (qAu p.2.ref 6)):=(uh HA2).cell rfl
 have g7:w2.cell? ⟨ab,7,none⟩=some (.int .i64 (qAu p.2.ref 7)):=(uh HA2).cell rfl
 have g8:w2.cell? ⟨ab,8,none⟩=some (.int .i64 (qAu p.2.ref 8)):=(uh HA2).cell rfl
 have g9:w2.cell? ⟨ab,9,none⟩=some (.int .i64 (qAu p.2.ref 9)):=(uh HA2).cell rfl
 have g10:w2.cell? ⟨ab,10,none⟩=some (.int .i64 (qAu p.2.ref 10)):=(uh HA2).cell rfl
 have g11:w2.cell? ⟨ab,11,none⟩=some (.int .i64 (qAu p.2.ref 11)):=(uh HA2).cell rfl
 generalize hs1:w1.heap.size=s1 at *
 have HS1:=hide hs1
 clear hs1
 generalize hLW:(L:Int)-(W:Int)=LW at *
 have HLW:=hide hLW
 clear hLW
 have HB:=hide (heap_alloc_new w2)
 have HSZ:=hide hszA
 have hsz2:ob+1<w2.heap.size:=by omega
 have hs1b:ob+1<s1:=by omega
 clear hszA
 go_wp2_with (at_builtin;refine wpList_append_lies _ rfl _ _ _ rfl ob 3 i0 _ 1 8 Tryz.underlying31 hi0 hz0 hz1 hz2 rfl (by omega) (.slice (some ⟨s1,0,none⟩) 2 2) 2 [.int .i64 (L:Int),.int .i64 LW] rfl ((uh HO2).alloc _) ⟨w2.heap.size,0,none⟩ 7 7 [.int .i64 (qAu p.2.ref 5),.int .i64 (qAu p.2.ref 6),.int .i64 (qAu p.2.ref 7),.int .i64 (qAu p.2.ref 8),.int .i64 (qAu p.2.ref 10),.int .i64 (qAu p.2.ref 9),.int .i64 (qAu p.2.ref 11)] rfl rfl (World.news_of_block (cs:=#[.int .i64 (qAu p.2.ref 5),.int .i64 (qAu p.2.ref 6),.int .i64 (qAu p.2.ref 7),.int .i64 (qAu p.2.ref 8),.int .i64 (qAu p.2.ref 10),.int .i64 (qAu p.2.ref 9),.int .i64 (qAu p.2.ref 11)]) (t:=3) (fr:=(0,0)) (uh HB _)) (by simp[Value.oneCell']) (by omega) (by unfold maxLen;omega) (by omega) (by simp;omega) (w2.heap.size+1) (by simp) ?_;intro gg cap' w3 hown1 hgrow hat hlt3;have HOW:=hide hown1;have HK3:=hide ((((Keeps.refl (λi=>i=s1) w2).alloc _).grown hgrow (λk hk=>.inl (by simpa[Value.ownBlock] using hk.symm))));have HGG:=hide (show gg=s1\/gg=w2.heap.size+1 by rcases hat with h | h;left;simpa[Value.ownBlock] using h.symm;right;exact h);have HR3:=hide ((uh HR2).keeps (uh HK3) (λh=>by omega));clear hown1 hgrow hat;have r0:w3.cell? ⟨ob+1,0,none⟩=some (.int .i64 0):=(uh HR3).cell rfl;have r1:w3.cell? ⟨ob+1,1,none⟩=some (.slice none 0 0):=(uh HR3).cell rfl;have r2:w3.cell? ⟨ob+1,2,none⟩=some (.string qAa):=(uh HR3).cell rfl;have rf:=(uh HR3).frozen)
 have hbf:=(((uh HR3).setCell 0 (.int .i64 0)).setCell 1 (.slice (some ⟨gg,0,none⟩) (2+7) cap')).setCell 2 (.string qAa)
 have HKF:=hide ((((Keeps.refl (λi=>i=ob+1) w3).setCell (p:=⟨ob+1,0,none⟩) (Or.inl rfl) (.int .i64 0)).setCell (p:=⟨ob+1,1,none⟩) (Or.inl rfl) (.slice (some ⟨gg,0,none⟩) (2+7) cap')).setCell (p:=⟨ob+1,2,none⟩) (Or.inl rfl) (.string qAa))
 have e9:(((w3.setCell ⟨ob+1,0,none⟩ (.int .i64 0)).setCell ⟨ob+1,1,none⟩ (.slice (some ⟨gg,0,none⟩) 9 cap')).setCell ⟨ob+1,2,none⟩ (.string ⟨#[]⟩))=(((w3.setCell ⟨ob+1,0,none⟩ (.int .i64 0)).setCell ⟨ob+1,1,none⟩ (.slice (some ⟨gg,0,none⟩) (2+7) cap')).setCell ⟨ob+1,2,none⟩ (.string qAa)):=rfl
 first | rw[e9] | skip
 generalize(((w3.setCell ⟨ob+1,0,none⟩ (.int .i64 0)).setCell ⟨ob+1,1,none⟩ (.slice (some ⟨gg,0,none⟩) (2+7) cap')).setCell ⟨ob+1,2,none⟩ (.string qAa))=w9 at *
 have q0:w9.cell? ⟨ob+1,0,none⟩=some (.int .i64 0):=hbf.cell rfl
 have q1:w9.cell? ⟨ob+1,1,none⟩=some (.slice (some ⟨gg,0,none⟩) (2+7) cap'):=hbf.cell rfl
 have q2:w9.cell? ⟨ob+1,2,none⟩=some (.string qAa):=hbf.cell rfl
 refine bodyPost_ret (v:=qBu 0 (.slice (some ⟨gg,0,none⟩) 9 cap')) (by simp[results,Tryz.results54,go_sem,q0,q1,q2,qBu]) rfl ?_
 have hob:=uh HOB
 have hsz:=uh HSZ
 have hs1:=uh HS1
 have hgg:=uh HGG
 refine⟨_,rfl,?_,?_⟩
 ·have h3:=qAf (uh HOW) (uh HKF) (λi hi h=>by
     have:gg=i:=by simpa[Value.ownBlock] using hi
     omega)
  rw[uh HL,uh HW,uh HLW,hob]
  exact h3
 ·have h2:Keeps (λi=>i=s1) w w3:=((uh HK2).mono (M':=λi=>i=s1) (λ_ _ h=>h.elim)).then (uh HK3)
  refine(h2.trans (M':=λi=>i=ob+1) (uh HKF) (λi hi hlt=>by omega)).mono (λi hi h=>by omega)
end
end Go.Proofs.YtahnliehdjncdaaGreatDoor
