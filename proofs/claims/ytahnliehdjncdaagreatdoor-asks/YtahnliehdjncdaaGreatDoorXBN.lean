import Derived.Deep.DeepCutAuto
import Derived.Deep.LoopGhost
import Derived.Test.YtahnliehdjncdaaGreatDoorXBI
import Derived.Test.YtahnliehdjncdaaGreatDoorXBG
set_option maxRecDepth 100000
set_option maxHeartbeats 16000000
namespace Go.Proofs.YtahnliehdjncdaaGreatDoor
section
open Go.RowKit
theorem qV9: (Tryz.prog.info? 159).map (λi=>(i.zero,i.size,i.bytes))=some (some (.agg #[.int .i64 0,.int .i64 0,.bool false,.int .i64 0]),4,32):=by kernel_rfl
theorem RWRep.clock'{w:World}{e:Nat}{v:Value}{clock ticks c' t':Int}{ps:List (RB×RSer)}(h:RWRep w e v clock ticks ps){w':World}(hk:Keeps (λi=>i=e) w w')(hb:Blk w' e [.int .i64 c',.int .i64 t',v] 111): RWRep w' e v c' t' ps :=
 ⟨hb,qAf h.row hk (λi hi hh=>h.ev (by rw[<-hh];exact hi)),λq hq=>(h.reps q hq).keeps hk (λi hi hh=>(h.ef q hq i hi).1 hh),h.apart,h.ev,h.ef⟩
theorem qHx{q b':RB}{wr w2 w3:World}(hN:q.next b' wr.heap.size)(hk:Keeps q.foot wr w2)(hk3:Keeps b'.foot w2 w3): Keeps q.foot wr w3 :=
 hk.trans hk3 (λi hi hlt=>by rcases hN.2 i hi with h | h;exact h;omega)
theorem qJc{q b' b'':RB}{wr w2:World}(hN:q.next b' wr.heap.size)(hk:Keeps q.foot wr w2)(hM:b'.next b'' w2.heap.size): q.next b'' wr.heap.size :=
 ⟨hM.1.trans hN.1,λi hi=>by
    rcases hM.2 i hi with h | h
    ·exact hN.2 i h
    ·exact .inr (by have:=hk.size;omega)⟩
theorem qO1(mark ticks:Int)(ht:ticks≠0)(f:Nat): ∀(f':Nat) (y:RSer),(qA7 y.items).length<f->(qA7 y.items).length<f'->qBf f y mark ticks=qBf f' y mark ticks:=by
 induction f with
 | zero=>intro f' y h;omega
 | succ f ih =>
  intro f' y h h'
  obtain⟨f',rfl⟩:∃k,f'=k+1:=⟨f'-1,by omega⟩
  unfold qBf
  rcases qFe y.items mark with ⟨h0,_⟩ | ⟨h1,h2,h3,_⟩
  ·rw[if_pos (by omega),if_pos (by omega)]
  ·rw[if_neg (by omega),if_neg (by omega)]
   have hw:=qHw ticks ht y.items _ h2 h3
   exact ih f' _ (by show(qA7 (qB0 _ _ _)).length<f;omega) (by show(qA7 (qB0 _ _ _)).length<f';omega)
theorem qGm(xs done:List RSer)(l1 l2:List (RB×RSer))(p:RB×RSer)(k:Nat)(hk:l1.length=k)(hd:done.length=k)(hx:k<xs.length)(h:(l1++p::l2).map (·.2)=done++xs.drop k)(b':RB)(y':RSer):
  (l1++(b',y')::l2).map (·.2)=(done++[y'])++xs.drop (k+1)/\xs.drop k=p.2::xs.drop (k+1):=by
 have hl:(l1.map (·.2)).length=done.length:=by simp;omega
 rw[List.map_append]at h
 obtain⟨h1,h2⟩:=List.append_inj h hl
 rw[List.drop_eq_getElem_cons hx,List.map_cons]at h2
 injection h2 with h3 h4
 refine⟨?_,?_⟩
 ·rw[List.map_append,List.map_cons,h1,h4]
  simp
 ·rw[List.drop_eq_getElem_cons hx,h3]
theorem qYa(qs:List (RB×RSer))(k:Nat)(h:k<qs.length): ∃l1 p l2,qs=l1++p::l2/\l1.length=k:=by
 refine⟨qs.take k,qs[k],qs.drop (k+1),?_,by simp;omega⟩
 rw[<-List.drop_eq_getElem_cons h,List.take_append_drop]
theorem qY4{w w1:World}{B:Obj}{b:RB}{y:RSer}{z:REv}{gg n cap':Nat}{nv:Value}(h:RRep w b y)(hn:y.events.length=n)(hnv:nv=.slice (some ⟨gg,0,none⟩) (n+1) cap')(hown1:w1.ownsRow 0 159 4 nv (n+1) (qF2 y.events++z.cells))(hgrow:(w.alloc B).grownBy w1 b.ev.ownBlock)(hat:b.ev.ownBlock=some gg\/gg=w.heap.size+1):
  RRep (w1.setCell ⟨b.s,22,none⟩ nv) ⟨b.s,b.iv,nv⟩ { y with events:=y.events++[z] }/\Keeps b.foot w (w1.setCell ⟨b.s,22,none⟩ nv)/\b.next ⟨b.s,b.iv,nv⟩ w.heap.size:=by
 have hnb:nv.ownBlock=some gg:=by rw[hnv];rfl
 have hk1:Keeps (λi=>b.ev.ownBlock=some i) w w1:=((Keeps.refl _ w).alloc B).grown hgrow (λk hk=>Or.inl hk)
 have hk2:Keeps (λi=>i=b.s) w1 (w1.setCell ⟨b.s,22,none⟩ nv):=(Keeps.refl (λi=>i=b.s) w1).setCell (p:=⟨b.s,22,none⟩) (Or.inl rfl) _
 have hsl:=h.blk.lt
 have hgs:gg≠b.s:=by
  rcases hat with h1 | h1
  ·intro he;exact h.se (by rw[h1,he])
  ·omega
 refine⟨⟨?_,?_,?_,h.si,?_,?_⟩,?_,rfl,?_⟩
 ·have:=(h.blk.keeps hk1 (λhh=>h.se hh)).setCell 22 nv
  rw[qLh b y nv (y.events++[z])]at this
  exact this
 ·exact qAf (qAf h.its hk1 (λi hi hh=>h.ie i hi hh)) hk2 (λi hi hh=>h.si (by rw[<-hh];exact hi))
 ·have h2:=qAf hown1 hk2 (λi hi hh=>by rw[hnb]at hi;injection hi with hi;omega)
  show World.ownsRow _ 0 159 4 nv (y.events++[z]).length (qF2 (y.events++[z]))
  rw[List.length_append,hn]
  have:qF2 (y.events++[z])=qF2 y.events++z.cells:=by simp[qF2]
  rw[this];exact h2
 ·show nv.ownBlock≠some b.s
  rw[hnb];intro hh;injection hh with hh;exact hgs hh
 ·intro i hi hh
  have hi':gg=i:=by have:nv.ownBlock=some i:=hh;rw[hnb]at this;injection this
  have hel:=(h.its.lt i hi).2
  rcases hat with h1 | h1
  ·exact h.ie i hi (by rw[h1,hi'])
  ·omega
 ·exact(hk1.mono (M':=b.foot) (λi _ hh=>.inr (.inr hh))).trans hk2 (λi hi _=>.inl hi)
 ·intro i hi
  rcases hi with hi | hi | hi
  ·exact .inl (.inl hi)
  ·exact .inl (.inr (.inl hi))
  ·have hi':gg=i:=by have:nv.ownBlock=some i:=hi;rw[hnb]at this;injection this
   rcases hat with h1 | h1
   ·exact .inl (.inr (.inr (by rw[h1,hi'])))
   ·exact .inr (by omega)
theorem qO4{nc tk b:Int}{y:RSer}{ys:List RSer}(h:y.c.kind≠1): qBa nc tk b (y::ys)=(qA6 nc tk y::(qBa nc tk b ys).1,(qBa nc tk b ys).2):=by
 simp only[qBa];rw[if_neg h]
theorem qIz{nc tk b:Int}{y:RSer}{ys:List RSer}(h:y.c.kind=1): qBa nc tk b (y::ys)=(qMa nc b (qA6 nc tk y)::(qBa nc tk (b-min (qEb nc (qA6 nc tk y)) b) ys).1,qEb nc (qA6 nc tk y)-min (qEb nc (qA6 nc tk y)) b+(qBa nc tk (b-min (qEb nc (qA6 nc tk y)) b) ys).2):=by
 simp only[qBa];rw[if_pos h]
theorem qYq(n:Int)(e:Nat)(v:Value)(clock ticks t bud:Int)(ps:List (RB×RSer))(w:World)(h:RWRep w e v clock ticks ps)(hi:RWInv n clock ticks (ps.map (·.2)))(hn:n<1099511627776)(t0:0<=t)(t1:t<=4611686018427387904)(u0:0<=bud)(u1:bud<=100):
  Calls Tryz.prog 86 #[.pointer (some ⟨e,0,none⟩),.int .i64 t,.int .i64 bud] w λr w'=>r=.returned (.int .i64 (qBa (qDw clock t) (ticks+1) bud (ps.map (·.2))).2)/\qIi w e v ps ⟨qDw clock t,ticks+1,(qBa (qDw clock t) (ticks+1) bud (ps.map (·.2))).1⟩ w':=by
 have HE:=hide h
 have HI:=hide hi
 have hc:w.cell? ⟨e,0,none⟩=some (.int .i64 clock):=h.blk.cell rfl
 have hfz:=h.blk.frozen
 have c0:=hi.c0
 have c1:=hi.c1
 have tk0:=hi.t0
 have tkn:=hi.tn
 clear h hi
 go_enter Tryz.func86,Tryz.ntmps86
 go_upto_if 19 with fail
 go_cut [] (λwx=>Hid (RWRep wx e v (qDw clock t) ticks ps)/\Hid (Keeps (λi=>i=e) w wx))
 case first =>
  by_cases hgt:clock<t
  ·go_wp2
   go_meet
   have hk:Keeps (λi=>i=e) w (w.setCell ⟨e,0,none⟩ (.int .i64 t)):=(Keeps.refl (λi=>i=e) w).setCell (p:=⟨e,0,none⟩) (Or.inl rfl) _
   refine⟨?_,hk⟩
   unfold qDw
   rw[if_pos hgt]
   exact(uh HE).clock' hk ((uh HE).blk.setCell 0 (.int .i64 t))
  ·go_wp2
   go_meet
   refine⟨?_,Keeps.refl _ _⟩
   unfold qDw
   rw[if_neg (by omega)]
   exact uh HE
 case rest =>
 obtain⟨HE1,HK1⟩:=hcut
 clear hc hfz
 have hnc:0<=qDw clock t/\qDw clock t<=4611686018427387904:=by unfold qDw;split <;> omega
 obtain⟨nc0,nc1⟩:=hnc
 have HCN:=hide (show clock<=qDw clock t by unfold qDw;split <;> omega)
 generalize hncd:qDw clock t=nc at *
 have HNC:=hide hncd
 clear hncd c0 c1 t0 t1
 have ht1:wc.cell? ⟨e,1,none⟩=some (.int .i64 ticks):=(uh HE1).blk.cell rfl
 have hfz:=(uh HE1).blk.frozen
 have hwr:IntKind.i64.wrap (ticks+1)=ticks+1:=qIb (by omega) (by omega)
 go_wp2_with fail
 have hk2:Keeps (λi=>i=e) wc (wc.setCell ⟨e,1,none⟩ (.int .i64 (ticks+1))):=(Keeps.refl (λi=>i=e) wc).setCell (p:=⟨e,1,none⟩) (Or.inl rfl) _
 have HE2:=hide ((uh HE1).clock' hk2 ((uh HE1).blk.setCell 1 (.int .i64 (ticks+1))))
 have HK2:=hide (((uh HK1).then hk2).mono (M':=RFoot e v ps) (λi _ hh=>.inl hh))
 clear hk2 ht1 hfz HE1 HK1 hwr
 generalize wc.setCell ⟨e,1,none⟩ (.int .i64 (ticks+1))=w1 at *
 have htk:ticks+1≠0:=by omega
 generalize htkd:ticks+1=tk at *
 have HTK:=hide htkd
 clear htkd
 obtain⟨va,vcap,hv,-,hva,-⟩:=qCy (uh HE2).row
 have hxl:(ps.map (·.2)).length=ps.length:=by simp
 generalize hm:ps.length=m at *
 have HM:=hide hm
 have HXL:=hide hxl
 have hm6:m<=6:=by have:=(uh HI).six;omega
 have HVA:=hide hva
 clear hm hva hxl
 subst hv
 go_loopg [2,7,8] (m) (λg a l i wr=>∃(k:Nat) (qs:List (RB×RSer)) (bu all:Int) (done:List RSer),g=m-k/\k<=m/\a=.int .i64 bu/\l=.int .i64 all/\i=.int .i64 k/\0<=bu/\bu<=100/\0<=all/\all<=k*4398046511104/\Hid (RWRep wr e (.slice va m vcap) nc tk qs)/\Hid (done.length=k)/\Hid (qs.map (·.2)=done++(ps.map (·.2)).drop k)/\Hid (qBa nc tk bud (ps.map (·.2))=(done++(qBa nc tk bu ((ps.map (·.2)).drop k)).1,all+(qBa nc tk bu ((ps.map (·.2)).drop k)).2))/\Hid (Keeps (RFoot e (.slice va m vcap) ps) w wr)/\Hid (∀i,RFoot e (.slice va m vcap) qs i->RFoot e (.slice va m vcap) ps i\/w.heap.size<=i))
 case atStart=>exact⟨0,ps,bud,0,[],by omega,by omega,rfl,rfl,rfl,u0,u1,by omega,by omega,HE2,rfl,rfl,by show _=_;simp,HK2,λi hi=>.inl hi⟩
 case round =>
  obtain⟨wo,hwo⟩:∃wo,wo=wr:=⟨wr,rfl⟩
  subst hwo
  obtain⟨go,hgo⟩:∃go,go=gk:=⟨gk,rfl⟩
  subst hgo
  obtain⟨k,qs,bu,all,done,hgk,hk,rfl,rfl,rfl,d0,d1,al0,al1,HEr,HDL,HX,HTA,HKr,HFr⟩:=hrel
  have hql:qs.length=m:=by
   have h1:=congrArg List.length (uh HX)
   have h2:=uh HXL
   have h3:=uh HDL
   rw[List.length_append,List.length_map,List.length_drop,h2,h3]at h1
   omega
  have HQL:=hide hql
  clear hql
  have e2:wo.cell? ⟨e,2,none⟩=some (.slice va m vcap):=(uh HEr).blk.cell rfl
  by_cases hlt:k<m
  ·obtain⟨l1,q,l2,hqs,hl1⟩:=qYa qs k (by rw[uh HQL];exact hlt)
   have HQS:=hide hqs
   have HL1:=hide hl1
   have hqm:q∈qs:=by rw[hqs];simp
   have HQM:=hide hqm
   have HRq:=hide ((uh HEr).reps q hqm)
   have hqx:q.2∈ps.map (·.2):=by
    have:=uh HX
    rw[hqs]at this
    have h2:=(qGm _ done l1 l2 q k hl1 (uh HDL) (by rw[uh HXL];exact hlt) this q.1 q.2).2
    exact List.mem_of_mem_drop (i:=k) (by rw[h2];simp)
   have HIq:=hide ((uh HI).sers q.2 hqx)
   have HCI:=hide (show q.2.c.kind=1->CInv nc (qA6 nc tk q.2) from λh1=>by
      obtain⟨la0,la1,_,_,_,_⟩:=(uh HIq).common
      exact qPv htk ((uh HI).cnt q.2 hqx h1) (uh HCN) (by have:=qDk (k:=1) (uh HIq).valid h1 rfl;omega) (by omega))
   obtain⟨la0,la1,_,_,_,_⟩:=(uh HIq).common
   obtain⟨g0,hg0⟩:=uh HVA (by omega)
   subst hg0
   have hck:wo.cell? ⟨g0,k,none⟩=some (.pointer (some ⟨q.1.s,0,none⟩)):=by
    obtain⟨a',cap',hv',-,-,hcells⟩:=qCy (uh HEr).row
    injection hv' with h1 h2 h3
    refine(hcells g0 h1.symm).1 k _ ?_
    unfold qIq
    rw[hqs,List.map_append,List.getElem?_append_right (by simp[hl1])]
    simp[hl1]
   have e0:wo.cell? ⟨e,0,none⟩=some (.int .i64 nc):=(uh HEr).blk.cell rfl
   have s2:wo.cell? ⟨q.1.s,2,none⟩=some (.int .i64 q.2.c.lag):=(uh HRq).blk.cell rfl
   have hnf:¬q.1.foot e:=λhh=>((uh HEr).ef q hqm e hh).1 rfl
   have HNF:=hide hnf
   have hil:(q.2.items.length:Int)<=n:=(uh HIq).items
   clear hqs hl1 hqm hqx hnf
   have hk0:(0:Int)<=(k:Int):=by omega
   have hkm:(k:Int)<(m:Int):=by omega
   go_wp2_with fail
   refine(qBy e q.1.s q.2.c.lag nc wo e0 s2 la0 la1 nc0 nc1).mono ?_
   rintro r w2 ⟨rfl,hk2⟩
   have HR2:=hide ((uh HRq).still hk2)
   have HKq2:=hide (hk2.mono (M':=q.1.foot) (λ_ _ h=>h.elim))
   have e0':=hk2.cell e0 (λh=>h)
   clear hk2
   go_wp2_with fail
   refine(qP7 e nc q.1 q.2 w2 (uh HR2) e0' (by omega) la0 la1 nc0 nc1).mono ?_
   rintro r w3 ⟨rfl,hk3⟩
   have HR3:=hide ((uh HR2).still hk3)
   have HKq3:=hide ((uh HKq2).trans hk3 (λ_ h _=>h.elim))
   clear hk3 e0' HR2 HKq2
   generalize hmk:nc-q.2.c.lag=mark at *
   have HMK:=hide hmk
   clear hmk
   have hwl:=qCo q.2.items
   have hevl:=(uh HIq).events
   have HST:=hide (show qA6 nc tk q.2=qBf ((qA7 q.2.items).length+1) q.2 mark tk from by
      unfold qA6
      rw[uh HMK]
      exact qO1 mark tk htk _ _ _ (by omega) (by omega))
   have hev0:(q.2.events.length:Int)+((qA7 q.2.items).length:Int)<=(q.2.items.length:Int)+n:=by omega
   clear hwl hevl
   go_wp2_with fail
   clear hck e0 s2 e2
   go_loopg [11] ((qA7 q.2.items).length) (λg kv w4=>∃(b':RB) (y':RSer),Hid (RRep w4 b' y')/\Hid (q.1.next b' wo.heap.size)/\Hid (Keeps q.1.foot wo w4)/\kv=.int .i64 (qE8 y'.items mark)/\(qA7 y'.items).length=g/\y'.items.length=q.2.items.length/\(y'.events.length:Int)+(g:Int)<=(q.2.items.length:Int)+n/\Hid (y'.c=q.2.c)/\Hid (qA6 nc tk q.2=qBf (g+1) y' mark tk))
   case atStart=>exact⟨q.1,q.2,HR3,⟨rfl,λ_ h=>.inl h⟩,HKq3,rfl,rfl,rfl,hev0,rfl,HST⟩
   case round =>
    obtain⟨w4,hw4⟩:∃w4,w4=wr:=⟨wr,rfl⟩
    subst hw4
    obtain⟨g,hg⟩:∃g,g=gk:=⟨gk,rfl⟩
    subst hg
    obtain⟨b1,y1,HR4,HN4,HK4,rfl,hg4,hil4,hev4,HC4,HS4⟩:=hrel
    have hbs:b1.s=q.1.s:=(uh HN4).1
    have HBS:=hide hbs
    have HB4:=hide (show Blk w4 q.1.s (qDi b1 y1) 119 by rw[<-hbs];exact(uh HR4).blk)
    clear hbs
    rcases qFe y1.items mark with ⟨hneg,_⟩ | ⟨hk1,hk2,hk3,hk4⟩
    ·have hs1:w4.cell? ⟨q.1.s,1,none⟩=some (.int .i64 q.2.c.kind):=by
      rw[<-uh HC4];exact(uh HB4).cell rfl
     rw[hneg]
     have HRES:=hide (show qA6 nc tk q.2=y1 from by rw[uh HS4];unfold qBf;rw[if_pos (by omega)])
     by_cases hkd:q.2.c.kind=1
     ·have HKD:=hide hkd
      rw[hkd]at hs1
      have hci:=uh HCI hkd
      rw[uh HRES]at hci
      have hvc:=qDk (k:=1) (uh HIq).valid hkd rfl
      have hcf:CfgC y1.c:=by rw[uh HC4];exact⟨hvc.1,hvc.2.1,hvc.2.2.1,hvc.2.2.2⟩
      obtain⟨-,-,w1',w2'⟩:=hvc
      have hlen:y1.events.length<=2199023255552:=by omega
      have HBK:=hide (λ(W:World) (hk:Keeps (λ_=>False) w4 W)=>(show Calls Tryz.prog 104 #[.pointer (some ⟨q.1.s,0,none⟩)] W λe w'=>∃v',e=.returned v'/\BW w' v' (qAq y1.c y1.events).reverse/\Keeps (λ_=>False) W w' by
           have:=qJx b1 y1 W ((uh HR4).still hk) hcf hci.ok (by omega)
           rw[uh HBS]at this
           exact this))
      have s6:w4.cell? ⟨q.1.s,6,none⟩=some (.int .i64 q.2.c.window):=by
       rw[<-uh HC4];exact(uh HB4).cell rfl
      have hbl:(qAq y1.c y1.events).length<=2199023255552:=by
       have h1:=qE6 hcf y1.events
       have h2:=qEu h1.one
       have h3:=h1.sum
       omega
      have hpl:=pastN_le (qAq y1.c y1.events) (mark-q.2.c.window)
      obtain⟨d,hd⟩:∃d:Int,d=(pastN (qAq y1.c y1.events) (mark-q.2.c.window):Int):=⟨_,rfl⟩
      have dd0:0<=d:=by omega
      have dd1:d<=2199023255552:=by omega
      have HDR:=hide (show qEb nc (qA6 nc tk q.2)=d by
         rw[uh HRES,hd]
         unfold qEb
         rw[uh HC4,uh HMK])
      have HD:=hide hd
      have HBL:=hide (show(qAq y1.c y1.events).length<=4398046511104 by omega)
      have hwr:IntKind.i64.wrap (mark-q.2.c.window)=mark-q.2.c.window:=by have:=uh HMK;rw[IntKind.wrap_i64];omega
      clear hd hpl hbl hcf hci
      go_wp2_with fail
      go_region_held3 (λw'=>w'.cell? ⟨q.1.s,6,none⟩=some (.int .i64 q.2.c.window))
       (first | (simp[*];done) | exact hkb.cell (by assumption) (λh=>h))
       (first | (go_at_call 104;refine(uh HBK _ (by exact(Keeps.refl _ _).drew)).mono ?_;rintro e w4b ⟨vb,rfl,hbw,hkb⟩) | (go_at_call 114;refine(qP1 _ (qAq y1.c y1.events) (mark-q.2.c.window) _ (by exact hbw) (uh HBL)).mono ?_;rintro e2 w5 ⟨rfl,rfl⟩;rw[<-uh HD]))
      all_goals
       have HKB:=hide (((Keeps.refl (λ_=>False) w4).drew).then hkb)
       have HR5:=hide ((uh HR4).still (uh HKB))
       have HK5:=hide ((uh HK4).trans (uh HKB) (λ_ h _=>h.elim))
       clear hbw hkb HBK s6 hs1 HR4 HK4 HB4 hwr
       have HB5:=hide (show Blk w5 q.1.s (qDi b1 y1) 119 by rw[<-uh HBS];exact(uh HR5).blk)
       have s22:w5.cell? ⟨q.1.s,22,none⟩=some b1.ev:=(uh HB5).cell rfl
       have hfz:=(uh HB5).frozen
       have hsl:=(uh HB5).lt
       have hown:=(uh HR5).evs
       obtain⟨ea,ecap,hevv⟩:∃a cap,b1.ev=.slice a y1.events.length cap:=by
        obtain⟨a,c,hh,_⟩:=qCy hown
        exact⟨a,c,hh⟩
       obtain⟨i0,hi0,hz0,hz1,hz2⟩:=info_parts qV9
       have HSE:=hide (show b1.ev.ownBlock≠some q.1.s by rw[<-uh HBS];exact(uh HR5).se)
       generalize hnn:y1.events.length=ne at *
       have HNN:=hide hnn
       clear hnn
       have HF2:Hid (∀B w6,(w5.alloc B).grownBy w6 b1.ev.ownBlock->w6.cell? ⟨q.1.s,22,none⟩=some b1.ev/\w6.frozen? ⟨q.1.s,22,none⟩=false):=λB w6 hg=>by
        have hb1:w6.heap[q.1.s]?=w5.heap[q.1.s]?:=by
         rw[hg.block q.1.s (by simp;omega) (λh=>(uh HSE) h.symm)]
         show(w5.alloc B).heap[q.1.s]?=_
         rw[Below.heap_alloc _ _ _ hsl]
        exact⟨(World.cell?_of_block (a:=⟨q.1.s,22,none⟩) hb1).trans s22,(World.frozen?_of_block (a:=⟨q.1.s,22,none⟩) hb1).trans (hfz 22)⟩
       have hnew:Hid (∀B,(w5.alloc B).heap[w5.heap.size]?=some B):=λB=>heap_alloc_new w5 B
       have HEND:=hide (λ(x:Int) (w6:World) (gg cap':Nat) (B:Obj) (hown1:w6.ownsRow 0 159 4 (.slice (some ⟨gg,0,none⟩) (ne+1) cap') (ne+1) (qF2 y1.events++(⟨0,0,true,x⟩:REv).cells)) (hgrow:(w5.alloc B).grownBy w6 b1.ev.ownBlock) (hat:b1.ev.ownBlock=some gg\/gg=w5.heap.size+1) =>
          qY4 (uh HR5) (uh HNN) rfl hown1 hgrow hat)
       rw[hevv]at s22 hown HF2
       have HVV:=hide hevv
       clear hevv
       by_cases hdb:bu<d
       ·have hmin:min d bu=bu:=by omega
        have hwb:IntKind.i64.wrap (bu-bu)=bu-bu:=by rw[IntKind.wrap_i64];omega
        have hwa:IntKind.i64.wrap (all+d)=all+d:=by rw[IntKind.wrap_i64];omega
        have hwl:IntKind.i64.wrap (all+d-bu)=all+d-bu:=by rw[IntKind.wrap_i64];omega
        have HMIN:=hide hmin
        clear hmin
        go_wp2_with (at_builtin;refine wpList_append_lies _ rfl _ _ _ rfl 0 159 i0 _ 4 32 Tryz.underlying116 hi0 hz0 hz1 hz2 rfl (by omega) (.slice ea ne ecap) ne (qF2 y1.events) rfl (hown.alloc _) ⟨w5.heap.size,0,none⟩ 1 1 [.int .i64 0,.int .i64 0,.bool true,.int .i64 bu] rfl rfl (World.news_of_block (cs:=#[.int .i64 0,.int .i64 0,.bool true,.int .i64 bu]) (t:=159) (fr:=(0,0)) (hnew.out _)) (by simp[Value.oneCell']) (by omega) (by unfold maxLen;omega) (by omega) (by omega) (w5.heap.size+1) (by simp) ?_;intro gg cap' w6 hown1 hgrow hat hlt6;have hcq:=(HF2.out _ _ hgrow).1;have hfq:=(HF2.out _ _ hgrow).2)
        all_goals
         rw[<-uh HVV]at hgrow hat
         have HE2:=uh HEND bu _ _ _ _ hown1 hgrow hat
         rw[uh HBS]at HE2
         obtain⟨hR6,hk6,hn6⟩:=HE2
         have HR6:=hide hR6
         have HK6:=hide (qHx (uh HN4) (uh HK5) hk6)
         have HN6:=hide (qJc (uh HN4) (uh HK5) (show b1.next ⟨q.1.s,b1.iv,.slice (some ⟨gg,0,none⟩) (ne+1) cap'⟩ w5.heap.size from⟨(uh HBS).symm,hn6.2⟩))
         clear hR6 hk6 hn6 hown1 hgrow hat hlt6 hcq hfq
         go_roundg (m-(k+1))
         case measure=>omega
         case rel =>
          have hEr:=uh HEr
          have hX:=uh HX
          have hQS:=uh HQS
          subst hQS
          obtain⟨hx1,hx2⟩:=qGm _ done l1 l2 q k (uh HL1) (uh HDL) (by rw[uh HXL];exact hlt) hX ((⟨q.1.s,b1.iv,.slice (some ⟨gg,0,none⟩) (ne+1) cap'⟩:RB)) (({ y1 with events:=y1.events++[⟨0,0,true,bu⟩] }:RSer))
          refine⟨k+1,l1++((⟨q.1.s,b1.iv,.slice (some ⟨gg,0,none⟩) (ne+1) cap'⟩:RB),({ y1 with events:=y1.events++[⟨0,0,true,bu⟩] }:RSer))::l2,bu-bu,all+d-bu,done++[({ y1 with events:=y1.events++[⟨0,0,true,bu⟩] }:RSer)],rfl,by omega,by first | rfl | go_num,by first | rfl | go_num,by go_num,by omega,by omega,by omega,by omega,hEr.one (uh HK6) (uh HR6) (uh HN6),by show _=_;rw[List.length_append,uh HDL];rfl,hx1,?_,?_,?_⟩
          ·show _=_
           rw[uh HTA,hx2]
           rw[qIz (uh HKD),uh HDR,uh HMIN]
           have haw:qMa nc bu (qA6 nc tk q.2)=({ y1 with events:=y1.events++[⟨0,0,true,bu⟩] }:RSer):=by
            unfold qMa
            rw[uh HDR,uh HMIN,uh HRES]
           rw[haw,List.append_assoc,List.singleton_append]
           refine Prod.ext rfl ?_
           show all+(d-bu+_)=all+d-bu+_
           omega
          ·refine(uh HKr).trans (uh HK6) (λi hi hlti=>?_)
           rcases uh HFr i (.inr (.inr ⟨q,by simp,hi⟩)) with h | h
           ·exact h
           ·omega
          ·intro i hi
           rcases RFoot.one (w:=wo) (uh HN6) i hi with h | h
           ·exact uh HFr i h
           ·exact .inr (by have:=(uh HKr).size;omega)
       ·have hmin:min d bu=d:=by omega
        have hwb:IntKind.i64.wrap (bu-d)=bu-d:=by rw[IntKind.wrap_i64];omega
        have hwa:IntKind.i64.wrap (all+d)=all+d:=by rw[IntKind.wrap_i64];omega
        have hwl:IntKind.i64.wrap (all+d-d)=all+d-d:=by rw[IntKind.wrap_i64];omega
        have HMIN:=hide hmin
        clear hmin
        go_wp2_with (at_builtin;refine wpList_append_lies _ rfl _ _ _ rfl 0 159 i0 _ 4 32 Tryz.underlying116 hi0 hz0 hz1 hz2 rfl (by omega) (.slice ea ne ecap) ne (qF2 y1.events) rfl (hown.alloc _) ⟨w5.heap.size,0,none⟩ 1 1 [.int .i64 0,.int .i64 0,.bool true,.int .i64 d] rfl rfl (World.news_of_block (cs:=#[.int .i64 0,.int .i64 0,.bool true,.int .i64 d]) (t:=159) (fr:=(0,0)) (hnew.out _)) (by simp[Value.oneCell']) (by omega) (by unfold maxLen;omega) (by omega) (by omega) (w5.heap.size+1) (by simp) ?_;intro gg cap' w6 hown1 hgrow hat hlt6;have hcq:=(HF2.out _ _ hgrow).1;have hfq:=(HF2.out _ _ hgrow).2)
        all_goals
         rw[<-uh HVV]at hgrow hat
         have HE2:=uh HEND d _ _ _ _ hown1 hgrow hat
         rw[uh HBS]at HE2
         obtain⟨hR6,hk6,hn6⟩:=HE2
         have HR6:=hide hR6
         have HK6:=hide (qHx (uh HN4) (uh HK5) hk6)
         have HN6:=hide (qJc (uh HN4) (uh HK5) (show b1.next ⟨q.1.s,b1.iv,.slice (some ⟨gg,0,none⟩) (ne+1) cap'⟩ w5.heap.size from⟨(uh HBS).symm,hn6.2⟩))
         clear hR6 hk6 hn6 hown1 hgrow hat hlt6 hcq hfq
         go_roundg (m-(k+1))
         case measure=>omega
         case rel =>
          have hEr:=uh HEr
          have hX:=uh HX
          have hQS:=uh HQS
          subst hQS
          obtain⟨hx1,hx2⟩:=qGm _ done l1 l2 q k (uh HL1) (uh HDL) (by rw[uh HXL];exact hlt) hX ((⟨q.1.s,b1.iv,.slice (some ⟨gg,0,none⟩) (ne+1) cap'⟩:RB)) (({ y1 with events:=y1.events++[⟨0,0,true,d⟩] }:RSer))
          refine⟨k+1,l1++((⟨q.1.s,b1.iv,.slice (some ⟨gg,0,none⟩) (ne+1) cap'⟩:RB),({ y1 with events:=y1.events++[⟨0,0,true,d⟩] }:RSer))::l2,bu-d,all+d-d,done++[({ y1 with events:=y1.events++[⟨0,0,true,d⟩] }:RSer)],rfl,by omega,by first | rfl | go_num,by first | rfl | go_num,by go_num,by omega,by omega,by omega,by omega,hEr.one (uh HK6) (uh HR6) (uh HN6),by show _=_;rw[List.length_append,uh HDL];rfl,hx1,?_,?_,?_⟩
          ·show _=_
           rw[uh HTA,hx2]
           rw[qIz (uh HKD),uh HDR,uh HMIN]
           have haw:qMa nc bu (qA6 nc tk q.2)=({ y1 with events:=y1.events++[⟨0,0,true,d⟩] }:RSer):=by
            unfold qMa
            rw[uh HDR,uh HMIN,uh HRES]
           rw[haw,List.append_assoc,List.singleton_append]
           refine Prod.ext rfl ?_
           show all+(d-d+_)=all+d-d+_
           omega
          ·refine(uh HKr).trans (uh HK6) (λi hi hlti=>?_)
           rcases uh HFr i (.inr (.inr ⟨q,by simp,hi⟩)) with h | h
           ·exact h
           ·omega
          ·intro i hi
           rcases RFoot.one (w:=wo) (uh HN6) i hi with h | h
           ·exact uh HFr i h
           ·exact .inr (by have:=(uh HKr).size;omega)
     ·have hkd1:(q.2.c.kind !=1)=true:=by simpa using hkd
      have HKD:=hide hkd
      go_wp2
      go_roundg (m-(k+1))
      case measure=>omega
      case rel =>
       have hEr:=uh HEr
       have hX:=uh HX
       have hQS:=uh HQS
       subst hQS
       obtain⟨hx1,hx2⟩:=qGm _ done l1 l2 q k (uh HL1) (uh HDL) (by rw[uh HXL];exact hlt) hX (b1) (y1)
       refine⟨k+1,l1++(b1,y1)::l2,bu,all,done++[y1],rfl,by omega,rfl,rfl,by go_num,by omega,by omega,by omega,by omega,hEr.one (uh HK4) (uh HR4) (uh HN4),by show _=_;rw[List.length_append,uh HDL];rfl,hx1,?_,?_,?_⟩
       ·show _=_
        rw[uh HTA,hx2]
        rw[qO4 (uh HKD),uh HRES,List.append_assoc,List.singleton_append]
       ·refine(uh HKr).trans (uh HK4) (λi hi hlti=>?_)
        rcases uh HFr i (.inr (.inr ⟨q,by simp,hi⟩)) with h | h
        ·exact h
        ·omega
       ·intro i hi
        rcases RFoot.one (w:=wo) (uh HN4) i hi with h | h
        ·exact uh HFr i h
        ·exact .inr (by have:=(uh HKr).size;omega)
    ·obtain⟨j,hj⟩:=Int.eq_ofNat_of_zero_le hk1
     rw[hj]at hk2 hk3 hk4
     rw[Int.toNat_natCast]at hk2 hk3 hk4
     have HJ:=hide hj
     rw[hj]
     clear hj hk1
     have HREL:=hide (show qA6 nc tk q.2=qBf g { y1 with items:=qB0 y1.items j tk,events:=y1.events++[⟨(rAt y1.items j).t,mark,false,0⟩] } mark tk from by
        rw[uh HS4]
        conv=>lhs;unfold qBf
        rw[if_neg (by rw[uh HJ];omega),uh HJ,Int.toNat_natCast])
     have hw1:=qHw tk htk y1.items j hk2 hk3
     obtain⟨ia,icap,hiv,-,hia,hicells⟩:=qCy (uh HR4).its
     obtain⟨gi,hgi⟩:=hia (by omega)
     obtain⟨hic,hif⟩:=hicells gi hgi
     subst hgi
     have hj4:w4.cell? ⟨gi,j*5+4,none⟩=some (.int .i64 (rAt y1.items j).tick):=hic _ _ (by rw[qBl _ _ _ hk2 (by omega)];rfl)
     have s21:w4.cell? ⟨q.1.s,21,none⟩=some (.slice (some ⟨gi,0,none⟩) y1.items.length icap):=by rw[<-hiv];exact(uh HB4).cell rfl
     have e1:w4.cell? ⟨e,1,none⟩=some (.int .i64 tk):=(uh HK4).cell ((uh HEr).blk.cell rfl) (uh HNF)
     have HTE:=hide (qY6 (uh HR4) hiv j hk2 tk)
     have hj0:(0:Int)<=(j:Int):=by omega
     have hjl:(j:Int)<(y1.items.length:Int):=by omega
     have HIV:=hide hiv
     clear hic hiv hicells hia
     go_wp2_with fail
     go_region
     obtain⟨hR5,hk5⟩:=uh HTE
     have hdr:Keeps (λ_=>False) (w4.setCell ⟨gi,j*5+4,none⟩ (.int .i64 tk)) (w4.setCell ⟨gi,j*5+4,none⟩ (.int .i64 tk)).drew:=(Keeps.refl (λ_=>False) _).drew
     have HR5:=hide (hR5.still hdr)
     have HK5:=hide (qHx (uh HN4) (uh HK4) hk5.drew)
     clear hR5 hk5 hdr hj4 s21 e1 hif HTE HR4 HK4 HB4
     generalize(w4.setCell ⟨gi,j*5+4,none⟩ (.int .i64 tk)).drew=w5 at *
     generalize hy5:({ y1 with items:=qB0 y1.items j tk }:RSer)=y5 at *
     have hyl:y5.items.length=y1.items.length:=by rw[<-hy5];simp[qB0]
     have hyt:(rAt y5.items j).t=(rAt y1.items j).t:=by
      rw[<-hy5]
      show(rAt (qB0 y1.items j tk) j).t=_
      rw[qCc _ _ (by simp[qB0];omega)]
      simp[qB0]
     have hye:y5.events=y1.events:=by rw[<-hy5]
     have hyc:y5.c=y1.c:=by rw[<-hy5]
     have hyw:(qA7 y5.items).length+1=g:=by rw[<-hy5,<-hg4];exact hw1
     have HY5:=hide hy5
     clear hy5 hw1
     have HRL:=hide (show qA6 nc tk q.2=qBf g { y5 with events:=y5.events++[⟨(rAt y5.items j).t,mark,false,0⟩] } mark tk from by
        rw[uh HREL,hyt,hye,<-uh HY5])
     have HB5:=hide (show Blk w5 q.1.s (qDi b1 y5) 119 by rw[<-uh HBS];exact(uh HR5).blk)
     have s21:w5.cell? ⟨q.1.s,21,none⟩=some (.slice (some ⟨gi,0,none⟩) y1.items.length icap):=by rw[<-uh HIV];exact(uh HB5).cell rfl
     have s22:w5.cell? ⟨q.1.s,22,none⟩=some b1.ev:=(uh HB5).cell rfl
     have hfz:=(uh HB5).frozen
     have hsl:=(uh HB5).lt
     have hown:=(uh HR5).evs
     have hjt:w5.cell? ⟨gi,j*5,none⟩=some (.int .i64 (rAt y5.items j).t):=by
      obtain⟨ia,icap',hiv',-,-,hicells⟩:=qCy (uh HR5).its
      rw[uh HIV]at hiv'
      injection hiv' with h1 h2 h3
      have:=(hicells gi h1.symm).1 (j*5+0) _ (by rw[qBl _ _ _ (by omega) (by omega)];rfl)
      exact this
     obtain⟨ea,ecap,hevv⟩:∃a cap,b1.ev=.slice a y5.events.length cap:=by
      obtain⟨a,c,hh,_⟩:=qCy hown
      exact⟨a,c,hh⟩
     obtain⟨i0,hi0,hz0,hz1,hz2⟩:=info_parts qV9
     have hevb:y5.events.length<=2199023255552:=by rw[hye];omega
     have HSE:=hide (show b1.ev.ownBlock≠some q.1.s by rw[<-uh HBS];exact(uh HR5).se)
     have HNE:=hide (show y5.events.length=y1.events.length by rw[hye])
     generalize hnn:y5.events.length=ne at *
     have HNN:=hide hnn
     have HYC:=hide hyc
     clear hnn hye hyt hyc
     generalize(rAt y5.items j).t=tj at *
     have HF2:Hid (∀B w6,(w5.alloc B).drew.grownBy w6 b1.ev.ownBlock->w6.cell? ⟨q.1.s,22,none⟩=some b1.ev/\w6.frozen? ⟨q.1.s,22,none⟩=false):=λB w6 hg=>by
      have hb1:w6.heap[q.1.s]?=w5.heap[q.1.s]?:=by
       rw[hg.block q.1.s (by simp;omega) (λh=>(uh HSE) h.symm)]
       show(w5.alloc B).heap[q.1.s]?=_
       rw[Below.heap_alloc _ _ _ hsl]
      exact⟨(World.cell?_of_block (a:=⟨q.1.s,22,none⟩) hb1).trans s22,(World.frozen?_of_block (a:=⟨q.1.s,22,none⟩) hb1).trans (hfz 22)⟩
     have hnew:Hid (∀B,(w5.alloc B).drew.heap[w5.heap.size]?=some B):=λB=>heap_alloc_new w5 B
     have HEND:=hide (λ(w6:World) (gg cap':Nat) (B:Obj) (hown1:w6.ownsRow 0 159 4 (.slice (some ⟨gg,0,none⟩) (ne+1) cap') (ne+1) (qF2 y5.events++(⟨tj,mark,false,0⟩:REv).cells)) (hgrow:(w5.alloc B).drew.grownBy w6 b1.ev.ownBlock) (hat:b1.ev.ownBlock=some gg\/gg=w5.heap.size+1) =>
        zB4 (uh HR5) (uh HNN) rfl hown1 hgrow hat)
     rw[hevv]at s22 hown HF2
     have HVV:=hide hevv
     have hjq:j<q.2.items.length:=by omega
     have hjqi:(j:Int)<(q.2.items.length:Int):=by omega
     clear hevv
     go_wp2_with fail
     go_region_law
      ((refine step_append_lies _ (by rfl) _ _ _ (by rfl) 0 159 i0 _ 4 32 Tryz.underlying116 hi0 hz0 hz1 hz2 rfl (by omega) (.slice ea ne ecap) ne (qF2 y5.events) (by rfl) ((hown.alloc _).drew)
            ⟨w5.heap.size,0,none⟩ 1 1 [.int .i64 tj,.int .i64 mark,.bool false,.int .i64 0] (by rfl) (by rfl) (World.news_of_block (cs:=#[.int .i64 tj,.int .i64 mark,.bool false,.int .i64 0]) (t:=159) (fr:=(0,0)) (hnew.out _)) (by simp[Value.oneCell'])
            (by omega) (by unfold maxLen;omega) (by omega) (by omega) (w5.heap.size+1) (by simp) ?_;intro gg cap' w6 hown1 hgrow hat hlt6;have hcq:=(HF2.out _ _ hgrow).1;have hfq:=(HF2.out _ _ hgrow).2))
     all_goals
      rw[<-uh HVV]at hgrow hat
      have HE2:=uh HEND _ _ _ _ hown1 hgrow hat
      rw[uh HBS]at HE2
      obtain⟨hR6,hk6,hn6⟩:=HE2
      have HR6:=hide hR6
      have HK6:=hide (qHx (uh HN4) (uh HK5) hk6)
      have HN6:=hide (qJc (uh HN4) (uh HK5) (show b1.next ⟨q.1.s,b1.iv,.slice (some ⟨gg,0,none⟩) (ne+1) cap'⟩ w5.heap.size from⟨(uh HBS).symm,hn6.2⟩))
      clear hR6 hk6 hn6 hown1 hgrow hat hlt6 hcq hfq
      generalize w6.setCell ⟨q.1.s,22,none⟩ (.slice (some ⟨gg,0,none⟩) (ne+1) cap')=w7 at *
      have e0:w7.cell? ⟨e,0,none⟩=some (.int .i64 nc):=(uh HK6).cell ((uh HEr).blk.cell rfl) (uh HNF)
      have hlc:y5.c.lag=q.2.c.lag:=by rw[uh HYC,uh HC4]
      go_wp2_with fail
      refine(qP7 e nc ⟨q.1.s,b1.iv,.slice (some ⟨gg,0,none⟩) (ne+1) cap'⟩ { y5 with events:=y5.events++[⟨tj,mark,false,0⟩] } w7 (uh HR6) e0 (by show y5.items.length<=_;omega) (by show 0<=y5.c.lag;omega) (by show y5.c.lag<=100;omega) nc0 nc1).mono ?_
      rintro r w8 ⟨rfl,hk8⟩
      have HR8:=hide ((uh HR6).still hk8)
      have HK8:=hide ((uh HK6).trans hk8 (λ_ h _=>h.elim))
      have hmk:nc-y5.c.lag=mark:=by rw[hlc];exact uh HMK
      rw[hmk]
      clear hk8 hmk e0
      go_wp2_with fail
      go_roundg (g-1)
      case measure=>omega
      case rel=>exact⟨_,_,HR8,HN6,HK8,rfl,by show(qA7 y5.items).length=g-1;omega,by show y5.items.length=_;omega,by show((y5.events++[_]).length:Int)+((g-1:Nat):Int)<=_;rw[List.length_append,uh HNN];have:=uh HNE;simp;omega,by show y5.c=_;rw[uh HYC];exact uh HC4,by rw[show g-1+1=g by omega];exact uh HRL⟩
  ·have hkm:k=m:=by omega
   subst hkm
   go_wp2
   go_ret
   have hdn:(ps.map (·.2)).drop k=[]:=List.drop_eq_nil_of_le (by rw[uh HXL];exact Nat.le_refl _)
   have hta:=uh HTA
   have hX:=uh HX
   rw[hdn]at hta hX
   simp only[qBa,List.append_nil,Int.add_zero]at hta hX
   rw[uh HNC,uh HTK,hta]
   exact⟨rfl,.slice va k vcap,qs,uh HEr,hX,uh HKr,uh HFr⟩
end
end Go.Proofs.YtahnliehdjncdaaGreatDoor
