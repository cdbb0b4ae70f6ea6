import Derived.Test.YtahnliehdjncdaaGreatDoorXAX
import Derived.Deep.LoopGhost
set_option maxRecDepth 100000
set_option maxHeartbeats 16000000
namespace Go.Proofs.YtahnliehdjncdaaGreatDoor
open Go.RowKit
attribute [local go_sem ↓] qAd qAe
attribute [local go_sem] qAi qAj qAb qAc qAm qAn qAh qAg qAk qAo
structure OpM where
 kind:Int
 id:Int
 a:Int
 b:Int
 c:Int
 cfg:Cfg
 bytes:ByteArray
def OpM.cells (o:OpM):List Value:=.int .i64 o.kind::.int .i64 o.id::.int .i64 o.a::.int .i64 o.b::.int .i64 o.c::o.cfg.vals [.string o.bytes]
def OpM.val (o:OpM):Value:=.agg o.cells.toArray
def qAa:ByteArray:=⟨#[]⟩
def ansV (code:Int) (v:Value):Value:=.agg #[.int .i64 code,v,.string qAa]
theorem qGv (code:Int) (w:World) :
  Calls Tryz.prog 49 #[.int .i64 code] w fun e w'=>e=.returned (ansV code (.slice none 0 0))∧Keeps (fun _=>False) w w':=by
 go_enter Tryz.func49,Tryz.ntmps49
 go_wp2
 refine bodyPost_ret (v:=ansV code (.slice none 0 0)) (by simp [results,Tryz.results49,go_sem,ansV];rfl) rfl ⟨rfl,?_⟩
 repeat (first | exact Keeps.refl _ _ | apply Keeps.alloc)
def ptrs (ps:List (SB×Ser)):List Value:=ps.map fun p=>.pointer (some ⟨p.1.s,0,none⟩)
structure ERep (w:World) (e:Nat) (v:Value) (clock:Int) (ps:List (SB×Ser)):Prop where
 blk:Blk w e [.int .i64 clock,v] 56
 row:w.ownsRow 0 73 1 v ps.length (ptrs ps)
 reps:∀ p,p∈ps→SRep w p.1 p.2
 apart:ps.Pairwise (fun p q=>∀ i,p.1.foot p.2.k i→¬ q.1.foot q.2.k i)
 ev:v.ownBlock≠some e
 ef:∀ p,p∈ps→∀ i,p.1.foot p.2.k i→i≠e∧v.ownBlock≠some i
def EFoot (e:Nat) (v:Value) (ps:List (SB×Ser)) (i:Nat):Prop:=i=e∨v.ownBlock=some i∨∃ p,p∈ps∧p.1.foot p.2.k i
theorem qPh {w:World} {v:Value} {n:Nat} {xs:List Value} (h:w.ownsRow 0 73 1 v n xs):(n=0∧(v=.slice none 0 0∨∃ g cap,v=.slice (some ⟨g,0,none⟩) 0 cap))∨∃ g cap,v=.slice (some ⟨g,0,none⟩) n cap∧∀ i u,xs[i]?=some u→w.cell? ⟨g,i,none⟩=some u:=by
 rcases h.2 with ⟨h1,h2⟩ | ⟨g,cap,cur,h1,_,h3,h4,h5,h6,h7⟩
 ·exact .inl ⟨h2,.inl h1⟩
 ·refine .inr ⟨g,cap,h1,fun i u hu=>?_⟩
  have hi:i<n:=by have:=(List.getElem?_eq_some_iff.1 hu).1;have:=h.1;omega
  have:cur[i]?=some u:=by
   rw [←h7] at hu
   rw [List.getElem?_take] at hu
   rw [if_pos (by omega)] at hu
   simpa using hu
  simp [World.cell?,h3,this]
def qEg (ps:List (SB×Ser)) (id:Int):Option (SB×Ser):=ps.find? (fun p=>p.2.id==id)
def qJ4:Option (SB×Ser)→Value
 | some p=>.pointer (some ⟨p.1.s,0,none⟩)
 | none=>.pointer none
theorem qEb (e:Nat) (v:Value) (clock id:Int) (ps:List (SB×Ser)) (w:World) (h:ERep w e v clock ps) (hl:ps.length≤1000) :
  Calls Tryz.prog 59 #[.pointer (some ⟨e,0,none⟩),.int .i64 id] w fun r w'=>r=.returned (qJ4 (qEg ps id))∧w'=w:=by
 have hc1:w.cell? ⟨e,1,none⟩=some v:=h.blk.cell rfl
 rcases qPh h.row with ⟨h0,hv⟩ | ⟨g,cap,hv,hcells⟩
 ·have hps:ps=[]:=List.length_eq_zero_iff.1 h0
  subst hps
  clear h h0
  rcases hv with hv | ⟨g,cap,hv⟩
  all_goals
   subst hv
   go_enter Tryz.func59,Tryz.ntmps59
   go_wp2
   go_loop [12] (fun i=>i=.int .i64 0) (fun _=>0)
   case atStart=>rfl
   case round =>
    subst hrel
    go_wp2
    go_ret
    exact ⟨rfl,rfl⟩
 ·subst hv
  have HC:=hide hcells
  have HS:=hide (show ∀ p,p∈ps→w.cell? ⟨p.1.s,0,none⟩=some (.int .i64 p.2.id) from fun p hp=>(h.reps p hp).blk.cell rfl)
  clear h hcells
  generalize hn:ps.length=n at *
  have HN:=hide hn
  clear hn
  go_enter Tryz.func59,Tryz.ntmps59
  go_wp2
  go_loop [12] (fun i=>∃ k:Nat,k≤n∧i=.int .i64 k∧Hid (qEg ps id=qEg (ps.drop k) id)) (fun i=>n-(intOf i).toNat)
  case atStart=>exact ⟨0,Nat.zero_le _,rfl,rfl⟩
  case round =>
   obtain ⟨k,hk,rfl,HE⟩:=hrel
   by_cases hlt:k<n
   ·obtain ⟨p,hp⟩:∃ p,ps[k]?=some p:=⟨ps[k]'(by rw [uh HN];exact hlt),List.getElem?_eq_getElem _⟩
    have hd:ps.drop k=p::ps.drop (k+1):=by
     rw [List.drop_eq_getElem_cons (by rw [uh HN];exact hlt)]
     rw [List.getElem?_eq_getElem (by rw [uh HN];exact hlt)] at hp
     cases hp;rfl
    have hck:w.cell? ⟨g,k,none⟩=some (.pointer (some ⟨p.1.s,0,none⟩)):=uh HC k _ (by unfold ptrs;rw [List.getElem?_map,hp];rfl)
    have hid:=uh HS p (List.mem_of_getElem? hp)
    have hk0:(0:Int)≤(k:Int):=by omega
    have hkn:(k:Int)<(n:Int):=by omega
    cases hb:(p.2.id==id)
    ·have HE':=hide (show qEg ps id=qEg (ps.drop (k+1)) id by rw [uh HE,hd];unfold qEg;rw [List.find?_cons];rw [hb])
     clear hd hp
     go_wp2
     go_round
     case rel=>exact ⟨k+1,by omega,by go_num,HE'⟩
     case measure=>simp [intOf];omega
    ·have HE':=hide (show qEg ps id=some p by rw [uh HE,hd];unfold qEg;rw [List.find?_cons];rw [hb])
     clear hd hp
     go_wp2
     go_ret
     exact ⟨by rw [uh HE'];rfl,rfl⟩
   ·have HE':=hide (show qEg ps id=none by rw [uh HE,List.drop_eq_nil_of_le (by rw [uh HN];omega)];rfl)
    go_wp2
    go_ret
    exact ⟨by rw [uh HE'];rfl,rfl⟩
end Go.Proofs.YtahnliehdjncdaaGreatDoor
namespace Go.Proofs.YtahnliehdjncdaaGreatDoor
open Go.RowKit
attribute [local go_sem ↓] qAd qAe
attribute [local go_sem] qAi qAj qAb qAc qAm qAn qAh qAg qAk qAo
theorem ERep.lt {w:World} {e:Nat} {v:Value} {clock:Int} {ps:List (SB×Ser)} (h:ERep w e v clock ps) (i:Nat) (hi:EFoot e v ps i):i<w.heap.size:=by
 rcases hi with hi | hi | ⟨p,hp,hi⟩
 ·subst hi;exact h.blk.lt
 ·exact (h.row.lt i hi).2
 ·exact (h.reps p hp).lt i hi
theorem qAf {M:Nat→Prop} {w w':World} {base:Nat} {t size:Nat} {v:Value} {n:Nat} {xs:List Value} (h:w.ownsRow base t size v n xs) (hk:Keeps M w w') (hn:∀ i,v.ownBlock=some i→¬ M i):w'.ownsRow base t size v n xs:=by
 refine ⟨h.1,?_⟩
 rcases h.2 with h2 | ⟨g,cap,cur,rfl,hb,hg,r⟩
 ·exact .inl h2
 ·exact .inr ⟨g,cap,cur,rfl,hb,by rw [hk.block g (Array.getElem?_eq_some_iff.1 hg).1 (hn g rfl)];exact hg,r⟩
theorem qEs {w:World} {base base':Nat} {t size:Nat} {v:Value} {n:Nat} {xs:List Value} (h:w.ownsRow base t size v n xs) (hb:base'≤base):w.ownsRow base' t size v n xs:=by
 refine ⟨h.1,?_⟩
 rcases h.2 with h2 | ⟨g,cap,cur,rfl,hbb,r⟩
 ·exact .inl h2
 ·exact .inr ⟨g,cap,cur,rfl,Nat.le_trans hb hbb,r⟩
theorem ERep.keeps {M:Nat→Prop} {w w':World} {e:Nat} {v:Value} {clock:Int} {ps:List (SB×Ser)} (h:ERep w e v clock ps) (hk:Keeps M w w') (hn:∀ i,EFoot e v ps i→¬ M i):ERep w' e v clock ps :=
 ⟨h.blk.keeps hk (hn _ (.inl rfl)),qAf h.row hk (fun i hi=>hn i (.inr (.inl hi))),fun p hp=>(h.reps p hp).keeps hk (fun i hi=>hn i (.inr (.inr ⟨p,hp,hi⟩))),h.apart,h.ev,h.ef⟩
theorem ERep.still {w w':World} {e:Nat} {v:Value} {clock:Int} {ps:List (SB×Ser)} (h:ERep w e v clock ps) (hk:Keeps (fun _=>False) w w'):ERep w' e v clock ps:=h.keeps hk (fun _ _ h=>h)
def StepPost (w:World) (e:Nat) (v:Value) (ps:List (SB×Ser)) (clock':Int) (xs':List Ser) (code:Int) (nums:List Int) (r:Ending) (w':World):Prop :=
 ∃ nv v' ps',r=.returned (ansV code nv)∧ERep w' e v' clock' ps'∧ps'.map (·.2)=xs'∧w'.ownsRow w.heap.size 3 1 nv nums.length (ints nums)∧Keeps (EFoot e v ps) w w' ∧
  (∀ i,EFoot e v' ps' i→EFoot e v ps i∨w.heap.size≤i)∧(∀ i,nv.ownBlock=some i→¬ EFoot e v' ps' i)
def ansB (code:Int) (v:Value) (bs:ByteArray):Value:=.agg #[.int .i64 code,v,.string bs]
def qLb (w:World) (e:Nat) (v:Value) (ps:List (SB×Ser)) (clock':Int) (xs':List Ser) (code:Int) (nums:List Int) (bs:ByteArray) (r:Ending) (w':World):Prop :=
 ∃ nv v' ps',r=.returned (ansB code nv bs)∧ERep w' e v' clock' ps'∧ps'.map (·.2)=xs'∧w'.ownsRow w.heap.size 3 1 nv nums.length (ints nums)∧Keeps (EFoot e v ps) w w' ∧
  (∀ i,EFoot e v' ps' i→EFoot e v ps i∨w.heap.size≤i)∧(∀ i,nv.ownBlock=some i→¬ EFoot e v' ps' i)
theorem StepPost.b {w:World} {e:Nat} {v:Value} {ps:List (SB×Ser)} {clock':Int} {xs':List Ser} {code:Int} {nums:List Int} {r:Ending} {w':World} (h:StepPost w e v ps clock' xs' code nums r w'):qLb w e v ps clock' xs' code nums qAa r w':=h
theorem qCi {w w':World} {e:Nat} {v:Value} {clock:Int} {ps:List (SB×Ser)} {code:Int} {nums:List Int} {nv:Value} (h:ERep w e v clock ps) (hk:Keeps (fun _=>False) w w') (hn:w'.ownsRow w.heap.size 3 1 nv nums.length (ints nums)) :
  StepPost w e v ps clock (ps.map (·.2)) code nums (.returned (ansV code nv)) w':=by
 refine ⟨nv,v,ps,rfl,h.still hk,rfl,hn,hk.mono (fun _ _ h=>h.elim),fun i hi=>.inl hi,fun i hi hf=>?_⟩
 have h1:=h.lt i hf
 have h2:=(hn.lt i hi).1
 omega
structure EInv (n:Int) (clock:Int) (xs:List Ser):Prop where
 c0:0≤clock
 c1:clock≤4611686018427387904
 six:xs.length≤6
 sers:∀ x,x∈xs→SInv n x
 marks:∀ x,x∈xs→x.last=0∨x.last≤clock-x.c.lag
theorem qZm (n:Int) (e:Nat) (v:Value) (clock:Int) (ps:List (SB×Ser)) (o:OpM) (w:World) (h:ERep w e v clock ps) (hi:EInv n clock (ps.map (·.2))) (hf:qEg ps o.id=none) :
  Calls Tryz.prog 46 #[.pointer (some ⟨e,0,none⟩),o.val] w fun r w'=>StepPost w e v ps clock (ps.map (·.2)) 2 [] r w':=by
 have h1:o.cells[1]?=some (.int .i64 o.id):=rfl
 have HE:=hide h
 have HI:=hide hi
 have hl:ps.length≤1000:=by have:=hi.six;rw [List.length_map] at this;omega
 have HF:=hide hf
 clear h hi hf
 unfold OpM.val
 go_enter Tryz.func46,Tryz.ntmps46
 go_wp2_with fail
 have hk0:Keeps (fun _=>False) w ((w.alloc (.cells o.cells.toArray 40)).alloc (.cells #[.int .i64 0,.slice none 0 0,.string ⟨#[]⟩] 33)):=((Keeps.refl (fun _=>False) w).alloc _).alloc _
 have HO0:=hide (show Blk ((w.alloc (.cells o.cells.toArray 40)).alloc (.cells #[.int .i64 0,.slice none 0 0,.string ⟨#[]⟩] 33)) w.heap.size o.cells 40 from (Blk.new w o.cells 40).alloc _)
 have HR0:=hide (show Blk ((w.alloc (.cells o.cells.toArray 40)).alloc (.cells #[.int .i64 0,.slice none 0 0,.string ⟨#[]⟩] 33)) (w.heap.size+1) [.int .i64 0,.slice none 0 0,.string qAa] 33 from Blk.newAt (by simp) [_,_,_] 33)
 have HE0:=hide ((uh HE).still hk0)
 have HK0:=hide hk0
 clear hk0
 generalize (w.alloc (.cells o.cells.toArray 40)).alloc (.cells #[.int .i64 0,.slice none 0 0,.string ⟨#[]⟩] 33)=w0 at *
 have HLT:=hide (show ∀ i,EFoot e v ps i→i<w.heap.size from (uh HE).lt)
 generalize hob:w.heap.size=ob at *
 have HOB:=hide hob
 clear hob
 have hsz0:ob+1<w0.heap.size:=(uh HR0).lt
 refine (qEb e v clock o.id ps w0 (uh HE0) hl).mono ?_
 rintro r w1 ⟨rfl,hw1⟩
 rw [hw1]
 clear hw1 w1
 rw [uh HF]
 unfold qJ4
 go_wp2_with fail
 refine (qGv 2 w0).mono ?_
 rintro r w1 ⟨rfl,hk1⟩
 unfold ansV
 have HR1:=hide ((uh HR0).keeps hk1 (fun h=>h))
 have HK1:=hide ((uh HK0).then hk1)
 clear hk1
 have r0:w1.cell? ⟨ob+1,0,none⟩=some (.int .i64 0):=(uh HR1).cell rfl
 have r1:w1.cell? ⟨ob+1,1,none⟩=some (.slice none 0 0):=(uh HR1).cell rfl
 have r2:w1.cell? ⟨ob+1,2,none⟩=some (.string qAa):=(uh HR1).cell rfl
 have rf:=(uh HR1).frozen
 go_wp2
 have hbf:=(((uh HR1).setCell 0 (.int .i64 2)).setCell 1 (.slice none 0 0)).setCell 2 (.string qAa)
 have HKF:=hide ((((Keeps.refl (fun i=>i=ob+1) w1).setCell (p:=⟨ob+1,0,none⟩) (Or.inl rfl) (.int .i64 2)).setCell (p:=⟨ob+1,1,none⟩) (Or.inl rfl) (.slice none 0 0)).setCell (p:=⟨ob+1,2,none⟩) (Or.inl rfl) (.string qAa))
 have e9:(((w1.setCell ⟨ob+1,0,none⟩ (.int .i64 2)).setCell ⟨ob+1,1,none⟩ (.slice none 0 0)).setCell ⟨ob+1,2,none⟩ (.string ⟨#[]⟩))=(((w1.setCell ⟨ob+1,0,none⟩ (.int .i64 2)).setCell ⟨ob+1,1,none⟩ (.slice none 0 0)).setCell ⟨ob+1,2,none⟩ (.string qAa)):=rfl
 first | rw [e9] | skip
 generalize (((w1.setCell ⟨ob+1,0,none⟩ (.int .i64 2)).setCell ⟨ob+1,1,none⟩ (.slice none 0 0)).setCell ⟨ob+1,2,none⟩ (.string qAa))=w9 at *
 have q0:w9.cell? ⟨ob+1,0,none⟩=some (.int .i64 2):=hbf.cell rfl
 have q1:w9.cell? ⟨ob+1,1,none⟩=some (.slice none 0 0):=hbf.cell rfl
 have q2:w9.cell? ⟨ob+1,2,none⟩=some (.string qAa):=hbf.cell rfl
 refine bodyPost_ret (v:=ansV 2 (.slice none 0 0)) (by simp [results,Tryz.results46,go_sem,q0,q1,q2,ansV]) rfl ?_
 have hkf:=uh HKF
 have hob:=uh HOB
 have hkk:Keeps (fun _=>False) w w9:=(uh HK1).trans hkf (fun i hi hlt=>by omega)
 exact qCi (uh HE) hkk (World.ownsRow_nil _ _ _ _)
theorem qXn (n:Int) (e:Nat) (v:Value) (clock:Int) (ps:List (SB×Ser)) (o:OpM) (w:World) (h:ERep w e v clock ps) (hi:EInv n clock (ps.map (·.2))) (p:SB×Ser) (hf:qEg ps o.id=some p) :
  Calls Tryz.prog 46 #[.pointer (some ⟨e,0,none⟩),o.val] w fun r w'=>StepPost w e v ps clock (ps.map (·.2)) 0 (qCq p.2) r w':=by
 have hmem:p∈ps:=List.mem_of_find?_eq_some hf
 have HM:=hide hmem
 clear hmem
 have h1:o.cells[1]?=some (.int .i64 o.id):=rfl
 have HE:=hide h
 have HI:=hide hi
 have hl:ps.length≤1000:=by have:=hi.six;rw [List.length_map] at this;omega
 have HF:=hide hf
 clear h hi hf
 unfold OpM.val
 go_enter Tryz.func46,Tryz.ntmps46
 go_wp2_with fail
 have hk0:Keeps (fun _=>False) w ((w.alloc (.cells o.cells.toArray 40)).alloc (.cells #[.int .i64 0,.slice none 0 0,.string ⟨#[]⟩] 33)):=((Keeps.refl (fun _=>False) w).alloc _).alloc _
 have HO0:=hide (show Blk ((w.alloc (.cells o.cells.toArray 40)).alloc (.cells #[.int .i64 0,.slice none 0 0,.string ⟨#[]⟩] 33)) w.heap.size o.cells 40 from (Blk.new w o.cells 40).alloc _)
 have HR0:=hide (show Blk ((w.alloc (.cells o.cells.toArray 40)).alloc (.cells #[.int .i64 0,.slice none 0 0,.string ⟨#[]⟩] 33)) (w.heap.size+1) [.int .i64 0,.slice none 0 0,.string qAa] 33 from Blk.newAt (by simp) [_,_,_] 33)
 have HE0:=hide ((uh HE).still hk0)
 have HK0:=hide hk0
 clear hk0
 generalize (w.alloc (.cells o.cells.toArray 40)).alloc (.cells #[.int .i64 0,.slice none 0 0,.string ⟨#[]⟩] 33)=w0 at *
 have HLT:=hide (show ∀ i,EFoot e v ps i→i<w.heap.size from (uh HE).lt)
 generalize hob:w.heap.size=ob at *
 have HOB:=hide hob
 clear hob
 have hsz0:ob+1<w0.heap.size:=(uh HR0).lt
 refine (qEb e v clock o.id ps w0 (uh HE0) hl).mono ?_
 rintro r w1 ⟨rfl,hw1⟩
 rw [hw1]
 clear hw1 w1
 rw [uh HF]
 unfold qJ4
 go_wp2_with fail
 refine (qPc n p.1 p.2 w0 ((uh HE0).reps p (uh HM)) ((uh HI).sers p.2 (List.mem_map_of_mem (uh HM)))).mono ?_
 rintro r w1 ⟨nv,rfl,ho,hk1⟩
 obtain ⟨g,cap,hnv,hg1,hg2⟩:=ho.form (by omega)
 rw [hnv] at ho ⊢
 have HOW:=hide ho
 have HR1:=hide ((uh HR0).keeps hk1 (fun h=>h))
 have HK1:=hide ((uh HK0).then hk1)
 have HS0:=hide ((uh HK0).size)
 clear hk1 ho hnv
 have r0:w1.cell? ⟨ob+1,0,none⟩=some (.int .i64 0):=(uh HR1).cell rfl
 have r1:w1.cell? ⟨ob+1,1,none⟩=some (.slice none 0 0):=(uh HR1).cell rfl
 have r2:w1.cell? ⟨ob+1,2,none⟩=some (.string qAa):=(uh HR1).cell rfl
 have rf:=(uh HR1).frozen
 go_wp2
 have hbf:=(((uh HR1).setCell 0 (.int .i64 0)).setCell 1 (.slice (some ⟨g,0,none⟩) 9 cap)).setCell 2 (.string qAa)
 have HKF:=hide ((((Keeps.refl (fun i=>i=ob+1) w1).setCell (p:=⟨ob+1,0,none⟩) (Or.inl rfl) (.int .i64 0)).setCell (p:=⟨ob+1,1,none⟩) (Or.inl rfl) (.slice (some ⟨g,0,none⟩) 9 cap)).setCell (p:=⟨ob+1,2,none⟩) (Or.inl rfl) (.string qAa))
 have e9:(((w1.setCell ⟨ob+1,0,none⟩ (.int .i64 0)).setCell ⟨ob+1,1,none⟩ (.slice (some ⟨g,0,none⟩) 9 cap)).setCell ⟨ob+1,2,none⟩ (.string ⟨#[]⟩))=(((w1.setCell ⟨ob+1,0,none⟩ (.int .i64 0)).setCell ⟨ob+1,1,none⟩ (.slice (some ⟨g,0,none⟩) 9 cap)).setCell ⟨ob+1,2,none⟩ (.string qAa)):=rfl
 first | rw [e9] | skip
 generalize (((w1.setCell ⟨ob+1,0,none⟩ (.int .i64 0)).setCell ⟨ob+1,1,none⟩ (.slice (some ⟨g,0,none⟩) 9 cap)).setCell ⟨ob+1,2,none⟩ (.string qAa))=w9 at *
 have q0:w9.cell? ⟨ob+1,0,none⟩=some (.int .i64 0):=hbf.cell rfl
 have q1:w9.cell? ⟨ob+1,1,none⟩=some (.slice (some ⟨g,0,none⟩) 9 cap):=hbf.cell rfl
 have q2:w9.cell? ⟨ob+1,2,none⟩=some (.string qAa):=hbf.cell rfl
 refine bodyPost_ret (v:=ansV 0 (.slice (some ⟨g,0,none⟩) 9 cap)) (by simp [results,Tryz.results46,go_sem,q0,q1,q2,ansV]) rfl ?_
 have hkf:=uh HKF
 have hob:=uh HOB
 have hkk:Keeps (fun _=>False) w w9:=(uh HK1).trans hkf (fun i hi hlt=>by omega)
 exact qCi (uh HE) hkk (qAf (qEs (uh HOW) (uh HS0)) hkf (fun i hi h=>(by have:g=i:=(by simpa [Value.ownBlock] using hi);omega)))
end Go.Proofs.YtahnliehdjncdaaGreatDoor
namespace Go.Proofs.YtahnliehdjncdaaGreatDoor
open Go.RowKit
attribute [local go_sem ↓] qAd qAe
attribute [local go_sem] qAi qAj qAb qAc qAm qAn qAh qAg qAk qAo
theorem qS6 (n:Int) (e:Nat) (v:Value) (clock:Int) (ps:List (SB×Ser)) (o:OpM) (w:World) (h:ERep w e v clock ps) (hi:EInv n clock (ps.map (·.2))) (hf:qEg ps o.id=none) :
  Calls Tryz.prog 45 #[.pointer (some ⟨e,0,none⟩),o.val] w fun r w'=>StepPost w e v ps clock (ps.map (·.2)) 2 [] r w':=by
 have h1:o.cells[1]?=some (.int .i64 o.id):=rfl
 have HE:=hide h
 have HI:=hide hi
 have hl:ps.length≤1000:=by have:=hi.six;rw [List.length_map] at this;omega
 have HF:=hide hf
 clear h hi hf
 unfold OpM.val
 go_enter Tryz.func45,Tryz.ntmps45
 go_wp2_with fail
 have hk0:Keeps (fun _=>False) w ((w.alloc (.cells o.cells.toArray 40)).alloc (.cells #[.int .i64 0,.slice none 0 0,.string ⟨#[]⟩] 33)):=((Keeps.refl (fun _=>False) w).alloc _).alloc _
 have HO0:=hide (show Blk ((w.alloc (.cells o.cells.toArray 40)).alloc (.cells #[.int .i64 0,.slice none 0 0,.string ⟨#[]⟩] 33)) w.heap.size o.cells 40 from (Blk.new w o.cells 40).alloc _)
 have HR0:=hide (show Blk ((w.alloc (.cells o.cells.toArray 40)).alloc (.cells #[.int .i64 0,.slice none 0 0,.string ⟨#[]⟩] 33)) (w.heap.size+1) [.int .i64 0,.slice none 0 0,.string qAa] 33 from Blk.newAt (by simp) [_,_,_] 33)
 have HE0:=hide ((uh HE).still hk0)
 have HK0:=hide hk0
 clear hk0
 generalize (w.alloc (.cells o.cells.toArray 40)).alloc (.cells #[.int .i64 0,.slice none 0 0,.string ⟨#[]⟩] 33)=w0 at *
 have HLT:=hide (show ∀ i,EFoot e v ps i→i<w.heap.size from (uh HE).lt)
 generalize hob:w.heap.size=ob at *
 have HOB:=hide hob
 clear hob
 have hsz0:ob+1<w0.heap.size:=(uh HR0).lt
 refine (qEb e v clock o.id ps w0 (uh HE0) hl).mono ?_
 rintro r w1 ⟨rfl,hw1⟩
 rw [hw1]
 clear hw1 w1
 rw [uh HF]
 unfold qJ4
 go_wp2_with fail
 refine (qGv 2 w0).mono ?_
 rintro r w1 ⟨rfl,hk1⟩
 unfold ansV
 have HR1:=hide ((uh HR0).keeps hk1 (fun h=>h))
 have HK1:=hide ((uh HK0).then hk1)
 clear hk1
 have r0:w1.cell? ⟨ob+1,0,none⟩=some (.int .i64 0):=(uh HR1).cell rfl
 have r1:w1.cell? ⟨ob+1,1,none⟩=some (.slice none 0 0):=(uh HR1).cell rfl
 have r2:w1.cell? ⟨ob+1,2,none⟩=some (.string qAa):=(uh HR1).cell rfl
 have rf:=(uh HR1).frozen
 go_wp2
 have hbf:=(((uh HR1).setCell 0 (.int .i64 2)).setCell 1 (.slice none 0 0)).setCell 2 (.string qAa)
 have HKF:=hide ((((Keeps.refl (fun i=>i=ob+1) w1).setCell (p:=⟨ob+1,0,none⟩) (Or.inl rfl) (.int .i64 2)).setCell (p:=⟨ob+1,1,none⟩) (Or.inl rfl) (.slice none 0 0)).setCell (p:=⟨ob+1,2,none⟩) (Or.inl rfl) (.string qAa))
 have e9:(((w1.setCell ⟨ob+1,0,none⟩ (.int .i64 2)).setCell ⟨ob+1,1,none⟩ (.slice none 0 0)).setCell ⟨ob+1,2,none⟩ (.string ⟨#[]⟩))=(((w1.setCell ⟨ob+1,0,none⟩ (.int .i64 2)).setCell ⟨ob+1,1,none⟩ (.slice none 0 0)).setCell ⟨ob+1,2,none⟩ (.string qAa)):=rfl
 first | rw [e9] | skip
 generalize (((w1.setCell ⟨ob+1,0,none⟩ (.int .i64 2)).setCell ⟨ob+1,1,none⟩ (.slice none 0 0)).setCell ⟨ob+1,2,none⟩ (.string qAa))=w9 at *
 have q0:w9.cell? ⟨ob+1,0,none⟩=some (.int .i64 2):=hbf.cell rfl
 have q1:w9.cell? ⟨ob+1,1,none⟩=some (.slice none 0 0):=hbf.cell rfl
 have q2:w9.cell? ⟨ob+1,2,none⟩=some (.string qAa):=hbf.cell rfl
 refine bodyPost_ret (v:=ansV 2 (.slice none 0 0)) (by simp [results,Tryz.results45,go_sem,q0,q1,q2,ansV]) rfl ?_
 have hkf:=uh HKF
 have hob:=uh HOB
 have hkk:Keeps (fun _=>False) w w9:=(uh HK1).trans hkf (fun i hi hlt=>by omega)
 exact qCi (uh HE) hkk (World.ownsRow_nil _ _ _ _)
theorem qVd (k:Nat) (c:Cfg) (nt:Note) (a m:Int):(qryN k c nt a m).1=0∨(qryN k c nt a m).2=[]:=by
 unfold qryN qryD
 repeat (first | exact .inl rfl | exact .inr rfl | split)
theorem qSw (n:Int) (e:Nat) (v:Value) (clock:Int) (ps:List (SB×Ser)) (o:OpM) (w:World) (h:ERep w e v clock ps) (hi:EInv n clock (ps.map (·.2))) (hn:n≤651562446200) (p:SB×Ser) (hf:qEg ps o.id=some p) :
  Calls Tryz.prog 45 #[.pointer (some ⟨e,0,none⟩),o.val] w fun r w'=>StepPost w e v ps clock (ps.map (·.2)) (qryN p.2.k p.2.c p.2.nt o.a (clock-p.2.c.lag)).1 (qryN p.2.k p.2.c p.2.nt o.a (clock-p.2.c.lag)).2 r w':=by
 have hmem:p∈ps:=List.mem_of_find?_eq_some hf
 have HM:=hide hmem
 clear hmem
 have h1:o.cells[1]?=some (.int .i64 o.id):=rfl
 have HE:=hide h
 have HI:=hide hi
 have hl:ps.length≤1000:=by have:=hi.six;rw [List.length_map] at this;omega
 have HF:=hide hf
 clear h hi hf
 unfold OpM.val
 go_enter Tryz.func45,Tryz.ntmps45
 go_wp2_with fail
 have hk0:Keeps (fun _=>False) w ((w.alloc (.cells o.cells.toArray 40)).alloc (.cells #[.int .i64 0,.slice none 0 0,.string ⟨#[]⟩] 33)):=((Keeps.refl (fun _=>False) w).alloc _).alloc _
 have HO0:=hide (show Blk ((w.alloc (.cells o.cells.toArray 40)).alloc (.cells #[.int .i64 0,.slice none 0 0,.string ⟨#[]⟩] 33)) w.heap.size o.cells 40 from (Blk.new w o.cells 40).alloc _)
 have HR0:=hide (show Blk ((w.alloc (.cells o.cells.toArray 40)).alloc (.cells #[.int .i64 0,.slice none 0 0,.string ⟨#[]⟩] 33)) (w.heap.size+1) [.int .i64 0,.slice none 0 0,.string qAa] 33 from Blk.newAt (by simp) [_,_,_] 33)
 have HE0:=hide ((uh HE).still hk0)
 have HK0:=hide hk0
 clear hk0
 generalize (w.alloc (.cells o.cells.toArray 40)).alloc (.cells #[.int .i64 0,.slice none 0 0,.string ⟨#[]⟩] 33)=w0 at *
 have HLT:=hide (show ∀ i,EFoot e v ps i→i<w.heap.size from (uh HE).lt)
 generalize hob:w.heap.size=ob at *
 have HOB:=hide hob
 clear hob
 have hsz0:ob+1<w0.heap.size:=(uh HR0).lt
 refine (qEb e v clock o.id ps w0 (uh HE0) hl).mono ?_
 rintro r w1 ⟨rfl,hw1⟩
 rw [hw1]
 clear hw1 w1
 rw [uh HF]
 unfold qJ4
 have HS0:=hide ((uh HE0).reps p (uh HM))
 have HSI:=hide ((uh HI).sers p.2 (List.mem_map_of_mem (uh HM)))
 obtain ⟨l0,l1,s0,s1,p1,p8⟩:=(uh HSI).common
 have cl0:=(uh HI).c0
 have cl1:=(uh HI).c1
 have hc25:w0.cell? ⟨p.1.s,28,none⟩=some (.func (.func (qryF p.2.k)) (qOc p.1.n.d) #[]):=(uh HS0).blk.cell rfl
 have hc2:w0.cell? ⟨p.1.s,2,none⟩=some (.int .i64 p.2.c.lag):=(uh HS0).blk.cell rfl
 have hce:w0.cell? ⟨e,0,none⟩=some (.int .i64 clock):=(uh HE0).blk.cell rfl
 have hoa:w0.cell? ⟨ob,2,none⟩=some (.int .i64 o.a):=(uh HO0).cell rfl
 have hown:=own_qry p.2.k (uh HSI).k1 (uh HSI).k5
 have HRL:=hide (show p.2.rel≤651562446200 by have h1:=(uh HSI).rela;have h2:=(uh HSI).accn;omega)
 go_wp2_with fail
 go_region_held3 (fun w'=>w'.cell? ⟨p.1.s,28,none⟩=some (.func (.func (qryF p.2.k)) (qOc p.1.n.d) #[])∧w'.cell? ⟨p.1.s,2,none⟩=some (.int .i64 p.2.c.lag)∧w'.cell? ⟨e,0,none⟩=some (.int .i64 clock)∧w'.cell? ⟨ob,2,none⟩=some (.int .i64 o.a))
  (first | (simp [*];done) | (go_split_ands;exact ⟨hk1.cell (by assumption) (fun h=>h),hk1.cell (by assumption) (fun h=>h),hk1.cell (by assumption) (fun h=>h),hk1.cell (by assumption) (fun h=>h)⟩))
  (first | (go_at_call 67;refine (qSe p.1.s p.2.c.lag clock _ (by go_keep) l0 l1 cl0 cl1).mono ?_;rintro e w' ⟨rfl,rfl⟩) | (refine (qry_any (rel:=p.2.rel) (last:=p.2.last) p.2.k p.1.n p.2.c p.2.nt o.a (clock-p.2.c.lag) _ _ (by first | rfl | simp) (by exact (uh HS0).note.still (Keeps.refl _ _).drew) (uh HSI).note (uh HRL) (uh HSI).lastn (uh HSI).valid (uh HSI).kind (uh HSI).k1 (uh HSI).k5 (by omega) (by omega)).mono ?_;rintro e w1 ⟨og,nn,cp,rfl,hnum,hk1⟩))
 have hk0d:Keeps (fun _=>False) w0 w1:=((Keeps.refl (fun _=>False) w0).drew).then hk1
 have HR1:=hide ((uh HR0).keeps hk0d (fun h=>h))
 have HK1:=hide ((uh HK0).then hk0d)
 have HSZ:=hide ((uh HK0).size)
 have HNUM:=hide (show qR6 w1 w0.heap.size (.slice og nn cp) (qryN p.2.k p.2.c p.2.nt o.a (clock-p.2.c.lag)).2 from hnum)
 have HCD:=hide (qVd p.2.k p.2.c p.2.nt o.a (clock-p.2.c.lag))
 clear hc25 hc2 hce hoa HR0 HK0 HE0 HO0 HS0 hk1 hnum hk0d hown
 generalize hnm:(qryN p.2.k p.2.c p.2.nt o.a (clock-p.2.c.lag)).2=nums at *
 generalize hco:(qryN p.2.k p.2.c p.2.nt o.a (clock-p.2.c.lag)).1=code at *
 have HNM:=hide hnm
 have HCO:=hide hco
 clear hnm hco
 by_cases hcode:code=0
 ·subst hcode
  have r0:w1.cell? ⟨ob+1,0,none⟩=some (.int .i64 0):=(uh HR1).cell rfl
  have r1:w1.cell? ⟨ob+1,1,none⟩=some (.slice none 0 0):=(uh HR1).cell rfl
  have r2:w1.cell? ⟨ob+1,2,none⟩=some (.string qAa):=(uh HR1).cell rfl
  have rf:=(uh HR1).frozen
  go_wp2
  have hbf:=(((uh HR1).setCell 0 (.int .i64 0)).setCell 1 (.slice og nn cp)).setCell 2 (.string qAa)
  have HKF:=hide ((((Keeps.refl (fun i=>i=ob+1) w1).setCell (p:=⟨ob+1,0,none⟩) (Or.inl rfl) (.int .i64 0)).setCell (p:=⟨ob+1,1,none⟩) (Or.inl rfl) (.slice og nn cp)).setCell (p:=⟨ob+1,2,none⟩) (Or.inl rfl) (.string qAa))
  have e9:(((w1.setCell ⟨ob+1,0,none⟩ (.int .i64 0)).setCell ⟨ob+1,1,none⟩ (.slice og nn cp)).setCell ⟨ob+1,2,none⟩ (.string ⟨#[]⟩))=(((w1.setCell ⟨ob+1,0,none⟩ (.int .i64 0)).setCell ⟨ob+1,1,none⟩ (.slice og nn cp)).setCell ⟨ob+1,2,none⟩ (.string qAa)):=rfl
  first | rw [e9] | skip
  generalize (((w1.setCell ⟨ob+1,0,none⟩ (.int .i64 0)).setCell ⟨ob+1,1,none⟩ (.slice og nn cp)).setCell ⟨ob+1,2,none⟩ (.string qAa))=w9 at *
  have q0:w9.cell? ⟨ob+1,0,none⟩=some (.int .i64 0):=hbf.cell rfl
  have q1:w9.cell? ⟨ob+1,1,none⟩=some (.slice og nn cp):=hbf.cell rfl
  have q2:w9.cell? ⟨ob+1,2,none⟩=some (.string qAa):=hbf.cell rfl
  refine bodyPost_ret (v:=ansV 0 (.slice og nn cp)) (by simp [results,Tryz.results45,go_sem,q0,q1,q2,ansV]) rfl ?_
  have hkf:=uh HKF
  have hob:=uh HOB
  have hkk:Keeps (fun _=>False) w w9:=(uh HK1).trans hkf (fun i hi hlt=>by omega)
  rw [uh HNM,uh HCO]
  exact qCi (uh HE) hkk (qEs (qAf (uh HNUM) hkf (fun i hi h=>by
         rcases (uh HNUM).2 with ⟨h1,_⟩ | ⟨g,_,_,h1,h2,_⟩
         ·rw [h1] at hi;cases hi
         ·rw [h1] at hi
          have:g=i:=by simpa [Value.ownBlock] using hi
          have:=uh HSZ
          omega)) (by have:=uh HSZ;omega))
 ·have hne:(code!=0)=true:=by simpa using hcode
  have HNN:=hide (show nums=[] from (uh HCD).resolve_left hcode)
  clear hcode
  go_wp2_with fail
  refine (qGv code w1).mono ?_
  rintro r w2 ⟨rfl,hk2⟩
  unfold ansV
  have HR2:=hide ((uh HR1).keeps hk2 (fun h=>h))
  have HK2:=hide ((uh HK1).then hk2)
  clear hk2 HR1 HK1
  have r0:w2.cell? ⟨ob+1,0,none⟩=some (.int .i64 0):=(uh HR2).cell rfl
  have r1:w2.cell? ⟨ob+1,1,none⟩=some (.slice none 0 0):=(uh HR2).cell rfl
  have r2:w2.cell? ⟨ob+1,2,none⟩=some (.string qAa):=(uh HR2).cell rfl
  have rf:=(uh HR2).frozen
  go_wp2
  have hbf:=(((uh HR2).setCell 0 (.int .i64 code)).setCell 1 (.slice none 0 0)).setCell 2 (.string qAa)
  have HKF:=hide ((((Keeps.refl (fun i=>i=ob+1) w2).setCell (p:=⟨ob+1,0,none⟩) (Or.inl rfl) (.int .i64 code)).setCell (p:=⟨ob+1,1,none⟩) (Or.inl rfl) (.slice none 0 0)).setCell (p:=⟨ob+1,2,none⟩) (Or.inl rfl) (.string qAa))
  have e9:(((w2.setCell ⟨ob+1,0,none⟩ (.int .i64 code)).setCell ⟨ob+1,1,none⟩ (.slice none 0 0)).setCell ⟨ob+1,2,none⟩ (.string ⟨#[]⟩))=(((w2.setCell ⟨ob+1,0,none⟩ (.int .i64 code)).setCell ⟨ob+1,1,none⟩ (.slice none 0 0)).setCell ⟨ob+1,2,none⟩ (.string qAa)):=rfl
  first | rw [e9] | skip
  generalize (((w2.setCell ⟨ob+1,0,none⟩ (.int .i64 code)).setCell ⟨ob+1,1,none⟩ (.slice none 0 0)).setCell ⟨ob+1,2,none⟩ (.string qAa))=w9 at *
  have q0:w9.cell? ⟨ob+1,0,none⟩=some (.int .i64 code):=hbf.cell rfl
  have q1:w9.cell? ⟨ob+1,1,none⟩=some (.slice none 0 0):=hbf.cell rfl
  have q2:w9.cell? ⟨ob+1,2,none⟩=some (.string qAa):=hbf.cell rfl
  refine bodyPost_ret (v:=ansV code (.slice none 0 0)) (by simp [results,Tryz.results45,go_sem,q0,q1,q2,ansV]) rfl ?_
  have hkf:=uh HKF
  have hob:=uh HOB
  have hkk:Keeps (fun _=>False) w w9:=(uh HK2).trans hkf (fun i hi hlt=>by omega)
  rw [uh HNM,uh HCO,uh HNN]
  exact qCi (uh HE) hkk (World.ownsRow_nil _ _ _ _)
end Go.Proofs.YtahnliehdjncdaaGreatDoor
namespace Go.Proofs.YtahnliehdjncdaaGreatDoor
open Go.RowKit
theorem qQt (a b:List (SB×Ser)):ptrs (a++b)=ptrs a++ptrs b:=by simp [ptrs]
theorem ERep.one {w w':World} {e:Nat} {v:Value} {clock:Int} {l1 l2:List (SB×Ser)} {p:SB×Ser} {b':SB} {x':Ser} (h:ERep w e v clock (l1++p::l2)) (hk:Keeps (p.1.foot p.2.k) w w')
  (hs:SRep w' b' x') (hx:x'.k=p.2.k) (hn:p.1.next b' p.2.k w.heap.size):ERep w' e v clock (l1++(b',x')::l2):=by
 have hmem:p∈l1++p::l2:=by simp
 have hap:=List.pairwise_append.1 h.apart
 have hap2:=List.pairwise_cons.1 hap.2.1
 have hoth:∀ q,q∈l1∨q∈l2→q∈l1++p::l2∧∀ i,q.1.foot q.2.k i→¬ p.1.foot p.2.k i:=by
  intro q hq
  rcases hq with hq | hq
  ·exact ⟨by simp [hq],fun i hi hp=>hap.2.2 q hq p (by simp) i hi hp⟩
  ·exact ⟨by simp [hq],fun i hi hp=>hap2.1 q hq i hp hi⟩
 have hnew:∀ q,q∈l1∨q∈l2→∀ i,b'.foot x'.k i→¬ q.1.foot q.2.k i:=by
  intro q hq i hi hqi
  obtain ⟨hm,hd⟩:=hoth q hq
  rw [hx] at hi
  rcases hn.2 i hi with hf | hf
  ·exact hd i hqi hf
  ·have:=(h.reps q hm).lt i hqi;omega
 have hrow:w'.ownsRow 0 73 1 v (l1++p::l2).length (ptrs (l1++p::l2)):=qAf h.row hk (fun i hi hf=>(h.ef p hmem i hf).2 hi)
 have hptr:ptrs (l1++(b',x')::l2)=ptrs (l1++p::l2):=by
  simp only [ptrs,List.map_append,List.map_cons]
  rw [hn.1]
 refine ⟨h.blk.keeps hk (fun hf=>(h.ef p hmem e hf).1 rfl),?_,?_,?_,h.ev,?_⟩
 ·rw [hptr,show (l1++(b',x')::l2).length=(l1++p::l2).length by simp];exact hrow
 ·intro q hq
  rcases List.mem_append.1 hq with hq | hq
  ·exact (h.reps q (hoth q (.inl hq)).1).keeps hk (hoth q (.inl hq)).2
  ·rcases List.mem_cons.1 hq with hq | hq
   ·subst hq;exact hs
   ·exact (h.reps q (hoth q (.inr hq)).1).keeps hk (hoth q (.inr hq)).2
 ·refine List.pairwise_append.2 ⟨hap.1,List.pairwise_cons.2 ⟨fun q hq i hi=>hnew q (.inr hq) i hi,hap2.2⟩,?_⟩
  intro q hq r hr i hi
  rcases List.mem_cons.1 hr with hr | hr
  ·subst hr;exact fun hf=>hnew q (.inl hq) i hf hi
  ·exact hap.2.2 q hq r (by simp [hr]) i hi
 ·intro q hq i hi
  rcases List.mem_append.1 hq with hq | hq
  ·exact h.ef q (hoth q (.inl hq)).1 i hi
  ·rcases List.mem_cons.1 hq with hq | hq
   ·subst hq
    have hi':b'.foot p.2.k i:=by rw [←hx];exact hi
    rcases hn.2 i hi' with hf | hf
    ·exact h.ef p hmem i hf
    ·have h1:=h.lt e (.inl rfl)
     refine ⟨by omega,fun hv=>?_⟩
     have:=h.lt i (.inr (.inl hv))
     omega
   ·exact h.ef q (hoth q (.inr hq)).1 i hi
theorem EFoot.one {w:World} {e:Nat} {v:Value} {l1 l2:List (SB×Ser)} {p:SB×Ser} {b':SB} {x':Ser} (hx:x'.k=p.2.k) (hn:p.1.next b' p.2.k w.heap.size) (i:Nat) (hi:EFoot e v (l1++(b',x')::l2) i) :
  EFoot e v (l1++p::l2) i∨w.heap.size≤i:=by
 rcases hi with hi | hi | ⟨q,hq,hi⟩
 ·exact .inl (.inl hi)
 ·exact .inl (.inr (.inl hi))
 ·rcases List.mem_append.1 hq with hq | hq
  ·exact .inl (.inr (.inr ⟨q,by simp [hq],hi⟩))
  ·rcases List.mem_cons.1 hq with hq | hq
   ·subst hq
    have hi':b'.foot p.2.k i:=by rw [←hx];exact hi
    rcases hn.2 i hi' with hf | hf
    ·exact .inl (.inr (.inr ⟨p,by simp,hf⟩))
    ·exact .inr hf
   ·exact .inl (.inr (.inr ⟨q,by simp [hq],hi⟩))
def updS:List Ser→Int→Ser→List Ser
 | [],_,_=>[]
 | x::r,id,y=>if x.id==id then y::r else x::updS r id y
def qH3 (xs:List Ser) (id:Int):Option Ser:=xs.find? (fun x=>x.id==id)
theorem qMp {ps:List (SB×Ser)} {id:Int} {p:SB×Ser} (h:qEg ps id=some p):∃ l1 l2,ps=l1++p::l2∧∀ y:Ser,updS (ps.map (·.2)) id y=l1.map (·.2)++y::l2.map (·.2):=by
 obtain ⟨hp,l1,l2,he,hn⟩:=List.find?_eq_some_iff_append.1 h
 refine ⟨l1,l2,he,fun y=>?_⟩
 subst he
 clear h
 induction l1 with
 | nil=>simp [updS,hp]
 | cons a l ih =>
  have ha:(a.2.id==id)=false:=by simpa using hn a (by simp)
  simp only [List.cons_append,List.map_cons,updS,ha]
  rw [ih (fun b hb=>hn b (by simp [hb]))]
  rfl
theorem qQp (ps:List (SB×Ser)) (id:Int):qH3 (ps.map (·.2)) id=(qEg ps id).map (·.2):=by
 unfold qH3 qEg
 induction ps with
 | nil=>rfl
 | cons a l ih =>
  simp only [List.map_cons,List.find?_cons]
  cases (a.2.id==id) with
  | true=>rfl
  | false=>exact ih
def minI (a b:Int):Int:=if a<b then a else b
def refS (x:Ser) (c:Nat):Ser:={ x with ref:=x.ref.set c (minI (qAu x.ref c+1) 4611686018427387904) }
theorem qTc (b:SB) (x:Ser) (c:Nat) (u:Int):(qC4 b x).set (35+c) (.int .i64 u)=qC4 b { x with ref:=x.ref.set c u }:=by
 have h1:(qC4 b x).set (35+c) (.int .i64 u)=.int .i64 x.id::x.c.vals (fn (qDa x.k)::fn (qB8 x.k)::fn (qCd x.k)::fn (qBd x.k)::fn (qCe x.k)::fn (qB4 x.k)::relV x.k b.n.d::qryV x.k b.n.d::swpV x.k b.n.d::savV x.k b.n.d::lodV x.k b.n.d::.pointer (some ⟨b.q,0,none⟩)::.int .i64 x.acc::.int .i64 x.rel::(x.ref.map (.int .i64 ·)).set c (.int .i64 u)):=by
  rw [Nat.add_comm];rfl
 rw [h1]
 unfold qC4
 simp only
 rw [List.map_set]
theorem qZk {n:Int} {x:Ser} (h:SInv n x) (c:Nat) (hn:∀ v,v∈x.ref→v<n) (hc:c<12):SInv n (refS x c):=by
 have hl:=h.reflen
 have hm:qAu x.ref c∈x.ref:=by unfold qAu;rw [List.getD_eq_getElem?_getD,List.getElem?_eq_getElem (by omega)];exact List.getElem_mem _
 refine ⟨h.valid,h.kind,h.k1,h.k5,h.acc0,h.accn,h.rel0,h.rela,by simp [refS,hl],?_,h.cap,h.times,h.note,h.heap,h.last0,h.lastn,h.lastl,h.fits⟩
 intro v hv
 rcases List.mem_or_eq_of_mem_set hv with hv | hv
 ·exact h.refn v hv
 ·subst hv
  have h1:=h.refn _ hm
  have h2:=hn _ hm
  unfold minI
  split <;> omega
theorem qGd (x:Ser) (clock:Int) (y:It):0≤refE x clock y∧refE x clock y≤11:=by
 have hk:0≤qFp x.c x.k y∧qFp x.c x.k y≤11:=by
  unfold qFp keyE qFo qJr
  repeat (first | omega | split)
 unfold refE
 repeat (first | omega | split)
end Go.Proofs.YtahnliehdjncdaaGreatDoor
namespace Go.Proofs.YtahnliehdjncdaaGreatDoor
open Go.RowKit
attribute [local go_sem ↓] qAd qAe
attribute [local go_sem] qAi qAj qAb qAc qAm qAn qAh qAg qAk qAo
def OpM.item (o:OpM):It:=⟨o.a,o.b,o.c,0⟩
theorem qZs (n:Int) (e:Nat) (v:Value) (clock:Int) (ps:List (SB×Ser)) (o:OpM) (w:World) (h:ERep w e v clock ps) (hi:EInv n clock (ps.map (·.2))) (hf:qEg ps o.id=none) :
  Calls Tryz.prog 43 #[.pointer (some ⟨e,0,none⟩),o.val] w fun r w'=>StepPost w e v ps clock (ps.map (·.2)) 2 [] r w':=by
 have h1:o.cells[1]?=some (.int .i64 o.id):=rfl
 have HE:=hide h
 have HI:=hide hi
 have hl:ps.length≤1000:=by have:=hi.six;rw [List.length_map] at this;omega
 have HF:=hide hf
 clear h hi hf
 unfold OpM.val
 go_enter Tryz.func43,Tryz.ntmps43
 go_wp2_with fail
 have hk0:Keeps (fun _=>False) w ((w.alloc (.cells o.cells.toArray 40)).alloc (.cells #[.int .i64 0,.slice none 0 0,.string ⟨#[]⟩] 33)):=((Keeps.refl (fun _=>False) w).alloc _).alloc _
 have HO0:=hide (show Blk ((w.alloc (.cells o.cells.toArray 40)).alloc (.cells #[.int .i64 0,.slice none 0 0,.string ⟨#[]⟩] 33)) w.heap.size o.cells 40 from (Blk.new w o.cells 40).alloc _)
 have HR0:=hide (show Blk ((w.alloc (.cells o.cells.toArray 40)).alloc (.cells #[.int .i64 0,.slice none 0 0,.string ⟨#[]⟩] 33)) (w.heap.size+1) [.int .i64 0,.slice none 0 0,.string qAa] 33 from Blk.newAt (by simp) [_,_,_] 33)
 have HE0:=hide ((uh HE).still hk0)
 have HK0:=hide hk0
 clear hk0
 generalize (w.alloc (.cells o.cells.toArray 40)).alloc (.cells #[.int .i64 0,.slice none 0 0,.string ⟨#[]⟩] 33)=w0 at *
 have HLT:=hide (show ∀ i,EFoot e v ps i→i<w.heap.size from (uh HE).lt)
 generalize hob:w.heap.size=ob at *
 have HOB:=hide hob
 clear hob
 have hsz0:ob+1<w0.heap.size:=(uh HR0).lt
 refine (qEb e v clock o.id ps w0 (uh HE0) hl).mono ?_
 rintro r w1 ⟨rfl,hw1⟩
 rw [hw1]
 clear hw1 w1
 rw [uh HF]
 unfold qJ4
 go_wp2_with fail
 refine (qGv 2 w0).mono ?_
 rintro r w1 ⟨rfl,hk1⟩
 unfold ansV
 have HR1:=hide ((uh HR0).keeps hk1 (fun h=>h))
 have HK1:=hide ((uh HK0).then hk1)
 clear hk1
 have r0:w1.cell? ⟨ob+1,0,none⟩=some (.int .i64 0):=(uh HR1).cell rfl
 have r1:w1.cell? ⟨ob+1,1,none⟩=some (.slice none 0 0):=(uh HR1).cell rfl
 have r2:w1.cell? ⟨ob+1,2,none⟩=some (.string qAa):=(uh HR1).cell rfl
 have rf:=(uh HR1).frozen
 go_wp2
 have hbf:=(((uh HR1).setCell 0 (.int .i64 2)).setCell 1 (.slice none 0 0)).setCell 2 (.string qAa)
 have HKF:=hide ((((Keeps.refl (fun i=>i=ob+1) w1).setCell (p:=⟨ob+1,0,none⟩) (Or.inl rfl) (.int .i64 2)).setCell (p:=⟨ob+1,1,none⟩) (Or.inl rfl) (.slice none 0 0)).setCell (p:=⟨ob+1,2,none⟩) (Or.inl rfl) (.string qAa))
 have e9:(((w1.setCell ⟨ob+1,0,none⟩ (.int .i64 2)).setCell ⟨ob+1,1,none⟩ (.slice none 0 0)).setCell ⟨ob+1,2,none⟩ (.string ⟨#[]⟩))=(((w1.setCell ⟨ob+1,0,none⟩ (.int .i64 2)).setCell ⟨ob+1,1,none⟩ (.slice none 0 0)).setCell ⟨ob+1,2,none⟩ (.string qAa)):=rfl
 first | rw [e9] | skip
 generalize (((w1.setCell ⟨ob+1,0,none⟩ (.int .i64 2)).setCell ⟨ob+1,1,none⟩ (.slice none 0 0)).setCell ⟨ob+1,2,none⟩ (.string qAa))=w9 at *
 have q0:w9.cell? ⟨ob+1,0,none⟩=some (.int .i64 2):=hbf.cell rfl
 have q1:w9.cell? ⟨ob+1,1,none⟩=some (.slice none 0 0):=hbf.cell rfl
 have q2:w9.cell? ⟨ob+1,2,none⟩=some (.string qAa):=hbf.cell rfl
 refine bodyPost_ret (v:=ansV 2 (.slice none 0 0)) (by simp [results,Tryz.results43,go_sem,q0,q1,q2,ansV]) rfl ?_
 have hkf:=uh HKF
 have hob:=uh HOB
 have hkk:Keeps (fun _=>False) w w9:=(uh HK1).trans hkf (fun i hi hlt=>by omega)
 exact qCi (uh HE) hkk (World.ownsRow_nil _ _ _ _)
theorem add_yes (n:Int) (e:Nat) (v:Value) (clock:Int) (ps:List (SB×Ser)) (o:OpM) (w:World) (h:ERep w e v clock ps) (hi:EInv n clock (ps.map (·.2))) (p:SB×Ser) (hf:qEg ps o.id=some p) (hc:refE p.2 clock o.item=0) (hn:n≤1152921504606846976) :
  Calls Tryz.prog 43 #[.pointer (some ⟨e,0,none⟩),o.val] w fun r w'=>StepPost w e v ps clock (updS (ps.map (·.2)) o.id (accS p.2 o.item)) 0 [p.2.acc+1] r w':=by
 have hmem:p∈ps:=List.mem_of_find?_eq_some hf
 have HM:=hide hmem
 have HC:=hide (show refE p.2 clock ⟨o.a,o.b,o.c,0⟩=0 from hc)
 clear hmem hc
 have h1:o.cells[1]?=some (.int .i64 o.id):=rfl
 have HE:=hide h
 have HI:=hide hi
 have hl:ps.length≤1000:=by have:=hi.six;rw [List.length_map] at this;omega
 have HF:=hide hf
 clear h hi hf
 unfold OpM.val
 go_enter Tryz.func43,Tryz.ntmps43
 go_wp2_with fail
 have hk0:Keeps (fun _=>False) w ((w.alloc (.cells o.cells.toArray 40)).alloc (.cells #[.int .i64 0,.slice none 0 0,.string ⟨#[]⟩] 33)):=((Keeps.refl (fun _=>False) w).alloc _).alloc _
 have HO0:=hide (show Blk ((w.alloc (.cells o.cells.toArray 40)).alloc (.cells #[.int .i64 0,.slice none 0 0,.string ⟨#[]⟩] 33)) w.heap.size o.cells 40 from (Blk.new w o.cells 40).alloc _)
 have HR0:=hide (show Blk ((w.alloc (.cells o.cells.toArray 40)).alloc (.cells #[.int .i64 0,.slice none 0 0,.string ⟨#[]⟩] 33)) (w.heap.size+1) [.int .i64 0,.slice none 0 0,.string qAa] 33 from Blk.newAt (by simp) [_,_,_] 33)
 have HE0:=hide ((uh HE).still hk0)
 have HK0:=hide hk0
 clear hk0
 generalize (w.alloc (.cells o.cells.toArray 40)).alloc (.cells #[.int .i64 0,.slice none 0 0,.string ⟨#[]⟩] 33)=w0 at *
 have HLT:=hide (show ∀ i,EFoot e v ps i→i<w.heap.size from (uh HE).lt)
 generalize hob:w.heap.size=ob at *
 have HOB:=hide hob
 clear hob
 have hsz0:ob+1<w0.heap.size:=(uh HR0).lt
 refine (qEb e v clock o.id ps w0 (uh HE0) hl).mono ?_
 rintro r w1 ⟨rfl,hw1⟩
 rw [hw1]
 clear hw1 w1
 rw [uh HF]
 unfold qJ4
 have HS0:=hide ((uh HE0).reps p (uh HM))
 have HSI:=hide ((uh HI).sers p.2 (List.mem_map_of_mem (uh HM)))
 have cl0:=(uh HI).c0
 have cl1:=(uh HI).c1
 have hoa:w0.cell? ⟨ob,2,none⟩=some (.int .i64 o.a):=(uh HO0).cell rfl
 have hobb:w0.cell? ⟨ob,3,none⟩=some (.int .i64 o.b):=(uh HO0).cell rfl
 have hoc:w0.cell? ⟨ob,4,none⟩=some (.int .i64 o.c):=(uh HO0).cell rfl
 go_wp2_with fail
 have hkx:Keeps (fun _=>False) w0 (w0.alloc (.cells #[.int .i64 o.a,.int .i64 o.b,.int .i64 o.c,.int .i64 0] 87)):=(Keeps.refl (fun _=>False) w0).alloc _
 have HX1:=hide (Blk.new w0 [.int .i64 o.a,.int .i64 o.b,.int .i64 o.c,.int .i64 0] 87)
 have HE1:=hide ((uh HE0).still hkx)
 have HS1:=hide ((uh HS0).still hkx)
 have HR1:=hide ((uh HR0).keeps hkx (fun h=>h))
 have HK1:=hide ((uh HK0).then hkx)
 clear hkx HE0 HS0 HR0 HK0 HO0 hoa hobb hoc
 generalize w0.alloc (.cells #[.int .i64 o.a,.int .i64 o.b,.int .i64 o.c,.int .i64 0] 87)=w1 at *
 generalize hxb:w0.heap.size=xb at *
 clear hxb
 have hx0:w1.cell? ⟨xb,0,none⟩=some (.int .i64 o.a):=(uh HX1).cell rfl
 have hx1:w1.cell? ⟨xb,1,none⟩=some (.int .i64 o.b):=(uh HX1).cell rfl
 have hx2:w1.cell? ⟨xb,2,none⟩=some (.int .i64 o.c):=(uh HX1).cell rfl
 have hx3:w1.cell? ⟨xb,3,none⟩=some (.int .i64 0):=(uh HX1).cell rfl
 have hce:w1.cell? ⟨e,0,none⟩=some (.int .i64 clock):=(uh HE1).blk.cell rfl
 go_region_held3 (fun w'=>w'.cell? ⟨e,0,none⟩=some (.int .i64 clock)∧w'.cell? ⟨xb,0,none⟩=some (.int .i64 o.a)∧w'.cell? ⟨xb,1,none⟩=some (.int .i64 o.b)∧w'.cell? ⟨xb,2,none⟩=some (.int .i64 o.c)∧w'.cell? ⟨xb,3,none⟩=some (.int .i64 0))
  (first | (simp [*];done) | (go_split_ands;exact ⟨hk2.cell (by assumption) (fun h=>h),hk2.cell (by assumption) (fun h=>h),hk2.cell (by assumption) (fun h=>h),hk2.cell (by assumption) (fun h=>h),hk2.cell (by assumption) (fun h=>h)⟩))
  (first | (go_at_call 62;refine (qKd n p.1 p.2 ⟨o.a,o.b,o.c,0⟩ clock _ (by exact (uh HS1).still ((Keeps.refl (fun _=>False) w1).drew)) (uh HSI) cl0 cl1).mono ?_;rintro r w2 ⟨rfl,hk2⟩))
 have hk2d:Keeps (fun _=>False) w1 w2:=((Keeps.refl (fun _=>False) w1).drew).then hk2
 have HX2:=hide ((uh HX1).keeps hk2d (fun h=>h))
 have HE2:=hide ((uh HE1).still hk2d)
 have HS2:=hide ((uh HS1).still hk2d)
 have HR2:=hide ((uh HR1).keeps hk2d (fun h=>h))
 have HK2:=hide ((uh HK1).then hk2d)
 clear hk2 hk2d HX1 HE1 HS1 HR1 HK1 hx0 hx1 hx2 hx3 hce
 rw [uh HC]
 have hx0:w2.cell? ⟨xb,0,none⟩=some (.int .i64 o.a):=(uh HX2).cell rfl
 have hx1:w2.cell? ⟨xb,1,none⟩=some (.int .i64 o.b):=(uh HX2).cell rfl
 have hx2:w2.cell? ⟨xb,2,none⟩=some (.int .i64 o.c):=(uh HX2).cell rfl
 have hx3:w2.cell? ⟨xb,3,none⟩=some (.int .i64 0):=(uh HX2).cell rfl
 go_wp2_with fail
 refine (qUc n p.1 p.2 ⟨o.a,o.b,o.c,0⟩ w2 (uh HS2) (uh HSI) (by omega)).mono ?_
 rintro r w3 ⟨rfl,b',hs3,hn3,hk3⟩
 have hpf:∀ i,p.1.foot p.2.k i→i<ob:=fun i hi=>uh HLT i (.inr (.inr ⟨p,uh HM,hi⟩))
 have HR3:=hide ((uh HR2).keeps hk3 (fun h=>by have:=hpf _ h;omega))
 have HS3:=hide hs3
 have HN3:=hide hn3
 have HK3:=hide hk3
 have hsz2:ob≤w2.heap.size:=by have h1:=(uh HK2).size;have h2:=uh HOB;omega
 have hsz2':ob+1<w2.heap.size:=(uh HR2).lt
 have hsz3:w2.heap.size≤w3.heap.size:=hk3.size
 have hr3:ob+1<w3.heap.size:=(uh HR3).lt
 have r0:w3.cell? ⟨ob+1,0,none⟩=some (.int .i64 0):=(uh HR3).cell rfl
 have r1:w3.cell? ⟨ob+1,1,none⟩=some (.slice none 0 0):=(uh HR3).cell rfl
 have r2:w3.cell? ⟨ob+1,2,none⟩=some (.string qAa):=(uh HR3).cell rfl
 have rf:=(uh HR3).frozen
 have hrn:ob+1≠w3.heap.size:=by omega
 have HPF:=hide hpf
 clear hs3 hn3 hk3 hpf hx0 hx1 hx2 hx3 HX2
 go_wp2
 have hbf:=((((uh HR3).setCell 0 (.int .i64 0)).setCell 1 (.slice (some ⟨w3.heap.size,0,none⟩) 1 1)).setCell 2 (.string qAa)).alloc (.cells #[.int .i64 (p.2.acc+1)] 3)
 have hkF:Keeps (fun i=>i=ob+1) w3 ((((w3.setCell ⟨ob+1,0,none⟩ (.int .i64 0)).setCell ⟨ob+1,1,none⟩ (.slice (some ⟨w3.heap.size,0,none⟩) 1 1)).setCell ⟨ob+1,2,none⟩ (.string qAa)).alloc (.cells #[.int .i64 (p.2.acc+1)] 3)) :=
  ((((Keeps.refl (fun i=>i=ob+1) w3).setCell (p:=⟨ob+1,0,none⟩) (Or.inl rfl) _).setCell (p:=⟨ob+1,1,none⟩) (Or.inl rfl) _).setCell (p:=⟨ob+1,2,none⟩) (Or.inl rfl) _).alloc _
 have hbn:Blk ((((w3.setCell ⟨ob+1,0,none⟩ (.int .i64 0)).setCell ⟨ob+1,1,none⟩ (.slice (some ⟨w3.heap.size,0,none⟩) 1 1)).setCell ⟨ob+1,2,none⟩ (.string qAa)).alloc (.cells #[.int .i64 (p.2.acc+1)] 3)) w3.heap.size [.int .i64 (p.2.acc+1)] 3:=Blk.newAt (by simp) [_] 3
 have e9:((((w3.setCell ⟨ob+1,0,none⟩ (.int .i64 0)).setCell ⟨ob+1,1,none⟩ (.slice (some ⟨w3.heap.size,0,none⟩) 1 1)).setCell ⟨ob+1,2,none⟩ (.string ⟨#[]⟩)).alloc (.cells #[.int .i64 (p.2.acc+1)] 3))=((((w3.setCell ⟨ob+1,0,none⟩ (.int .i64 0)).setCell ⟨ob+1,1,none⟩ (.slice (some ⟨w3.heap.size,0,none⟩) 1 1)).setCell ⟨ob+1,2,none⟩ (.string qAa)).alloc (.cells #[.int .i64 (p.2.acc+1)] 3)):=rfl
 rw [e9]
 clear e9
 generalize ((((w3.setCell ⟨ob+1,0,none⟩ (.int .i64 0)).setCell ⟨ob+1,1,none⟩ (.slice (some ⟨w3.heap.size,0,none⟩) 1 1)).setCell ⟨ob+1,2,none⟩ (.string qAa)).alloc (.cells #[.int .i64 (p.2.acc+1)] 3))=w9 at *
 have q0:w9.cell? ⟨ob+1,0,none⟩=some (.int .i64 0):=hbf.cell rfl
 have q1:w9.cell? ⟨ob+1,1,none⟩=some (.slice (some ⟨w3.heap.size,0,none⟩) 1 1):=hbf.cell rfl
 have q2:w9.cell? ⟨ob+1,2,none⟩=some (.string qAa):=hbf.cell rfl
 refine bodyPost_ret (v:=ansV 0 (.slice (some ⟨w3.heap.size,0,none⟩) 1 1)) (by simp [results,Tryz.results43,go_sem,q0,q1,q2,ansV]) rfl ?_
 obtain ⟨l1,l2,hps,hupd⟩:=qMp (uh HF)
 have hob:=uh HOB
 have hE2:=uh HE2
 have hLT:=uh HLT
 have hK2:=uh HK2
 have hPF:=uh HPF
 rw [hupd]
 subst hps
 have hE3:ERep w3 e v clock (l1++(b',accS p.2 ⟨o.a,o.b,o.c,0⟩)::l2):=hE2.one (uh HK3) (uh HS3) rfl (uh HN3)
 have hF3:∀ i,EFoot e v (l1++(b',accS p.2 ⟨o.a,o.b,o.c,0⟩)::l2) i→EFoot e v (l1++p::l2) i∨w2.heap.size≤i:=fun i hi=>EFoot.one (w:=w2) (x':=accS p.2 ⟨o.a,o.b,o.c,0⟩) rfl (uh HN3) i hi
 refine ⟨.slice (some ⟨w3.heap.size,0,none⟩) 1 1,v,l1++(b',accS p.2 ⟨o.a,o.b,o.c,0⟩)::l2,rfl,hE3.keeps hkF (fun i hi h=>?_),?_,⟨rfl,.inr ⟨w3.heap.size,1,_,rfl,by omega,hbn,by simp,by unfold maxLen;omega,rfl,rfl⟩⟩,?_,?_,?_⟩
 ·rcases hF3 i hi with h1 | h1
  ·have:=hLT i h1;omega
  ·omega
 ·simp only [List.map_append,List.map_cons];rfl
 ·refine ((hK2.mono (M':=EFoot e v (l1++p::l2)) (fun _ _ h=>h.elim)).trans (uh HK3) (fun i hi _=>.inr (.inr ⟨p,by simp,hi⟩))).trans hkF (fun i hi hlt=>?_)
  omega
 ·intro i hi
  rcases hF3 i hi with h1 | h1
  ·exact .inl h1
  ·exact .inr (by omega)
 ·intro i hi hf
  have h1:w3.heap.size=i:=by simpa [Value.ownBlock] using hi
  have h2:=hE3.lt i hf
  omega
end Go.Proofs.YtahnliehdjncdaaGreatDoor
namespace Go.Proofs.YtahnliehdjncdaaGreatDoor
open Go.RowKit
attribute [local go_sem ↓] qAd qAe
attribute [local go_sem] qAi qAj qAb qAc qAm qAn qAh qAg qAk qAo
theorem qJ5 (n:Int) (b:SB) (x:Ser) (cd:Nat) (w:World) (hs:SRep w b x) (hi:SInv n x) (hn:n≤4611686018427387904) (hc:cd<12) :
  Calls Tryz.prog 63 #[.pointer (some ⟨b.s,0,none⟩),.int .i64 cd] w fun e w'=>e=.returned (.tuple #[])∧SRep w' b (refS x cd)∧Keeps (b.foot x.k) w w':=by
 have HS:=hide hs
 have hce:=qG8 b x hi.reflen cd hc
 have hcr:w.cell? ⟨b.s,35+cd,none⟩=some (.int .i64 (qAu x.ref cd)):=hs.blk.cell hce
 have hfs:=hs.blk.frozen
 have hlt:=hs.blk.lt
 have hrb:0≤qAu x.ref cd∧qAu x.ref cd≤n:=hi.refn _ (by unfold qAu;rw [List.getD_eq_getElem?_getD,List.getElem?_eq_getElem (by have:=hi.reflen;omega)];exact List.getElem_mem _)
 have hwr:IntKind.i64.wrap (qAu x.ref cd+1)=qAu x.ref cd+1:=qH8 (by omega) (by omega)
 have hi0:(0:Int)≤(cd:Int):=by omega
 have hi12:(cd:Int)<12:=by omega
 clear hs hi hce
 have HM:=hide (show minI (qAu x.ref cd+1) 4611686018427387904=if qAu x.ref cd+1<4611686018427387904 then qAu x.ref cd+1 else 4611686018427387904 from rfl)
 generalize hv:qAu x.ref cd=v at *
 have HV:=hide hv
 clear hv
 have hfin:∀ w',w'=(w.setCell ⟨b.s,35+cd,none⟩ (.int .i64 (minI (qAu x.ref cd+1) 4611686018427387904))).drew∨w'=w.setCell ⟨b.s,35+cd,none⟩ (.int .i64 (minI (qAu x.ref cd+1) 4611686018427387904))→SRep w' b (refS x cd)∧Keeps (b.foot x.k) w w':=by
  intro w' hw'
  have hs:=uh HS
  have hk1:Keeps (fun i=>i=b.s) w w':=by
   rcases hw' with h | h
   ·rw [h];exact ((Keeps.refl (fun i=>i=b.s) w).setCell (p:=⟨b.s,35+cd,none⟩) (Or.inl rfl) _).drew
   ·rw [h];exact ((Keeps.refl (fun i=>i=b.s) w).setCell (p:=⟨b.s,35+cd,none⟩) (Or.inl rfl) _)
  refine ⟨⟨?_,hs.que.keeps hk1 (fun h=>hs.sq h.symm) (fun g hg h=>hs.sg g hg h.symm),hs.note.keeps hk1 (fun i hi h=>(hs.sn i hi).1 h),hs.sq,hs.sg,hs.sn⟩,hk1.mono (fun i _ h=>.inl h)⟩
  have hb:=hs.blk.setCell (35+cd) (.int .i64 (minI (qAu x.ref cd+1) 4611686018427387904))
  rw [qTc] at hb
  rcases hw' with h | h
  ·rw [h];exact hb.drew
  ·rw [h];exact hb
 have HF:=hide hfin
 clear hfin
 rw [uh HV] at HF
 rcases Int.lt_trichotomy (v+1) 4611686018427387904 with hlt1 | hlt1 | hlt1
 ·rw [if_pos hlt1] at HM
  rw [uh HM] at HF
  clear HM
  go_enter Tryz.func63,Tryz.ntmps63
  go_wp2_with fail
  go_region
  go_wp2
  go_end0
  exact ⟨rfl,uh HF _ (by first | exact .inl rfl | exact .inr rfl)⟩
 ·rw [if_neg (by omega)] at HM
  rw [uh HM] at HF
  clear HM
  have hv2:v=4611686018427387903:=by omega
  rw [hv2] at hcr hwr hrb hlt1
  clear hlt1
  go_enter Tryz.func63,Tryz.ntmps63
  go_wp2_with fail
  go_region
  go_wp2
  go_end0
  exact ⟨rfl,uh HF _ (by first | exact .inl rfl | exact .inr rfl)⟩
 ·rw [if_neg (by omega)] at HM
  rw [uh HM] at HF
  clear HM
  have hv2:v=4611686018427387904:=by omega
  rw [hv2] at hcr hwr hrb hlt1
  clear hlt1
  go_enter Tryz.func63,Tryz.ntmps63
  go_wp2_with fail
  go_region
  go_wp2
  go_end0
  exact ⟨rfl,uh HF _ (by first | exact .inl rfl | exact .inr rfl)⟩
theorem add_no (n:Int) (e:Nat) (v:Value) (clock:Int) (ps:List (SB×Ser)) (o:OpM) (w:World) (h:ERep w e v clock ps) (hi:EInv n clock (ps.map (·.2))) (p:SB×Ser) (cd:Nat) (hf:qEg ps o.id=some p) (hc:refE p.2 clock o.item=cd) (hc0:cd≠0) (hn:n≤1152921504606846976) :
  Calls Tryz.prog 43 #[.pointer (some ⟨e,0,none⟩),o.val] w fun r w'=>StepPost w e v ps clock (updS (ps.map (·.2)) o.id (refS p.2 cd)) cd [] r w':=by
 have hmem:p∈ps:=List.mem_of_find?_eq_some hf
 have HM:=hide hmem
 have HC:=hide (show refE p.2 clock ⟨o.a,o.b,o.c,0⟩=cd from hc)
 have hc12:cd<12:=by have:=(qGd p.2 clock o.item).2;rw [hc] at this;omega
 clear hmem hc
 have h1:o.cells[1]?=some (.int .i64 o.id):=rfl
 have HE:=hide h
 have HI:=hide hi
 have hl:ps.length≤1000:=by have:=hi.six;rw [List.length_map] at this;omega
 have HF:=hide hf
 clear h hi hf
 unfold OpM.val
 go_enter Tryz.func43,Tryz.ntmps43
 go_wp2_with fail
 have hk0:Keeps (fun _=>False) w ((w.alloc (.cells o.cells.toArray 40)).alloc (.cells #[.int .i64 0,.slice none 0 0,.string ⟨#[]⟩] 33)):=((Keeps.refl (fun _=>False) w).alloc _).alloc _
 have HO0:=hide (show Blk ((w.alloc (.cells o.cells.toArray 40)).alloc (.cells #[.int .i64 0,.slice none 0 0,.string ⟨#[]⟩] 33)) w.heap.size o.cells 40 from (Blk.new w o.cells 40).alloc _)
 have HR0:=hide (show Blk ((w.alloc (.cells o.cells.toArray 40)).alloc (.cells #[.int .i64 0,.slice none 0 0,.string ⟨#[]⟩] 33)) (w.heap.size+1) [.int .i64 0,.slice none 0 0,.string qAa] 33 from Blk.newAt (by simp) [_,_,_] 33)
 have HE0:=hide ((uh HE).still hk0)
 have HK0:=hide hk0
 clear hk0
 generalize (w.alloc (.cells o.cells.toArray 40)).alloc (.cells #[.int .i64 0,.slice none 0 0,.string ⟨#[]⟩] 33)=w0 at *
 have HLT:=hide (show ∀ i,EFoot e v ps i→i<w.heap.size from (uh HE).lt)
 generalize hob:w.heap.size=ob at *
 have HOB:=hide hob
 clear hob
 have hsz0:ob+1<w0.heap.size:=(uh HR0).lt
 refine (qEb e v clock o.id ps w0 (uh HE0) hl).mono ?_
 rintro r w1 ⟨rfl,hw1⟩
 rw [hw1]
 clear hw1 w1
 rw [uh HF]
 unfold qJ4
 have HS0:=hide ((uh HE0).reps p (uh HM))
 have HSI:=hide ((uh HI).sers p.2 (List.mem_map_of_mem (uh HM)))
 have cl0:=(uh HI).c0
 have cl1:=(uh HI).c1
 have hoa:w0.cell? ⟨ob,2,none⟩=some (.int .i64 o.a):=(uh HO0).cell rfl
 have hobb:w0.cell? ⟨ob,3,none⟩=some (.int .i64 o.b):=(uh HO0).cell rfl
 have hoc:w0.cell? ⟨ob,4,none⟩=some (.int .i64 o.c):=(uh HO0).cell rfl
 go_wp2_with fail
 have hkx:Keeps (fun _=>False) w0 (w0.alloc (.cells #[.int .i64 o.a,.int .i64 o.b,.int .i64 o.c,.int .i64 0] 87)):=(Keeps.refl (fun _=>False) w0).alloc _
 have HX1:=hide (Blk.new w0 [.int .i64 o.a,.int .i64 o.b,.int .i64 o.c,.int .i64 0] 87)
 have HE1:=hide ((uh HE0).still hkx)
 have HS1:=hide ((uh HS0).still hkx)
 have HR1:=hide ((uh HR0).keeps hkx (fun h=>h))
 have HK1:=hide ((uh HK0).then hkx)
 clear hkx HE0 HS0 HR0 HK0 HO0 hoa hobb hoc
 generalize w0.alloc (.cells #[.int .i64 o.a,.int .i64 o.b,.int .i64 o.c,.int .i64 0] 87)=w1 at *
 generalize hxb:w0.heap.size=xb at *
 clear hxb
 have hx0:w1.cell? ⟨xb,0,none⟩=some (.int .i64 o.a):=(uh HX1).cell rfl
 have hx1:w1.cell? ⟨xb,1,none⟩=some (.int .i64 o.b):=(uh HX1).cell rfl
 have hx2:w1.cell? ⟨xb,2,none⟩=some (.int .i64 o.c):=(uh HX1).cell rfl
 have hx3:w1.cell? ⟨xb,3,none⟩=some (.int .i64 0):=(uh HX1).cell rfl
 have hce:w1.cell? ⟨e,0,none⟩=some (.int .i64 clock):=(uh HE1).blk.cell rfl
 go_region_held3 (fun w'=>w'.cell? ⟨e,0,none⟩=some (.int .i64 clock)∧w'.cell? ⟨xb,0,none⟩=some (.int .i64 o.a)∧w'.cell? ⟨xb,1,none⟩=some (.int .i64 o.b)∧w'.cell? ⟨xb,2,none⟩=some (.int .i64 o.c)∧w'.cell? ⟨xb,3,none⟩=some (.int .i64 0))
  (first | (simp [*];done) | (go_split_ands;exact ⟨hk2.cell (by assumption) (fun h=>h),hk2.cell (by assumption) (fun h=>h),hk2.cell (by assumption) (fun h=>h),hk2.cell (by assumption) (fun h=>h),hk2.cell (by assumption) (fun h=>h)⟩))
  (first | (go_at_call 62;refine (qKd n p.1 p.2 ⟨o.a,o.b,o.c,0⟩ clock _ (by exact (uh HS1).still ((Keeps.refl (fun _=>False) w1).drew)) (uh HSI) cl0 cl1).mono ?_;rintro r w2 ⟨rfl,hk2⟩))
 have hk2d:Keeps (fun _=>False) w1 w2:=((Keeps.refl (fun _=>False) w1).drew).then hk2
 have HX2:=hide ((uh HX1).keeps hk2d (fun h=>h))
 have HE2:=hide ((uh HE1).still hk2d)
 have HS2:=hide ((uh HS1).still hk2d)
 have HR2:=hide ((uh HR1).keeps hk2d (fun h=>h))
 have HK2:=hide ((uh HK1).then hk2d)
 clear hk2 hk2d HX1 HE1 HS1 HR1 HK1 hx0 hx1 hx2 hx3 hce
 rw [uh HC]
 have hne:((cd:Int)!=0)=true:=by simp;omega
 have hsz2:ob+1<w2.heap.size:=(uh HR2).lt
 go_wp2_with fail
 refine (qJ5 n p.1 p.2 cd w2 (uh HS2) (uh HSI) (by omega) hc12).mono ?_
 rintro r w3 ⟨rfl,hs3,hks⟩
 have hpf:∀ i,p.1.foot p.2.k i→i<ob:=fun i hi=>uh HLT i (.inr (.inr ⟨p,uh HM,hi⟩))
 have HR3:=hide ((uh HR2).keeps hks (fun h=>by have:=hpf _ h;omega))
 have HS3:=hide hs3
 have HKS:=hide hks
 clear hks hpf hs3
 go_wp2_with fail
 refine (qGv cd w3).mono ?_
 rintro r w4 ⟨rfl,hk4⟩
 unfold ansV
 have HR4:=hide ((uh HR3).keeps hk4 (fun h=>h))
 have HK34:=hide hk4
 clear hk4
 have r0:w4.cell? ⟨ob+1,0,none⟩=some (.int .i64 0):=(uh HR4).cell rfl
 have r1:w4.cell? ⟨ob+1,1,none⟩=some (.slice none 0 0):=(uh HR4).cell rfl
 have r2:w4.cell? ⟨ob+1,2,none⟩=some (.string qAa):=(uh HR4).cell rfl
 have rf:=(uh HR4).frozen
 go_wp2
 have hbf:=(((uh HR4).setCell 0 (.int .i64 cd)).setCell 1 (.slice none 0 0)).setCell 2 (.string qAa)
 have HKF:=hide ((((Keeps.refl (fun i=>i=ob+1) w4).setCell (p:=⟨ob+1,0,none⟩) (Or.inl rfl) (.int .i64 cd)).setCell (p:=⟨ob+1,1,none⟩) (Or.inl rfl) (.slice none 0 0)).setCell (p:=⟨ob+1,2,none⟩) (Or.inl rfl) (.string qAa))
 have e9:(((w4.setCell ⟨ob+1,0,none⟩ (.int .i64 cd)).setCell ⟨ob+1,1,none⟩ (.slice none 0 0)).setCell ⟨ob+1,2,none⟩ (.string ⟨#[]⟩))=(((w4.setCell ⟨ob+1,0,none⟩ (.int .i64 cd)).setCell ⟨ob+1,1,none⟩ (.slice none 0 0)).setCell ⟨ob+1,2,none⟩ (.string qAa)):=rfl
 first | rw [e9] | skip
 generalize (((w4.setCell ⟨ob+1,0,none⟩ (.int .i64 cd)).setCell ⟨ob+1,1,none⟩ (.slice none 0 0)).setCell ⟨ob+1,2,none⟩ (.string qAa))=w9 at *
 have q0:w9.cell? ⟨ob+1,0,none⟩=some (.int .i64 cd):=hbf.cell rfl
 have q1:w9.cell? ⟨ob+1,1,none⟩=some (.slice none 0 0):=hbf.cell rfl
 have q2:w9.cell? ⟨ob+1,2,none⟩=some (.string qAa):=hbf.cell rfl
 refine bodyPost_ret (v:=ansV cd (.slice none 0 0)) (by simp [results,Tryz.results43,go_sem,q0,q1,q2,ansV]) rfl ?_
 have hkf:=uh HKF
 have hob:=uh HOB
 obtain ⟨l1,l2,hps,hupd⟩:=qMp (uh HF)
 have hE2:=uh HE2
 have hLT:=uh HLT
 have hK2:=uh HK2
 rw [hupd]
 subst hps
 have hN:p.1.next p.1 p.2.k w2.heap.size:=⟨rfl,fun _ h=>.inl h⟩
 have hE3:ERep w3 e v clock (l1++(p.1,refS p.2 cd)::l2):=hE2.one (uh HKS) (uh HS3) rfl hN
 have hE4:=hE3.still (uh HK34)
 have hF3:∀ i,EFoot e v (l1++(p.1,refS p.2 cd)::l2) i→EFoot e v (l1++p::l2) i∨w2.heap.size≤i:=fun i hi=>EFoot.one (w:=w2) (x':=refS p.2 cd) rfl hN i hi
 refine ⟨.slice none 0 0,v,l1++(p.1,refS p.2 cd)::l2,rfl,hE4.keeps hkf (fun i hi h=>?_),?_,World.ownsRow_nil _ _ _ _,?_,?_,?_⟩
 ·rcases hF3 i hi with h1 | h1
  ·have:=hLT i h1;omega
  ·omega
 ·simp only [List.map_append,List.map_cons]
 ·refine (((hK2.mono (M':=EFoot e v (l1++p::l2)) (fun _ _ h=>h.elim)).trans (uh HKS) (fun i hi _=>.inr (.inr ⟨p,by simp,hi⟩))).trans (uh HK34) (fun _ h _=>h.elim)).trans hkf (fun i hi hlt=>?_)
  omega
 ·intro i hi
  rcases hF3 i hi with h1 | h1
  ·exact .inl h1
  ·exact .inr (by omega)
 ·intro i hi hf
  simp [Value.ownBlock] at hi
end Go.Proofs.YtahnliehdjncdaaGreatDoor
namespace Go.Proofs.YtahnliehdjncdaaGreatDoor
open Go.RowKit
attribute [local go_sem ↓] qAd qAe
attribute [local go_sem] qAi qAj qAb qAc qAm qAn qAh qAg qAk qAo
theorem row_at {w:World} {g n cap:Nat} {xs:List Value} (h:w.ownsRow 0 73 1 (.slice (some ⟨g,0,none⟩) n cap) n xs) (i:Nat) (u:Value) (hu:xs[i]?=some u):w.cell? ⟨g,i,none⟩=some u:=by
 rcases qPh h with ⟨h0,_⟩ | ⟨g',cap',hv,hc⟩
 ·have:=(List.getElem?_eq_some_iff.1 hu).1;have:=h.1;omega
 ·cases hv;exact hc i u hu
theorem qSd (qs:List (SB×Ser)) (k:Nat) (h:k<qs.length):∃ l1 p l2,qs=l1++p::l2∧l1.length=k:=by
 refine ⟨qs.take k,qs[k],qs.drop (k+1),?_,by simp;omega⟩
 rw [←List.drop_eq_getElem_cons h,List.take_append_drop]
def swpS (clock b:Int) (x:Ser):Ser:={ x with nt:=(swpN x.k x.c x.nt (clock-x.c.lag) b).1 }
def thrS (clock b:Int) (x:Ser):Int:=(swpN x.k x.c x.nt (clock-x.c.lag) b).2.1
def qL0 (clock b:Int) (x:Ser):Int:=(swpN x.k x.c x.nt (clock-x.c.lag) b).2.2
def qCg (clock:Int):Int→List Ser→List Ser×Int
 | _,[]=>([],0)
 | b,x::xs=>(swpS clock b x::(qCg clock (b-thrS clock b x) xs).1,qL0 clock b x+(qCg clock (b-thrS clock b x) xs).2)
theorem thrS_bd {n:Int} {x:Ser} (clock b:Int) (h:SInv n x) (hn:n≤4398046511104) (b0:0≤b):0≤thrS clock b x∧thrS clock b x≤b∧0≤qL0 clock b x∧qL0 clock b x≤4398046511104:=by
 unfold thrS qL0 swpN
 split
 ·have h1:=pastN_le x.nt.bs (clock-x.c.lag-x.c.window)
  have h2:=(h.note.binv (by have h1:=h.rela;have h2:=h.accn;omega)).len
  show 0≤qDu _ _ _ _∧qDu _ _ _ _≤b∧0≤_-qDu _ _ _ _∧_-qDu _ _ _ _≤_
  unfold qDu
  omega
 ·show 0≤(0:Int)∧(0:Int)≤b∧0≤(0:Int)∧(0:Int)≤_
  omega
theorem qSj {n:Int} {x:Ser} (clock b:Int) (h:SInv n x):SInv n (swpS clock b x) :=
 ⟨h.valid,h.kind,h.k1,h.k5,h.acc0,h.accn,h.rel0,h.rela,h.reflen,h.refn,h.cap,h.times,qX0 h.note _ _,h.heap,h.last0,h.lastn,h.lastl,h.fits⟩
theorem qYh {w w':World} {b:SB} {x:Ser} (clock bu:Int) (h:SRep w b x) (hn:NRep w' x.k b.n x.c (swpN x.k x.c x.nt (clock-x.c.lag) bu).1) (hk:Keeps (qGy x.k b.n) w w'):SRep w' b (swpS clock bu x) :=
 ⟨h.blk.keeps hk (fun hh=>(h.sn _ hh).1 rfl),h.que.keeps hk (fun hh=>(h.sn _ hh).2.1 rfl) (fun _ hg hh=>(h.sn _ hh).2.2 hg),hn,h.sq,h.sg,h.sn⟩
theorem qRz (xs:List Ser) (clock bu:Int) (done:List Ser) (l1 l2:List (SB×Ser)) (p:SB×Ser) (k:Nat) (hk:l1.length=k) (hd:done.length=k) (hx:k<xs.length) (h:(l1++p::l2).map (·.2)=done++xs.drop k) :
  (l1++(p.1,swpS clock bu p.2)::l2).map (·.2)=(done++[swpS clock bu p.2])++xs.drop (k+1)∧xs.drop k=p.2::xs.drop (k+1):=by
 have hl:(l1.map (·.2)).length=done.length:=by simp;omega
 rw [List.map_append] at h
 obtain ⟨h1,h2⟩:=List.append_inj h hl
 rw [List.drop_eq_getElem_cons hx,List.map_cons] at h2
 injection h2 with h3 h4
 refine ⟨?_,?_⟩
 ·rw [List.map_append,List.map_cons,h1,h4]
  simp
 ·rw [List.drop_eq_getElem_cons hx,h3]
theorem qWp (n:Int) (e:Nat) (v:Value) (nc bu:Int) (ps:List (SB×Ser)) (w:World) (h:ERep w e v nc ps) (hs:∀ x,x∈ps.map (·.2)→SInv n x) (h6:ps.length≤6) (hn:n≤4398046511104) (nc0:0≤nc) (nc1:nc≤4611686018427387904) (b0:0≤bu) (b1:bu≤100) :
  Calls Tryz.prog 68 #[.pointer (some ⟨e,0,none⟩),.int .i64 bu] w fun r w'=>r=.returned (.int .i64 (qCg nc bu (ps.map (·.2))).2)∧∃ ps',ERep w' e v nc ps'∧ps'.map (·.2)=(qCg nc bu (ps.map (·.2))).1∧Keeps (EFoot e v ps) w w'∧(∀ i,EFoot e v ps' i→EFoot e v ps i)∧(∀ x,x∈ps'.map (·.2)→SInv n x):=by
 have HE:=hide h
 have HS:=hide hs
 have hc1:w.cell? ⟨e,1,none⟩=some v:=h.blk.cell rfl
 have hlv:∃ a cap,v=.slice a ps.length cap:=by
  rcases h.row.2 with ⟨h1,h2⟩ | ⟨g,cap,cur,h1,_⟩
  ·exact ⟨none,0,by rw [h1,h2]⟩
  ·exact ⟨some ⟨g,0,none⟩,cap,h1⟩
 obtain ⟨va,vcap,hv⟩:=hlv
 generalize hm:ps.length=m at *
 have HM:=hide hm
 have HXL:=hide (show (ps.map (·.2)).length=m by rw [List.length_map];exact hm)
 clear hm h hs
 subst hv
 go_enter Tryz.func68,Tryz.ntmps68
 go_wp2_with fail
 go_loopg [1,5,7,8,9,15] (m) (fun gg a b _ _ _ i wr=>∃ (k:Nat) (qs:List (SB×Ser)) (bud all:Int) (done:List Ser),k≤m∧m-k=gg∧a=.int .i64 bud∧b=.int .i64 all∧i=.int .i64 k∧0≤bud∧bud≤100∧0≤all∧all≤k*4398046511104∧Hid (ERep wr e (.slice va m vcap) nc qs)∧Hid (done.length=k)∧Hid (qs.map (·.2)=done++(ps.map (·.2)).drop k)∧Hid (qCg nc bu (ps.map (·.2))=(done++(qCg nc bud ((ps.map (·.2)).drop k)).1,all+(qCg nc bud ((ps.map (·.2)).drop k)).2))∧Hid (Keeps (EFoot e (.slice va m vcap) ps) w wr)∧Hid (∀ i,EFoot e (.slice va m vcap) qs i→EFoot e (.slice va m vcap) ps i)∧Hid (∀ x,x∈qs.map (·.2)→SInv n x))
 case atStart=>exact ⟨0,ps,bu,0,[],by omega,rfl,rfl,rfl,rfl,b0,b1,by omega,by omega,HE,rfl,rfl,by show _=_;simp,Keeps.refl _ _,fun _ h=>h,HS⟩
 case round =>
  obtain ⟨k,qs,bud,all,done,hk,hgg,rfl,rfl,rfl,d0,d1,a0,a1,HEr,HDL,HX,HSW,HKr,HFr,HSr⟩:=hrel
  have HGG:=hide hgg
  clear hc1 hgg
  have hql:qs.length=m:=by
   have h1:=congrArg List.length (uh HX)
   have h2:=uh HXL
   have h3:=uh HDL
   rw [List.length_append,List.length_map,List.length_drop,h2,h3] at h1
   omega
  have HQL:=hide hql
  clear hql
  by_cases hlt:k<m
  ·obtain ⟨l1,q,l2,hqs,hl1⟩:=qSd qs k (by rw [uh HQL];exact hlt)
   have HQS:=hide hqs
   have HL1:=hide hl1
   have hqm:q∈qs:=by rw [hqs];simp
   have HQM:=hide hqm
   have HSq:=hide ((uh HEr).reps q hqm)
   have HIq:=hide (uh HSr q.2 (List.mem_map_of_mem hqm))
   obtain ⟨la0,la1,_,_,_,_⟩:=(uh HIq).common
   obtain ⟨t0,t1,t2,t3⟩:=thrS_bd nc bud (uh HIq) hn d0
   obtain ⟨g,hg⟩:∃ g,va=some ⟨g,0,none⟩:=by
    rcases (uh HEr).row.2 with ⟨h1,_⟩ | ⟨g,cap,cur,h1,_⟩
    ·have hm0:m=0:=by injection h1
     omega
    ·injection h1 with h2 _ _
     exact ⟨g,h2⟩
   subst hg
   have hck:wr.cell? ⟨g,k,none⟩=some (.pointer (some ⟨q.1.s,0,none⟩)):=by
    have hrow:=(uh HEr).row
    rw [uh HQL] at hrow
    refine row_at hrow k _ ?_
    unfold ptrs
    rw [hqs,List.map_append,List.getElem?_append_right (by simp [hl1])]
    simp [hl1]
   have HNE:=hide (show ¬ qGy q.2.k q.1.n e from fun h=>((uh HEr).ef q hqm e (.inr (.inr (.inr h)))).1 rfl)
   have HNS:=hide (show ¬ qGy q.2.k q.1.n q.1.s from fun h=>((uh HSq).sn _ h).1 rfl)
   clear hqs hl1 hqm
   have hce:wr.cell? ⟨e,0,none⟩=some (.int .i64 nc):=(uh HEr).blk.cell rfl
   have hc2:wr.cell? ⟨q.1.s,2,none⟩=some (.int .i64 q.2.c.lag):=(uh HSq).blk.cell rfl
   have hc26:wr.cell? ⟨q.1.s,29,none⟩=some (.func (.func (swpF q.2.k)) (qX7 q.2.k q.1.n.d) #[]):=(uh HSq).blk.cell rfl
   have hown:=own_swp q.2.k (uh HIq).k1 (uh HIq).k5
   have HRL:=hide (show q.2.rel≤4398046511104 by have h1:=(uh HIq).rela;have h2:=(uh HIq).accn;omega)
   have hk0:(0:Int)≤(k:Int):=by omega
   have hkm:(k:Int)<(m:Int):=by omega
   go_wp2_with fail
   go_region_held3 (fun w'=>w'.cell? ⟨q.1.s,29,none⟩=some (.func (.func (swpF q.2.k)) (qX7 q.2.k q.1.n.d) #[])∧w'.cell? ⟨q.1.s,2,none⟩=some (.int .i64 q.2.c.lag)∧w'.cell? ⟨e,0,none⟩=some (.int .i64 nc))
    (first | (simp [*];done) | (go_split_ands;exact ⟨hk1.cell (by assumption) (uh HNS),hk1.cell (by assumption) (uh HNS),hk1.cell (by assumption) (uh HNE)⟩))
    (first | (go_at_call 67;refine (qSe q.1.s q.2.c.lag nc _ (by go_keep) la0 la1 nc0 nc1).mono ?_;rintro e w' ⟨rfl,rfl⟩) | (refine (swp_any (rel:=q.2.rel) q.2.k q.1.n q.2.c q.2.nt (nc-q.2.c.lag) bud _ _ (by first | rfl | simp) (by exact (uh HSq).note.still (Keeps.refl _ _).drew) (uh HIq).note (uh HRL) (uh HIq).valid (uh HIq).kind (uh HIq).k1 (uh HIq).k5 (by omega) (by omega) d0 d1).mono ?_;rintro e w1 ⟨rfl,hn1,hk1⟩))
   have HK1:=hide (((Keeps.refl (qGy q.2.k q.1.n) wr).drew).then hk1)
   have HN1:=hide hn1
   clear hn1 hk1 hck hce hc2 hc26 hown
   have ht:(swpN q.2.k q.2.c q.2.nt (nc-q.2.c.lag) bud).2.1=thrS nc bud q.2:=rfl
   have hlf:(swpN q.2.k q.2.c q.2.nt (nc-q.2.c.lag) bud).2.2=qL0 nc bud q.2:=rfl
   rw [ht,hlf]
   clear ht hlf
   generalize hth:thrS nc bud q.2=th at *
   generalize hle:qL0 nc bud q.2=le at *
   have HTH:=hide hth
   have HLE:=hide hle
   clear hth hle
   have hw1:IntKind.i64.wrap (bud-th)=bud-th:=by rw [IntKind.wrap_i64];omega
   have hw2:IntKind.i64.wrap (all+le)=all+le:=by rw [IntKind.wrap_i64];omega
   go_wp2
   go_roundg (m-(k+1))
   case measure=>have:=uh HGG;omega
   case rel =>
    have hEr:=uh HEr
    have hFr:=uh HFr
    have hX:=uh HX
    have hSr:=uh HSr
    have hQS:=uh HQS
    subst hQS
    obtain ⟨hx1,hx2⟩:=qRz (ps.map (·.2)) nc bud done l1 l2 q k (uh HL1) (uh HDL) (by rw [uh HXL];exact hlt) hX
    have hsr:=qYh nc bud (uh HSq) (uh HN1) (uh HK1)
    have hnx:q.1.next q.1 q.2.k wr.heap.size:=⟨rfl,fun _ h=>.inl h⟩
    have hkf:Keeps (q.1.foot q.2.k) wr w1:=(uh HK1).mono (fun i _ h=>.inr (.inr (.inr h)))
    have hE2:=hEr.one hkf hsr rfl hnx
    refine ⟨k+1,l1++(q.1,swpS nc bud q.2)::l2,bud-th,all+le,done++[swpS nc bud q.2],by omega,rfl,rfl,rfl,by go_num,by omega,by omega,by omega,by omega,hE2,by show _=_;rw [List.length_append,uh HDL];rfl,hx1,?_,?_,?_,?_⟩
    ·show _=_
     rw [uh HSW,hx2]
     simp only [qCg]
     rw [uh HTH,uh HLE,List.append_assoc,List.singleton_append,Int.add_assoc]
    ·exact (uh HKr).trans hkf (fun i hi _=>hFr i (.inr (.inr ⟨q,by simp,hi⟩)))
    ·rintro i (hi | hi | ⟨p,hp,hi⟩)
     ·exact hFr i (.inl hi)
     ·exact hFr i (.inr (.inl hi))
     ·rcases List.mem_append.1 hp with hp | hp
      ·exact hFr i (.inr (.inr ⟨p,by simp [hp],hi⟩))
      ·rcases List.mem_cons.1 hp with hp | hp
       ·subst hp;exact hFr i (.inr (.inr ⟨q,by simp,hi⟩))
       ·exact hFr i (.inr (.inr ⟨p,by simp [hp],hi⟩))
    ·intro x hx
     rw [List.map_append,List.map_cons] at hx
     rcases List.mem_append.1 hx with hx | hx
     ·exact hSr x (by rw [List.map_append];exact List.mem_append.2 (.inl hx))
     ·rcases List.mem_cons.1 hx with hx | hx
      ·rw [hx];exact qSj _ _ (uh HIq)
      ·exact hSr x (by rw [List.map_append,List.map_cons];exact List.mem_append.2 (.inr (List.mem_cons.2 (.inr hx))))
  ·have HKM:=hide (show k=m by omega)
   go_wp2
   go_ret
   have hdn:(ps.map (·.2)).drop k=[]:=List.drop_eq_nil_of_le (by rw [uh HXL,uh HKM];exact Nat.le_refl _)
   have hsw:=uh HSW
   have hX:=uh HX
   rw [hdn] at hsw hX
   simp only [qCg,List.append_nil,Int.add_zero] at hsw hX
   rw [hsw]
   exact ⟨rfl,qs,uh HEr,hX,uh HKr,uh HFr,by first | exact uh HSr | (intro x b hb;exact uh HSr x (List.mem_map_of_mem (f:=(·.2)) hb))⟩
end Go.Proofs.YtahnliehdjncdaaGreatDoor
