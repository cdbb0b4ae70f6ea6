import Derived.Test.YtahnliehdjncdaaGreatDoorXBB
import Derived.Test.YtahnliehdjncdaaGreatDoorXBR
import Derived.Test.YtahnliehdjncdaaGreatDoorXBS
set_option maxRecDepth 100000
set_option maxHeartbeats 16000000
namespace Go.Proofs.YtahnliehdjncdaaGreatDoor
section
open Go.RowKit
attribute [local go_sem ↓] qAd qAe qBv qC6
attribute [local go_sem] qAi qAj qAc qAb qAm qAn qAg qAh qIj
theorem qXf(b1 b2:Nat)(v1 v2:Value)(l:List Int)(w:World)(h1:w.ownsRow b1 3 1 v1 l.length (ints l))(h2:w.ownsRow b2 3 1 v2 l.length (ints l))(hl:l.length<=1000):
  Calls Tryz.prog 56 #[v1,v2] w λe w'=>e=.returned (.bool true)/\Keeps (λ_=>False) w w':=by
 rcases qKu h1 with ⟨rfl,a1,c1,rfl⟩ | ⟨g1,c1,rfl,hc1⟩
 ·rcases qKu h2 with ⟨_,a2,c2,rfl⟩ | ⟨g2,c2,rfl,hc2⟩
  all_goals
   clear h1 h2
   go_enter Tryz.func56,Tryz.ntmps56
   go_wp2
   go_loopw [5] (λi wr=>i=.int .i64 0/\wr=w) (λ_ _=>0)
   case atStart=>exact⟨rfl,rfl⟩
   case round =>
    obtain⟨rfl,rfl⟩:=hrel
    go_wp2
    go_ret
    exact⟨rfl,Keeps.refl _ _⟩
 ·rcases qKu h2 with ⟨h0,a2,c2,rfl⟩ | ⟨g2,c2,rfl,hc2⟩
  ·subst h0
   clear h1 h2 hc1
   go_enter Tryz.func56,Tryz.ntmps56
   go_wp2
   go_loopw [5] (λi wr=>i=.int .i64 0/\wr=w) (λ_ _=>0)
   case atStart=>exact⟨rfl,rfl⟩
   case round =>
    obtain⟨rfl,rfl⟩:=hrel
    go_wp2
    go_ret
    exact⟨rfl,Keeps.refl _ _⟩
  ·have HC1:=hide hc1
   have HC2:=hide hc2
   clear h1 h2 hc1 hc2
   generalize hn:l.length=n at *
   clear hn
   go_enter Tryz.func56,Tryz.ntmps56
   go_wp2
   go_loopw [5] (λi wr=>∃k:Nat,k<=n/\i=.int .i64 k/\Hid (Keeps (λ_=>False) w wr)) (λi _=>n-(intOf i).toNat)
   case atStart=>exact⟨0,by omega,rfl,Keeps.refl _ _⟩
   case round =>
    obtain⟨k,hk,rfl,HK⟩:=hrel
    by_cases hlt:k<n
    ·have x1:wr.cell? ⟨g1,k,none⟩=some (.int .i64 (l.getD k 0)):=(uh HK).cell (uh HC1 k hlt) (λh=>h)
     have x2:wr.cell? ⟨g2,k,none⟩=some (.int .i64 (l.getD k 0)):=(uh HK).cell (uh HC2 k hlt) (λh=>h)
     generalize l.getD k 0=y at *
     have hk0:(0:Int)<=(k:Int):=by omega
     have hkn:(k:Int)<(n:Int):=by omega
     have hne:(y !=y)=false:=by simp
     go_wp2
     go_quiet (fail)
     go_wp2
     go_roundw
     case rel=>exact⟨k+1,by omega,by go_num,hide ((uh HK).then (Keeps.drewN _ _ _))⟩
     case measure=>simp[intOf];omega
    ·go_wp2
     go_ret
     exact⟨rfl,uh HK⟩
theorem qYh(b1 b2:Nat)(o:OpM)(code:Int)(v1 v2:Value)(l:List Int)(w:World)(h1:w.ownsRow b1 3 1 v1 l.length (ints l))(h2:w.ownsRow b2 3 1 v2 l.length (ints l))(hl:l.length<=1000)(hk:o.kind≠6):
  Calls Tryz.prog 41 #[o.val,qBu code v1,qBu code v2] w λe w'=>e=.returned (.bool true)/\Keeps (λ_=>False) w w':=by
 have h0c:o.cells[0]?=some (.int .i64 o.kind):=rfl
 have b6:(o.kind==6)=false:=by simpa using hk
 obtain⟨a1,c1,rfl⟩:=qFk h1
 obtain⟨a2,c2,rfl⟩:=qFk h2
 have HK0:=hide ((((Keeps.refl (λ_=>False) w).alloc (.cells o.cells.toArray 40)).alloc (.cells #[.int .i64 code,.slice a1 l.length c1,.string qAa] 33)).alloc (.cells #[.int .i64 code,.slice a2 l.length c2,.string qAa] 33))
 have HO:=hide (show Blk (((w.alloc (.cells o.cells.toArray 40)).alloc (.cells #[.int .i64 code,.slice a1 l.length c1,.string qAa] 33)).alloc (.cells #[.int .i64 code,.slice a2 l.length c2,.string qAa] 33)) w.heap.size o.cells 40 from((Blk.new w o.cells 40).alloc _).alloc _)
 have HA:=hide (show Blk (((w.alloc (.cells o.cells.toArray 40)).alloc (.cells #[.int .i64 code,.slice a1 l.length c1,.string qAa] 33)).alloc (.cells #[.int .i64 code,.slice a2 l.length c2,.string qAa] 33)) (w.heap.size+1) [.int .i64 code,.slice a1 l.length c1,.string qAa] 33 from(Blk.newAt (by simp) [_,_,_] 33).alloc _)
 have HB:=hide (show Blk (((w.alloc (.cells o.cells.toArray 40)).alloc (.cells #[.int .i64 code,.slice a1 l.length c1,.string qAa] 33)).alloc (.cells #[.int .i64 code,.slice a2 l.length c2,.string qAa] 33)) (w.heap.size+2) [.int .i64 code,.slice a2 l.length c2,.string qAa] 33 from Blk.newAt (by simp) [_,_,_] 33)
 have H1:=hide (qAf h1 (uh HK0) (λ_ _ h=>h))
 have H2:=hide (qAf h2 (uh HK0) (λ_ _ h=>h))
 clear h1 h2
 unfold OpM.val qBu
 go_enter Tryz.func41,Tryz.ntmps41
 go_wp2_with fail
 generalize((w.alloc (.cells o.cells.toArray 40)).alloc (.cells #[.int .i64 code,.slice a1 l.length c1,.string qAa] 33)).alloc (.cells #[.int .i64 code,.slice a2 l.length c2,.string qAa] 33)=w0 at *
 generalize w.heap.size=ob at *
 refine(qXf b1 b2 _ _ l w0 (uh H1) (uh H2) hl).mono ?_
 rintro r w1 ⟨rfl,hk1⟩
 have HK1:=hide ((uh HK0).then hk1)
 have p0:w1.cell? ⟨ob+1,0,none⟩=some (.int .i64 code):=hk1.cell ((uh HA).cell rfl) (λh=>h)
 have q0:w1.cell? ⟨ob+2,0,none⟩=some (.int .i64 code):=hk1.cell ((uh HB).cell rfl) (λh=>h)
 have p2:w1.cell? ⟨ob+1,2,none⟩=some (.string qAa):=hk1.cell ((uh HA).cell rfl) (λh=>h)
 have o0:w1.cell? ⟨ob,0,none⟩=some (.int .i64 o.kind):=hk1.cell ((uh HO).cell rfl) (λh=>h)
 have hcc:(code !=code)=false:=by simp
 clear hk1
 go_wp2_with fail
 go_region_held3 (λw'=>w'.cell? ⟨ob+1,0,none⟩=some (.int .i64 code)/\w'.cell? ⟨ob+2,0,none⟩=some (.int .i64 code)) (go_keep)
  (first | (go_at_call 57;refine(qZa _ _).mono ?_;rintro r w9 ⟨rfl,rfl⟩))
 have hbb:(qAa !=⟨#[]⟩)=false:=by decide
 unfold qAa at p2 hbb
 go_wp2
 go_ret
 exact⟨rfl,(uh HK1).drew⟩
def qDz(most low high:Int)(o:OpM): Bool:=decide (o.kind=5\/o.kind<=most)&&decide (o.kind≠1\/(low<=o.cfg.kind/\o.cfg.kind<=high)\/o.cfg.kind<1\/5<o.cfg.kind)
theorem qZ0(v:Value)(ops:List OpM)(most low high:Int)(w:World)(hs:ScriptW w v ops)(hlen:ops.length<=651562446080):
  Calls Tryz.prog 16 #[v,.int .i64 most,.int .i64 low,.int .i64 high] w λr w'=>∃v',r=.returned v'/\qKk w' w.heap.size v' (ops.filter (qDz most low high))/\Keeps (λ_=>False) w w':=by
 obtain⟨a,cap,rfl,hsv⟩:=qFo hs
 have HSV:=hide hsv
 clear hs hsv
 generalize hn:ops.length=n at *
 have HN:=hide hn
 clear hn
 go_enter Tryz.func16,Tryz.ntmps16
 go_wp2_with fail
 go_loopw [9,10] (λl i wr=>∃(k m c:Nat) (ad:Option Addr),k<=n/\i=.int .i64 k/\l=.slice ad m c/\Hid (qKk wr w.heap.size l ((ops.take k).filter (qDz most low high)))/\Hid (Keeps (λ_=>False) w wr)) (λ_ i _=>n-(intOf i).toNat)
 case atStart=>exact⟨0,0,0,none,by omega,rfl,rfl,World.ownsRow_nil _ _ _ _,Keeps.refl _ _⟩
 case round =>
  obtain⟨k,m,c,ad,hk,rfl,rfl,HO,HK⟩:=hrel
  by_cases hkn:k<n
  ·obtain⟨o,ho⟩:∃o,ops[k]?=some o:=⟨ops[k]'(by rw[uh HN];exact hkn),List.getElem?_eq_getElem _⟩
   obtain⟨sb,so,ha,hlt,hra⟩:=uh HSV k o ho
   obtain⟨hv0,hh0⟩:=qHe hra hlt (uh HK)
   subst ha
   have hst:∀zs:List Value,zs.length=26->(qD4 40 (.pointer (some ⟨wr.heap.size,0,none⟩)) (.agg o.cells.toArray)).run Tryz.prog (wr.alloc (.cells zs.toArray 40))=.ok .skip (wr.alloc (.cells o.cells.toArray 40)):=λzs hz=>qFs wr zs o.cells hz rfl (qFi o)
   have hv1:qAv (wr.alloc (.cells o.cells.toArray 40)) wr.heap.size 0 26=.agg o.cells.toArray:=qAk wr o.cells 40 26 rfl
   have hh1:qA2 (wr.alloc (.cells o.cells.toArray 40)) wr.heap.size 0 26=true:=qD8 wr o.cells 40 26 rfl
   have h0c:o.cells[0]?=some (.int .i64 o.kind):=rfl
   have h5c:o.cells[5]?=some (.int .i64 o.cfg.kind):=rfl
   have htk:ops.take (k+1)=ops.take k++[o]:=by rw[List.take_add_one,ho];rfl
   have hk0:(0:Int)<=(k:Int):=by omega
   have hkn':(k:Int)<(n:Int):=by omega
   have hl0:((ops.take k).filter (qDz most low high)).length<=k:=by
    have h1:=List.length_filter_le (qDz most low high) (ops.take k)
    rw[List.length_take]at h1
    omega
   have HFL:=hide (show(ops.take (k+1)).filter (qDz most low high)=(ops.take k).filter (qDz most low high)++[o].filter (qDz most low high) by rw[htk,List.filter_append])
   have hm:m=((ops.take k).filter (qDz most low high)).length:=by
    obtain⟨_,_,e⟩:=qC4 (uh HO)
    injection e
   clear hra htk ho
   generalize(ops.take k).filter (qDz most low high)=A at *
   have HKa:=hide ((uh HK).alloc (.cells o.cells.toArray 40))
   by_cases k5:o.kind=5
   ·have kb5:(o.kind==5)=true:=by simpa using k5
    have kb1:(o.kind !=1)=true:=by simp[k5]
    have HF1:=hide (show[o].filter (qDz most low high)=[o] from List.filter_cons_of_pos (by unfold qDz;simp;omega))
    go_wp2_with (at_builtin;refine qBg rfl _ _ rfl w.heap.size (.slice ad m c) A rfl (by exact qAf (uh HO) (((Keeps.refl (λ_=>False) wr).alloc _).alloc _) (λ_ _ h=>h)) _ [o] rfl (by exact qDf (Blk.newAt (w:=wr.alloc (.cells o.cells.toArray 40)) (by simp) o.cells 40)) (by simp;omega) (by have:=(uh HK).size;simp;omega) ?_;intro ad2 c2 w2 hown2 hk2 hat2)
    go_roundw
    case rel =>
     refine⟨k+1,A.length+1,c2,ad2,by omega,by go_num,rfl,?_,?_⟩
     ·show qKk _ _ _ _;rw[uh HFL,uh HF1];exact hown2
     ·refine(((uh HKa).alloc _).trans hk2 (λi hi hlt=>?_))
      have:=((uh HO).lt i hi).1
      omega
    case measure=>simp[intOf];omega
   have kb5:(o.kind==5)=false:=by simpa using k5
   by_cases km:o.kind<=most
   ·by_cases k1:o.kind=1
    ·have kb1:(o.kind !=1)=false:=by simp[k1]
     by_cases cl:low<=o.cfg.kind
     ·by_cases ch:o.cfg.kind<=high
      ·have HF1:=hide (show[o].filter (qDz most low high)=[o] from List.filter_cons_of_pos (by unfold qDz;simp;omega))
       go_wp2_with (at_builtin;refine qBg rfl _ _ rfl w.heap.size (.slice ad m c) A rfl (by exact qAf (uh HO) (((Keeps.refl (λ_=>False) wr).alloc _).alloc _) (λ_ _ h=>h)) _ [o] rfl (by exact qDf (Blk.newAt (w:=wr.alloc (.cells o.cells.toArray 40)) (by simp) o.cells 40)) (by simp;omega) (by have:=(uh HK).size;simp;omega) ?_;intro ad2 c2 w2 hown2 hk2 hat2)
       go_roundw
       case rel =>
        refine⟨k+1,A.length+1,c2,ad2,by omega,by go_num,rfl,?_,?_⟩
        ·show qKk _ _ _ _;rw[uh HFL,uh HF1];exact hown2
        ·refine(((uh HKa).alloc _).trans hk2 (λi hi hlt=>?_))
         have:=((uh HO).lt i hi).1
         omega
       case measure=>simp[intOf];omega
      ·by_cases c1':o.cfg.kind<1
       ·have HF1:=hide (show[o].filter (qDz most low high)=[o] from List.filter_cons_of_pos (by unfold qDz;simp;omega))
        go_wp2_with (at_builtin;refine qBg rfl _ _ rfl w.heap.size (.slice ad m c) A rfl (by exact qAf (uh HO) (((Keeps.refl (λ_=>False) wr).alloc _).alloc _) (λ_ _ h=>h)) _ [o] rfl (by exact qDf (Blk.newAt (w:=wr.alloc (.cells o.cells.toArray 40)) (by simp) o.cells 40)) (by simp;omega) (by have:=(uh HK).size;simp;omega) ?_;intro ad2 c2 w2 hown2 hk2 hat2)
        go_roundw
        case rel =>
         refine⟨k+1,A.length+1,c2,ad2,by omega,by go_num,rfl,?_,?_⟩
         ·show qKk _ _ _ _;rw[uh HFL,uh HF1];exact hown2
         ·refine(((uh HKa).alloc _).trans hk2 (λi hi hlt=>?_))
          have:=((uh HO).lt i hi).1
          omega
        case measure=>simp[intOf];omega
       ·by_cases c5:5<o.cfg.kind
        ·have HF1:=hide (show[o].filter (qDz most low high)=[o] from List.filter_cons_of_pos (by unfold qDz;simp;omega))
         go_wp2_with (at_builtin;refine qBg rfl _ _ rfl w.heap.size (.slice ad m c) A rfl (by exact qAf (uh HO) (((Keeps.refl (λ_=>False) wr).alloc _).alloc _) (λ_ _ h=>h)) _ [o] rfl (by exact qDf (Blk.newAt (w:=wr.alloc (.cells o.cells.toArray 40)) (by simp) o.cells 40)) (by simp;omega) (by have:=(uh HK).size;simp;omega) ?_;intro ad2 c2 w2 hown2 hk2 hat2)
         go_roundw
         case rel =>
          refine⟨k+1,A.length+1,c2,ad2,by omega,by go_num,rfl,?_,?_⟩
          ·show qKk _ _ _ _;rw[uh HFL,uh HF1];exact hown2
          ·refine(((uh HKa).alloc _).trans hk2 (λi hi hlt=>?_))
           have:=((uh HO).lt i hi).1
           omega
         case measure=>simp[intOf];omega
        ·have HF1:=hide (show[o].filter (qDz most low high)=[] from List.filter_cons_of_neg (by unfold qDz;simp;omega))
         go_wp2
         go_roundw
         case rel=>exact⟨k+1,m,c,ad,by omega,by go_num,rfl,by show qKk _ _ _ _;rw[uh HFL,uh HF1,List.append_nil];exact qAf (uh HO) ((Keeps.refl (λ_=>False) wr).alloc _) (λ_ _ h=>h),HKa⟩
         case measure=>simp[intOf];omega
     ·by_cases c1':o.cfg.kind<1
      ·have HF1:=hide (show[o].filter (qDz most low high)=[o] from List.filter_cons_of_pos (by unfold qDz;simp;omega))
       go_wp2_with (at_builtin;refine qBg rfl _ _ rfl w.heap.size (.slice ad m c) A rfl (by exact qAf (uh HO) (((Keeps.refl (λ_=>False) wr).alloc _).alloc _) (λ_ _ h=>h)) _ [o] rfl (by exact qDf (Blk.newAt (w:=wr.alloc (.cells o.cells.toArray 40)) (by simp) o.cells 40)) (by simp;omega) (by have:=(uh HK).size;simp;omega) ?_;intro ad2 c2 w2 hown2 hk2 hat2)
       go_roundw
       case rel =>
        refine⟨k+1,A.length+1,c2,ad2,by omega,by go_num,rfl,?_,?_⟩
        ·show qKk _ _ _ _;rw[uh HFL,uh HF1];exact hown2
        ·refine(((uh HKa).alloc _).trans hk2 (λi hi hlt=>?_))
         have:=((uh HO).lt i hi).1
         omega
       case measure=>simp[intOf];omega
      ·by_cases c5:5<o.cfg.kind
       ·have HF1:=hide (show[o].filter (qDz most low high)=[o] from List.filter_cons_of_pos (by unfold qDz;simp;omega))
        go_wp2_with (at_builtin;refine qBg rfl _ _ rfl w.heap.size (.slice ad m c) A rfl (by exact qAf (uh HO) (((Keeps.refl (λ_=>False) wr).alloc _).alloc _) (λ_ _ h=>h)) _ [o] rfl (by exact qDf (Blk.newAt (w:=wr.alloc (.cells o.cells.toArray 40)) (by simp) o.cells 40)) (by simp;omega) (by have:=(uh HK).size;simp;omega) ?_;intro ad2 c2 w2 hown2 hk2 hat2)
        go_roundw
        case rel =>
         refine⟨k+1,A.length+1,c2,ad2,by omega,by go_num,rfl,?_,?_⟩
         ·show qKk _ _ _ _;rw[uh HFL,uh HF1];exact hown2
         ·refine(((uh HKa).alloc _).trans hk2 (λi hi hlt=>?_))
          have:=((uh HO).lt i hi).1
          omega
        case measure=>simp[intOf];omega
       ·have HF1:=hide (show[o].filter (qDz most low high)=[] from List.filter_cons_of_neg (by unfold qDz;simp;omega))
        go_wp2
        go_roundw
        case rel=>exact⟨k+1,m,c,ad,by omega,by go_num,rfl,by show qKk _ _ _ _;rw[uh HFL,uh HF1,List.append_nil];exact qAf (uh HO) ((Keeps.refl (λ_=>False) wr).alloc _) (λ_ _ h=>h),HKa⟩
        case measure=>simp[intOf];omega
    ·have kb1:(o.kind !=1)=true:=by simpa using k1
     have HF1:=hide (show[o].filter (qDz most low high)=[o] from List.filter_cons_of_pos (by unfold qDz;simp;omega))
     go_wp2_with (at_builtin;refine qBg rfl _ _ rfl w.heap.size (.slice ad m c) A rfl (by exact qAf (uh HO) (((Keeps.refl (λ_=>False) wr).alloc _).alloc _) (λ_ _ h=>h)) _ [o] rfl (by exact qDf (Blk.newAt (w:=wr.alloc (.cells o.cells.toArray 40)) (by simp) o.cells 40)) (by simp;omega) (by have:=(uh HK).size;simp;omega) ?_;intro ad2 c2 w2 hown2 hk2 hat2)
     go_roundw
     case rel =>
      refine⟨k+1,A.length+1,c2,ad2,by omega,by go_num,rfl,?_,?_⟩
      ·show qKk _ _ _ _;rw[uh HFL,uh HF1];exact hown2
      ·refine(((uh HKa).alloc _).trans hk2 (λi hi hlt=>?_))
       have:=((uh HO).lt i hi).1
       omega
     case measure=>simp[intOf];omega
   ·have HF1:=hide (show[o].filter (qDz most low high)=[] from List.filter_cons_of_neg (by unfold qDz;simp;omega))
    go_wp2
    go_roundw
    case rel=>exact⟨k+1,m,c,ad,by omega,by go_num,rfl,by show qKk _ _ _ _;rw[uh HFL,uh HF1,List.append_nil];exact qAf (uh HO) ((Keeps.refl (λ_=>False) wr).alloc _) (λ_ _ h=>h),HKa⟩
    case measure=>simp[intOf];omega
  ·have hkk:k=n:=by omega
   subst hkk
   go_wp2
   go_ret
   have h1:=uh HO
   rw[List.take_of_length_le (by rw[uh HN];omega)]at h1
   exact⟨_,rfl,h1,uh HK⟩
theorem qUy(v:Value)(ops:List OpM)(w:World)(hs:ScriptW w v ops)(hlen:ops.length<=651562446080)(h7:∀o,o∈ops->o.kind≠7):
  Calls Tryz.prog 33 #[v] w λr w'=>∃v1 v2,r=.returned (.tuple #[v1,v2])/\qKk w' w.heap.size v1 ops/\qKk w' w.heap.size v2 ops/\Keeps (λ_=>False) w w':=by
 obtain⟨a,cap,rfl,hsv⟩:=qFo hs
 have HSV:=hide hsv
 have H7:=hide h7
 clear hs hsv h7
 generalize hn:ops.length=n at *
 have HN:=hide hn
 clear hn
 go_enter Tryz.func33,Tryz.ntmps33
 go_wp2_with fail
 go_loopw [4,5,6] (λx y i wr=>∃(k c d:Nat) (ax ay:Option Addr),k<=n/\i=.int .i64 k/\x=.slice ax k c/\y=.slice ay k d/\Hid (qKk wr w.heap.size x (ops.take k))/\Hid (qKk wr w.heap.size y (ops.take k))/\Hid (∀i,x.ownBlock=some i->y.ownBlock≠some i)/\Hid (Keeps (λ_=>False) w wr)) (λ_ _ i _=>n-(intOf i).toNat)
 case atStart=>exact⟨0,0,0,none,none,by omega,rfl,rfl,rfl,World.ownsRow_nil _ _ _ _,World.ownsRow_nil _ _ _ _,(by intro i hi;cases hi),Keeps.refl _ _⟩
 case round =>
  obtain⟨k,c,d,ax,ay,hk,rfl,rfl,rfl,HX,HY,HD,HK⟩:=hrel
  by_cases hkn:k<n
  ·obtain⟨o,ho⟩:∃o,ops[k]?=some o:=⟨ops[k]'(by rw[uh HN];exact hkn),List.getElem?_eq_getElem _⟩
   have n7:=uh H7 o (List.mem_of_getElem? ho)
   have b7:(o.kind==7)=false:=by simpa using n7
   obtain⟨sb,so,ha,hlt,hra⟩:=uh HSV k o ho
   obtain⟨hv0,hh0⟩:=qHe hra hlt (uh HK)
   subst ha
   have hst:∀zs:List Value,zs.length=26->(qD4 40 (.pointer (some ⟨wr.heap.size,0,none⟩)) (.agg o.cells.toArray)).run Tryz.prog (wr.alloc (.cells zs.toArray 40))=.ok .skip (wr.alloc (.cells o.cells.toArray 40)):=λzs hz=>qFs wr zs o.cells hz rfl (qFi o)
   have hst2:∀zs:List Value,zs.length=26->(qD4 40 (.pointer (some ⟨wr.heap.size+1,0,none⟩)) (.agg o.cells.toArray)).run Tryz.prog ((wr.alloc (.cells o.cells.toArray 40)).alloc (.cells zs.toArray 40))=.ok .skip ((wr.alloc (.cells o.cells.toArray 40)).alloc (.cells o.cells.toArray 40)):=λzs hz=>by
    have:=qFs (wr.alloc (.cells o.cells.toArray 40)) zs o.cells hz rfl (qFi o)
    rw[World.size_alloc]at this
    exact this
   have hv1:qAv (wr.alloc (.cells o.cells.toArray 40)) wr.heap.size 0 26=.agg o.cells.toArray:=qAk wr o.cells 40 26 rfl
   have hh1:qA2 (wr.alloc (.cells o.cells.toArray 40)) wr.heap.size 0 26=true:=qD8 wr o.cells 40 26 rfl
   have h0c:o.cells[0]?=some (.int .i64 o.kind):=rfl
   have htk:ops.take (k+1)=ops.take k++[o]:=by rw[List.take_add_one,ho];rfl
   have HTK:=hide htk
   have hk0:(0:Int)<=(k:Int):=by omega
   have hkn':(k:Int)<(n:Int):=by omega
   have hAl:(ops.take k).length=k:=by rw[List.length_take,uh HN];omega
   have HAL:=hide hAl
   clear hra htk ho hAl n7
   generalize ops.take k=A at *
   go_upto_region 17 with fail
   have hkb:Keeps (λ_=>False) wr ((wr.alloc (.cells o.cells.toArray 40)).alloc (.cells o.cells.toArray 40)):=((Keeps.refl (λ_=>False) wr).alloc _).alloc _
   have HO1:=hide (show Blk ((wr.alloc (.cells o.cells.toArray 40)).alloc (.cells o.cells.toArray 40)) wr.heap.size o.cells 40 from(Blk.new wr o.cells 40).alloc _)
   have HO2:=hide (show Blk ((wr.alloc (.cells o.cells.toArray 40)).alloc (.cells o.cells.toArray 40)) (wr.heap.size+1) o.cells 40 from Blk.newAt (by simp) o.cells 40)
   have HXb:=hide (qAf (uh HX) hkb (λ_ _ h=>h))
   have HYb:=hide (qAf (uh HY) hkb (λ_ _ h=>h))
   have HKb:=hide ((uh HK).then hkb)
   have HXl:=hide (show ∀i,(Value.slice ax k c).ownBlock=some i->w.heap.size<=i/\i<wr.heap.size from λi hi=>(uh HX).lt i hi)
   have HYl:=hide (show ∀i,(Value.slice ay k d).ownBlock=some i->w.heap.size<=i/\i<wr.heap.size from λi hi=>(uh HY).lt i hi)
   have hws:=(uh HK).size
   clear hkb hst hst2 hv0 hh0 hv1 hh1 h0c
   generalize(wr.alloc (.cells o.cells.toArray 40)).alloc (.cells o.cells.toArray 40)=wb at *
   generalize hob:wr.heap.size=ob at *
   have hobl:ob+1<wb.heap.size:=(uh HO2).lt
   clear hob
   obtain⟨hv1,hh1⟩:=qA4 (uh HO1) 26 rfl
   have hbb:w.heap.size<=wb.heap.size:=(uh HKb).size
   go_wp2_with (at_builtin;first | (refine qBg rfl _ _ rfl w.heap.size (.slice ax k c) A rfl (by exact qAf (uh HXb) ((Keeps.refl (λ_=>False) wb).alloc _) (λ_ _ h=>h)) _ [o] rfl (by exact qDf (Blk.new wb o.cells 40)) (by have:=uh HAL;simp;omega) (by simp;omega) ?_;intro ad2 c2 w2 hown2 hk2 hat2;have hk2':=((Keeps.refl (λi=>(Value.slice ax k c).ownBlock=some i) wb).alloc _).then hk2;have HX2:=hide hown2;have HY2:=hide (qAf (uh HYb) hk2' (λi hi hh=>uh HD i hh hi));have HO2':=hide ((uh HO2).keeps hk2' (λh=>by have:=uh HXl _ h;omega));have HK2:=hide ((uh HKb).trans hk2' (λi hi hlt=>by have:=(uh HXl i hi).1;omega));have HAT2:=hide hat2;have hs2:wb.heap.size<=w2.heap.size:=hk2'.size;have hv2:=(qA4 (uh HO2') 26 rfl).1;have hh2:=(qA4 (uh HO2') 26 rfl).2;clear hown2 hk2 hk2' hat2) | (refine qBg rfl _ _ rfl w.heap.size (.slice ay k d) A rfl (by exact qAf (uh HY2) ((Keeps.refl (λ_=>False) w2).alloc _) (λ_ _ h=>h)) _ [o] rfl (by exact qDf (Blk.new w2 o.cells 40)) (by have:=uh HAL;simp;omega) (by simp;omega) ?_;intro ad3 c3 w3 hown3 hk3 hat3))
   go_roundw
   case rel =>
    have hk3':=((Keeps.refl (λi=>(Value.slice ay k d).ownBlock=some i) w2).alloc (.cells o.cells.toArray 40)).then hk3
    have hal:=uh HAL
    refine⟨k+1,c2,c3,ad2,ad3,by omega,by go_num,by rw[hal],by rw[hal],?_,?_,?_,?_⟩
    ·show qKk _ _ _ _
     rw[uh HTK]
     refine qAf (uh HX2) hk3' (λi hi hh=>?_)
     have h2:=uh HYl i hh
     rcases uh HAT2 i hi with h | h
     ·exact uh HD i h hh
     ·simp at h;omega
    ·show qKk _ _ _ _
     rw[uh HTK];exact hown3
    ·intro i hi hh
     rcases uh HAT2 i hi with h | h
     ·have h1:=uh HXl i h
      rcases hat3 i hh with h2 | h2
      ·exact uh HD i h h2
      ·simp at h2;omega
     ·simp at h
      rcases hat3 i hh with h2 | h2
      ·have:=uh HYl i h2;omega
      ·have h3:=((uh HX2).lt i hi).2
       simp at h2;omega
    ·exact(uh HK2).trans hk3' (λi hi hlt=>by have:=(uh HYl i hi).1;omega)
   case measure=>simp[intOf];omega
  ·have hkk:k=n:=by omega
   subst hkk
   go_wp2
   go_ret2
   have h1:=uh HX
   have h2:=uh HY
   rw[List.take_of_length_le (by rw[uh HN];omega)]at h1 h2
   exact⟨_,_,rfl,h1,h2,uh HK⟩
theorem rel0(D:Bool): RelW D ws0 rs0:=⟨rfl,by simp[rs0],trivial,by simp[ws0],by simp[ws0]⟩
theorem qMt{l:List Ans}{x:List (Int×List Int)}(h:l.map (λx=>(x.code,x.nums))=x): l.length=x.length:=by rw[<-h,List.length_map]
end
section
theorem qWn(c:Cfg)(l l':List RIt)(p:Nat): ∀st,(l'.foldl (qF4 c l p) st).1.length<=st.1.length+3*(l'.filter (λz=>decide (qCn c l z=p))).length:=by
 induction l' with
 | nil=>intro st;exact Nat.le_refl _
 | cons z l' ih =>
  intro st
  rw[List.foldl_cons,List.filter_cons]
  have h:=ih (qF4 c l p st z)
  by_cases hp:qCn c l z=p
  ·rw[if_pos (by simpa using hp),List.length_cons]
   have:(qF4 c l p st z).1.length<=st.1.length+3:=by
    unfold qF4
    rw[if_pos hp]
    split
    ·simp
    ·split <;> simp
   omega
  ·rw[if_neg (by simpa using hp)]
   have:(qF4 c l p st z)=st:=by unfold qF4;rw[if_neg hp]
   rw[this]at h ⊢
   exact h
theorem qNg(c:Cfg)(l l':List RIt)(p:Nat)(hp:c.size<=(p:Int)): ∀st,(l'.foldl (qF4 c l p) st).1=st.1:=by
 induction l' with
 | nil=>intro st;rfl
 | cons z l' ih =>
  intro st
  rw[List.foldl_cons,ih]
  unfold qF4
  split
  ·rw[if_neg (by omega)]
   split <;> rfl
  ·rfl
theorem Top.few{c:Cfg}{l:List RIt}{r D:List Dr.It}(h:Top c l r D)(s5:c.size<=5)(q i:Nat): (qGy c l q i).1.length<=100:=by
 have hpl:∀q,(qCi c l q).1.length<=15:=by
  intro q
  induction q with
  | zero=>show([]:List Int).length<=15;simp
  | succ q ih =>
   by_cases hq:(q:Int)+1<=c.size
   ·rw[h.places (q+1) (by omega)]
    show(three (r.take (q+1))).length<=15
    rw[qC5,List.length_take];omega
   ·show(l.foldl (qF4 c l q) (qCi c l q)).1.length<=15
    rw[qNg c l l q (by omega)];exact ih
 have h1:=hpl q
 unfold qGy
 by_cases hq:(q:Int)<c.size
 ·have h2:=qWn c l (l.take i) q (qCi c l q)
  have h3:((l.take i).filter (λz=>decide (qCn c l z=q))).length<=(l.filter (λz=>decide (qCn c l z=q))).length:=((List.take_sublist i l).filter _).length_le
  have h4:(l.filter (λz=>decide (qCn c l z=q))).length<=1:=by
   rcases h.only q (by omega) with ⟨_,z,hz,_⟩ | ⟨_,hz⟩
   ·rw[hz];simp
   ·rw[hz];simp
  omega
 ·rw[qNg c l _ q (by omega)];omega
theorem zBp{c:Cfg}{tk:List Dr.It}{R:List It}{l:List RIt}(h:TG c tk R)(hp:(l.map itR).Perm R)(hn:(R.map (·.n)).Nodup)(hok:∀r,r∈R->OkI c 5 r): ∃D,Top c l (Dr.allL (tk.length+1) tk).reverse D:=by
 obtain⟨D,d1,d2,d3⟩:=h.ex
 obtain⟨a1,a2⟩:=Dr.allL_spec (tk.length+1) tk (by omega) h.heap
 have hrt:((Dr.allL (tk.length+1) tk).reverse).Perm tk:=(List.reverse_perm _).trans a1
 have hperm:((Dr.allL (tk.length+1) tk).reverse++D).Perm (l.map (tkR c)):=by
  refine(hrt.append_right D).trans (d1.trans ?_)
  have:=(hp.map (tick c)).symm
  rw[List.map_map]at this
  exact this
 have hnum:((l.map (tkR c)).map (·.n)).Nodup:=by
  rw[List.map_map]
  have e:(l.map ((λx:Dr.It=>x.n) ∘ tkR c))=(l.map itR).map (·.n):=by rw[List.map_map];rfl
  rw[e]
  exact(hp.map (·.n)).nodup_iff.2 hn
 have hnum2:(((Dr.allL (tk.length+1) tk).reverse++D).map (·.n)).Nodup:=(hperm.map (·.n)).nodup_iff.2 hnum
 rw[List.map_append]at hnum2
 obtain⟨n1,_,n3⟩:=List.nodup_append.1 hnum2
 have hlr:(Dr.allL (tk.length+1) tk).reverse.length=tk.length:=hrt.length_eq
 refine⟨D,hperm,hnum,?_,λd hd u hu=>?_,λhD=>by rw[hlr];exact d3 hD,by rw[hlr];exact h.len,λz hz=>?_⟩
 ·have p1:(Dr.allL (tk.length+1) tk).reverse.Pairwise (λa b=>Dr.leT b a):=List.pairwise_reverse.2 a2
  have p2:(Dr.allL (tk.length+1) tk).reverse.Pairwise (λa b=>a.n≠b.n):=List.pairwise_map.1 n1
  exact(p1.and p2).imp (λ⟨k1,k2⟩=>⟨qPo k1 k2,qRa k1 (Ne.symm k2)⟩)
 ·have hut:u∈tk:=hrt.mem_iff.1 hu
  have hle:=(d2 d hd).2 u hut
  have hne:u.n≠d.n:=n3 u.n (List.mem_map_of_mem hu) d.n (List.mem_map_of_mem hd)
  exact⟨qPo hle hne,qRa hle (Ne.symm hne)⟩
 ·have hm:itR z∈R:=hp.mem_iff.1 (List.mem_map_of_mem hz)
  have:=qN1 (hok _ hm)
  exact⟨by have:=this.1;show 0<=(itR z).d;omega,this.2⟩
structure KW (n:Int) (s:WS) (r:RWS) (A:Int->List It):Prop where
 inv:EInv n s.clock s.xs
 g2:GW 2 PD s A
 g3:GW 3 PO s A
 g5:GW 5 PT s A
 j:JW s r A
def okA(o:OpM): Prop:=o.kind=5\/o.kind<=4
theorem zBj{o:OpM}(h:okA o)(h4:o.kind≠4): okOp false o:=by
 refine⟨?_,λ_ _ h=>by cases h⟩
 unfold okA at h
 simp only[Bool.false_eq_true,if_false]
 omega
theorem KW.step{n:Int}{s:WS}{r:RWS}{A:Int->List It}(h:KW n s r A)(h0:0<=n)(hn:n<4611686018427387904)(o:OpM)(ho:okA o): KW (n+1) (qCb s o).1 (goR r o) (λid=>A id++qPr s o id):=by
 have h7:o.kind≠7:=by unfold okA at ho;omega
 refine⟨qKq o h.inv h0 (qIh h7),qRu zFa h.inv h.g2 o h7,qRu zEx h.inv h.g3 o h7,qRu zFh h.inv h.g5 o h7,?_⟩
 by_cases h4:o.kind=4
 ·have e1:(qCb s o).1=s:=by
   unfold qCb
   rw[if_neg (by omega),if_neg (by omega),if_neg (by omega),if_pos h4]
   unfold qGh
   split <;> rfl
  have e2:goR r o=r:=by unfold goR;rw[if_pos (.inl h4)]
  rw[e1,e2]
  refine⟨h.j.rel,λy hy=>?_⟩
  rw[qDx (.inl (by omega)),List.append_nil]
  exact h.j.its y hy
 ·exact zEq h.inv hn h.g2 h.j o (zBj ho h4)
theorem RelL.mem{xs:List Ser}{ys:List RSer}(h:RelL xs ys){y:RSer}(hy:y∈ys): ∃x,x∈xs/\RelS x y:=by
 induction xs generalizing ys with
 | nil=>cases ys with | nil=>simp at hy | cons a ys=>exact h.elim
 | cons x xs ih =>
  cases ys with
  | nil=>exact h.elim
  | cons a ys =>
   rcases List.mem_cons.1 hy with e | e
   ·exact⟨x,by simp,by rw[e];exact h.1⟩
   ·obtain⟨x',h1,h2⟩:=ih h.2 e
    exact⟨x',by simp[h1],h2⟩
theorem KW.pair{n:Int}{s:WS}{r:RWS}{A:Int->List It}(h:KW n s r A){x:Ser}{y:RSer}(hx:x∈s.xs)(hy:y∈r.xs)(hr:RelS x y){k:Nat}{P:Cfg->Int->Note->List It->Prop}(hg:GW k P s A)(hk:x.k=k):
  ∃R,P x.c (s.clock-x.c.lag) x.nt R/\(R.map (·.n)).Nodup/\(∀q,q∈R->OkI x.c k q)/\(∀fr,((qA5 y.items fr (s.clock-x.c.lag)).map itR).Perm (R.filter (λz=>decide (fr<z.t))))/\∀z,z∈y.items->OkI x.c k (itR z):=by
 have hgs:=hg.cnt x hx hk
 obtain⟨R,r1,_,r3,r4⟩:=hgs.whole
 have hyi:=h.j.its y hy
 rw[<-hr.id]at hyi
 have hok:∀q,q∈A x.id->OkI x.c k q:=λq hq=>by rw[<-hk];exact hgs.okA q hq
 refine⟨R,r1,?_,λq hq=>hok q (r4.mem_iff.1 (by simp[hq])),λfr=>?_,λz hz=>hok _ (by rw[<-hyi.its];exact List.mem_map_of_mem hz)⟩
 ·have:=(r4.map (·.n)).nodup_iff.2 (qMz hgs.num)
  rw[List.map_append]at this
  exact(List.nodup_append.1 this).1
 ·have e:=qYm hyi fr
  rw[<-h.j.rel.clock,<-hr.c]at e
  rw[e]
  exact qYn r4 r3 hgs.wait
theorem KW.kinv{n:Int}{s:WS}{r:RWS}{A:Int->List It}(h:KW n s r A)(y:RSer)(hy:y∈r.xs): KInv r.clock y:=by
 obtain⟨x,hx,hr⟩:=h.j.rel.xs.mem hy
 have hkind:y.c.kind=x.k:=by rw[<-hr.c];exact hr.kind
 have hkey:∀k,x.k=k->(k=2\/k=3)->∀z,OkI x.c k z->0<=z.k/\z.k<=2147483648:=by
  intro k _ hk z hz
  have:=hz.fit
  rcases hk with e | e <;> subst e
  all_goals
   unfold qFr qPb at this
   simp only at this
   split at this
   ·rename_i hb;exact qA9 hb
   ·omega
 refine⟨λhk z hz=>?_,λhk z hz=>?_,λhk q i=>?_⟩
 ·rcases hk with e | e
  ·obtain⟨_,_,_,_,_,k5⟩:=h.pair hx hy hr h.g2 (by omega)
   exact hkey 2 (by omega) (.inl rfl) _ (k5 z hz)
  ·obtain⟨_,_,_,_,_,k5⟩:=h.pair hx hy hr h.g3 (by omega)
   exact hkey 3 (by omega) (.inr rfl) _ (k5 z hz)
 ·obtain⟨_,_,_,_,_,k5⟩:=h.pair hx hy hr h.g5 (by omega)
  have:=qN1 (k5 z hz)
  exact⟨by have:=this.1;show 0<=(itR z).d;omega,this.2⟩
 ·obtain⟨R,k1,k2,k3,k4,_⟩:=h.pair hx hy hr h.g5 (by omega)
  have hp:=k4 (-1)
  rw[List.filter_eq_self.2 (λq hq=>by have:=(k3 q hq).t0;simp;omega)]at hp
  obtain⟨D,hT⟩:=zBp k1 hp k2 k3
  have hv:=(h.inv.sers x hx)
  have hs:=qC9 (k:=5) hv.valid (by rw[hv.kind];omega) rfl
  rw[<-h.j.rel.clock,<-hr.c]
  exact hT.few hs.2 q i
theorem KW.query{n:Int}{s:WS}{r:RWS}{A:Int->List It}(h:KW n s r A)(o:OpM)(h4:o.kind=4): (qCb s o).2=qLk r o:=by
 have e1:qCb s o=qGh s o:=by
  unfold qCb
  rw[if_neg (by omega),if_neg (by omega),if_neg (by omega),if_pos h4]
 rw[e1]
 unfold qGh qLk
 rcases h.j.rel.xs.find o.id with ⟨a,b⟩ | ⟨x,y,a,b,hr⟩
 ·rw[a,b]
 ·rw[a,b]
  have hx:x∈s.xs:=List.mem_of_find?_eq_some a
  have hy:y∈r.xs:=List.mem_of_find?_eq_some b
  have hv:=h.inv.sers x hx
  have hkind:y.c.kind=x.k:=by rw[<-hr.c];exact hr.kind
  simp only
  show qG4 x.k x.c x.nt o.a (s.clock-x.c.lag)=_
  rw[<-h.j.rel.clock,hkind,<-hr.c]
  have k1:=hv.k1
  have k5:=hv.k5
  rcases five k1 k5 with hk | hk | hk | hk | hk
  ·unfold qG4
   rw[if_neg (show ¬x.k=4 by omega),if_pos hk,if_pos (show(x.k:Int)=1 by omega),hr.bks hk,<-hr.c]
  ·obtain⟨R,q1,_,_,q4,_⟩:=h.pair hx hy hr h.g2 hk
   unfold qG4
   rw[if_neg (show ¬x.k=4 by omega),if_neg (show ¬x.k=1 by omega),if_pos hk,if_neg (show ¬(x.k:Int)=1 by omega),if_pos (show(x.k:Int)=2 by omega)]
   unfold zDu
   by_cases hw:inB o.a 1 x.c.window=true
   ·rw[if_pos hw,if_pos hw]
    have hab:=qA9 hw
    have e:=zAx (T:=s.clock-x.c.lag-o.a) q1 (by omega) (q4 (s.clock-x.c.lag-o.a))
    rw[e]
    rfl
   ·rw[if_neg hw,if_neg hw]
  ·obtain⟨R,q1,_,_,q4,_⟩:=h.pair hx hy hr h.g3 hk
   obtain⟨_,hrw,hL,_,_⟩:=qD6 (k:=3) hv.valid (by rw[hv.kind];omega) rfl
   unfold qG4
   rw[if_neg (show ¬x.k=4 by omega),if_neg (show ¬x.k=1 by omega),if_neg (show ¬x.k=2 by omega),if_pos hk,if_neg (show ¬(x.k:Int)=1 by omega),if_neg (show ¬(x.k:Int)=2 by omega),if_pos (show(x.k:Int)=3 by omega)]
   by_cases hw:inB o.a 0 2147483648=true
   ·rw[if_pos hw,if_pos hw,qZq q1 hL hrw (q4 _)]
   ·rw[if_neg hw,if_neg hw]
  ·unfold qG4
   rw[if_pos hk,if_neg (show ¬(x.k:Int)=1 by omega),if_neg (show ¬(x.k:Int)=2 by omega),if_neg (show ¬(x.k:Int)=3 by omega),if_neg (show ¬(x.k:Int)=5 by omega)]
   obtain⟨d1,d2,d3⟩:=qQc y.c y.items 0 0 hr.tick (by omega) (by omega)
   have hs:=hr.sum hk
   have r0:=hr.r0
   have r1:=hr.r1
   rw[<-hr.c]at d1 d2 d3
   have e1:x.nt.q=(qEl x.c y.items 0 0).1:=by omega
   have e2:x.nt.r=(qEl x.c y.items 0 0).2:=by omega
   rw[e1,e2]
  ·obtain⟨R,q1,q2,q3,q4,_⟩:=h.pair hx hy hr h.g5 hk
   have hp:=q4 (-1)
   rw[List.filter_eq_self.2 (λq hq=>by have:=(q3 q hq).t0;simp;omega)]at hp
   obtain⟨D,hT⟩:=zBp q1 hp q2 q3
   have hs:=qC9 (k:=5) hv.valid (by rw[hv.kind];omega) rfl
   unfold qG4
   rw[if_neg (show ¬x.k=4 by omega),if_neg (show ¬x.k=1 by omega),if_neg (show ¬x.k=2 by omega),if_neg (show ¬x.k=3 by omega),if_pos hk,if_neg (show ¬(x.k:Int)=1 by omega),if_neg (show ¬(x.k:Int)=2 by omega),if_neg (show ¬(x.k:Int)=3 by omega),if_pos (show(x.k:Int)=5 by omega),hT.drawn (by omega)]
   rfl
theorem qX2(ops:List OpM): ∀(s:WS) (r:RWS) (n:Int) (A:Int->List It),KW n s r A->(∀o,o∈ops->okA o)->0<=n->n+ops.length<4611686018427387904->qN6 s ops=qV2 r ops:=by
 induction ops with
 | nil=>intro s r n A _ _ _ _;rfl
 | cons o l ih =>
  intro s r n A h ho h0 hn
  rw[List.length_cons]at hn
  have hoo:=ho o (by simp)
  have h2:=h.step h0 (by omega) o hoo
  have h1:(qCb s o).2=qQs r o:=by
   by_cases h4:o.kind=4
   ·rw[zBn r o h4];exact h.query o h4
   ·have e:=(qPl false s r o h.j.rel (zBj hoo h4) h.inv (by omega)).1
    rw[e]
    unfold zE5 qQs
    rw[if_neg h4,if_neg h4]
  unfold qN6 qV2
  rw[h1,ih _ _ (n+1) _ h2 (λx hx=>ho x (by simp[hx])) (by omega) (by omega)]
theorem kw0: KW 0 ws0 rs0 (λ_=>[]):=⟨inv0,⟨by simp[ws0],λ_ _=>rfl,λx hx=>by simp[ws0]at hx⟩,⟨by simp[ws0],λ_ _=>rfl,λx hx=>by simp[ws0]at hx⟩,⟨by simp[ws0],λ_ _=>rfl,λx hx=>by simp[ws0]at hx⟩,⟨rel0 false,λy hy=>by simp[rs0]at hy⟩⟩
theorem zEm(SS:List OpM): ∀(s:WS) (r:RWS) (n:Int) (A:Int->List It),KW n s r A->(∀o,o∈SS->okA o/\o.kind≠4/\o.kind≠5)->0<=n->n+SS.length<4611686018427387904->∃s' n' A',KW n' s' (qEm r SS) A':=by
 induction SS with
 | nil=>intro s r n A h _ _ _;exact⟨s,n,A,h⟩
 | cons o l ih =>
  intro s r n A h ho h0 hn
  rw[List.length_cons]at hn
  have hoo:=ho o (by simp)
  have h2:=h.step h0 (by omega) o hoo.1
  have e:goR r o=(qEk r o).1:=by unfold goR;rw[if_neg (by omega)]
  rw[e]at h2
  exact ih _ _ (n+1) _ h2 (λx hx=>ho x (by simp[hx])) (by omega) (by omega)
end
section
open Go.RowKit
attribute [local go_sem ↓] qAd qAe qBv qC6
attribute [local go_sem] qAi qAj qAc qAb qAm qAn qAg qAh qIj
theorem qMx{o:OpM}(h:okA o): o.kind≠6/\o.kind≠7:=by unfold okA at h;omega
theorem zA9(ops:List OpM)(o:OpM)(h:o∈ops.filter (qDz 4 1 5)): okA o:=by
 have h2:=(List.mem_filter.1 h).2
 unfold qDz at h2
 simp only[Bool.and_eq_true,decide_eq_true_eq]at h2
 exact h2.1
theorem qOy(base:Nat)(ops:List OpM)(vr vt va:Value)(l1:List Ans)(w:World)(hr:ScriptW w vr ops)(ht:ScriptW w vt ops)(ha:ARep w base va l1)(hm:l1.map (λx=>(x.code,x.nums))=qN6 ws0 ops)(hbs:∀x,x∈l1->x.bs=qAa)(hlen:ops.length<=651562446080)(hok:∀o,o∈ops->okA o):
  Calls Tryz.prog 34 #[vr,vt,va] w λr w'=>r=.returned (.bool true)/\Keeps (λ_=>False) w w':=by
 have hl1:l1.length=ops.length:=by rw[qMt hm,qLb]
 obtain⟨ar,cr,rfl,hrv⟩:=qFo hr
 obtain⟨aa,ca,rfl⟩:=qC4 ha.row
 have HRV:=hide hrv
 have HT:=hide ht
 have HA:=hide ha
 have HM:=hide hm
 have HOK:=hide hok
 have hq:∀SS:List OpM,SS.length<=ops.length->(∀x,x∈SS->x∈ops/\chg x=true)->∀y,y∈(qEm rs0 SS).xs->KInv (qEm rs0 SS).clock y:=λSS hl hm y hy=>by
  obtain⟨s',n',A',hk⟩:=zEm SS ws0 rs0 0 _ kw0 (λo ho=>by
     obtain⟨h1,h2⟩:=hm o ho
     refine⟨hok o h1,?_⟩
     unfold chg at h2
     simp at h2
     exact h2) (by omega) (by omega)
  exact hk.kinv y hy
 have HQ:=hide hq
 have HSAME:=hide (qX2 ops ws0 rs0 0 _ kw0 hok (by omega) (by omega))
 have HOR:=hide (show zDv ops from λo ho=>(qMx (hok o ho)).2)
 have HBS:=hide hbs
 clear hbs
 clear hr hrv ht ha hm hok hq
 rw[hl1]
 have HL1:=hide hl1
 clear hl1
 go_enter Tryz.func34,Tryz.ntmps34
 go_wp2_with fail
 refine(qYg vt ops w (uh HT) hlen (λo ho=>qMx (uh HOK o ho)) (uh HQ)).mono ?_
 rintro r w1 ⟨vb,l2,rfl,hb,hm2,hbs2,hk1⟩
 have HBS2:=hide hbs2
 clear hbs2
 have hl2:l2.length=ops.length:=by rw[qMt hm2,qKt]
 obtain⟨ab,cb,rfl⟩:=qC4 hb.row
 rw[hl2]
 have HB:=hide hb
 have HM2:=hide hm2
 have HL2:=hide hl2
 have HA1:=hide ((uh HA).keeps hk1 (λ_ _ h=>h))
 have HK1:=hide hk1
 clear hb hm2 hl2 hk1
 generalize hn:ops.length=n at *
 have HN:=hide hn
 have hnn:((n:Int) !=(n:Int))=false:=by simp
 clear hn
 go_wp2_with fail
 go_loopw [8] (λi wr=>∃k:Nat,k<=n/\i=.int .i64 k/\Hid (Keeps (λ_=>False) w1 wr)) (λi _=>n-(intOf i).toNat)
 case atStart=>exact⟨0,by omega,rfl,Keeps.refl _ _⟩
 case round =>
  obtain⟨k,hk,rfl,HKr⟩:=hrel
  by_cases hkn:k<n
  ·obtain⟨o,ho⟩:∃o,ops[k]?=some o:=⟨ops[k]'(by rw[uh HN];exact hkn),List.getElem?_eq_getElem _⟩
   obtain⟨x,hx⟩:∃x,l1[k]?=some x:=⟨l1[k]'(by rw[uh HL1];exact hkn),List.getElem?_eq_getElem _⟩
   obtain⟨y,hy⟩:∃y,l2[k]?=some y:=⟨l2[k]'(by rw[uh HL2];exact hkn),List.getElem?_eq_getElem _⟩
   have hxy:(x.code,x.nums)=(y.code,y.nums):=by
    have h1:(l1.map (λx=>(x.code,x.nums)))[k]?=some (x.code,x.nums):=by rw[List.getElem?_map,hx];rfl
    have h2:(l2.map (λx=>(x.code,x.nums)))[k]?=some (y.code,y.nums):=by rw[List.getElem?_map,hy];rfl
    rw[uh HM,uh HSAME]at h1
    rw[uh HM2]at h2
    rw[h1]at h2
    injection h2
   have hx9:x.nums.length<=1000:=by
    have h1:(x.code,x.nums)∈qN6 ws0 ops:=by
     rw[<-uh HM]
     exact List.mem_map.2 ⟨x,List.mem_of_getElem? hx,rfl⟩
    have:=qVa ops (uh HOR) _ h1
    simp only at this
    omega
   have hxr:=(uh HA1).keeps (uh HKr) (λ_ _ h=>h)
   have hyr:=(uh HB).keeps (uh HKr) (λ_ _ h=>h)
   have HNX:=hide (hxr.nums x (List.mem_of_getElem? hx))
   have HNY:=hide (hyr.nums y (List.mem_of_getElem? hy))
   obtain⟨ga,rfl,x0,x1,x2⟩:=qPx (by rw[uh HL1]at hxr;exact hxr) k x hx
   obtain⟨gb,rfl,y0,y1,y2⟩:=qPx (by rw[uh HL2]at hyr;exact hyr) k y hy
   rw[uh HBS x (List.mem_of_getElem? hx)]at x2
   rw[uh HBS2 y (List.mem_of_getElem? hy)]at y2
   injection hxy with hcode hnums
   rw[<-hcode]at y0
   rw[<-hnums]at HNY
   obtain⟨sb,so,ha,hlt,hra⟩:=uh HRV k o ho
   obtain⟨hv0,hh0⟩:=qHe hra hlt ((uh HK1).then (uh HKr))
   subst ha
   have hsbl:sb<wr.heap.size:=by have h1:=(uh HK1).size;have h2:=(uh HKr).size;omega
   have h6:=(qMx (uh HOK o (List.mem_of_getElem? ho))).1
   have hk0:(0:Int)<=(k:Int):=by omega
   have hkn':(k:Int)<(n:Int):=by omega
   clear hx hy ho hra hcode hnums hxr hyr
   go_wp2_with fail
   go_region_held3 (λw'=>(qAv w' sb (so+k*26) 26=.agg o.cells.toArray/\qA2 w' sb (so+k*26) 26=true)/\(w'.cell? ⟨ga,k*3,none⟩=some (.int .i64 x.code)/\w'.cell? ⟨ga,k*3+1,none⟩=some x.nv/\w'.cell? ⟨ga,k*3+2,none⟩=some (.string qAa))/\(w'.cell? ⟨gb,k*3,none⟩=some (.int .i64 x.code)/\w'.cell? ⟨gb,k*3+1,none⟩=some y.nv/\w'.cell? ⟨gb,k*3+2,none⟩=some (.string qAa)))
    (first
       | (rw[(qAp (b:=sb) (o:=so+k*26) (n:=26) hk9 (λh=>h) (by simp;omega)).1,(qAp (b:=sb) (o:=so+k*26) (n:=26) hk9 (λh=>h) (by simp;omega)).2,qAc,qAb];exact⟨⟨hv0,hh0⟩,⟨hk9.cell x0 (λh=>h),hk9.cell x1 (λh=>h),hk9.cell x2 (λh=>h)⟩,⟨hk9.cell y0 (λh=>h),hk9.cell y1 (λh=>h),hk9.cell y2 (λh=>h)⟩⟩)
       | (rw[qAc,qAb];exact⟨⟨hv0,hh0⟩,⟨x0,x1,x2⟩,⟨y0,y1,y2⟩⟩)
       | exact⟨⟨hv0,hh0⟩,⟨x0,x1,x2⟩,⟨y0,y1,y2⟩⟩)
    (first | (go_at_call 41;refine(qYh base w.heap.size o x.code x.nv y.nv x.nums _ (by exact uh HNX) (by exact uh HNY) hx9 h6).mono ?_;rintro r w9 ⟨rfl,hk9⟩))
   have HK9:=hide ((uh HKr).then (((Keeps.refl (λ_=>False) wr).drew).then hk9))
   clear hk9 hv0 hh0 x0 x1 x2 y0 y1 y2
   go_wp2
   go_roundw
   case rel=>exact⟨k+1,by omega,by go_num,HK9⟩
   case measure=>simp[intOf];omega
  ·have hkk:k=n:=by omega
   subst hkk
   go_wp2
   go_ret
   exact⟨rfl,(uh HK1).then (uh HKr)⟩
theorem qXq(v:Value)(ops:List OpM)(w:World)(hs:ScriptW w v ops)(hlen:ops.length<=651562446080)(hok:∀o,o∈ops->okA o)(hT:Tab w):
  Calls Tryz.prog 15 #[v] w λr w'=>r=.returned (.bool true)/\Keeps (λ_=>False) w w':=by
 have HS:=hide hs
 have HOK:=hide hok
 have HTT:=hide hT
 clear hs hok hT
 go_enter Tryz.func15,Tryz.ntmps15
 go_wp2_with fail
 refine(qUy v ops w (uh HS) hlen (λo ho=>(qMx (uh HOK o ho)).2)).mono ?_
 rintro r w1 ⟨v1,v2,rfl,h1,h2,hk1⟩
 have H1:=hide (qEo h1)
 have H2:=hide (qEo h2)
 have HK1:=hide hk1
 clear h1 h2 hk1
 go_wp2_with fail
 refine(qWm v1 ops w1 (uh H1) (by omega) ((uh HTT).keeps (uh HK1) (λh=>h)) (λo ho=>qMx (uh HOK o ho))).mono ?_
 rintro r w2 ⟨va,l1,rfl,ha,hm,hbb,hk2⟩
 have HBS:=hide (bs_no hbb (λo ho=>(qMx (uh HOK o ho)).1))
 clear hbb
 have HA:=hide ha
 have HM:=hide hm
 have HK2:=hide hk2
 clear ha hm hk2
 go_wp2_with fail
 refine(qOy w1.heap.size ops v1 v2 va l1 w2 ((uh H1).keeps (uh HK2)) ((uh H2).keeps (uh HK2)) (uh HA) (uh HM) (uh HBS) hlen (uh HOK)).mono ?_
 rintro r w3 ⟨rfl,hk3⟩
 go_wp2
 go_ret
 exact⟨rfl,((uh HK1).then (uh HK2)).then hk3⟩
theorem qZ8(v:Value)(ops:List OpM)(w:World)(hs:ScriptW w v ops)(hlen:ops.length<=651562446080)(hT:Tab w):
  Calls Tryz.prog 10 #[v] w λr w'=>r=.returned (.bool true)/\Keeps (λ_=>False) w w':=by
 have HTT:=hide hT
 clear hT
 go_enter Tryz.func10,Tryz.ntmps10
 go_wp2_with fail
 refine(qZ0 v ops 4 1 5 w hs hlen).mono ?_
 rintro r w1 ⟨v1,rfl,h1,hk1⟩
 have HS:=hide (qEo h1)
 have HK1:=hide hk1
 clear h1 hk1
 go_wp2_with fail
 refine(qXq v1 _ w1 (uh HS) (by have:=List.length_filter_le (qDz 4 1 5) ops;omega) (λo ho=>zA9 ops o ho) ((uh HTT).keeps (uh HK1) (λh=>h))).mono ?_
 rintro r w2 ⟨rfl,hk2⟩
 go_wp2
 go_ret
 exact⟨rfl,(uh HK1).then hk2⟩
end
end Go.Proofs.YtahnliehdjncdaaGreatDoor
