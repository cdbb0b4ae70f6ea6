import Derived.Test.YtahnliehdjncdabGreatDoorXBF
import Derived.Test.YtahnliehdjncdabGreatDoorXBA
import Derived.Test.YtahnliehdjncdabGreatDoorXAN
set_option maxRecDepth 100000
set_option maxHeartbeats 16000000
namespace Go.Proofs.YtahnliehdjncdabGreatDoor
section
open Go.RowKit
def qIe(l:List Int): Nat->List Int
 | 0=>[0,0,0,0,0,0,0,0,0,0,0,0]
 | k+1=>(qIe l k).set (qCp.getD k 0) (qAx l (qCp.getD k 0))
theorem qSw(l:List Int)(k:Nat): (qIe l k).length=12:=by
 induction k with
 | zero=>rfl
 | succ k ih=>unfold qIe;rw[List.length_set,ih]
structure LdOk (x:Ser) (clock:Int):Prop where
 id0:0<=x.id/\x.id<=99
 cfg:∀n,n∈qBt x.k x.c->0<=n/\n<=9223372036854775807
 p0:0<=qA1 x.k x.c
 p3:qA1 x.k x.c<=3
 kind:x.c.kind=x.k
 k1:1<=x.k
 k5:x.k<=5
 valid:qA5 (qDd x.k x.c)=true
 ref:∀j,0<=qAx x.ref j/\qAx x.ref j<=4611686018427387904
 rel0:0<=x.rel
 rel1:x.rel<=qEg (qDd x.k x.c) clock
 rel2:x.rel<=4611686018427387000
 c0:0<=clock
 c1:clock<=4611686018427387904
 lag:0<=(qDd x.k x.c).lag/\(qDd x.k x.c).lag<=100
 cap:1<=(qDd x.k x.c).cap/\(qDd x.k x.c).cap<=8
theorem qM0{w:World}{base:Nat}{v:Value}{l:List Int}(h:w.ownsRow base 3 1 v l.length (qAv l)): ∃a cap,v=.slice a l.length cap/\(0<l.length->∃g,a=some ⟨g,0,none⟩/\∀i,i<l.length->w.cell? ⟨g,i,none⟩=some (.int .i64 (l.getD i 0))):=by
 rcases qKj h with ⟨h1,h2⟩ | ⟨g,cap,h1,h2⟩
 ·exact⟨none,0,by rw[h2,h1],λh=>by omega⟩
 ·refine⟨_,cap,h1,λ_=>⟨g,rfl,λi hi=>h2 i _ ?_⟩⟩
  unfold qAv;rw[List.getElem?_map,List.getElem?_eq_getElem hi,List.getD_eq_getElem?_getD,List.getElem?_eq_getElem hi];rfl
structure KnRep (w:World) (kn:Nat) (m acc rel:Int) (nv:Value) (ns:List Int):Prop where
 blk:Blk w kn (qGb m acc rel nv) 184
 row:w.ownsRow (kn+1) 3 1 nv ns.length (qAv ns)
theorem KnRep.keeps{M:Nat->Prop}{w w':World}{kn:Nat}{m acc rel:Int}{nv:Value}{ns:List Int}(h:KnRep w kn m acc rel nv ns)(hk:Keeps M w w')(h1:¬M kn)(h2:∀i,nv.ownBlock=some i->¬M i): KnRep w' kn m acc rel nv ns :=
 ⟨h.blk.keeps hk h1,qNn h.row hk h2⟩
theorem zCi(v:Value)(base:Nat)(l:List Int)(n:Int)(w:World)(h:w.ownsRow base 3 1 v l.length (qAv l))(hl:l.length<=1000):
  Calls Tryz.prog 222 #[v,.int .i64 n] w λe w'=>∃i:Int,e=.returned (.int .i64 i)/\w'=w/\(0<=i↔n∈l):=by
 obtain⟨a,cap,hv,hc⟩:=qM0 h;obtain⟨m,hm⟩:∃m,l.length=m:=⟨_,rfl⟩;rw[hm]at hv hl;subst hv;have HC:=hide hc;have HM:=hide hm;clear h hc hm;go_enter Tryz.func222,Tryz.ntmps222
 go_wp2
 go_loopw [8] (λiv wr=>∃i:Nat,i<=m/\iv=.int .i64 i/\wr=w/\Hid (n ∉ l.take i)) (λiv _=>m-(intOf iv).toNat)
 case atStart=>exact⟨0,by omega,rfl,rfl,by show n ∉ l.take 0;simp⟩
 case round =>
  obtain⟨i,hi,rfl,rfl,HT⟩:=hrel
  by_cases him:i<m
  ·obtain⟨g,hg,hcell⟩:=uh HC (by rw[uh HM];omega)
   subst hg;have hil:i<l.length:=by rw[uh HM];exact him
   have hci:=hcell i hil;have hmem:l.getD i 0∈l:=by rw[List.getD_eq_getElem?_getD,List.getElem?_eq_getElem hil];exact List.getElem_mem hil
   have htk:l.take (i+1)=l.take i++[l.getD i 0]:=by
    rw[List.take_add_one,List.getElem?_eq_getElem hil,List.getD_eq_getElem?_getD,List.getElem?_eq_getElem hil];rfl
   have HTK:=hide htk;have HME:=hide hmem;clear htk hmem;generalize l.getD i 0=x at *;have hi0:(0:Int)<=(i:Int):=by omega
   have hi1:(i:Int)<(m:Int):=by omega
   clear hcell hil;cases hb:(n==x) with
   | false =>
    go_wp2
    go_roundw
    case rel =>
     refine⟨i+1,by omega,by go_num,by trivial,?_⟩;show n ∉ l.take (i+1);rw[uh HTK];intro hm;rcases List.mem_append.1 hm with hm | hm
     ·exact uh HT hm
     ·rw[List.mem_singleton]at hm;rw[hm]at hb;simp at hb
    case measure=>simp[intOf];omega
   | true =>
    have HE:=hide (show n=x by simpa using hb);go_wp2
    go_ret
    exact⟨(i:Int),rfl,rfl,⟨λ_=>by rw[uh HE];exact uh HME,λ_=>by omega⟩⟩
  ·have hie:i=m:=by omega
   subst hie;have hf:decide ((i:Int)<(i:Int))=false:=by simp
   have HNL:=hide (show n ∉ l by have:=uh HT;rwa [List.take_of_length_le (by rw[uh HM];exact Nat.le_refl _)]at this);go_wp2
   go_ret
   exact⟨-1,rfl,rfl,⟨λh=>by omega,λh=>absurd h (uh HNL)⟩⟩
theorem qRt(v:Value)(base:Nat)(l:List Int)(n:Int)(w:World)(h:w.ownsRow base 3 1 v l.length (qAv l))(hl:l.length<=1000):
  Calls Tryz.prog 179 #[v,.int .i64 n] w λe w'=>e=.returned (.bool (decide (n∈l)))/\w'=w:=by
 have HI:=hide (zCi v base l n w h hl);clear h;go_enter Tryz.func179,Tryz.ntmps179
 go_wp2_with fail
 refine(uh HI).mono ?_;rintro e w1 ⟨i,rfl,hw1,hiff⟩;rw[hw1];clear hw1 w1;have HIFF:=hide hiff;clear hiff
 by_cases h0:0<=i
 ·have HD:=hide (show decide (n∈l)=true by simpa using(uh HIFF).1 h0)
  go_wp2
  go_ret
  exact⟨by rw[uh HD];rfl,rfl⟩
 ·have HD:=hide (show decide (n∈l)=false by simpa using(λh=>h0 ((uh HIFF).2 h)))
  have hd:decide (0<=i)=false:=by simpa using h0
  go_wp2
  go_ret
  exact⟨by rw[uh HD];rfl,rfl⟩
def knR(acc:Int)(ns:List Int)(st:Option (List Nat)): Int×Option (List Nat):=((qAs 1 acc st).1,qEm (!decide ((qAs 1 acc st).1∈ns)) (qAs 1 acc st).2)
theorem qKw(r kn:Nat)(m acc rel:Int)(nv:Value)(ns:List Int)(st:Option (List Nat))(w:World)(h:RdS w r st)(hk:KnRep w kn m acc rel nv ns)(hkr:r<kn)(hl:ns.length<=900):
  Calls Tryz.prog 138 #[.pointer (some ⟨kn,0,none⟩),.pointer (some ⟨r,0,none⟩)] w λe w'=>e=.returned (.int .i64 (knR acc ns st).1)/\RdS w' r (knR acc ns st).2/\(∃nv',KnRep w' kn m acc rel nv' (ns++[(knR acc ns st).1])/\(∀i,nv'.ownBlock=some i->nv.ownBlock=some i\/w.heap.size<=i))/\Keeps (λi=>i=r\/i=kn\/nv.ownBlock=some i) w w':=by
 have HK:=hide hk;have k1:w.cell? ⟨kn,1,none⟩=some (.int .i64 acc):=hk.blk.cell rfl;have HN:=hide (qCd r 1 acc st w h);have hb:=λi hi=>(hk.row.lt i hi).1
 have HBN:=hide (show ∀i,nv.ownBlock=some i->kn+1<=i from hb);clear h hk hb;unfold knR;generalize qAs 1 acc st=q0 at *;obtain⟨n,st1⟩:=q0;simp only at *;go_enter Tryz.func138,Tryz.ntmps138
 go_wp2_with fail
 refine(uh HN).mono ?_;rintro e w0 ⟨rfl,hr0,hk0⟩;have HR0:=hide hr0;have HK0:=hide hk0;have HQ0:=hide ((uh HK).keeps hk0 (show ¬(kn=r) by omega) (λi hi=>show ¬(i=r) by have:=uh HBN i hi;omega));have k3:w0.cell? ⟨kn,3,none⟩=some nv:=(uh HQ0).blk.cell rfl;clear hr0 hk0 k1 HN;go_wp2_with fail
 refine(qRt nv (kn+1) ns n w0 (uh HQ0).row (by omega)).mono ?_;rintro e w2 ⟨rfl,hw2⟩;rw[hw2];clear hw2 w2 k3;obtain⟨cb,hcb⟩:∃cb,decide (n∈ns)=cb:=⟨_,rfl⟩;rw[hcb];have HCB:=hide hcb;clear hcb;go_wp2_with fail
 refine(qDi r (!cb) st1 w0 (uh HR0)).mono ?_;rintro e w1 ⟨rfl,hr1,hk1⟩;have HR1:=hide hr1;have HQ1:=hide ((uh HQ0).keeps hk1 (show ¬(kn=r) by omega) (λi hi=>show ¬(i=r) by have:=uh HBN i hi;omega));have HK1:=hide ((uh HK0).then hk1);have k3:w1.cell? ⟨kn,3,none⟩=some nv:=(uh HQ1).blk.cell rfl;clear hr1 hk1 HR0 HQ0 HK0;obtain⟨a,cap,hv,_⟩:=qM0 (uh HQ1).row;obtain⟨q,hq⟩:∃q,ns.length=q:=⟨_,rfl⟩;rw[hq]at hv hl;subst hv;have hklt:=(uh HQ1).blk.lt;have HROW:=hide (show w1.ownsRow (kn+1) 3 1 (.slice a q cap) q (qAv ns) by have:=(uh HQ1).row;rw[hq]at this;exact this);have HQL:=hide hq;have HBA:=hide ((uh HQ1).blk.alloc (.cells #[.int .i64 n] 3));clear hq;go_wp2_with (at_builtin;refine qBj rfl _ _ rfl (kn+1) (.slice a q cap) q ns rfl (by exact qCt (uh HROW) ((Keeps.refl (λ_=>False) w1).alloc _) (λ_ _ h=>h)) w1.heap.size 1 [n] rfl rfl (by exact Blk.new w1 [.int .i64 n] 3) (by omega) (by omega) (by simp;omega) ?_;intro g2 c2 w3 hown3 hk3 hat3;have hB3:=(uh HBA).keeps hk3 (λh=>by have:=uh HBN kn h;omega);have hc3:=hB3.cell (i:=3) rfl;have hf3:=hB3.frozen)
 have hgk:g2≠kn:=by
  rcases hat3 with h | h
  ·have:=uh HBN g2 h;omega
  ·simp at h;omega
 have hs1:=(uh HK1).size;have hk4:Keeps (λi=>i=kn) w3 (w3.setCell ⟨kn,3,none⟩ (.slice (some ⟨g2,0,none⟩) (q+1) c2)):=(Keeps.refl (λi=>i=kn) w3).setCell (p:=⟨kn,3,none⟩) (Or.inl rfl) _;have HB4:=hide (hB3.setCell 3 (.slice (some ⟨g2,0,none⟩) (q+1) c2));have HO4:=hide (qNn hown3 hk4 (λi hi=>show ¬(i=kn) by have h2:g2=i:=(by simpa[Value.ownBlock] using hi);omega));have hk13:Keeps (λi=>(Value.slice a q cap).ownBlock=some i) w1 w3:=((Keeps.refl _ w1).alloc _).then hk3;have HR4:=hide (((uh HR1).keeps hk13 (λh=>by have:=uh HBN r h;omega)).keeps hk4 (show ¬(r=kn) by omega));have HK4:=hide (show Keeps (λi=>i=r\/i=kn\/(Value.slice a q cap).ownBlock=some i) w (w3.setCell ⟨kn,3,none⟩ (.slice (some ⟨g2,0,none⟩) (q+1) c2)) from(((uh HK1).mono (λ_ _ h=>.inl h)).trans hk13 (λi hi _=>.inr (.inr hi))).trans hk4 (λi hi _=>.inr (.inl hi)))
 have HAT:=hide (show ∀i,(Value.slice (some ⟨g2,0,none⟩) (q+1) c2).ownBlock=some i->(Value.slice a q cap).ownBlock=some i\/w.heap.size<=i from λi hi=>by
    have h2:g2=i:=by simpa[Value.ownBlock] using hi
    subst h2;rcases hat3 with h | h
    ·exact .inl h
    ·simp at h;exact .inr (by omega))
 clear hB3 hown3 hk3 hat3 hk4 hk13;go_wp2
 go_ret
 exact⟨rfl,by rw[uh HCB];exact uh HR4,⟨_,⟨uh HB4,by rw[List.length_append,List.length_singleton,uh HQL];exact uh HO4⟩,uh HAT⟩,uh HK4⟩
end
end Go.Proofs.YtahnliehdjncdabGreatDoor
