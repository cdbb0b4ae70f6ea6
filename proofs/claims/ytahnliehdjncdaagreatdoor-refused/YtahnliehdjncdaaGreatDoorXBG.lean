import Derived.Test.YtahnliehdjncdaaGreatDoorXBF
import Derived.Test.YtahnliehdjncdaaGreatDoorXBB
set_option maxRecDepth 100000
set_option maxHeartbeats 16000000
namespace Go.Proofs.YtahnliehdjncdaaGreatDoor
section
open Go.RowKit
theorem qEs{w:World}{base:Nat}{v:Value}{l:List Int}(h:w.ownsRow base 3 1 v l.length (ints l)): (l=[]/\∃a c,v=.slice a 0 c)\/∃g c,v=.slice (some ⟨g,0,none⟩) l.length c/\∀i,i<l.length->w.cell? ⟨g,i,none⟩=some (.int .i64 (l.getD i 0)):=by
 rcases h.2 with ⟨h1,h2⟩ | ⟨g,cap,cur,h1,_,h3,h4,h5,h6,h7⟩
 ·exact .inl ⟨List.length_eq_zero_iff.1 h2,none,0,h1⟩
 ·refine .inr ⟨g,cap,h1,λi hi=>?_⟩
  have hc:cur[i]?=(ints l)[i]?:=by
   rw[<-h7,List.getElem?_take,if_pos (by omega)];simp
  have:cur[i]?=some (.int .i64 (l.getD i 0)):=by
   rw[hc];unfold ints;rw[List.getElem?_map,List.getElem?_eq_getElem hi,List.getD_eq_getElem?_getD,List.getElem?_eq_getElem hi];rfl
  simp[World.cell?,h3,this]
theorem qX5(b1 b2:Nat)(v1 v2:Value)(l:List Int)(w:World)(h1:w.ownsRow b1 3 1 v1 l.length (ints l))(h2:w.ownsRow b2 3 1 v2 l.length (ints l))(hl:l.length<=1000):
  Calls Tryz.prog 23 #[v1,v2] w λe w'=>e=.returned (.bool true)/\Keeps (λ_=>False) w w':=by
 rcases qEs h1 with ⟨rfl,a1,c1,rfl⟩ | ⟨g1,c1,rfl,hc1⟩
 ·rcases qEs h2 with ⟨_,a2,c2,rfl⟩ | ⟨g2,c2,rfl,hc2⟩
  all_goals
   clear h1 h2
   go_enter Tryz.func23,Tryz.ntmps23
   go_wp2
   go_loopw [5] (λi wr=>i=.int .i64 0/\wr=w) (λ_ _=>0)
   case atStart=>exact⟨rfl,rfl⟩
   case round =>
    obtain⟨rfl,rfl⟩:=hrel
    go_wp2
    go_ret
    exact⟨rfl,Keeps.refl _ _⟩
 ·rcases qEs h2 with ⟨h0,a2,c2,rfl⟩ | ⟨g2,c2,rfl,hc2⟩
  ·subst h0
   clear h1 h2 hc1
   go_enter Tryz.func23,Tryz.ntmps23
   go_wp2
   go_loopw [5] (λi wr=>i=.int .i64 0/\wr=w) (λ_ _=>0)
   case atStart=>exact⟨rfl,rfl⟩
   case round =>
    obtain⟨rfl,rfl⟩:=hrel
    go_wp2
    go_ret
    exact⟨rfl,Keeps.refl _ _⟩
  ·have HC1:=hide hc1
   have HC2:=hide hc2
   clear h1 h2 hc1 hc2
   generalize hn:l.length=n at *
   clear hn
   go_enter Tryz.func23,Tryz.ntmps23
   go_wp2
   go_loopw [5] (λi wr=>∃k:Nat,k<=n/\i=.int .i64 k/\Hid (Keeps (λ_=>False) w wr)) (λi _=>n-(intOf i).toNat)
   case atStart=>exact⟨0,by omega,rfl,Keeps.refl _ _⟩
   case round =>
    obtain⟨k,hk,rfl,HK⟩:=hrel
    by_cases hlt:k<n
    ·have x1:wr.cell? ⟨g1,k,none⟩=some (.int .i64 (l.getD k 0)):=(uh HK).cell (uh HC1 k hlt) (λh=>h)
     have x2:wr.cell? ⟨g2,k,none⟩=some (.int .i64 (l.getD k 0)):=(uh HK).cell (uh HC2 k hlt) (λh=>h)
     generalize l.getD k 0=y at *
     have hk0:(0:Int)<=(k:Int):=by omega
     have hkn:(k:Int)<(n:Int):=by omega
     have hne:(y !=y)=false:=by simp
     go_wp2
     go_quiet (fail)
     go_wp2
     go_roundw
     case rel=>exact⟨k+1,by omega,by go_num,hide ((uh HK).then (Keeps.drewN _ _ _))⟩
     case measure=>simp[intOf];omega
    ·go_wp2
     go_ret
     exact⟨rfl,uh HK⟩
theorem zA1(c n:Int)(w:World)(hn:1<=n)(hn':n<=4611686018427387904)(c0:-9223372036854775808<=c)(c1:c<=9223372036854775807):
  Calls Tryz.prog 18 #[.int .i64 c,.int .i64 n] w λe w'=>∃k:Nat,(k:Int)<n/\e=.returned (.int .i64 k)/\w'=w:=by
 by_cases h:c<0
 ·obtain⟨k,hk⟩:∃k:Nat,(k:Int)=(-(c+1))%n:=⟨((-(c+1))%n).toNat,Int.toNat_of_nonneg (Int.emod_nonneg _ (by omega))⟩
  have hlt:=Int.emod_lt_of_pos (-(c+1)) (show 0<n by omega)
  have HK:=hide hk
  clear hk
  go_enter Tryz.func18,Tryz.ntmps18
  go_wp2
  go_ret
  exact⟨k,by rw[uh HK];exact hlt,qA7 ((Int.neg_tmod (c+1) n).symm.trans ((Int.tmod_eq_emod_of_nonneg (by omega)).trans (uh HK).symm)),rfl⟩
 ·obtain⟨k,hk⟩:∃k:Nat,(k:Int)=c%n:=⟨(c%n).toNat,Int.toNat_of_nonneg (Int.emod_nonneg _ (by omega))⟩
  have hlt:=Int.emod_lt_of_pos c (show 0<n by omega)
  have HK:=hide hk
  clear hk
  go_enter Tryz.func18,Tryz.ntmps18
  go_wp2
  go_ret
  exact⟨k,by rw[uh HK];exact hlt,qA7 (uh HK).symm,rfl⟩
theorem qVa{wa w2 w3:World}{O:Obj}{e:Nat}{v nv:Value}{clock:Int}{ps:List (SB×Ser)}{b2:SB}{x:Ser}{gg m cap':Nat}(hE:ERep wa e v clock ps)(hm:ps.length=m)(hnv:nv=.slice (some ⟨gg,0,none⟩) (m+1) cap')(hs2:SRep w2 b2 x)(hft:∀i,b2.foot x.k i->wa.heap.size<=i)(hk2:Keeps (λ_=>False) wa w2)(hown:w3.ownsRow 0 73 1 nv (m+1) (ptrs ps++[.pointer (some ⟨b2.s,0,none⟩)]))(hgrow:(w2.alloc O).grownBy w3 v.ownBlock)(hat:v.ownBlock=some gg\/gg=w2.heap.size+1):
  ERep (w3.setCell ⟨e,1,none⟩ nv) e nv clock (ps++[(b2,x)])/\Keeps (EFoot e v ps) wa (w3.setCell ⟨e,1,none⟩ nv)/\(∀i,EFoot e nv (ps++[(b2,x)]) i->EFoot e v ps i\/wa.heap.size<=i):=by
 have hsz:=hk2.size
 have hnb:nv.ownBlock=some gg:=by rw[hnv];rfl
 have hk3:Keeps (λi=>v.ownBlock=some i) wa w3:=((hk2.mono (M':=λi=>v.ownBlock=some i) (λ_ _ h=>h.elim)).alloc O).grown hgrow (λk hk=>Or.inl hk)
 have hk4:Keeps (λi=>i=e) w3 (w3.setCell ⟨e,1,none⟩ nv):=(Keeps.refl (λi=>i=e) w3).setCell (p:=⟨e,1,none⟩) (Or.inl rfl) _
 have hele:=hE.blk.lt
 have hge:gg≠e:=by
  rcases hat with h | h
  ·intro he;exact hE.ev (by rw[h,he])
  ·omega
 have hrowlt:∀i,v.ownBlock=some i->i<wa.heap.size:=λi hi=>hE.lt i (.inr (.inl hi))
 have hsnew:SRep w3 b2 x:=(hs2.still ((Keeps.refl (λ_=>False) w2).alloc O)).keeps (M:=λi=>v.ownBlock=some i) ⟨hgrow.os,hgrow.tape,hgrow.output,hgrow.size,λk hk hn=>hgrow.block k hk (λh=>hn h.symm)⟩ (λi hi h=>by have h1:=hft i hi;have h2:=hrowlt i h;omega)
 refine⟨⟨?_,?_,?_,?_,?_,?_⟩,?_,?_⟩
 ·exact(hE.blk.keeps hk3 (λh=>hE.ev h)).setCell 1 nv
 ·have:=qBc hown hk4 (λi hi h=>by rw[hnb]at hi;injection hi with hi;omega)
  rw[qKy,List.length_append,hm]
  exact this
 ·intro p hp
  rcases List.mem_append.1 hp with hp | hp
  ·exact((hE.reps p hp).keeps hk3 (λi hi h=>(hE.ef p hp i hi).2 h)).keeps hk4 (λi hi h=>(hE.ef p hp i hi).1 h)
  ·rw[List.mem_singleton]at hp;subst hp
   exact hsnew.keeps hk4 (λi hi h=>by have:=hft i hi;omega)
 ·refine List.pairwise_append.2 ⟨hE.apart,List.pairwise_singleton _ _,?_⟩
  intro p hp q hq i hi hqi
  rw[List.mem_singleton]at hq;subst hq
  have h1:=(hE.reps p hp).lt i hi
  have h2:=hft i hqi
  omega
 ·rw[hnb];intro h;injection h with h;exact hge h
 ·intro p hp i hi
  rw[hnb]
  rcases List.mem_append.1 hp with hp | hp
  ·refine⟨(hE.ef p hp i hi).1,λh=>?_⟩
   injection h with h
   have h1:=(hE.reps p hp).lt i hi
   rcases hat with h2 | h2
   ·exact(hE.ef p hp i hi).2 (by rw[h2,h])
   ·omega
  ·rw[List.mem_singleton]at hp;subst hp
   have h1:=hft i hi
   have h2:=hs2.lt i hi
   refine⟨by omega,λh=>?_⟩
   injection h with h
   rcases hat with h3 | h3
   ·have:=hrowlt gg h3;omega
   ·omega
 ·exact(hk3.mono (M':=EFoot e v ps) (λi _ h=>.inr (.inl h))).trans hk4 (λi hi _=>.inl hi)
 ·intro i hi
  rcases hi with hi | hi | ⟨p,hp,hi⟩
  ·exact .inl (.inl hi)
  ·rw[hnb]at hi;injection hi with hi
   rcases hat with h | h
   ·exact .inl (.inr (.inl (by rw[h,hi])))
   ·exact .inr (by omega)
  ·rcases List.mem_append.1 hp with hp | hp
   ·exact .inl (.inr (.inr ⟨p,hp,hi⟩))
   ·rw[List.mem_singleton]at hp;subst hp
    exact .inr (hft i hi)
end
end Go.Proofs.YtahnliehdjncdaaGreatDoor
