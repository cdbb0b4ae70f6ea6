import Derived.Test.YtahnliehdjncdabGreatDoorXAK
set_option maxRecDepth 100000
set_option maxHeartbeats 16000000
namespace Go.Proofs.YtahnliehdjncdabGreatDoor.Mk
open Go.RowKit
theorem rowDrop_any(q:Nat)(og:Option Nat)(l:List Bk)(w:World)(h:RowRep w q og l)(h0:0<l.length)(hl:l.length<=4398046511104):
  Calls Tryz.prog 231 #[.pointer (some ⟨q,0,none⟩),.int .i64 1] w λe w'=>e=.returned (.tuple #[])/\RowRep w' q og (l.take (l.length-1))/\Keeps (λi=>i=q\/og=some i) w w':=by
 cases og with
 | none=>obtain⟨rfl,hb⟩:=h;simp at h0
 | some g =>
  obtain⟨hne,cap,hb,hr⟩:=h;obtain⟨n,hn⟩:∃n,l.length=n+1:=⟨l.length-1,by omega⟩;have hq1:w.cell? ⟨q,1,none⟩=some (.slice (some ⟨g,0,none⟩) (n+1) cap):=by rw[<-hn];exact hb.cell rfl
  have hlq:=hb.lt;have HB:=hide hb;have HC:=hide (qNz g cap n l w.drew hn (hr.keeps (M:=λ_=>False) (Keeps.refl _ _).drew (λh=>h)));have HN:=hide hn;have hw1:IntKind.i64.wrap ((n:Int)+1-1)=(n:Int):=by rw[IntKind.wrap_i64];omega
  have hwn:IntKind.i64.wrap (n:Int)=(n:Int):=by rw[IntKind.wrap_i64];omega
  have hnb:n<=4398046511104:=by omega
  clear hb hr hn;go_enter Tryz.func231,Tryz.ntmps231
  go_wp2_with fail
  go_region_with (go_at_call 229;refine(uh HC).mono ?_;rintro e w1 ⟨rfl,hr1,hk1⟩;have hq2:=((uh HB).drew.keeps hk1 hne).cell (i:=1) rfl;have hf2:=((uh HB).drew.keeps hk1 hne).frozen)
  all_goals
   have HB1:=hide ((uh HB).drew.keeps hk1 hne);have HR1:=hide hr1;have HK1:=hide ((Keeps.refl (λi=>i=g) w).drew.then hk1);clear hr1 hk1;go_wp2
   go_end0
   have hn:=uh HN;refine⟨rfl,⟨hne,cap,?_,?_⟩,?_⟩
   ·rw[List.length_take,show min (l.length-1) l.length=n by omega];exact(uh HB1).setCell 1 _
   ·rw[hn];exact(uh HR1).keeps (M:=λi=>i=q) ((Keeps.refl (λi=>i=q) _).setCell (p:=⟨q,1,none⟩) (Or.inl rfl) _) (λh=>hne h.symm)
   ·exact((uh HK1).mono (M':=λi=>i=q\/some g=some i) (λi _ h=>.inr (by rw[h]))).setCell (p:=⟨q,1,none⟩) (Or.inl (Or.inl rfl)) _
end Go.Proofs.YtahnliehdjncdabGreatDoor.Mk
