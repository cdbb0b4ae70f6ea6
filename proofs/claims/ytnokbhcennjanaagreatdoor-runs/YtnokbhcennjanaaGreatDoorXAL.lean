import Derived.Test.YtnokbhcennjanaaGreatDoorXAJ
open Go.RowKit Go.Proofs.Tryz
set_option maxRecDepth 100000
set_option maxHeartbeats 16000000
namespace Go.Proofs.YtnokbhcennjanaaGreatDoor.Mk
theorem rowDrop_any(c:Nat)(n:Option Nat)(l:List Bk)(w:World)(e:aH w c n l)(C:0<l.length)(E:l.length<=4398046511104):
  Calls prog 220 #[.pointer (some ⟨c,0,none⟩),.int .i64 1] w λr u=>r=.returned (.tuple #[])/\aH u c n (l.take (l.length-1))/\aA (λa=>a=c\/n=some a) w u:=by
 cases n with
 | none=>obtain⟨rfl,m⟩:=e;simp at C
 | some g =>
  obtain⟨k,q,m,s⟩:=e;obtain⟨d,h⟩:∃d,l.length=d+1:=⟨l.length-1,by omega⟩;have F:w.cell? ⟨c,1,none⟩=some (.slice (some ⟨g,0,none⟩) (d+1) q):=by rw[<-h];exact m.cell rfl
  have o:=Aa m;have x:=Aa (RZ g q d l w.drew h (s.keeps (M:=λ_=>False) (aA.refl _ _).drew id));have A:=Aa h;have H:IntKind.i64.wrap ((d:Int)+1-1)=(d:Int):=by rw[ic];omega
  have I:IntKind.i64.wrap (d:Int)=(d:Int):=by rw[ic];omega
  clear m s h;go_enter func220,ntmps220;go_wp2_with fail
  go_region_with (go_at_call 218;refine x.o.mono ?_;rintro r J ⟨rfl,t,j⟩;have G:=(o.o.drew.keeps j k).cell (i:=1) rfl;have D:=(o.o.drew.keeps j k).frozen)
  all_goals
   have v:=Aa (o.o.drew.keeps j k);have B:=Aa t;have z:=Aa ((aA.refl (λa=>a=g) w).drew.then j);clear t j;go_wp2;go_end0;have h:=A.o;refine⟨rfl,⟨k,q,?_,?_⟩,?_⟩
   ·rw[iD,show min (l.length-1) l.length=d by omega];exact v.o.setCell 1 _
   ·rw[h];exact B.o.keeps (M:=λa=>a=c) ((aA.refl (λa=>a=c) _).setCell (p:=⟨c,1,none⟩) (Or.inl rfl) _) (λe=>k e.symm)
   exact(z.o.mono (M':=λa=>a=c\/some g=some a) (λa _ e=>.inr (by rw[e]))).setCell (p:=⟨c,1,none⟩) (Or.inl (Or.inl rfl)) _
