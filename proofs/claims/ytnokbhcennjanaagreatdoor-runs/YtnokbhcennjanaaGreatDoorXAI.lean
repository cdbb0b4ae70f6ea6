import Derived.Test.YtnokbhcennjanaaGreatDoorXAH
open Go.RowKit Go.Proofs.Tryz
set_option maxRecDepth 100000
set_option maxHeartbeats 16000000
namespace Go.Proofs.YtnokbhcennjanaaGreatDoor
section
attribute [local go_sem ↓] AN B2
attribute [local go_sem] AO B4 A5 A6 AI AJ Bf B3
def EE(c:Cfg)(l:List Bk)(m:Int): List Bk:=l.drop (pastN l (m-c.aB))
def Cz(c:Cfg)(l:List Bk)(t m:Int): List Bk:=EE c l m++[⟨1,t⟩]
def C1(c:Cfg)(l:List Bk)(t m:Int): List Bk:=joinL c.k ((Cz c l t m).length+1) (Cz c l t m) 1 (Cz c l t m).length
theorem XC{c:Cfg}{l:List Bk}{m:Int}(t:Int)(d:cN l)(j:An l+1<=4611686018427387904)(i:l.length+1<=4398046511104): cN (Cz c l t m):=by
 unfold Cz;refine⟨λb a=>?_,?_,by unfold EE;rw[hY,iQ,iZ];omega⟩
 ·rcases ig.1 a with a | a
  ·exact d.one b (iB a)
  rw[ij]at a;rw[a];exact iG _
 have e:=H0 l (pastN l (m-c.aB));have h:=Ee (l:=l.take (pastN l (m-c.aB))) (λb a=>d.one b (jn a));rw[Fx];unfold EE;simp only[An];omega
theorem RD(e d:Nat)(h:Option Nat)(c:Cfg)(l:List Bk)(x:It)(m:Int)(w:World)(a:bU w e d h c l)(hi:cN l)(ak:An l+1<=4611686018427387904)(aj:l.length+1<=4398046511104)(an:-100<=m)(ao:m<=4611686018427387904)(ap:0<=c.aB)(aq:c.aB<=1000)(al:1<=c.k)(am:c.k<=10):
  Calls prog 134 #[.pointer (some ⟨e,0,none⟩),x.val,.int .i64 m] w λs R=>s=.returned (.tuple #[])/\∃n,bU R e d n c (C1 c l x.t m)/\aA (λq=>q=d\/h=some q) w R/\(n=h\/∃k,n=some k/\w.heap.size<=k):=by
 have t:w.cell? ⟨e,20,none⟩=some (.pointer (some ⟨d,0,none⟩)):=a.aF.cell rfl;have F:=Aa a;have ah:=hi.len;have Y:=Aa (pastN_le l (m-c.aB));have V:=Aa (XC (c:=c) (m:=m) x.t hi ak aj);have W:=Aa (show(EE c l m).length<=4398046511104 from by have:=(hi.drop (pastN l (m-c.aB))).len;exact this);have Z:=Aa (show C1 c l x.t m=joinL c.k ((Cz c l x.t m).length+1) (Cz c l x.t m) 1 (Cz c l x.t m).length from rfl);have X:=Aa (show EE c l m=l.drop (pastN l (m-c.aB)) from rfl);have ai:=a.aF.lt;clear a hi;unfold It.val;go_enter func134,ntmps134;go_wp2_with fail
 have L:=Aa (aD.new w [.int .i64 x.t,.int .i64 x.k,.int .i64 x.d,.int .i64 x.n] 80);have N:(w.alloc (.cells [Value.int .i64 x.t,.int .i64 x.k,.int .i64 x.d,.int .i64 x.n].toArray 80))=(w.alloc (.cells #[.int .i64 x.t,.int .i64 x.k,.int .i64 x.d,.int .i64 x.n] 80)):=rfl;rw[N]at L;clear N;have j:=Aa (F.o.still ((aA.refl (λ_=>False) w).alloc (.cells #[.int .i64 x.t,.int .i64 x.k,.int .i64 x.d,.int .i64 x.n] 80)));have T:=Aa ((aA.refl (λq=>q=d\/h=some q) w).alloc (.cells #[.int .i64 x.t,.int .i64 x.k,.int .i64 x.d,.int .i64 x.n] 80));generalize w.alloc (.cells #[.int .i64 x.t,.int .i64 x.k,.int .i64 x.d,.int .i64 x.n] 80)=z at *
 have H:=Aa (show w.heap.size≠d/\∀g,h=some g->w.heap.size≠g from by
    have ad:=F.o.row.lt
    exact⟨by omega,λg u=>by have:=ad.2 g u;omega⟩)
 generalize O:w.heap.size=ab at *
 have E:=Aa O;clear O t;have t:z.cell? ⟨e,20,none⟩=some (.pointer (some ⟨d,0,none⟩)):=j.o.aF.cell rfl;go_region_with (first | (go_at_call 172;refine(PP e d h c l m _ (by exact j.o.still (aA.refl _ _).drew) ah an ao ap aq).mono ?_;rintro s ar ⟨rfl,r⟩;have av:=(j.o.still (((aA.refl (λ_=>False) z).drew).then r)).aF.cell (i:=20) rfl) | (go_at_call 171;refine(lose_any d h l (pastN l (m-c.aB)) _ (by exact(j.o.still (((aA.refl (λ_=>False) z).drew).then r)).row) Y.o).mono ?_;rintro s A ⟨rfl,P,v⟩))
 all_goals
  have o:=Aa (show bU A e d h c (EE c l m) from⟨((j.o.aF.drew).keeps r id).keeps v (λa=>a.elim j.o.dr (λa=>j.o.dg e a rfl)),by rw[X.o];exact P,j.o.dr,j.o.dg⟩);have aa:=Aa (((L.o.drew).keeps r id).keeps v (λa=>a.elim H.o.1 (λa=>H.o.2 ab a rfl)));have G:=Aa (((T.o.drew).trans r (λ_ a _=>a.elim)).then v);clear r v P t;have t:A.cell? ⟨e,20,none⟩=some (.pointer (some ⟨d,0,none⟩)):=o.o.aF.cell rfl;have aw:=aa.o.c0;go_wp2_with fail
  go_region_with (go_at_call 173;refine(rowPut_any d h (EE c l m) ⟨1,x.t⟩ _ (by exact o.o.row.still (aA.refl _ _).drew) W.o).mono ?_;rintro s M ⟨rfl,n,Q,C,D⟩)
  all_goals
   have S:=Aa (show bU M e d n c (Cz c l x.t m) from⟨(o.o.aF.drew).keeps C (λa=>a.elim o.o.dr (λa=>o.o.dg e a rfl)),Q,o.o.dr,λg u=>by
        rcases D with a | ⟨k,a,B⟩
        ·exact o.o.dg g (by rw[<-a,u])
        rw[u]at a;injection a with a;have:=o.o.aF.lt;rw[kP]at B
        omega⟩)
   have U:=Aa ((G.o.drew).then C);have I:=Aa (show n=h\/∃k,n=some k/\A.heap.size<=k from D);have J:=Aa G.o.size;clear C Q t D;go_wp2_with fail
   refine(Y7 e d n c _ M S.o V.o al am).mono ?_;rintro s au ⟨rfl,af,ag⟩;go_wp2;go_end0;refine⟨rfl,n,by rw[Z.o];exact af,U.o.trans ag (λq hi ai=>?_),?_⟩
   ·rcases hi with hi | hi
    ·exact .inl hi
    rcases I.o with a | ⟨k,a,B⟩
    ·exact .inr (by rw[<-a,hi])
    rw[hi]at a;injection a with a;have:=J.o;have ae:=E.o;omega
   rcases I.o with a | ⟨k,a,B⟩
   ·exact .inl a
   have:=J.o;have ae:=E.o;exact .inr ⟨k,a,by omega⟩
theorem U2(d k:Nat)(j:Option Nat)(c:Cfg)(l:List Bk)(a m:Int)(w:World)(h:bU w d k j c l)(n:Ab a 1 c.aB=false):
  Calls prog 135 #[.pointer (some ⟨d,0,none⟩),.int .i64 a,.int .i64 m] w λe i=>e=.returned (.tuple #[.slice none 0 0,.int .i64 13])/\lO w i:=by
 have o:=h.aF.c5;clear h;go_enter func135,ntmps135;go_wp2_with (go_at_call 34;refine(AK _ _ _ _).mono ?_;rintro e i ⟨rfl,rfl⟩)
 go_ret2;exact⟨rfl,aA.refl _ _⟩
theorem Tm(d o:Nat)(n:Option Nat)(c:Cfg)(l:List Bk)(a m:Int)(w:World)(h:bU w d o n c l)(hi:cN l)(t:Ab a 1 c.aB=true)(B:-100<=m)(C:m<=4611686018427387904)(D:c.aB<=1000):
  Calls prog 135 #[.pointer (some ⟨d,0,none⟩),.int .i64 a,.int .i64 m] w λe i=>∃g,e=.returned (.tuple #[.slice (some ⟨g,0,none⟩) 1 1,.int .i64 0])/\w.heap.size<=g/\aD i g [.int .i64 (Fb l (m-a))] 3/\lO w i:=by
 have z:=h.aF.c5;have r:=Aa h;have s:=Aa hi;have u:1<=a/\a<=c.aB:=by simpa[Ab] using t
 obtain⟨v,x⟩:=u;have A:IntKind.i64.wrap (m-a)=m-a:=by rw[ic];omega
 clear h hi;go_enter func135,ntmps135;go_wp2_with (first | (go_at_call 34;refine(AK _ _ _ _).mono ?_;rintro e i ⟨rfl,rfl⟩) | fail)
 refine(Tj d o n c l (m-a) _ r.o s.o).mono ?_;rintro e q ⟨rfl,k⟩;have j:=Aa k;clear k;go_wp2;go_ret2;exact⟨q.heap.size,rfl,j.o.size,aD.new q [.int .i64 (Fb l (m-a))] 3,j.o.alloc _⟩
def DF(c:Cfg)(l:List Bk)(m b:Int): Int:=min (pastN l (m-c.aB):Int) b
theorem SL(i e:Nat)(h:Option Nat)(c:Cfg)(l:List Bk)(m b:Int)(w:World)(a:bU w i e h c l)(hi:cN l)(L:-100<=m)(M:m<=4611686018427387904)(N:0<=c.aB)(O:c.aB<=1000)(P:0<=b)(Q:b<=100):
  Calls prog 136 #[.pointer (some ⟨i,0,none⟩),.int .i64 m,.int .i64 b] w λs F=>s=.returned (.tuple #[.int .i64 (DF c l m b),.int .i64 ((pastN l (m-c.aB):Int)-DF c l m b)])/\bU F i e h c (l.drop (DF c l m b).toNat)/\aA (λk=>k=e\/h=some k) w F:=by
 have A:=Aa a;have H:=hi.len;have I:=pastN_le l (m-c.aB);have r:=Aa (show DF c l m b=min (pastN l (m-c.aB):Int) b from rfl);clear a hi;go_enter func136,ntmps136;go_wp2_with fail
 refine(PP i e h c l m w A.o H L M N O).mono ?_;rintro s v ⟨rfl,z⟩;have d:=Aa (A.o.still z);have B:=Aa z;clear z;generalize E:pastN l (m-c.aB)=p at *
 have C:=Aa E;clear E;have D:v.cell? ⟨i,20,none⟩=some (.pointer (some ⟨e,0,none⟩)):=d.o.aF.cell rfl;by_cases G:b<(p:Int)
 ·obtain⟨j,rfl⟩:∃j:Nat,b=(j:Int):=⟨b.toNat,by omega⟩;have o:=Aa (show DF c l m j=(j:Int) by rw[r.o];omega);have J:IntKind.i64.wrap ((p:Int)-(j:Int))=(p:Int)-(j:Int):=by rw[ic];omega
  clear r;go_wp2_with fail
  refine(lose_any e h l j v d.o.row (by omega)).mono ?_;rintro s x ⟨rfl,q,n⟩;have t:=Aa (show bU x i e h c (l.drop j) from⟨d.o.aF.keeps n (λa=>a.elim d.o.dr (λa=>d.o.dg i a rfl)),q,d.o.dr,d.o.dg⟩);have u:=Aa ((B.o.mono (M':=λk=>k=e\/h=some k) (λ_ _ a=>a.elim)).then n);clear q n D;go_wp2;go_ret2;refine⟨?_,?_,u.o⟩
  ·rw[C.o,o.o];rfl
  rw[o.o,iH];exact t.o
 have R:(p:Int)<=b:=by omega
 have o:=Aa (show DF c l m b=(p:Int) by rw[r.o];omega);have J:IntKind.i64.wrap ((p:Int)-(p:Int))=(p:Int)-(p:Int):=by rw[ic];omega
 clear r G;go_wp2_with fail
 refine(lose_any e h l p v d.o.row I).mono ?_;rintro s x ⟨rfl,q,n⟩;have t:=Aa (show bU x i e h c (l.drop p) from⟨d.o.aF.keeps n (λa=>a.elim d.o.dr (λa=>d.o.dg i a rfl)),q,d.o.dr,d.o.dg⟩);have u:=Aa ((B.o.mono (M':=λk=>k=e\/h=some k) (λ_ _ a=>a.elim)).then n);clear q n D;go_wp2;go_ret2;refine⟨?_,?_,u.o⟩
 ·rw[C.o,o.o];simp
 rw[o.o,iH];exact t.o
def Ky(d:Nat): Value:=.func (.func 134) #[.pointer (some ⟨d,0,none⟩)] #[]
def Kw(d:Nat): Value:=.func (.func 138) #[.pointer (some ⟨d,0,none⟩)] #[]
def Kt(d:Nat): Value:=.func (.func 137) #[.pointer (some ⟨d,0,none⟩)] #[]
def Kv(d:Nat): Value:=.func (.func 135) #[.pointer (some ⟨d,0,none⟩)] #[]
def K9(d:Nat): Value:=.func (.func 136) #[.pointer (some ⟨d,0,none⟩)] #[]
theorem Og{w w':World}{b o n:Nat}(h:lO w w')(i:b<w.heap.size): Ao w' b o n=Ao w b o n/\Ay w' b o n=Ay w b o n:=by
 have d:∀c,w'.cell? ⟨b,o+c,none⟩=w.cell? ⟨b,o+c,none⟩:=λc=>jw (a:=⟨b,o+c,none⟩) (h.block b i id);constructor
 ·unfold Ao Cv;simp only[d]
 unfold Ay;simp only[d]
def QR(ty:TypeId)(ps:Array (Nat×Value)): Sem Next:=do pure (.value (<-Instr.build ty ps))
theorem Ss(ρ:Operand->Value)(dst:Option Tmp)(x:Array (Nat×Operand))(c:TypeId)(pos:String)(after:Array Edge)(guard:Option (Nat×Bool)):
  execOp ρ { dst,op:=.build 210 x,type:=c,pos,after,guard }=QR 210 (x.map λ(a,y)=>(a,ρ y)):=rfl
theorem VD(c:Cfg)(a:Nat)(w:World):
  (QR 210 #[(0,.agg c.cells.toArray),(1,.pointer (some ⟨a,0,none⟩))]).run prog w=.ok (.value (.agg (MB c a).toArray)) w:=by kernel_rfl
attribute [local go_sem ↓] Ss
attribute [local go_sem] VD
theorem Tp(c:Cfg)(w:World):
  Calls prog 133 #[c.val] w λo e=>∃l t,o=.returned (.pointer (some ⟨l,0,none⟩))/\w.heap.size<=l/\w.heap.size<=t/\bU e l t none c []/\lO w e:=by
 have h:=Aa (aD.new w c.cells 46);have i:=Aa ((aA.refl (λ_=>False) w).alloc (.cells c.cells.toArray 46));have v:∃a,a=w.alloc (.cells c.cells.toArray 46):=⟨_,rfl⟩;unfold Cfg.val;go_enter func133,ntmps133;go_wp2_with fail
 obtain⟨a,m⟩:=v;have q:w.alloc (.cells #[.int .i64 c.kind,.int .i64 c.aK,.int .i64 c.bF,.int .i64 c.cap,.int .i64 c.k,.int .i64 c.aB,.int .i64 c.bits,.int .i64 c.rows,.int .i64 c.width,.int .i64 c.aM,.int .i64 c.size,.int .i64 c.degree,.int .i64 c.half,.int .i64 c.mark,.int .i64 c.bV,.int .i64 c.bW,.int .i64 c.cG,.int .i64 c.cH,.int .i64 c.cQ,.int .i64 c.cR] 46)=a:=m.symm;rw[q];rw[<-m]at h i;clear q m;generalize r:w.heap.size=k at *
 have u:=Aa r;clear r;have s:k<a.heap.size:=h.o.lt;obtain⟨H,G⟩:=CE h.o 20 rfl;go_region_held3 (λe=>Ao e k 0 20=.agg c.cells.toArray/\Ay e k 0 20=true)
  (first | (simp[*,A5,A6,BC,BD];done) | (go_split_ands;exact⟨(Og n (by simpa using s)).1.trans (by assumption),(Og n (by simpa using s)).2.trans (by assumption)⟩))
  (first | (go_at_call 169;refine(rowNew_any _).mono ?_;rintro o d ⟨rfl,B,n,C⟩))
 go_wp2;go_ret;have z:lO a d:=((aA.refl _ _).drew).then n;have A:∀j,lO d (d.alloc j):=λj=>(aA.refl (λ_=>False) d).alloc j;have E:=i.o.size;have F:=u.o;have D:d.heap.size=a.heap.size+1:=by simpa using C
 exact⟨a.heap.size+1,a.heap.size,rfl,by omega,by omega,⟨aD.newAt D (MB c a.heap.size) 210,B.still (A _),by omega,λg x=>by cases x⟩,(i.o.then z).alloc _⟩
theorem RP(c:Cfg)(w:World):
  Calls prog 96 #[c.val] w λt A=>∃a l,t=.returned (.agg #[Ky a,Kv a,K9 a,Kt a,Kw a])/\w.heap.size<=a/\w.heap.size<=l/\bU A a l none c []/\lO w A:=by
 have i:=Aa (show aD ((w.alloc (.cells c.cells.toArray 46)).alloc (.cells #[.nilFunc,.nilFunc,.nilFunc,.nilFunc,.nilFunc] 94)) (w.heap.size+1) [.nilFunc,.nilFunc,.nilFunc,.nilFunc,.nilFunc] 94 from aD.newAt (by simp) _ _);have h:=Aa (((aA.refl (λ_=>False) w).alloc (.cells c.cells.toArray 46)).alloc (.cells #[.nilFunc,.nilFunc,.nilFunc,.nilFunc,.nilFunc] 94));have F:∃j,j=(w.alloc (.cells c.cells.toArray 46)).alloc (.cells #[.nilFunc,.nilFunc,.nilFunc,.nilFunc,.nilFunc] 94):=⟨_,rfl⟩;unfold Cfg.val;go_enter func96,ntmps96;go_wp2_with fail
 obtain⟨j,n⟩:=F;have u:(w.alloc (.cells #[.int .i64 c.kind,.int .i64 c.aK,.int .i64 c.bF,.int .i64 c.cap,.int .i64 c.k,.int .i64 c.aB,.int .i64 c.bits,.int .i64 c.rows,.int .i64 c.width,.int .i64 c.aM,.int .i64 c.size,.int .i64 c.degree,.int .i64 c.half,.int .i64 c.mark,.int .i64 c.bV,.int .i64 c.bW,.int .i64 c.cG,.int .i64 c.cH,.int .i64 c.cQ,.int .i64 c.cR] 46)).alloc (.cells #[.nilFunc,.nilFunc,.nilFunc,.nilFunc,.nilFunc] 94)=j:=n.symm;rw[u];rw[<-n]at i h;clear u n;generalize o:w.heap.size=d at *
 have C:=Aa o;clear o;refine(Tp c j).mono ?_;rintro t r ⟨a,l,rfl,O,R,x,q⟩;have B:=Aa x;have e:=Aa (i.o.keeps q id);have D:=Aa (h.o.then q);have E:=Aa h.o.size;have s:=Aa i.o.lt;clear x q i h;have N:=e.o.frozen;have H:=e.o.c0;have I:=e.o.c1;have J:=e.o.c2;have L:=e.o.c3;have M:=e.o.c4;go_wp2;have o:=C.o;have S:=E.o;have z:aA (λk=>k=d+1) r (((((r.setCell ⟨d+1,0,none⟩ (Ky a)).setCell ⟨d+1,1,none⟩ (Kv a)).setCell ⟨d+1,2,none⟩ (K9 a)).setCell ⟨d+1,3,none⟩ (Kt a)).setCell ⟨d+1,4,none⟩ (Kw a)):=(((((aA.refl (λk=>k=d+1) r).setCell (p:=⟨d+1,0,none⟩) (Or.inl rfl) _).setCell (p:=⟨d+1,1,none⟩) (Or.inl rfl) _).setCell (p:=⟨d+1,2,none⟩) (Or.inl rfl) _).setCell (p:=⟨d+1,3,none⟩) (Or.inl rfl) _).setCell (p:=⟨d+1,4,none⟩) (Or.inl rfl) _;refine iN (v:=.agg #[Ky a,Kv a,K9 a,Kt a,Kw a]) (by simp[results,results96,go_sem,H,I,J,L,M,Ky,Kv,K9,Kt,Kw]) rfl ⟨a,l,rfl,by omega,by omega,?_,?_⟩
 ·exact B.o.keeps z (λm=>by have:=s.o;omega) (λm=>by have:=s.o;omega) (λg G=>by cases G)
 exact D.o.trans z (λk P Q=>by omega)
end
end Go.Proofs.YtnokbhcennjanaaGreatDoor
namespace Go.Proofs.YtnokbhcennjanaaGreatDoor.Mk
structure aY (w:World) (g cap:Nat) (l:List Bk):Prop where
 ex:∃cur:List Value,aD w g cur 218/\cur.length=cap*2/\cur.take (l.length*2)=Az l
 le:l.length<=cap
 max:cap<=maxLen
theorem aY.lt{w:World}{g a:Nat}{l:List Bk}(c:aY w g a l): g<w.heap.size:=by obtain⟨e,d,_⟩:=c.ex;exact d.lt
theorem aY.keeps{M:Nat->Prop}{w w':World}{g c:Nat}{l:List Bk}(a:aY w g c l)(k:aA M w w')(h:¬M g): aY w' g c l:=by
 obtain⟨d,e,i⟩:=a.ex;exact⟨⟨d,e.keeps k h,i⟩,a.le,a.max⟩
theorem aY.cells{w:World}{g h:Nat}{l:List Bk}(k:aY w g h l)(i:Nat)(hi:i<l.length):
  w.cell? ⟨g,i*2,none⟩=some (.int .i64 (Ad l i).sz)/\w.cell? ⟨g,i*2+1,none⟩=some (.int .i64 (Ad l i).t):=by
 obtain⟨j,c,o,n⟩:=k.ex;have d:∀a,a<l.length*2->j[a]?=(Az l)[a]?:=λa m=>by rw[<-n,iV,h9 m]
 obtain⟨e,b⟩:=Mi l i hi;exact⟨c.cell (by rw[d _ (by omega)];exact e),c.cell (by rw[d _ (by omega)];exact b)⟩
theorem aY.owns{w:World}{g a:Nat}{l:List Bk}(c:aY w g a l): w.ownsRow 0 218 2 (.slice (some ⟨g,0,none⟩) l.length a) l.length (Az l):=by
 obtain⟨d,e,h,i⟩:=c.ex;exact⟨Fv l,.inr ⟨g,a,d.toArray,rfl,iM _,e,c.le,c.max,by simp[h],by simpa using i⟩⟩
theorem brow_of_owns{w:World}{g n c:Nat}{l:List Bk}(o:l.length=n)(e:w.ownsRow 0 218 2 (.slice (some ⟨g,0,none⟩) n c) n (Az l)): aY w g c l:=by
 rcases e.2 with ⟨a,_⟩ | ⟨r,q,d,a,_,h,i,j,k,m⟩
 ·cases a
 cases a;subst o;exact⟨⟨d.toList,by unfold aD;simpa using h,by simpa using k,m⟩,i,j⟩
theorem infoBk: (prog.info? 218).map (λa=>(a.zero,a.size,a.bytes))=some (some (.agg #[.int .i64 0,.int .i64 0]),2,16):=by kernel_rfl
theorem FY(w:World)(j:TypeId)(b o n c:Nat)(cs:List Value)(a:aD w b cs 218)(l:0<n)(k:o+n*2<=cs.length):
  (Builtin.clear_ #[266] j #[.slice (some ⟨b,o,none⟩) n c]).run prog w=.ok (.tuple #[]) (w.setCells b o (Ce n)):=by
 have d:=k7 (P:=prog) b o (Ce n) 0 w (λi h=>a.some (by rw[E3]at h;omega)) (λi _=>a.frozen _) (O8 n);simp only[kg]at d;obtain⟨e,rfl⟩:∃e,n=e+1:=⟨n-1,by omega⟩;simp[Builtin.clear_,jY underlying266,No,d]
theorem Jc{w:World}{g a n j:Nat}{l:List Bk}{c:List Value}(h:l.length=n)(i:aD w g c 218)(o:c.length=a*2)(s:n<=a)(q:a<=maxLen)(r:j<=n):
  aY ((w.setCells g 0 (Az (l.drop j))).setCells g ((n-j)*2) (Ce j)) g a (l.drop j):=by
 have d:(Az (l.drop j)).length=(n-j)*2:=by rw[Fv];simp[h]
 have k:=aD.setCells (Az (l.drop j)) 0 w c i (by rw[d];omega);have e:(over c 0 (Az (l.drop j))).length=a*2:=by rw[Dx (by rw[d];omega),o]
 have m:=aD.setCells (Ce j) ((n-j)*2) _ _ k (by rw[e,E3];omega);refine⟨⟨_,m,by rw[Dx (by rw[e,E3];omega),e],?_⟩,by simp[h];omega,q⟩;have hlen:(l.drop j).length*2=(n-j)*2:=by simp[h]
 rw[hlen];unfold over;rw[List.append_assoc,iX (by simp[d])];rw[kB,Nat.min_self];simp only[jM,jt];rw[iX (by omega),iq (by omega)]
theorem IN(w:World):
  Calls prog 218 #[.slice none 0 0,.int .i64 0,.int .i64 0] w λa c=>a=.returned (.slice none 0 0)/\c=w:=by
 go_enter func218,ntmps218;go_wp2;go_ret;exact⟨rfl,rfl⟩
theorem IJ(g a n:Nat)(w:World)(i:n<=a):
  Calls prog 218 #[.slice (some ⟨g,0,none⟩) n a,.int .i64 0,.int .i64 0] w λc d=>c=.returned (.slice (some ⟨g,0,none⟩) n a)/\d=w:=by
 have e:(0:Int)<=(n:Int):=by omega
 have h:(n:Int)<=(a:Int):=by omega
 go_enter func218,ntmps218;go_wp2;go_ret;exact⟨rfl,rfl⟩
theorem IZ(g d n j:Nat)(l:List Bk)(w:World)(q:l.length=n)(r:aY w g d l)(Z:0<j)(O:j<=n):
  Calls prog 218 #[.slice (some ⟨g,0,none⟩) n d,.int .i64 0,.int .i64 j] w λI E=>I=.returned (.slice (some ⟨g,0,none⟩) (n-j) d)/\aY E g d (l.drop j)/\aA (·=g) w E:=by
 obtain⟨H,i,A,D⟩:=r.ex;have B:=r.le;rw[q]at B;have C:=r.max;have s:=Aa (Jc (w:=w.drew) q (by exact i.drew) A B C O);obtain⟨news,m⟩:∃news,news=Az (l.drop j):=⟨_,rfl⟩;rw[<-m]at s;have hlen:news.length=(n-j)*2:=by rw[m,Fv];simp[q]
 have z:∀a c,news[a]?=some c->w.cell? ⟨g,j*2+a,none⟩=some c:=by
  intro a c h;refine i.cell ?_;have ad:a<(n-j)*2:=by have:=(ik.1 h).1;omega
  rw[m,Kd,j0,<-D,iV,h9 (by omega)]at h;exact h
 obtain⟨o,X,P⟩:∃o:Addr,(if d=j then some (⟨g,0,none⟩:Addr) else some ⟨g,j*2,none⟩)=some o/\Hid (∀a c,news[a]?=some c->w.drew.cell? (o.add a)=some c):=by
  by_cases v:d=j
  ·refine⟨⟨g,0,none⟩,by simp[v],λa c h=>?_⟩;have J:news.length=0:=by omega
   rw[iL.1 J]at h;simp at h
  refine⟨⟨g,j*2,none⟩,by simp[v],λa c h=>?_⟩;rw[kv];exact z a c h
 have U:Hid (news.length=(n-j)*2):=hlen;have V:Hid (∀c∈news,c.oneCell'=true):=by rw[m];exact Kk _
 have W:Hid (∀a,a<news.length->(w.drew.cell? ⟨g,0+0*2+a,none⟩).isSome=true/\w.drew.frozen? ⟨g,0+0*2+a,none⟩=false):=by
  intro a ab;exact⟨i.some (by omega),i.frozen _⟩
 obtain⟨e,k⟩:∃e,e=w.drew.setCells g 0 news:=⟨_,rfl⟩;have x:aD e g (over H 0 news) 218:=by rw[k];exact aD.setCells _ _ _ _ i.drew (by omega)
 have Y:∀t,(Builtin.clear_ #[266] t #[.slice (some ⟨g,(n-j)*2,none⟩) (n-(n-j)) (d-(n-j))]).run prog e=.ok (.tuple #[]) (e.setCells g ((n-j)*2) (Ce (n-(n-j)))) :=
  λt=>FY e t g _ _ _ _ x (by omega) (by rw[Dx (by omega)];omega)
 have L:Hid (e=w.drew.setCells g (0+0*2) news):=k;have F:=Aa (show aA (·=g) w e by rw[k];exact aA.setCells (M:=λu=>u=g) (Or.inl rfl) _ _ _ (aA.refl _ _).drew);rw[<-k]at s;obtain⟨T,N,Q,R,S⟩:=jh infoBk;have aa:j<=d:=by omega
 have G:=Aa (show n-(n-j)=j by omega);clear k x z m hlen i D A r q C Q S;go_enter func218,ntmps218;go_wp2_with fail
 go_region_law (refine step_append_room rfl (.tmp 22) (.tmp 25) 266 rfl 218 T 2 underlying266 N R g 0 0 d (by simp[Act.eval,Act.put]) o (n-j) (d-j) news (by simp[Act.eval,Act.put]) U.out P.out V.out (by omega) W.out ?_;rw[<-L.out])
 go_wp2;go_ret;refine⟨by simp,?_,?_⟩
 ·have:=s.o;rw[G.o];exact this
 exact aA.setCells (M:=λu=>u=g) (Or.inl rfl) _ _ _ F.o
