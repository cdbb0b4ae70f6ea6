import Derived.Test.YtahnliehdjncdabGreatDoorXAF
set_option maxRecDepth 100000
set_option maxHeartbeats 16000000
namespace Go.Proofs.YtahnliehdjncdabGreatDoor
section
open Go.RowKit
def qDa(l:List Bk)(i:Nat)(x:Bk): List Bk:=l.take i++[x]++l.drop (i+2)
theorem qDt{l:List Bk}{i:Nat}(x:Bk)(h:i+2<=l.length): (qDa l i x).length=l.length-1:=by simp[qDa];omega
theorem qLy{L vs:List Value}{o k:Nat}(h:k<=o)(ho:o<=L.length): (over L o vs).take k=L.take k:=by
 unfold over;rw[List.append_assoc,List.take_append_of_le_length (by simp;omega),List.take_take,Nat.min_eq_left h]
theorem qHa{L vs:List Value}{o:Nat}(ho:o<=L.length): (over L o vs).take (o+vs.length)=L.take o++vs:=by
 unfold over;rw[List.take_append_of_le_length (by simp;omega),List.take_of_length_le (by simp;omega)]
theorem qNl{w:World}{g cap n i:Nat}{l:List Bk}{x:Bk}{cur:List Value}(hn:l.length=n)(hb:Blk w g cur 214)(hl:cur.length=cap*2)(ht:cur.take (l.length*2)=qBu l)(hle:n<=cap)(hmax:cap<=maxLen)(hi:i+2=n):
  BRow ((w.setCells g (i*2) [.int .i64 x.sz,.int .i64 x.t]).setCells g ((i+1)*2) (qCm 1)) g cap (qDa l i x):=by
 have hb1:=Blk.setCells [.int .i64 x.sz,.int .i64 x.t] (i*2) w cur hb (by simp;omega);have hl1:(over cur (i*2) [.int .i64 x.sz,.int .i64 x.t]).length=cap*2:=by rw[qBi (by simp;omega),hl]
 have hb2:=Blk.setCells (qCm 1) ((i+1)*2) _ _ hb1 (by rw[hl1,qBo];omega);have hjl:=qDt x (l:=l) (i:=i) (by omega);refine⟨⟨_,hb2,by rw[qBi (by rw[hl1,qBo];omega),hl1],?_⟩,by omega,hmax⟩;rw[hjl,qLy (by omega) (by omega),show(l.length-1)*2=i*2+[Value.int .i64 x.sz,.int .i64 x.t].length by simp;omega,qHa (by omega)];have hd:l.drop (i+2)=[]:=List.drop_eq_nil_of_le (by omega);have h3:cur.take (i*2)=(qBu l).take (i*2):=by rw[<-ht,List.take_take,Nat.min_eq_left (by omega)]
 unfold qDa;rw[hd,List.append_nil,qEw,qKg,h3];rfl
theorem qNm{w:World}{g cap n i:Nat}{l:List Bk}{x:Bk}{cur:List Value}(hn:l.length=n)(hb:Blk w g cur 214)(hl:cur.length=cap*2)(ht:cur.take (l.length*2)=qBu l)(hle:n<=cap)(hmax:cap<=maxLen)(hi:i+2<n):
  BRow (((w.setCells g (i*2) [.int .i64 x.sz,.int .i64 x.t]).setCells g ((i+1)*2) (qBu (l.drop (i+2)))).setCells g ((n-1)*2) (qCm 1)) g cap (qDa l i x):=by
 have hb1:=Blk.setCells [.int .i64 x.sz,.int .i64 x.t] (i*2) w cur hb (by simp;omega);have hl1:(over cur (i*2) [.int .i64 x.sz,.int .i64 x.t]).length=cap*2:=by rw[qBi (by simp;omega),hl]
 have hfl:(qBu (l.drop (i+2))).length=(n-(i+2))*2:=by rw[qC1];simp[hn]
 have hb2:=Blk.setCells (qBu (l.drop (i+2))) ((i+1)*2) _ _ hb1 (by rw[hl1,hfl];omega);have hl2:(over (over cur (i*2) [.int .i64 x.sz,.int .i64 x.t]) ((i+1)*2) (qBu (l.drop (i+2)))).length=cap*2:=by rw[qBi (by rw[hl1,hfl];omega),hl1]
 have hb3:=Blk.setCells (qCm 1) ((n-1)*2) _ _ hb2 (by rw[hl2,qBo];omega);have hjl:=qDt x (l:=l) (i:=i) (by omega);refine⟨⟨_,hb3,by rw[qBi (by rw[hl2,qBo];omega),hl2],?_⟩,by omega,hmax⟩;rw[hjl,qLy (by omega) (by rw[hl2];omega),show(l.length-1)*2=(i+1)*2+(qBu (l.drop (i+2))).length by rw[hfl];omega,qHa (by rw[hl1];omega)];rw[show(i+1)*2=i*2+[Value.int .i64 x.sz,.int .i64 x.t].length by simp;omega,qHa (by omega)];have h3:cur.take (i*2)=(qBu l).take (i*2):=by rw[<-ht,List.take_take,Nat.min_eq_left (by omega)]
 unfold qDa;rw[qEw,qEw,qKg,h3];rfl
theorem qJh{w:World}{ops:Array Oper}{rest:List Oper}{o:Oper}{a:Act}{Q:Exit->Act->World->Prop}(hgd:o.guard=none)(s x:Operand)(ho:o.op=.call { callee:=.builtin .append,args:=#[s,x],argTypes:=#[265,265] })(g off n cap:Nat)(hs:a.eval s=.slice (some ⟨g,off,none⟩) n cap)(ad:Addr)(m c:Nat)(hx:a.eval x=.slice (some ad) m c)(cs news:List Value)(hb:Blk w g cs 214)(hn:news.length=m*2)(hc:∀j u,news[j]?=some u->w.cell? (ad.add j)=some u)(h1:∀u∈news,u.oneCell'=true)(hroom:n+m<=cap)(hfit:off+n*2+news.length<=cs.length)(h:wpList Tryz.prog ops Q rest (a.put o.dst (.slice (some ⟨g,off,none⟩) (n+m) cap)) (w.setCells g (off+n*2) news)): wpList Tryz.prog ops Q (o::rest) a w:=by
 refine wpList_plain hgd λK hK=>?_
 obtain⟨i0,hi0,hz0,hz1,hz2⟩:=info_parts infoBk;have hrun:=run_append_room_cells (P:=Tryz.prog) w 265 o.type 214 i0 Tryz.underlying265 hi0 g off n cap ad m c news (by rw[hz1];exact hn) hc h1 hroom (λj hj=>hb.some (by rw[hz1];omega)) (λj _=>hb.frozen _);rw[hz1]at hrun;unfold Oper.wp;simp[execOp,ho,resolve,invoke,builtin,hs,hx,hrun,Result.andThen];exact hK _ _ h
theorem qN1{w:World}{ops:Array Oper}{o:Oper}{a:Act}{K:Act->World->Prop}{Q:Exit->Act->World->Prop}{E:Prop}(hgd:o.guard=none)(s x:Operand)(ho:o.op=.call { callee:=.builtin .copy,args:=#[s,x],argTypes:=#[265,265] })(g off n cap:Nat)(hs:a.eval s=.slice (some ⟨g,off,none⟩) n cap)(ad:Addr)(m c:Nat)(hx:a.eval x=.slice (some ad) m c)(cs news:List Value)(hb:Blk w g cs 214)(hn:news.length=Nat.min m n*2)(hc:∀j u,news[j]?=some u->w.cell? (ad.add j)=some u)(h1:∀u∈news,u.oneCell'=true)(hfit:off+news.length<=cs.length)(h:K (a.put o.dst (goInt (Nat.min m n))) (w.setCells g off news)): if Region.wanted o (yielded ops a.tmps)=true then Oper.wp Tryz.prog o a w K Q else E:=by
 have hw:Region.wanted o (yielded ops a.tmps)=true:=by simp[Region.wanted,hgd]
 rw[if_pos hw];have hrun:=qJy w o.type g off n cap ad m c cs news hb hn hc hfit h1;unfold Oper.wp;simp[execOp,ho,resolve,invoke,builtin,hs,hx,hrun,Result.andThen];exact h
theorem qNq(g cap n i sb:Nat)(l:List Bk)(x:Bk)(w:World)(hn:l.length=n)(hr:BRow w g cap l)(hi:i+2=n)(hx0:w.cell? ⟨sb,0,none⟩=some (.int .i64 x.sz))(hx1:w.cell? ⟨sb,1,none⟩=some (.int .i64 x.t)):
  Calls Tryz.prog 245 #[.slice (some ⟨g,0,none⟩) n cap,.int .i64 i,.int .i64 ((i:Int)+2),.slice (some ⟨sb,0,none⟩) 1 1] w λe w'=>e=.returned (.slice (some ⟨g,0,none⟩) (n-1) cap)/\BRow w' g cap (qDa l i x)/\Keeps (·=g) w w':=by
 obtain⟨cur,hb,hl,ht⟩:=hr.ex;have hle:=hr.le;rw[hn]at hle;have hmax:=hr.max;have hcap:cap<=9223372036854775807:=by unfold maxLen at hmax;omega
 have HFIN:=hide (qNl (x:=x) hn hb hl ht hle hmax hi);have HB:=hide hb;have HL:=hide hl
 have HX:=hide (show ∀j u,[Value.int .i64 x.sz,.int .i64 x.t][j]?=some u->w.cell? ((⟨sb,0,none⟩:Addr).add j)=some u from λj u hu=>by
    rw[Addr.add_lit]
    match j,hu with
    | 0,hu=>injection hu with hu;rw[<-hu];exact hx0
    | 1,hu=>injection hu with hu;rw[<-hu];exact hx1)
 obtain⟨W1,hW1⟩:∃W1,W1=w.setCells g (i*2) [.int .i64 x.sz,.int .i64 x.t]:=⟨_,rfl⟩;have hbW:Blk W1 g (over cur (i*2) [.int .i64 x.sz,.int .i64 x.t]) 214:=by rw[hW1];exact Blk.setCells _ _ _ _ hb (by simp;omega)
 have hcl:∀ty,(Builtin.clear_ #[265] ty #[.slice (some ⟨g,(i+1)*2,none⟩) (n-(i+1)) (cap-(i+1))]).run Tryz.prog W1=.ok (.tuple #[]) (W1.setCells g ((i+1)*2) (qCm (n-(i+1)))) :=
  λty=>qCo W1 ty g _ _ _ _ hbW (by omega) (by rw[qBi (by simp;omega)];omega)
 have HW:=hide (show w.setCells g (0+i*2) [.int .i64 x.sz,.int .i64 x.t]=W1 by rw[hW1,Nat.zero_add]);have HK:=hide (show Keeps (λk=>k=g) w W1 by rw[hW1];exact Keeps.setCells (M:=λx=>x=g) (Or.inl rfl) _ _ _ (Keeps.refl _ _));rw[<-hW1]at HFIN;have HNJ:=hide (show n-(i+1)=1 by omega);have HN1:=hide (show n-1=i+1 by omega);clear hW1 hbW hb ht hl hr hn hmax hx0 hx1;have hic:i<=cap:=by omega
 have hi0:(0:Int)<=(i:Int):=by omega
 have hin:(i:Int)+2=(n:Int):=by omega
 rw[hin];have hne:((i:Int)==(n:Int))=false:=by simp;omega
 have hlt:decide ((i:Int)+1<(n:Int))=true:=by simp;omega
 clear hin;go_enter Tryz.func245,Tryz.ntmps245
 go_wp2_with (at_builtin;refine qJh rfl _ _ rfl g 0 i cap rfl ⟨sb,0,none⟩ 1 1 rfl cur [.int .i64 x.sz,.int .i64 x.t] (uh HB) rfl (uh HX) (by simp[Value.oneCell']) (by omega) (by have:=uh HL;simp;omega) ?_;rw[uh HW])
 go_ret
 refine⟨by rw[uh HN1];rfl,?_,?_⟩
 ·rw[uh HNJ];exact uh HFIN
 ·exact Keeps.setCells (M:=λx=>x=g) (Or.inl rfl) _ _ _ (uh HK)
theorem qJ2(b:Nat): ∀(vs:List Value) (o:Nat) (w:World),(w.setCells b o vs).drew=w.drew.setCells b o vs
 | [],_,_=>rfl
 | v::vs,o,w=>qJ2 b vs (o+1) (w.setCell ⟨b,o,none⟩ v)
theorem qNu(g cap n i sb:Nat)(l:List Bk)(x:Bk)(w:World)(hn:l.length=n)(hr:BRow w g cap l)(hi:i+2<n)(hx0:w.cell? ⟨sb,0,none⟩=some (.int .i64 x.sz))(hx1:w.cell? ⟨sb,1,none⟩=some (.int .i64 x.t)):
  Calls Tryz.prog 245 #[.slice (some ⟨g,0,none⟩) n cap,.int .i64 i,.int .i64 ((i:Int)+2),.slice (some ⟨sb,0,none⟩) 1 1] w λe w'=>e=.returned (.slice (some ⟨g,0,none⟩) (n-1) cap)/\BRow w' g cap (qDa l i x)/\Keeps (·=g) w w':=by
 obtain⟨cur,hb,hl,ht⟩:=hr.ex;have hle:=hr.le;rw[hn]at hle;have hmax:=hr.max;have hcap:cap<=9223372036854775807:=by unfold maxLen at hmax;omega
 have HFIN:=hide (qNm (w:=w.drew.drew) (x:=x) hn (by exact hb.drew.drew) hl ht hle hmax hi);obtain⟨j,hj⟩:∃j,j=i+2:=⟨_,rfl⟩;obtain⟨W1,hW1⟩:∃W1,W1=w.drew.setCells g (i*2) [.int .i64 x.sz,.int .i64 x.t]:=⟨_,rfl⟩;have hb1:Blk W1 g (over cur (i*2) [.int .i64 x.sz,.int .i64 x.t]) 214:=by rw[hW1];exact Blk.setCells _ _ _ _ hb.drew (by simp;omega)
 have hl1:(over cur (i*2) [.int .i64 x.sz,.int .i64 x.t]).length=cap*2:=by rw[qBi (by simp;omega),hl]
 obtain⟨news,hnews⟩:∃news,news=qBu (l.drop (i+2)):=⟨_,rfl⟩;have hlen:news.length=(n-j)*2:=by rw[hnews,qC1];simp[hn,hj]
 have hsrc:∀t u,news[t]?=some u->W1.drew.cell? ((⟨g,j*2,none⟩:Addr).add t)=some u:=by
  intro t u hu;have htl:t<(n-j)*2:=by have:=(List.getElem?_eq_some_iff.1 hu).1;omega
  rw[Addr.add_lit];refine hb1.cell ?_;rw[hnews,qKp,List.getElem?_drop,<-ht,List.getElem?_take,if_pos (by omega)]at hu;unfold over;rw[List.getElem?_append_right (by simp;omega),List.getElem?_drop];rw[<-hu]
  congr 1
  simp;omega
 obtain⟨W2,hW2⟩:∃W2,W2=W1.drew.setCells g ((i+1)*2) news:=⟨_,rfl⟩;have hb2:Blk W2 g (over (over cur (i*2) [.int .i64 x.sz,.int .i64 x.t]) ((i+1)*2) news) 214:=by rw[hW2];exact Blk.setCells _ _ _ _ hb1.drew (by rw[hl1];omega)
 have hcl:∀ty,(Builtin.clear_ #[265] ty #[.slice (some ⟨g,(i+1+(n-j))*2,none⟩) (n-(i+1+(n-j))) (cap-(i+1+(n-j)))]).run Tryz.prog W2=.ok (.tuple #[]) (W2.setCells g ((i+1+(n-j))*2) (qCm (n-(i+1+(n-j))))) :=
  λty=>qCo W2 ty g _ _ _ _ hb2 (by omega) (by rw[qBi (by rw[hl1];omega),hl1];omega)
 have HK:=hide (show Keeps (λk=>k=g) w W2 by
    rw[hW2,hW1]
    exact Keeps.setCells (M:=λx=>x=g) (Or.inl rfl) _ _ _ (Keeps.setCells (M:=λx=>x=g) (Or.inl rfl) _ _ _ (Keeps.refl _ _).drew).drew)
 have HFIN2:=hide (show BRow (W2.setCells g ((i+1+(n-j))*2) (qCm (n-(i+1+(n-j))))) g cap (qDa l i x) by
    have:=uh HFIN;rw[hW2,hW1,qJ2,hnews,show i+1+(n-j)=n-1 by omega,show n-(n-1)=1 by omega]
    exact this)
 have HB:=hide hb.drew;have HB1:=hide hb1.drew
 have HX:=hide (show ∀j u,[Value.int .i64 x.sz,.int .i64 x.t][j]?=some u->w.drew.cell? ((⟨sb,0,none⟩:Addr).add j)=some u from λj u hu=>by
    rw[Addr.add_lit]
    match j,hu with
    | 0,hu=>injection hu with hu;rw[<-hu];exact hx0
    | 1,hu=>injection hu with hu;rw[<-hu];exact hx1)
 have hcp:∀ty,(Builtin.copy_ #[265,265] ty #[.slice (some ⟨g,i*2,none⟩) (i+1+(n-j)-i) (cap-i),.slice (some ⟨sb,0,none⟩) 1 1]).run Tryz.prog w.drew=.ok (goInt (Nat.min 1 (i+1+(n-j)-i))) W1 :=
  λty=>by rw[hW1];exact qJy w.drew ty g (i*2) _ _ ⟨sb,0,none⟩ 1 1 cur [.int .i64 x.sz,.int .i64 x.t] (uh HB) (by have h1:Nat.min 1 (i+1+(n-j)-i)=1:=Nat.min_eq_left (by omega);rw[h1];rfl) (uh HX) (by simp;omega) (by simp[Value.oneCell'])
 have HL1:=hide hl1;have HSRC:=hide hsrc;have HLEN:=hide hlen;have HONE:=hide (show ∀u∈news,u.oneCell'=true by rw[hnews];exact qMb _);have HW2:=hide hW2.symm;have hic:i<=cap:=by omega
 have hi0:(0:Int)<=(i:Int):=by omega
 have hin:(i:Int)+2=(j:Int):=by omega
 rw[hin];have hjn:j<n:=by omega
 have hij:i<j:=by omega
 have hjc:j<=cap:=by omega
 have hic1:¬cap=i+1:=by omega
 have hcj:¬cap=j:=by omega
 have hjn2:j<=n:=by omega
 have hct:¬cap=i+1+(n-j):=by omega
 have hw1:IntKind.i64.wrap ((i:Int)+1)=(i:Int)+1:=by rw[IntKind.wrap_i64];omega
 have hp1:0<=(i:Int)+1:=by omega
 have hp2:(i:Int)+1<=(i:Int)+1+((n-j:Nat):Int):=by omega
 have hne:((i:Int)==(j:Int))=false:=by simp;omega
 have hne2:((j:Int)==(n:Int))=false:=by simp;omega
 have hle2:decide ((i:Int)+1<=(j:Int))=true:=by simp;omega
 have HN1:=hide (show n-1=i+1+(n-j) by omega);clear hin hj hW1 hW2 hb hb1 hb2 hl hl1 ht hnews hlen hsrc HFIN hr hn hmax hx0 hx1;go_enter Tryz.func245,Tryz.ntmps245
 go_wp2_with fail
 go_region
 go_wp2_with fail
 go_region_law (refine qN1 rfl _ _ rfl g ((i+1)*2) (i+1+(n-j)-(i+1)) (cap-(i+1)) (by simp[Act.eval,Act.put]) ⟨g,j*2,none⟩ (n-j) (cap-j) (by simp[Act.eval,Act.put]) _ news (uh HB1) (by have h1:Nat.min (n-j) (i+1+(n-j)-(i+1))=n-j:=Nat.min_eq_left (by omega);rw[h1];exact uh HLEN) (uh HSRC) (uh HONE) (by rw[uh HL1,uh HLEN];omega) ?_;rw[uh HW2])
 go_wp2
 go_ret
 exact⟨by rw[uh HN1];rfl,uh HFIN2,Keeps.setCells (M:=λx=>x=g) (Or.inl rfl) _ _ _ (uh HK)⟩
def qEc: Value:=.func (.func 181) #[] #[]
def RowRep(w:World)(r:Nat)(og:Option Nat)(l:List Bk): Prop :=
 match og with
 | none=>l=[]/\Blk w r [qEc,.slice none 0 0] 267
 | some g=>r≠g/\∃cap,Blk w r [qEc,.slice (some ⟨g,0,none⟩) l.length cap] 267/\BRow w g cap l
theorem RowRep.lt{w:World}{r:Nat}{og:Option Nat}{l:List Bk}(h:RowRep w r og l): r<w.heap.size/\∀g,og=some g->g<w.heap.size/\r≠g:=by
 cases og with
 | none=>exact⟨h.2.lt,λ_ h=>by cases h⟩
 | some g=>obtain⟨hne,cap,hb,hr⟩:=h;exact⟨hb.lt,λg' h=>by cases h;exact⟨hr.lt,hne⟩⟩
theorem RowRep.keeps{M:Nat->Prop}{w w':World}{r:Nat}{og:Option Nat}{l:List Bk}(h:RowRep w r og l)(k:Keeps M w w')(hq:¬M r)(hg:∀g,og=some g->¬M g): RowRep w' r og l:=by
 cases og with
 | none=>exact⟨h.1,h.2.keeps k hq⟩
 | some g=>obtain⟨hne,cap,hb,hr⟩:=h;exact⟨hne,cap,hb.keeps k hq,hr.keeps k (hg g rfl)⟩
theorem RowRep.still{w w':World}{r:Nat}{og:Option Nat}{l:List Bk}(h:RowRep w r og l)(k:Keeps (λ_=>False) w w'): RowRep w' r og l:=h.keeps k (λh=>h) (λ_ _ h=>h)
theorem rowLen_any(q:Nat)(og:Option Nat)(l:List Bk)(w:World)(h:RowRep w q og l):
  Calls Tryz.prog 187 #[.pointer (some ⟨q,0,none⟩)] w λe w'=>e=.returned (.int .i64 l.length)/\w'=w:=by
 cases og with
 | none =>
  obtain⟨hl,hb⟩:=h;have hq1:w.cell? ⟨q,1,none⟩=some (.slice none 0 0):=hb.cell rfl;subst hl;clear hb;go_enter Tryz.func187,Tryz.ntmps187
  go_wp2
  go_ret
  exact⟨rfl,rfl⟩
 | some g =>
  obtain⟨hne,cap,hb,hr⟩:=h;have hq1:w.cell? ⟨q,1,none⟩=some (.slice (some ⟨g,0,none⟩) l.length cap):=hb.cell rfl;clear hb hr;go_enter Tryz.func187,Tryz.ntmps187
  go_wp2
  go_ret
  exact⟨rfl,rfl⟩
theorem qEe(q:Nat)(og:Option Nat)(l:List Bk)(i:Nat)(w:World)(h:RowRep w q og l)(hi:i<l.length):
  Calls Tryz.prog 189 #[.pointer (some ⟨q,0,none⟩),.int .i64 i] w λe w'=>e=.returned (qCf l i).val/\Keeps (λ_=>False) w w':=by
 cases og with
 | none=>obtain⟨hl,hb⟩:=h;subst hl;simp at hi
 | some g =>
  obtain⟨hne,cap,hb,hr⟩:=h;have hq1:w.cell? ⟨q,1,none⟩=some (.slice (some ⟨g,0,none⟩) l.length cap):=hb.cell rfl;have hlq:=hb.lt;have hlg:=hr.lt;obtain⟨x0,x1⟩:=hr.cells i hi;generalize qCf l i=x at *;generalize l.length=n at *;have hi0:(0:Int)<=(i:Int):=by omega
  have hin:(i:Int)<(n:Int):=by omega
  clear hb hr;go_enter Tryz.func189,Tryz.ntmps189
  go_wp2
  refine bodyPost_ret (v:=x.val) (by simp[results,Tryz.results189,go_sem,Bk.val]) rfl ⟨rfl,(Keeps.refl _ _).alloc _⟩
theorem qTp(x:Bk)(w:World):
  Calls Tryz.prog 181 #[x.val] w λe w'=>e=.returned (.int .i64 x.t)/\w'=w.alloc (.cells #[.int .i64 x.sz,.int .i64 x.t] 214):=by
 unfold Bk.val;go_enter Tryz.func181,Tryz.ntmps181
 go_wp2
 go_ret
 exact⟨rfl,rfl⟩
def pastN(l:List Bk)(t:Int): Nat:=(l.takeWhile (λb=>decide (b.t<=t))).length
theorem pastN_le(l:List Bk)(t:Int): pastN l t<=l.length:=(List.takeWhile_prefix _).length_le
theorem qHr(l:List Bk)(k:Nat)(h:k<l.length): l.drop k=qCf l k::l.drop (k+1):=by
 rw[List.drop_eq_getElem_cons h]
 congr 1
 simp[qCf,List.getD_eq_getElem?_getD,List.getElem?_eq_getElem h]
theorem past_any(q:Nat)(og:Option Nat)(l:List Bk)(t:Int)(w:World)(h:RowRep w q og l)(hl:l.length<=4398046511104):
  Calls Tryz.prog 224 #[.pointer (some ⟨q,0,none⟩),.int .i64 t] w λe w'=>e=.returned (.int .i64 (pastN l t))/\Keeps (λ_=>False) w w':=by
 cases og with
 | none =>
  obtain⟨hl,hb⟩:=h;have hq1:w.cell? ⟨q,1,none⟩=some (.slice none 0 0):=hb.cell rfl;subst hl;clear hb;go_enter Tryz.func224,Tryz.ntmps224
  go_wp2
  go_loopw [5] (λi wr=>i=.int .i64 0/\wr=w) (λ_ _=>0)
  case atStart=>exact⟨rfl,rfl⟩
  case round =>
   obtain⟨rfl,rfl⟩:=hrel;go_wp2
   go_quiet (fail)
   go_wp2
   go_ret
   exact⟨rfl,Keeps.drewN _ _ _⟩
 | some g =>
  obtain⟨hne,cap,hb,hr⟩:=h;have HB:=hide hb;have HR:=hide hr;clear hb hr;generalize hn:l.length=n at *;have HN:=hide hn;clear hn;go_enter Tryz.func224,Tryz.ntmps224
  go_wp2
  go_loopw [5] (λi wr=>∃k:Nat,i=.int .i64 k/\k<=n/\Hid (Keeps (λ_=>False) w wr)/\Hid (pastN l t=k+pastN (l.drop k) t)) (λi _=>n-(intOf i).toNat)
  case atStart=>exact⟨0,rfl,Nat.zero_le _,Keeps.refl _ _,by show _=_;simp⟩
  case round =>
   obtain⟨k,rfl,hk,HK,HE⟩:=hrel;have hq1:wr.cell? ⟨q,1,none⟩=some (.slice (some ⟨g,0,none⟩) n cap):=(uh HK).cell ((uh HB).cell rfl) (λh=>h);have hq0:wr.cell? ⟨q,0,none⟩=some (.func (.func 181) #[] #[]):=(uh HK).cell ((uh HB).cell rfl) (λh=>h)
   by_cases hlt:k<n
   ·have hcs:=(uh HR).cells k (by rw[uh HN];exact hlt)
    have x0:=(uh HK).cell hcs.1 (λh=>h);have x1:=(uh HK).cell hcs.2 (λh=>h);clear hcs;have hk0:(0:Int)<=(k:Int):=by omega
    have hkn:(k:Int)<(n:Int):=by omega
    have HD:=hide (qHr l k (by rw[uh HN];exact hlt));generalize qCf l k=x at *
    by_cases ht:x.t<=t
    all_goals
     have HT:=hide ht;go_wp2
     go_region_held3 (λw'=>w'.cell? ⟨q,0,none⟩=some (.func (.func 181) #[] #[])/\w'.cell? ⟨q,1,none⟩=some (.slice (some ⟨g,0,none⟩) n cap) /\
        w'.cell? ⟨g,k*2,none⟩=some (.int .i64 x.sz)/\w'.cell? ⟨g,k*2+1,none⟩=some (.int .i64 x.t)) (go_keep)
      (first | (go_at_call 181;refine(qTp x _).mono ?_;rintro e w' ⟨rfl,rfl⟩))
     have hk1:Keeps (λ_=>False) wr (wr.alloc (.cells #[.int .i64 x.sz,.int .i64 x.t] 214)).drew:=((Keeps.refl _ _).alloc _).drew;generalize(wr.alloc (.cells #[.int .i64 x.sz,.int .i64 x.t] 214)).drew=W1 at *;have HK1:=hide hk1;clear hk1
    ·go_wp2
     go_roundw
     case rel =>
      refine⟨k+1,by go_num,by omega,(uh HK).then (uh HK1),?_⟩;show _=_;rw[uh HE,uh HD];unfold pastN;rw[List.takeWhile_cons,if_pos (by simpa using uh HT)];simp;omega
     case measure=>simp[intOf];omega
    ·go_wp2
     go_ret
     refine⟨?_,(uh HK).then (uh HK1)⟩;rw[uh HE,uh HD];unfold pastN;rw[List.takeWhile_cons,if_neg (by simpa using uh HT)];simp
   ·have hd:decide ((k:Int)<(n:Int))=false:=by simp;omega
    go_wp2
    go_quiet (fail)
    go_wp2
    go_ret
    refine⟨?_,(uh HK).then (Keeps.drewN _ _ _)⟩;rw[uh HE,List.drop_eq_nil_of_le (by rw[uh HN];omega)];simp[pastN]
end
end Go.Proofs.YtahnliehdjncdabGreatDoor
