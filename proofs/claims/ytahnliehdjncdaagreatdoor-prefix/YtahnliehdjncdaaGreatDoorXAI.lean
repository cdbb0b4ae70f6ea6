import Derived.Test.YtahnliehdjncdaaGreatDoorXAH
set_option maxRecDepth 100000
set_option maxHeartbeats 16000000
namespace Go.Proofs.YtahnliehdjncdaaGreatDoor
section
open Go.RowKit
theorem qFf{w:World}{g cap n j:Nat}{l:List Bk}{cur:List Value}(hn:l.length=n)(hb:Blk w g cur 211)(hl:cur.length=cap*2)(hle:n<=cap)(hmax:cap<=maxLen)(hj:j<=n):
  BRow ((w.setCells g 0 (qBm (l.drop j))).setCells g ((n-j)*2) (qB7 j)) g cap (l.drop j):=by
 have h1:(qBm (l.drop j)).length=(n-j)*2:=by rw[qCl];simp[hn]
 have hb1:=Blk.setCells (qBm (l.drop j)) 0 w cur hb (by rw[h1];omega)
 have hl1:(over cur 0 (qBm (l.drop j))).length=cap*2:=by rw[qBc (by rw[h1];omega),hl]
 have hb2:=Blk.setCells (qB7 j) ((n-j)*2) _ _ hb1 (by rw[hl1,qBh];omega)
 refine⟨⟨_,hb2,by rw[qBc (by rw[hl1,qBh];omega),hl1],?_⟩,by simp[hn];omega,hmax⟩
 have hlen:(l.drop j).length*2=(n-j)*2:=by simp[hn]
 rw[hlen]
 unfold over
 rw[List.append_assoc,List.take_append_of_le_length (by simp[h1])]
 rw[List.take_take,Nat.min_self]
 simp only[List.take_zero,List.nil_append]
 rw[List.take_append_of_le_length (by omega),List.take_of_length_le (by omega)]
theorem qDv(w:World):
  Calls Tryz.prog 236 #[.slice none 0 0,.int .i64 0,.int .i64 0] w λe w'=>e=.returned (.slice none 0 0)/\w'=w:=by
 go_enter Tryz.func236,Tryz.ntmps236
 go_wp2
 go_ret
 exact⟨rfl,rfl⟩
theorem qDf(g cap n:Nat)(w:World)(hle:n<=cap):
  Calls Tryz.prog 236 #[.slice (some ⟨g,0,none⟩) n cap,.int .i64 0,.int .i64 0] w λe w'=>e=.returned (.slice (some ⟨g,0,none⟩) n cap)/\w'=w:=by
 have h0:(0:Int)<=(n:Int):=by omega
 have h1:(n:Int)<=(cap:Int):=by omega
 go_enter Tryz.func236,Tryz.ntmps236
 go_wp2
 go_ret
 exact⟨rfl,rfl⟩
theorem qFd(g cap n j:Nat)(l:List Bk)(w:World)(hn:l.length=n)(hr:BRow w g cap l)(hj0:0<j)(hj:j<=n):
  Calls Tryz.prog 236 #[.slice (some ⟨g,0,none⟩) n cap,.int .i64 0,.int .i64 j] w λe w'=>e=.returned (.slice (some ⟨g,0,none⟩) (n-j) cap)/\BRow w' g cap (l.drop j)/\Keeps (·=g) w w':=by
 obtain⟨cur,hb,hl,ht⟩:=hr.ex
 have hle:=hr.le
 rw[hn]at hle
 have hmax:=hr.max
 have hcap:cap<=9223372036854775807:=by unfold maxLen at hmax;omega
 have HFIN:=hide (qFf (w:=w.drew) hn (by exact hb.drew) hl hle hmax hj)
 obtain⟨news,hnews⟩:∃news,news=qBm (l.drop j):=⟨_,rfl⟩
 rw[<-hnews]at HFIN
 have hlen:news.length=(n-j)*2:=by rw[hnews,qCl];simp[hn]
 have hget:∀t u,news[t]?=some u->w.cell? ⟨g,j*2+t,none⟩=some u:=by
  intro t u hu
  refine hb.cell ?_
  have htl:t<(n-j)*2:=by have:=(List.getElem?_eq_some_iff.1 hu).1;omega
  rw[hnews,qIv,List.getElem?_drop,<-ht,List.getElem?_take,if_pos (by omega)]at hu
  exact hu
 obtain⟨A,hA,hsrc⟩:∃A:Addr,(if cap=j then some (⟨g,0,none⟩:Addr) else some ⟨g,j*2,none⟩)=some A/\Hid (∀t u,news[t]?=some u->w.drew.cell? (A.add t)=some u):=by
  by_cases h:cap=j
  ·refine⟨⟨g,0,none⟩,by simp[h],λt u hu=>?_⟩
   have h0:news.length=0:=by omega
   rw[List.length_eq_zero_iff.1 h0]at hu
   simp at hu
  ·refine⟨⟨g,j*2,none⟩,by simp[h],λt u hu=>?_⟩
   rw[Addr.add_lit]
   exact hget t u hu
 have s1:Hid (news.length=(n-j)*2):=hlen
 have s2:Hid (∀u∈news,u.oneCell'=true):=by rw[hnews];exact qJ6 _
 have s3:Hid (∀t,t<news.length->(w.drew.cell? ⟨g,0+0*2+t,none⟩).isSome=true/\w.drew.frozen? ⟨g,0+0*2+t,none⟩=false):=by
  intro t ht'
  exact⟨hb.some (by omega),hb.frozen _⟩
 obtain⟨W1,hW1⟩:∃W1,W1=w.drew.setCells g 0 news:=⟨_,rfl⟩
 have hbW:Blk W1 g (over cur 0 news) 211:=by rw[hW1];exact Blk.setCells _ _ _ _ hb.drew (by omega)
 have hcl:∀ty,(Builtin.clear_ #[262] ty #[.slice (some ⟨g,(n-j)*2,none⟩) (n-(n-j)) (cap-(n-j))]).run Tryz.prog W1=.ok (.tuple #[]) (W1.setCells g ((n-j)*2) (qB7 (n-(n-j)))) :=
  λty=>qB5 W1 ty g _ _ _ _ hbW (by omega) (by rw[qBc (by omega)];omega)
 have hW:Hid (W1=w.drew.setCells g (0+0*2) news):=hW1
 have HK:=hide (show Keeps (·=g) w W1 by rw[hW1];exact Keeps.setCells (M:=λx=>x=g) (Or.inl rfl) _ _ _ (Keeps.refl _ _).drew)
 rw[<-hW1]at HFIN
 obtain⟨i0,hi0,hz0,hz1,hz2⟩:=info_parts infoBk
 have hjc:j<=cap:=by omega
 have HNJ:=hide (show n-(n-j)=j by omega)
 clear hW1 hbW hget hnews hlen hb ht hl hr hn hmax hz0 hz2
 go_enter Tryz.func236,Tryz.ntmps236
 go_wp2_with fail
 go_region_law (refine step_append_room rfl (.tmp 22) (.tmp 25) 262 rfl 211 i0 2 Tryz.underlying262 hi0 hz1 g 0 0 cap (by simp[Act.eval,Act.put]) A (n-j) (cap-j) news (by simp[Act.eval,Act.put]) s1.out hsrc.out s2.out (by omega) s3.out ?_;rw[<-hW.out])
 go_wp2
 go_ret
 refine⟨by simp,?_,?_⟩
 ·have:=uh HFIN;rw[uh HNJ];exact this
 ·exact Keeps.setCells (M:=λx=>x=g) (Or.inl rfl) _ _ _ (uh HK)
def qCp(l:List Bk)(i:Nat)(x:Bk): List Bk:=l.take i++[x]++l.drop (i+2)
theorem qC6{l:List Bk}{i:Nat}(x:Bk)(h:i+2<=l.length): (qCp l i x).length=l.length-1:=by simp[qCp];omega
theorem qJs{L vs:List Value}{o k:Nat}(h:k<=o)(ho:o<=L.length): (over L o vs).take k=L.take k:=by
 unfold over
 rw[List.append_assoc,List.take_append_of_le_length (by simp;omega),List.take_take,Nat.min_eq_left h]
theorem qGs{L vs:List Value}{o:Nat}(ho:o<=L.length): (over L o vs).take (o+vs.length)=L.take o++vs:=by
 unfold over
 rw[List.take_append_of_le_length (by simp;omega),List.take_of_length_le (by simp;omega)]
theorem qLd{w:World}{g cap n i:Nat}{l:List Bk}{x:Bk}{cur:List Value}(hn:l.length=n)(hb:Blk w g cur 211)(hl:cur.length=cap*2)(ht:cur.take (l.length*2)=qBm l)(hle:n<=cap)(hmax:cap<=maxLen)(hi:i+2=n):
  BRow ((w.setCells g (i*2) [.int .i64 x.sz,.int .i64 x.t]).setCells g ((i+1)*2) (qB7 1)) g cap (qCp l i x):=by
 have hb1:=Blk.setCells [.int .i64 x.sz,.int .i64 x.t] (i*2) w cur hb (by simp;omega)
 have hl1:(over cur (i*2) [.int .i64 x.sz,.int .i64 x.t]).length=cap*2:=by rw[qBc (by simp;omega),hl]
 have hb2:=Blk.setCells (qB7 1) ((i+1)*2) _ _ hb1 (by rw[hl1,qBh];omega)
 have hjl:=qC6 x (l:=l) (i:=i) (by omega)
 refine⟨⟨_,hb2,by rw[qBc (by rw[hl1,qBh];omega),hl1],?_⟩,by omega,hmax⟩
 rw[hjl,qJs (by omega) (by omega),show(l.length-1)*2=i*2+[Value.int .i64 x.sz,.int .i64 x.t].length by simp;omega,qGs (by omega)]
 have hd:l.drop (i+2)=[]:=List.drop_eq_nil_of_le (by omega)
 have h3:cur.take (i*2)=(qBm l).take (i*2):=by rw[<-ht,List.take_take,Nat.min_eq_left (by omega)]
 unfold qCp
 rw[hd,List.append_nil,qEd,qIx,h3];rfl
theorem qLy{w:World}{g cap n i:Nat}{l:List Bk}{x:Bk}{cur:List Value}(hn:l.length=n)(hb:Blk w g cur 211)(hl:cur.length=cap*2)(ht:cur.take (l.length*2)=qBm l)(hle:n<=cap)(hmax:cap<=maxLen)(hi:i+2<n):
  BRow (((w.setCells g (i*2) [.int .i64 x.sz,.int .i64 x.t]).setCells g ((i+1)*2) (qBm (l.drop (i+2)))).setCells g ((n-1)*2) (qB7 1)) g cap (qCp l i x):=by
 have hb1:=Blk.setCells [.int .i64 x.sz,.int .i64 x.t] (i*2) w cur hb (by simp;omega)
 have hl1:(over cur (i*2) [.int .i64 x.sz,.int .i64 x.t]).length=cap*2:=by rw[qBc (by simp;omega),hl]
 have hfl:(qBm (l.drop (i+2))).length=(n-(i+2))*2:=by rw[qCl];simp[hn]
 have hb2:=Blk.setCells (qBm (l.drop (i+2))) ((i+1)*2) _ _ hb1 (by rw[hl1,hfl];omega)
 have hl2:(over (over cur (i*2) [.int .i64 x.sz,.int .i64 x.t]) ((i+1)*2) (qBm (l.drop (i+2)))).length=cap*2:=by rw[qBc (by rw[hl1,hfl];omega),hl1]
 have hb3:=Blk.setCells (qB7 1) ((n-1)*2) _ _ hb2 (by rw[hl2,qBh];omega)
 have hjl:=qC6 x (l:=l) (i:=i) (by omega)
 refine⟨⟨_,hb3,by rw[qBc (by rw[hl2,qBh];omega),hl2],?_⟩,by omega,hmax⟩
 rw[hjl,qJs (by omega) (by rw[hl2];omega),show(l.length-1)*2=(i+1)*2+(qBm (l.drop (i+2))).length by rw[hfl];omega,qGs (by rw[hl1];omega)]
 rw[show(i+1)*2=i*2+[Value.int .i64 x.sz,.int .i64 x.t].length by simp;omega,qGs (by omega)]
 have h3:cur.take (i*2)=(qBm l).take (i*2):=by rw[<-ht,List.take_take,Nat.min_eq_left (by omega)]
 unfold qCp
 rw[qEd,qEd,qIx,h3];rfl
theorem qHu{w:World}{ops:Array Oper}{rest:List Oper}{o:Oper}{a:Act}{Q:Exit->Act->World->Prop}(hgd:o.guard=none)(s x:Operand)(ho:o.op=.call { callee:=.builtin .append,args:=#[s,x],argTypes:=#[262,262] })(g off n cap:Nat)(hs:a.eval s=.slice (some ⟨g,off,none⟩) n cap)(ad:Addr)(m c:Nat)(hx:a.eval x=.slice (some ad) m c)(cs news:List Value)(hb:Blk w g cs 211)(hn:news.length=m*2)(hc:∀j u,news[j]?=some u->w.cell? (ad.add j)=some u)(h1:∀u∈news,u.oneCell'=true)(hroom:n+m<=cap)(hfit:off+n*2+news.length<=cs.length)(h:wpList Tryz.prog ops Q rest (a.put o.dst (.slice (some ⟨g,off,none⟩) (n+m) cap)) (w.setCells g (off+n*2) news)): wpList Tryz.prog ops Q (o::rest) a w:=by
 refine wpList_plain hgd λK hK=>?_
 obtain⟨i0,hi0,hz0,hz1,hz2⟩:=info_parts infoBk
 have hrun:=run_append_room_cells (P:=Tryz.prog) w 262 o.type 211 i0 Tryz.underlying262 hi0 g off n cap ad m c news (by rw[hz1];exact hn) hc h1 hroom (λj hj=>hb.some (by rw[hz1];omega)) (λj _=>hb.frozen _)
 rw[hz1]at hrun
 unfold Oper.wp
 simp[execOp,ho,resolve,invoke,builtin,hs,hx,hrun,Result.andThen]
 exact hK _ _ h
theorem qLt{w:World}{ops:Array Oper}{o:Oper}{a:Act}{K:Act->World->Prop}{Q:Exit->Act->World->Prop}{E:Prop}(hgd:o.guard=none)(s x:Operand)(ho:o.op=.call { callee:=.builtin .copy,args:=#[s,x],argTypes:=#[262,262] })(g off n cap:Nat)(hs:a.eval s=.slice (some ⟨g,off,none⟩) n cap)(ad:Addr)(m c:Nat)(hx:a.eval x=.slice (some ad) m c)(cs news:List Value)(hb:Blk w g cs 211)(hn:news.length=Nat.min m n*2)(hc:∀j u,news[j]?=some u->w.cell? (ad.add j)=some u)(h1:∀u∈news,u.oneCell'=true)(hfit:off+news.length<=cs.length)(h:K (a.put o.dst (goInt (Nat.min m n))) (w.setCells g off news)): if Region.wanted o (yielded ops a.tmps)=true then Oper.wp Tryz.prog o a w K Q else E:=by
 have hw:Region.wanted o (yielded ops a.tmps)=true:=by simp[Region.wanted,hgd]
 rw[if_pos hw]
 have hrun:=qHt w o.type g off n cap ad m c cs news hb hn hc hfit h1
 unfold Oper.wp
 simp[execOp,ho,resolve,invoke,builtin,hs,hx,hrun,Result.andThen]
 exact h
theorem qLv(g cap n i sb:Nat)(l:List Bk)(x:Bk)(w:World)(hn:l.length=n)(hr:BRow w g cap l)(hi:i+2=n)(hx0:w.cell? ⟨sb,0,none⟩=some (.int .i64 x.sz))(hx1:w.cell? ⟨sb,1,none⟩=some (.int .i64 x.t)):
  Calls Tryz.prog 258 #[.slice (some ⟨g,0,none⟩) n cap,.int .i64 i,.int .i64 ((i:Int)+2),.slice (some ⟨sb,0,none⟩) 1 1] w λe w'=>e=.returned (.slice (some ⟨g,0,none⟩) (n-1) cap)/\BRow w' g cap (qCp l i x)/\Keeps (·=g) w w':=by
 obtain⟨cur,hb,hl,ht⟩:=hr.ex
 have hle:=hr.le
 rw[hn]at hle
 have hmax:=hr.max
 have hcap:cap<=9223372036854775807:=by unfold maxLen at hmax;omega
 have HFIN:=hide (qLd (x:=x) hn hb hl ht hle hmax hi)
 have HB:=hide hb
 have HL:=hide hl
 have HX:=hide (show ∀j u,[Value.int .i64 x.sz,.int .i64 x.t][j]?=some u->w.cell? ((⟨sb,0,none⟩:Addr).add j)=some u from λj u hu=>by
    rw[Addr.add_lit]
    match j,hu with
    | 0,hu=>injection hu with hu;rw[<-hu];exact hx0
    | 1,hu=>injection hu with hu;rw[<-hu];exact hx1)
 obtain⟨W1,hW1⟩:∃W1,W1=w.setCells g (i*2) [.int .i64 x.sz,.int .i64 x.t]:=⟨_,rfl⟩
 have hbW:Blk W1 g (over cur (i*2) [.int .i64 x.sz,.int .i64 x.t]) 211:=by rw[hW1];exact Blk.setCells _ _ _ _ hb (by simp;omega)
 have hcl:∀ty,(Builtin.clear_ #[262] ty #[.slice (some ⟨g,(i+1)*2,none⟩) (n-(i+1)) (cap-(i+1))]).run Tryz.prog W1=.ok (.tuple #[]) (W1.setCells g ((i+1)*2) (qB7 (n-(i+1)))) :=
  λty=>qB5 W1 ty g _ _ _ _ hbW (by omega) (by rw[qBc (by simp;omega)];omega)
 have HW:=hide (show w.setCells g (0+i*2) [.int .i64 x.sz,.int .i64 x.t]=W1 by rw[hW1,Nat.zero_add])
 have HK:=hide (show Keeps (λk=>k=g) w W1 by rw[hW1];exact Keeps.setCells (M:=λx=>x=g) (Or.inl rfl) _ _ _ (Keeps.refl _ _))
 rw[<-hW1]at HFIN
 have HNJ:=hide (show n-(i+1)=1 by omega)
 have HN1:=hide (show n-1=i+1 by omega)
 clear hW1 hbW hb ht hl hr hn hmax hx0 hx1
 have hic:i<=cap:=by omega
 have hi0:(0:Int)<=(i:Int):=by omega
 have hin:(i:Int)+2=(n:Int):=by omega
 rw[hin]
 have hne:((i:Int)==(n:Int))=false:=by simp;omega
 have hlt:decide ((i:Int)+1<(n:Int))=true:=by simp;omega
 clear hin
 go_enter Tryz.func258,Tryz.ntmps258
 go_wp2_with (at_builtin;refine qHu rfl _ _ rfl g 0 i cap rfl ⟨sb,0,none⟩ 1 1 rfl cur [.int .i64 x.sz,.int .i64 x.t] (uh HB) rfl (uh HX) (by simp[Value.oneCell']) (by omega) (by have:=uh HL;simp;omega) ?_;rw[uh HW])
 go_ret
 refine⟨by rw[uh HN1];rfl,?_,?_⟩
 ·rw[uh HNJ];exact uh HFIN
 ·exact Keeps.setCells (M:=λx=>x=g) (Or.inl rfl) _ _ _ (uh HK)
theorem qHp(b:Nat): ∀(vs:List Value) (o:Nat) (w:World),(w.setCells b o vs).drew=w.drew.setCells b o vs
 | [],_,_=>rfl
 | v::vs,o,w=>qHp b vs (o+1) (w.setCell ⟨b,o,none⟩ v)
theorem qLj(g cap n i sb:Nat)(l:List Bk)(x:Bk)(w:World)(hn:l.length=n)(hr:BRow w g cap l)(hi:i+2<n)(hx0:w.cell? ⟨sb,0,none⟩=some (.int .i64 x.sz))(hx1:w.cell? ⟨sb,1,none⟩=some (.int .i64 x.t)):
  Calls Tryz.prog 258 #[.slice (some ⟨g,0,none⟩) n cap,.int .i64 i,.int .i64 ((i:Int)+2),.slice (some ⟨sb,0,none⟩) 1 1] w λe w'=>e=.returned (.slice (some ⟨g,0,none⟩) (n-1) cap)/\BRow w' g cap (qCp l i x)/\Keeps (·=g) w w':=by
 obtain⟨cur,hb,hl,ht⟩:=hr.ex
 have hle:=hr.le
 rw[hn]at hle
 have hmax:=hr.max
 have hcap:cap<=9223372036854775807:=by unfold maxLen at hmax;omega
 have HFIN:=hide (qLy (w:=w.drew.drew) (x:=x) hn (by exact hb.drew.drew) hl ht hle hmax hi)
 obtain⟨j,hj⟩:∃j,j=i+2:=⟨_,rfl⟩
 obtain⟨W1,hW1⟩:∃W1,W1=w.drew.setCells g (i*2) [.int .i64 x.sz,.int .i64 x.t]:=⟨_,rfl⟩
 have hb1:Blk W1 g (over cur (i*2) [.int .i64 x.sz,.int .i64 x.t]) 211:=by rw[hW1];exact Blk.setCells _ _ _ _ hb.drew (by simp;omega)
 have hl1:(over cur (i*2) [.int .i64 x.sz,.int .i64 x.t]).length=cap*2:=by rw[qBc (by simp;omega),hl]
 obtain⟨news,hnews⟩:∃news,news=qBm (l.drop (i+2)):=⟨_,rfl⟩
 have hlen:news.length=(n-j)*2:=by rw[hnews,qCl];simp[hn,hj]
 have hsrc:∀t u,news[t]?=some u->W1.drew.cell? ((⟨g,j*2,none⟩:Addr).add t)=some u:=by
  intro t u hu
  have htl:t<(n-j)*2:=by have:=(List.getElem?_eq_some_iff.1 hu).1;omega
  rw[Addr.add_lit]
  refine hb1.cell ?_
  rw[hnews,qIv,List.getElem?_drop,<-ht,List.getElem?_take,if_pos (by omega)]at hu
  unfold over
  rw[List.getElem?_append_right (by simp;omega),List.getElem?_drop]
  rw[<-hu]
  congr 1
  simp
  omega
 obtain⟨W2,hW2⟩:∃W2,W2=W1.drew.setCells g ((i+1)*2) news:=⟨_,rfl⟩
 have hb2:Blk W2 g (over (over cur (i*2) [.int .i64 x.sz,.int .i64 x.t]) ((i+1)*2) news) 211:=by rw[hW2];exact Blk.setCells _ _ _ _ hb1.drew (by rw[hl1];omega)
 have hcl:∀ty,(Builtin.clear_ #[262] ty #[.slice (some ⟨g,(i+1+(n-j))*2,none⟩) (n-(i+1+(n-j))) (cap-(i+1+(n-j)))]).run Tryz.prog W2=.ok (.tuple #[]) (W2.setCells g ((i+1+(n-j))*2) (qB7 (n-(i+1+(n-j))))) :=
  λty=>qB5 W2 ty g _ _ _ _ hb2 (by omega) (by rw[qBc (by rw[hl1];omega),hl1];omega)
 have HK:=hide (show Keeps (λk=>k=g) w W2 by
    rw[hW2,hW1]
    exact Keeps.setCells (M:=λx=>x=g) (Or.inl rfl) _ _ _ (Keeps.setCells (M:=λx=>x=g) (Or.inl rfl) _ _ _ (Keeps.refl _ _).drew).drew)
 have HFIN2:=hide (show BRow (W2.setCells g ((i+1+(n-j))*2) (qB7 (n-(i+1+(n-j))))) g cap (qCp l i x) by
    have:=uh HFIN
    rw[hW2,hW1,qHp,hnews,show i+1+(n-j)=n-1 by omega,show n-(n-1)=1 by omega]
    exact this)
 have HB:=hide hb.drew
 have HB1:=hide hb1.drew
 have HX:=hide (show ∀j u,[Value.int .i64 x.sz,.int .i64 x.t][j]?=some u->w.drew.cell? ((⟨sb,0,none⟩:Addr).add j)=some u from λj u hu=>by
    rw[Addr.add_lit]
    match j,hu with
    | 0,hu=>injection hu with hu;rw[<-hu];exact hx0
    | 1,hu=>injection hu with hu;rw[<-hu];exact hx1)
 have hcp:∀ty,(Builtin.copy_ #[262,262] ty #[.slice (some ⟨g,i*2,none⟩) (i+1+(n-j)-i) (cap-i),.slice (some ⟨sb,0,none⟩) 1 1]).run Tryz.prog w.drew=.ok (goInt (Nat.min 1 (i+1+(n-j)-i))) W1 :=
  λty=>by rw[hW1];exact qHt w.drew ty g (i*2) _ _ ⟨sb,0,none⟩ 1 1 cur [.int .i64 x.sz,.int .i64 x.t] (uh HB) (by have h1:Nat.min 1 (i+1+(n-j)-i)=1:=Nat.min_eq_left (by omega);rw[h1];rfl) (uh HX) (by simp;omega) (by simp[Value.oneCell'])
 have HL1:=hide hl1
 have HSRC:=hide hsrc
 have HLEN:=hide hlen
 have HONE:=hide (show ∀u∈news,u.oneCell'=true by rw[hnews];exact qJ6 _)
 have HW2:=hide hW2.symm
 have hic:i<=cap:=by omega
 have hi0:(0:Int)<=(i:Int):=by omega
 have hin:(i:Int)+2=(j:Int):=by omega
 rw[hin]
 have hjn:j<n:=by omega
 have hij:i<j:=by omega
 have hjc:j<=cap:=by omega
 have hic1:¬cap=i+1:=by omega
 have hcj:¬cap=j:=by omega
 have hjn2:j<=n:=by omega
 have hct:¬cap=i+1+(n-j):=by omega
 have hw1:IntKind.i64.wrap ((i:Int)+1)=(i:Int)+1:=by rw[IntKind.wrap_i64];omega
 have hp1:0<=(i:Int)+1:=by omega
 have hp2:(i:Int)+1<=(i:Int)+1+((n-j:Nat):Int):=by omega
 have hne:((i:Int)==(j:Int))=false:=by simp;omega
 have hne2:((j:Int)==(n:Int))=false:=by simp;omega
 have hle2:decide ((i:Int)+1<=(j:Int))=true:=by simp;omega
 have HN1:=hide (show n-1=i+1+(n-j) by omega)
 clear hin hj hW1 hW2 hb hb1 hb2 hl hl1 ht hnews hlen hsrc HFIN hr hn hmax hx0 hx1
 go_enter Tryz.func258,Tryz.ntmps258
 go_wp2_with fail
 go_region
 go_wp2_with fail
 go_region_law (refine qLt rfl _ _ rfl g ((i+1)*2) (i+1+(n-j)-(i+1)) (cap-(i+1)) (by simp[Act.eval,Act.put]) ⟨g,j*2,none⟩ (n-j) (cap-j) (by simp[Act.eval,Act.put]) _ news (uh HB1) (by have h1:Nat.min (n-j) (i+1+(n-j)-(i+1))=n-j:=Nat.min_eq_left (by omega);rw[h1];exact uh HLEN) (uh HSRC) (uh HONE) (by rw[uh HL1,uh HLEN];omega) ?_;rw[uh HW2])
 go_wp2
 go_ret
 exact⟨by rw[uh HN1];rfl,uh HFIN2,Keeps.setCells (M:=λx=>x=g) (Or.inl rfl) _ _ _ (uh HK)⟩
end
end Go.Proofs.YtahnliehdjncdaaGreatDoor
