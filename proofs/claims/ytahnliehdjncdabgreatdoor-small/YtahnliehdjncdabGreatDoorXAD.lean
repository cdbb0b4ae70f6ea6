import Derived.Test.YtahnliehdjncdabGreatDoorXAC
set_option maxRecDepth 100000
set_option maxHeartbeats 16000000
namespace Go.Proofs.YtahnliehdjncdabGreatDoor
section
open Go.RowKit
def qJy(l:List Nat): Int:=l.foldl (λa (b:Nat)=>qDn 1000003000007 b a) 1
theorem qXy(l:List Nat)(b:Nat): qJy (l++[b])=qDn 1000003000007 b (qJy l):=by simp[qJy]
theorem qO6(l:List Nat)(a:Int)(h0:0<=a)(h1:a<2305843009213693951): 0<=l.foldl (λa (b:Nat)=>qDn 1000003000007 b a) a/\l.foldl (λa (b:Nat)=>qDn 1000003000007 b a) a<2305843009213693951:=by
 induction l generalizing a with
 | nil=>exact⟨h0,h1⟩
 | cons b l ih=>have:=qIj 1000003000007 b a;exact ih _ this.1 this.2
theorem qR1(l:List Nat): 0<=qJy l/\qJy l<2305843009213693951:=qO6 l 1 (by omega) (by omega)
theorem zCs(v:Value)(bs:List Nat)(w:World)(h:WRow w v bs)(hs:∀x∈bs,x<256)(hl:bs.length<=140737488355320):
  Calls Tryz.prog 86 #[v] w λe w'=>e=.returned (.int .i64 (qJy bs))/\Keeps (λ_=>False) w w':=by
 have HW:=hide h
 have HS:=hide hs
 obtain⟨va,vcap,hv⟩:=h.form
 subst hv
 clear h hs
 generalize hn:bs.length=n at *
 have HN:=hide hn
 clear hn
 go_enter Tryz.func86,Tryz.ntmps86
 go_wp2
 go_loopw [3,8] (λa i wr=>∃k:Nat,i=.int .i64 k/\k<=n/\a=.int .i64 (qJy (bs.take k))/\Hid (Keeps (λ_=>False) w wr)) (λ_ i _=>n-(intOf i).toNat)
 case atStart=>exact⟨0,rfl,Nat.zero_le _,rfl,Keeps.refl _ _⟩
 case round =>
  obtain⟨k,rfl,hk,rfl,HK⟩:=hrel
  by_cases hlk:k<n
  ·have hkb:k<bs.length:=by rw[uh HN];exact hlk
   obtain⟨y,hy⟩:∃y,bs[k]?=some y:=⟨_,List.getElem?_eq_getElem hkb⟩
   have hy6:=uh HS y (List.mem_of_getElem? hy)
   have HNX:=hide (show qJy (bs.take (k+1))=qDn 1000003000007 y (qJy (bs.take k)) by rw[List.take_add_one,hy];exact qXy _ _)
   obtain⟨g,cap,hv,hc⟩:∃g cap,(Value.slice va n vcap)=.slice (some ⟨g,0,none⟩) n cap/\∀(i:Nat) u,(qBy bs)[i]?=some u->w.cell? ⟨g,i,none⟩=some u:=by
    rcases(uh HW).cells with ⟨h0,_⟩ | ⟨g,cap,hv,hc⟩
    ·omega
    ·exact⟨g,cap,by rw[hv,uh HN],hc⟩
   injection hv with hv1 _ hv2
   subst hv1 hv2
   have hck:wr.cell? ⟨g,k,none⟩=some (.int .u8 (y:Int)):=(uh HK).cell (hc k _ (by unfold qBy;rw[List.getElem?_map,hy];rfl)) (λh=>h)
   have hwb:IntKind.i64.wrap (y:Int)=(y:Int):=(by rw[IntKind.wrap_i64];omega)
   have hb:=qR1 (bs.take k)
   generalize qJy (bs.take k)=S at *
   have hk0:(0:Int)<=(k:Int):=by omega
   have hkm:(k:Int)<(n:Int):=by omega
   clear hc hy hkb
   go_wp2_with fail
   refine(qY3 1000003000007 (y:Int) S wr (by omega) (by omega) (by omega) (by omega) hb.1 (by omega)).mono ?_
   rintro e w1 ⟨rfl,hk1⟩
   have HK1:=hide ((uh HK).then hk1)
   clear hk1 hck
   go_wp2
   go_roundw
   case rel=>exact⟨k+1,by go_num,by omega,by rw[uh HNX],uh HK1⟩
   case measure=>simp[intOf];omega
  ·have hkn:k=n:=by omega
   subst hkn
   have HT:=hide (show bs.take k=bs from List.take_of_length_le (by rw[uh HN];omega))
   go_wp2
   go_ret
   exact⟨by rw[uh HT];rfl,uh HK⟩
def qEn(l:List Nat): ByteArray:=strOfNums (l.map λ(n:Nat)=>(n:Int))
theorem qUx(l:List Nat)(i:Nat)(hi:i<l.length): (qBy l)[i]?=some (.int .u8 ((l.map λ(n:Nat)=>(n:Int)).getD i 0)):=by
 unfold qBy
 rw[List.getElem?_map,List.getD_eq_getElem?_getD,List.getElem?_map,List.getElem?_eq_getElem hi]
 rfl
theorem qXz(b:Nat)(v:Value)(bs:List Nat)(w:World)(h:WRep w b v bs)(hl:bs.length<=140737488355300):
  Calls Tryz.prog 60 #[.pointer (some ⟨b,0,none⟩)] w λe w'=>e=.returned (.string (qEn (bs++enc (qJy bs))))/\Keeps (qB3 b v) w w':=by
 have hc0:w.cell? ⟨b,0,none⟩=some v:=h.blk.cell rfl
 have HS:=hide (zCs v bs w h.row h.small (by omega))
 have HB:=hide (qR1 bs)
 have HW:=hide h
 have hlt:=h.blk.lt
 obtain⟨va,vcap,hv⟩:=h.row.form
 subst hv
 clear h
 go_enter Tryz.func60,Tryz.ntmps60
 go_wp2_with fail
 refine(uh HS).mono ?_
 rintro e w1 ⟨rfl,hk1⟩
 have HK1:=hide hk1
 have HN:=hide (qDa b (.slice va bs.length vcap) bs (qJy bs) w1 ((uh HW).still hk1) (uh HB).1 (by have:=(uh HB).2;omega) hl)
 clear hk1 hc0 HS
 go_wp2_with fail
 refine(uh HN).mono ?_
 rintro e w2 ⟨rfl,v2,hw2,hv2,hk2⟩
 have HK2:=hide (((uh HK1).mono (M':=qB3 b (.slice va bs.length vcap)) (λ_ _ h=>h.elim)).then hk2)
 have hc2:w2.cell? ⟨b,0,none⟩=some v2:=hw2.blk.cell rfl
 have hlt2:=hw2.blk.lt
 obtain⟨g,cap,hv,hcv⟩:∃g cap,v2=.slice (some ⟨g,0,none⟩) (bs++enc (qJy bs)).length cap/\(convert 136 9 (.slice (some ⟨g,0,none⟩) (bs++enc (qJy bs)).length cap)).run Tryz.prog w2=.ok (.string (qEn (bs++enc (qJy bs)))) w2:=by
  rcases hw2.row.cells with ⟨h0,_⟩ | ⟨g,cap,hv,hc⟩
  ·exfalso
   have h1:0<(enc (qJy bs)).length:=by
    unfold enc qHj
    split <;> simp
   rw[List.length_append]at h0
   omega
  ·refine⟨g,cap,hv,run_convert_bytes_arg w2 136 5 Tryz.underlying136 qV7 g 0 _ cap _ (by simp) (λi hi=>?_) 9 Tryz.underlying9⟩
   rw[Nat.zero_add]
   exact hc i _ (qUx _ i hi)
 subst hv
 generalize(bs++enc (qJy bs)).length=n2 at *
 clear hw2 hv2 hk2 HN
 go_wp2
 go_ret
 exact⟨rfl,uh HK2⟩
theorem qTv(f m:Nat): 1<=(qHj f m).length:=by
 cases f with
 | zero=>simp[qHj]
 | succ f=>unfold qHj;split <;> simp
theorem qW4(f:Nat): ∀m,m<128 ^ (f+1)->m<128 ^ (qHj f m).length/\∀i,i<(qHj f m).length->(qHj f m).getD i 0%128=m/128 ^ i%128/\((qHj f m).getD i 0<128↔i+1=(qHj f m).length)/\(qHj f m).getD i 0<256:=by
 induction f with
 | zero =>
  intro m hm
  have hm':m<128:=by simpa using hm
  refine⟨by simpa[qHj] using hm',λi hi=>?_⟩
  have h0:i=0:=by simp[qHj]at hi;exact hi
  subst h0
  simp[qHj]
  omega
 | succ f ih =>
  intro m hm
  unfold qHj
  split
  ·rename_i h
   refine⟨by simp;omega,λi hi=>?_⟩
   have h0:i=0:=by simp at hi;exact hi
   subst h0
   simp
   omega
  ·rename_i h
   have hm2:m/128<128 ^ (f+1):=(Nat.div_lt_iff_lt_mul (by omega)).2 (by rw[Nat.pow_succ]at hm;exact hm)
   obtain⟨h1,h2⟩:=ih (m/128) hm2
   have hp:=qTv f (m/128)
   refine⟨?_,λi hi=>?_⟩
   ·rw[List.length_cons,Nat.pow_succ]
    exact(Nat.div_lt_iff_lt_mul (by omega)).1 h1
   ·cases i with
    | zero =>
     rw[List.getD_cons_zero,List.length_cons,Nat.pow_zero,Nat.div_one]
     omega
    | succ i =>
     rw[List.length_cons]at hi
     obtain⟨a,b,c⟩:=h2 i (by omega)
     rw[List.getD_cons_succ,List.length_cons]
     refine⟨?_,by rw[b];omega,c⟩
     rw[a,Nat.div_div_eq_div_mul,Nat.pow_succ,Nat.mul_comm]
theorem qZ4(f:Nat): ∀k m,1<=k->m<128 ^ k->(qHj f m).length<=k:=by
 induction f with
 | zero=>intro k m h1 _;simp[qHj];exact h1
 | succ f ih =>
  intro k m h1 h2
  unfold qHj
  split
  ·simp;exact h1
  ·rename_i h
   have hk:2<=k:=by
    rcases Nat.lt_or_ge k 2 with h3 | h3
    ·have:k=1:=by omega
     subst this
     simp at h2;omega
    ·exact h3
   obtain⟨j,rfl⟩:∃j,k=j+1:=⟨k-1,by omega⟩
   have:=ih j (m/128) (by omega) ((Nat.div_lt_iff_lt_mul (by omega)).2 (by rw[Nat.pow_succ]at h2;exact h2))
   simp;omega
theorem zAe(n:Int)(h:n<=9223372036854775807): (enc n).length<=9 :=
 qZ4 9 9 _ (by omega) (by have:(128:Nat) ^ 9=9223372036854775808:=(by decide);rw[this];omega)
theorem qPw(m i:Nat): m%128 ^ (i+1)=m%128 ^ i+(m/128 ^ i%128)*128 ^ i:=by
 rw[Nat.pow_succ,Nat.mod_mul,Nat.mul_comm]
theorem zDq(m i:Nat): m%128 ^ i ||| (m/128 ^ i%128)*128 ^ i=m%128 ^ (i+1):=by
 have e:(128:Nat) ^ i=2 ^ (7*i):=by rw[Nat.pow_mul]
 have hlt:m%128 ^ i<2 ^ (7*i):=by rw[<-e];exact Nat.mod_lt _ (Nat.pow_pos (by omega))
 rw[qPw]
 have:=Nat.shiftLeft_add_eq_or_of_lt hlt (m/128 ^ i%128)
 rw[Nat.shiftLeft_eq,<-e]at this
 rw[Nat.or_comm,<-this,Nat.add_comm]
theorem qFi(l:List Nat): (qEn l).size=l.length:=by
 unfold qEn strOfNums
 show(List.toArray _).size=_
 simp
theorem qZ8(l:List Nat)(i:Nat)(hi:i<l.length)(hb:l.getD i 0<256)(h:i<(qEn l).size): (((qEn l)[i]'h).toNat:Int)=((l.getD i 0:Nat):Int):=by
 have e:(qEn l)[i]'h=UInt8.ofNat (l.getD i 0):=by
  show(qEn l).data[i]=_
  unfold qEn strOfNums
  simp[List.getD_eq_getElem?_getD,List.getElem?_eq_getElem hi]
 rw[e,UInt8.toNat_ofNat']
 omega
theorem qO4(l:List Nat)(k:Nat): (qEn l).extract k (qEn l).size=qEn (l.drop k):=by
 rw[qFi]
 unfold qEn strOfNums
 rw[ByteArray.extract_mk]
 congr 2
 rw[List.map_drop,List.map_drop]
 rw[List.take_of_length_le (by simp)]
theorem qUo(a b:Nat)(ha:a<9223372036854775808)(hb:b<9223372036854775808): bits .or .i64 (a:Int) (b:Int)=((a ||| b:Nat):Int):=by
 have hx:a ||| b<2 ^ 63:=Nat.or_lt_two_pow (by omega) (by omega)
 show IntKind.i64.wrap ((BitVec.ofInt 64 (a:Int) ||| BitVec.ofInt 64 (b:Int)).toNat:Int)=_
 rw[BitVec.toNat_or,ofInt_u64 a (by omega),ofInt_u64 b (by omega),IntKind.wrap_i64]
 omega
structure RdRep (w:World) (r:Nat) (l:List Nat):Prop where
 blk:Blk w r [.string (qEn l),.bool false] 176
 len:l.length<=140737488355328
theorem RdRep.keeps{M:Nat->Prop}{w w':World}{r:Nat}{l:List Nat}(h:RdRep w r l)(hk:Keeps M w w')(hn:¬M r): RdRep w' r l:=⟨h.blk.keeps hk hn,h.len⟩
theorem zAc(r:Nat)(n:Int)(tl:List Nat)(w:World)(h:RdRep w r (enc n++tl))(n0:0<=n)(n1:n<=9223372036854775807):
  Calls Tryz.prog 134 #[.pointer (some ⟨r,0,none⟩)] w λe w'=>e=.returned (.tuple #[.int .i64 n,.bool true])/\RdRep w' r tl/\Keeps (λi=>i=r) w w':=by
 obtain⟨m,rfl⟩:=Int.eq_ofNat_of_zero_le n0
 have hE:enc (m:Int)=qHj 9 m:=by unfold enc;rw[Int.toNat_natCast]
 have hm9:m<128 ^ 9:=by have:(128:Nat) ^ 9=9223372036854775808:=(by decide);omega
 have hmlt:m<9223372036854775808:=by omega
 have hl9:=zAe (m:Int) n1
 have hsp:=qW4 9 m (by have:(128:Nat) ^ (9+1)=1180591620717411303424:=(by decide);omega)
 rw[<-hE]at hsp
 have hpos:=qTv 9 m
 rw[<-hE]at hpos
 have c0:w.cell? ⟨r,0,none⟩=some (.string (qEn (enc (m:Int)++tl))):=h.blk.cell rfl
 have fz:=h.blk.frozen
 have hsz:(qEn (enc (m:Int)++tl)).size=(enc (m:Int)).length+tl.length:=by rw[qFi,List.length_append]
 have hln:=h.len
 rw[List.length_append]at hln
 have HG:=hide (show ∀i,i<(enc (m:Int)).length->∀h:i<(qEn (enc (m:Int)++tl)).size,(((qEn (enc (m:Int)++tl))[i]'h).toNat:Int)=(((enc (m:Int)).getD i 0:Nat):Int) from λi hi hb=>by
    have e:(enc (m:Int)++tl).getD i 0=(enc (m:Int)).getD i 0:=by
     rw[List.getD_eq_getElem?_getD,List.getD_eq_getElem?_getD,List.getElem?_append_left hi]
    rw[qZ8 _ i (by rw[List.length_append];omega) (by rw[e];exact(hsp.2 i hi).2.2),e])
 have HD:=hide (show ∀i,i+1=(enc (m:Int)).length->(qEn (enc (m:Int)++tl)).extract (i+1) (qEn (enc (m:Int)++tl)).size=qEn tl from λi hi=>by
    rw[qO4,hi,List.drop_left])
 have HSP:=hide hsp
 have HB:=hide h.blk
 have HTL:=hide (show tl.length<=140737488355328 by omega)
 clear h hE hsp
 generalize enc (m:Int)=en at *
 generalize hLn:en.length=L at *
 generalize hTn:tl.length=T at *
 generalize qEn (en++tl)=st at *
 obtain⟨SZ,hSZ⟩:∃SZ:Nat,SZ=L+T:=⟨_,rfl⟩
 rw[<-hSZ]at hsz
 have HSZ:=hide hSZ
 have HTN:=hide hTn
 clear hSZ hLn hTn
 go_enter Tryz.func134,Tryz.ntmps134
 by_cases h9:(SZ:Int)<9
 all_goals
  go_wp2
  clear h9
  go_loopw [4,13] (λnv iv wr=>∃i:Nat,i<L/\iv=.int .i64 i/\nv=.int .i64 ((m%128 ^ i:Nat):Int)/\wr=w) (λ_ iv _=>9-(intOf iv).toNat)
  case atStart=>exact⟨0,by omega,rfl,by rw[Nat.pow_zero,Nat.mod_one];rfl,rfl⟩
  case round =>
   obtain⟨i,hi,rfl,rfl,rfl⟩:=hrel
   have hSZ:=uh HSZ
   have hiK:(i:Int)<(SZ:Int):=by omega
   have hi9:(i:Int)<9:=by omega
   have hi0:(0:Int)<=(i:Int):=by omega
   have w7:IntKind.i64.wrap (7*(i:Int))=((7*i:Nat):Int):=by rw[IntKind.wrap_i64];omega
   have hib:=uh HG i hi (by omega)
   obtain⟨x,hx⟩:∃x,en.getD i 0=x:=⟨_,rfl⟩
   obtain⟨hx1,hx2,hx3⟩:=(uh HSP).2 i hi
   rw[hx]at hx1 hx2 hx3 hib
   obtain⟨A,hA⟩:∃A,m%128 ^ i=A:=⟨_,rfl⟩
   obtain⟨B,hB⟩:∃B,x%128=B:=⟨_,rfl⟩
   obtain⟨Z,hZ⟩:∃Z,m%128 ^ (i+1)=Z:=⟨_,rfl⟩
   obtain⟨Y,hY⟩:∃Y,B*128 ^ i=Y:=⟨_,rfl⟩
   have hor:=zDq m i
   rw[<-hx1,hB,hY,hA,hZ]at hor
   have hAm:A<=m:=by rw[<-hA];exact Nat.mod_le _ _
   have hYm:Y<=m:=by
    rw[<-hY,<-hB,hx1]
    exact Nat.le_trans (Nat.mul_le_mul_right _ (Nat.mod_le _ _)) (Nat.div_mul_le_self _ _)
   have a7:bits BinOp.and IntKind.u8 (x:Int) 127=(B:Int):=by
    have:=u8_and_nat x 127 hx3 (by omega)
    rw[nat_mask7,hB]at this
    exact this
   have hsh:wrap64 ((B:Int)*2 ^ (7*i))=(Y:Int):=by
    have e:((B:Int)*2 ^ (7*i))=(Y:Int):=by
     rw[<-hY,Int.natCast_mul,Int.natCast_pow]
     congr 1
     rw[Int.pow_mul];rfl
    rw[e]
    have:=IntKind.wrap_i64 (Y:Int)
    unfold wrap64
    have h9:(Y:Int)<9223372036854775808:=Int.ofNat_lt.2 (Nat.lt_of_le_of_lt hYm hmlt)
    clear e hor
    omega
   have hwB:wrap64 (B:Int)=(B:Int):=by
    have h1:B<128:=by rw[<-hB];exact Nat.mod_lt _ (by omega)
    have:=IntKind.wrap_i64 (B:Int)
    unfold wrap64
    clear hor hsh
    omega
   have hbo:=qUo A Y (Nat.lt_of_le_of_lt hAm hmlt) (Nat.lt_of_le_of_lt hYm hmlt)
   rw[hor]at hbo
   have HEX:=hide (show i+1=L->st.extract (i+1) SZ=qEn tl from λh=>by rw[<-hsz];exact uh HD i h)
   have HZL:=hide (show i+1=L->Z=m from λh=>by rw[<-hZ,h];exact Nat.mod_eq_of_lt (uh HSP).1)
   have HZ:=hide hZ
   rw[hA]
   clear hx1 hA hB hZ hY hor hx hSZ
   by_cases hxl:x<128
   ·have hiL:=hx2.1 hxl
    have hex:=uh HEX hiL
    have hzl:=uh HZL hiL
    subst hzl
    have hxi:(x:Int)<128:=by omega
    have HBN:=hide ((uh HB).setCell 0 (.string (qEn tl)))
    have HKN:=hide ((Keeps.refl (λi=>i=r) wr).setCell (p:=⟨r,0,none⟩) (Or.inl rfl) (.string (qEn tl)))
    clear hx2 hiL hm9
    go_wp2
    refine bodyPost_ret (v:=.tuple #[.int .i64 Z,.bool true]) (by simp[results,Tryz.results134,go_sem]) rfl ?_
    exact⟨rfl,⟨uh HBN,by rw[uh HTN];exact uh HTL⟩,uh HKN⟩
   ·have hxi:decide ((x:Int)<128)=false:=by simp;omega
    have hiL:i+1<L:=by
     have:¬(i+1=L):=λh=>hxl (hx2.2 h)
     omega
    clear hx2
    go_wp2
    go_roundw
    case rel=>exact⟨i+1,hiL,by go_num,by first | (rw[uh HZ];done) | simp[uh HZ],by trivial⟩
    case measure=>simp[intOf];omega
end
section
open Go.RowKit
attribute [local go_sem ↓] qAb qAe
attribute [local go_sem] qAg qAl qAd qAc qAo qAn qAf qAi
def qEi(c:Cfg): Bool:=inB c.lag 0 100&&(inB c.skew 0 100&&inB c.cap 1 8)
def qEb(c:Cfg): Bool:=inB c.window 1 1000
def countB(c:Cfg): Bool:=inB c.k 1 10&&qEb c
def qSr(a b:Int): Bool:=inB a 1 2305843009213693950&&inB b 0 2305843009213693950
def Cfg.seed(c:Cfg): Nat->Bool
 | 0=>qSr c.s00 c.s01
 | 1=>qSr c.s10 c.s11
 | _=>qSr c.s20 c.s21
def qFn(c:Cfg): Nat->Nat->Bool
 | 0,_=>true
 | f+1,i=>c.seed i&&qFn c f (i+1)
def qKx(c:Cfg)(n:Nat): Bool:=qFn c n 0
def qF9(c:Cfg): Bool:=inB c.bits 1 4&&(qEb c&&qKx c 1)
def qQn(c:Cfg): Bool:=inB c.rows 1 3&&(inB c.width 1 16&&(inB c.panes 1 8&&(qEb c&&((c.window%c.panes==0)&&qKx c c.rows.toNat))))
def qHm(c:Cfg): Bool:=inB c.degree 0 3&&(inB c.half 0 100&&inB c.mark 0 4611686018427387904)
def qI8(c:Cfg): Bool:=inB c.size 1 5&&qHm c
theorem qIs(c:Cfg)(w:World): Calls Tryz.prog 75 #[c.val] w λe w'=>e=.returned (.bool (qEi c))/\Keeps (λ_=>False) w w':=by
 have HC:=hide (show qEi c=(inB c.lag 0 100&&(inB c.skew 0 100&&inB c.cap 1 8)) from rfl)
 unfold Cfg.val
 cases h1:inB c.lag 0 100
 ·go_enter Tryz.func75,Tryz.ntmps75
  go_wp2_with (go_at_call 45;refine(qAh _ _ _ _).mono ?_;rintro e w' ⟨rfl,rfl⟩)
  go_ret
  exact⟨qA8 (by rw[uh HC,h1];rfl),(Keeps.refl _ _).alloc _⟩
 ·cases h2:inB c.skew 0 100
  ·go_enter Tryz.func75,Tryz.ntmps75
   go_wp2_with (go_at_call 45;refine(qAh _ _ _ _).mono ?_;rintro e w' ⟨rfl,rfl⟩)
   go_ret
   exact⟨qA8 (by rw[uh HC,h1,h2];rfl),(Keeps.refl _ _).alloc _⟩
  ·go_enter Tryz.func75,Tryz.ntmps75
   go_wp2_with (go_at_call 45;refine(qAh _ _ _ _).mono ?_;rintro e w' ⟨rfl,rfl⟩)
   go_ret
   exact⟨qA8 (by rw[uh HC,h1,h2];rfl),(Keeps.refl _ _).alloc _⟩
theorem qFf(c:Cfg)(w:World): Calls Tryz.prog 143 #[c.val] w λe w'=>e=.returned (.bool (qEb c))/\Keeps (λ_=>False) w w':=by
 have HC:=hide (show qEb c=inB c.window 1 1000 from rfl)
 unfold Cfg.val
 go_enter Tryz.func143,Tryz.ntmps143
 go_wp2_with (go_at_call 45;refine(qAh _ _ _ _).mono ?_;rintro e w' ⟨rfl,rfl⟩)
 go_ret
 exact⟨qA8 (uh HC).symm,(Keeps.refl _ _).alloc _⟩
theorem qHx(c:Cfg)(w:World): Calls Tryz.prog 118 #[c.val] w λe w'=>e=.returned (.bool (qHm c))/\Keeps (λ_=>False) w w':=by
 have HC:=hide (show qHm c=(inB c.degree 0 3&&(inB c.half 0 100&&inB c.mark 0 4611686018427387904)) from rfl)
 unfold Cfg.val
 cases h1:inB c.degree 0 3
 ·go_enter Tryz.func118,Tryz.ntmps118
  go_wp2_with (go_at_call 45;refine(qAh _ _ _ _).mono ?_;rintro e w' ⟨rfl,rfl⟩)
  go_ret
  exact⟨qA8 (by rw[uh HC,h1];rfl),(Keeps.refl _ _).alloc _⟩
 ·cases h2:inB c.half 0 100
  all_goals
   go_enter Tryz.func118,Tryz.ntmps118
   go_wp2_with (first | (go_at_call 45;refine(qAh _ _ _ _).mono ?_;rintro e w' ⟨rfl,rfl⟩) | (go_at_call 52;refine(qG9 _ _).mono ?_;rintro e w' ⟨rfl,rfl⟩))
   go_ret
   exact⟨qA8 (by rw[uh HC,h1,h2];rfl),(Keeps.refl _ _).alloc _⟩
theorem qM8(c:Cfg)(w:World): Calls Tryz.prog 102 #[c.val] w λe w'=>e=.returned (.bool (countB c))/\Keeps (λ_=>False) w w':=by
 have HC:=hide (show countB c=(inB c.k 1 10&&qEb c) from rfl)
 unfold Cfg.val
 cases h1:inB c.k 1 10
 ·go_enter Tryz.func102,Tryz.ntmps102
  go_wp2_with (go_at_call 45;refine(qAh _ _ _ _).mono ?_;rintro e w' ⟨rfl,rfl⟩)
  go_ret
  exact⟨qA8 (by rw[uh HC,h1];rfl),(Keeps.refl _ _).alloc _⟩
 ·go_enter Tryz.func102,Tryz.ntmps102
  go_wp2_with (first | (go_at_call 45;refine(qAh _ _ _ _).mono ?_;rintro e w' ⟨rfl,rfl⟩) | (go_at_call 143;refine(qFf c _).mono ?_;rintro e w' ⟨rfl,hk⟩))
  go_ret
  exact⟨qA8 (by rw[uh HC,h1];rfl),((Keeps.refl _ _).alloc _).then hk⟩
theorem qNh(c:Cfg)(w:World): Calls Tryz.prog 122 #[c.val] w λe w'=>e=.returned (.bool (qI8 c))/\Keeps (λ_=>False) w w':=by
 have HC:=hide (show qI8 c=(inB c.size 1 5&&qHm c) from rfl)
 unfold Cfg.val
 cases h1:inB c.size 1 5
 ·go_enter Tryz.func122,Tryz.ntmps122
  go_wp2_with (go_at_call 45;refine(qAh _ _ _ _).mono ?_;rintro e w' ⟨rfl,rfl⟩)
  go_ret
  exact⟨qA8 (by rw[uh HC,h1];rfl),(Keeps.refl _ _).alloc _⟩
 ·go_enter Tryz.func122,Tryz.ntmps122
  go_wp2_with (first | (go_at_call 45;refine(qAh _ _ _ _).mono ?_;rintro e w' ⟨rfl,rfl⟩) | (go_at_call 118;refine(qHx c _).mono ?_;rintro e w' ⟨rfl,hk⟩))
  go_ret
  exact⟨qA8 (by rw[uh HC,h1];rfl),((Keeps.refl _ _).alloc _).then hk⟩
def Cfg.seeds(c:Cfg): Value:=.agg #[.int .i64 c.s00,.int .i64 c.s01,.int .i64 c.s10,.int .i64 c.s11,.int .i64 c.s20,.int .i64 c.s21]
theorem qJc(c:Cfg)(n:Int)(w:World)(h0:0<=n)(h3:n<=3): Calls Tryz.prog 150 #[c.seeds,.int .i64 n] w λe w'=>e=.returned (.bool (qKx c n.toNat))/\Keeps (λ_=>False) w w':=by
 obtain⟨m,rfl⟩:=Int.eq_ofNat_of_zero_le h0
 rw[Int.toNat_natCast]
 have hm3:m<=3:=by omega
 unfold Cfg.seeds
 go_enter Tryz.func150,Tryz.ntmps150
 go_wp2
 go_loop [7] (λi=>∃k:Nat,k<=m/\i=.int .i64 k/\Hid (qKx c m=qFn c (m-k) k)) (λi=>m-(intOf i).toNat)
 case atStart=>exact⟨0,Nat.zero_le _,rfl,rfl⟩
 case round =>
  obtain⟨k,hk,rfl,HE⟩:=hrel
  by_cases hlt:k<m
  ·have HE':=hide (show qKx c m=(c.seed k&&qFn c (m-(k+1)) (k+1)) by rw[uh HE,show m-k=(m-(k+1))+1 by omega];rfl)
   clear HE
   have hk3:k=0\/k=1\/k=2:=by omega
   have hlt':(k:Int)<(m:Int):=by omega
   rcases hk3 with hk3 | hk3 | hk3
   all_goals
    subst hk3
    simp only[Cfg.seed,qSr]at HE'
   ·cases h1:inB c.s00 1 2305843009213693950
    ·go_wp2_with (go_at_call 45;refine(qAh _ _ _ _).mono ?_;rintro e w' ⟨rfl,rfl⟩)
     go_ret
     exact⟨qA8 (by rw[uh HE',h1];rfl),(Keeps.refl _ _).alloc _⟩
    ·cases h2:inB c.s01 0 2305843009213693950
     ·go_wp2_with (go_at_call 45;refine(qAh _ _ _ _).mono ?_;rintro e w' ⟨rfl,rfl⟩)
      go_ret
      exact⟨qA8 (by rw[uh HE',h1,h2];rfl),(Keeps.refl _ _).alloc _⟩
     ·go_wp2_with (go_at_call 45;refine(qAh _ _ _ _).mono ?_;rintro e w' ⟨rfl,rfl⟩)
      go_round
      case rel=>exact⟨1,by omega,rfl,by rw[h1,h2]at HE';exact HE'⟩
      case measure=>simp[intOf];omega
   ·cases h1:inB c.s10 1 2305843009213693950
    ·go_wp2_with (go_at_call 45;refine(qAh _ _ _ _).mono ?_;rintro e w' ⟨rfl,rfl⟩)
     go_ret
     exact⟨qA8 (by rw[uh HE',h1];rfl),(Keeps.refl _ _).alloc _⟩
    ·cases h2:inB c.s11 0 2305843009213693950
     ·go_wp2_with (go_at_call 45;refine(qAh _ _ _ _).mono ?_;rintro e w' ⟨rfl,rfl⟩)
      go_ret
      exact⟨qA8 (by rw[uh HE',h1,h2];rfl),(Keeps.refl _ _).alloc _⟩
     ·go_wp2_with (go_at_call 45;refine(qAh _ _ _ _).mono ?_;rintro e w' ⟨rfl,rfl⟩)
      go_round
      case rel=>exact⟨2,by omega,rfl,by rw[h1,h2]at HE';exact HE'⟩
      case measure=>simp[intOf];omega
   ·cases h1:inB c.s20 1 2305843009213693950
    ·go_wp2_with (go_at_call 45;refine(qAh _ _ _ _).mono ?_;rintro e w' ⟨rfl,rfl⟩)
     go_ret
     exact⟨qA8 (by rw[uh HE',h1];rfl),(Keeps.refl _ _).alloc _⟩
    ·cases h2:inB c.s21 0 2305843009213693950
     ·go_wp2_with (go_at_call 45;refine(qAh _ _ _ _).mono ?_;rintro e w' ⟨rfl,rfl⟩)
      go_ret
      exact⟨qA8 (by rw[uh HE',h1,h2];rfl),(Keeps.refl _ _).alloc _⟩
     ·go_wp2_with (go_at_call 45;refine(qAh _ _ _ _).mono ?_;rintro e w' ⟨rfl,rfl⟩)
      go_round
      case rel=>exact⟨3,by omega,rfl,by rw[h1,h2]at HE';exact HE'⟩
      case measure=>simp[intOf];omega
  ·go_wp2
   go_ret
   exact⟨qA8 (by rw[uh HE,show m-k=0 by omega];rfl),(Keeps.refl _ _).alloc _⟩
theorem qD0{n lo hi:Int}(h:inB n lo hi=true): lo<=n/\n<=hi:=by simpa[inB] using h
theorem qJo(c:Cfg)(w:World): Calls Tryz.prog 108 #[c.val] w λe w'=>e=.returned (.bool (qF9 c))/\Keeps (λ_=>False) w w':=by
 have HC:=hide (show qF9 c=(inB c.bits 1 4&&(qEb c&&qKx c 1)) from rfl)
 unfold Cfg.val
 cases h1:inB c.bits 1 4
 ·go_enter Tryz.func108,Tryz.ntmps108
  go_wp2_with (go_at_call 45;refine(qAh _ _ _ _).mono ?_;rintro e w' ⟨rfl,rfl⟩)
  go_ret
  exact⟨qA8 (by rw[uh HC,h1];rfl),(Keeps.refl _ _).alloc _⟩
 ·cases h2:qEb c
  ·go_enter Tryz.func108,Tryz.ntmps108
   go_wp2_with (first | (go_at_call 45;refine(qAh _ _ _ _).mono ?_;rintro e w' ⟨rfl,rfl⟩) | (go_at_call 143;refine(qFf c _).mono ?_;rintro e w' ⟨rfl,hk⟩))
   go_ret
   exact⟨qA8 (by rw[uh HC,h1,h2];rfl),((Keeps.refl _ _).alloc _).then hk⟩
  ·go_enter Tryz.func108,Tryz.ntmps108
   go_wp2_with fail
   refine(qAh _ _ _ _).mono ?_
   rintro e w' ⟨rfl,rfl⟩
   go_wp2_with fail
   refine(qFf c _).mono ?_
   rintro e w1 ⟨rfl,hk⟩
   have hB:Blk w1 w.heap.size c.cells 32:=(Blk.new w c.cells 32).keeps hk (λh=>h)
   have HK:=hide (((Keeps.refl _ _).alloc _).then hk)
   have c14:w1.cell? ⟨w.heap.size,14,none⟩=some (.int .i64 c.s00):=hB.cell rfl
   have c15:w1.cell? ⟨w.heap.size,15,none⟩=some (.int .i64 c.s01):=hB.cell rfl
   have c16:w1.cell? ⟨w.heap.size,16,none⟩=some (.int .i64 c.s10):=hB.cell rfl
   have c17:w1.cell? ⟨w.heap.size,17,none⟩=some (.int .i64 c.s11):=hB.cell rfl
   have c18:w1.cell? ⟨w.heap.size,18,none⟩=some (.int .i64 c.s20):=hB.cell rfl
   have c19:w1.cell? ⟨w.heap.size,19,none⟩=some (.int .i64 c.s21):=hB.cell rfl
   clear hk hB
   go_wp2_with fail
   refine(qJc c 1 _ (by omega) (by omega)).mono ?_
   rintro e w2 ⟨rfl,hk2⟩
   go_wp2
   go_ret
   exact⟨qA8 (by rw[uh HC,h1,h2];rfl),(uh HK).then hk2⟩
theorem qN1(c:Cfg)(w:World): Calls Tryz.prog 114 #[c.val] w λe w'=>e=.returned (.bool (qQn c))/\Keeps (λ_=>False) w w':=by
 have HC:=hide (show qQn c=(inB c.rows 1 3&&(inB c.width 1 16&&(inB c.panes 1 8&&(qEb c&&((c.window%c.panes==0)&&qKx c c.rows.toNat))))) from rfl)
 unfold Cfg.val
 cases h1:inB c.rows 1 3
 ·go_enter Tryz.func114,Tryz.ntmps114
  go_wp2_with (go_at_call 45;refine(qAh _ _ _ _).mono ?_;rintro e w' ⟨rfl,rfl⟩)
  go_ret
  exact⟨qA8 (by rw[uh HC,h1];rfl),(Keeps.refl _ _).alloc _⟩
 ·cases h2:inB c.width 1 16
  ·go_enter Tryz.func114,Tryz.ntmps114
   go_wp2_with (go_at_call 45;refine(qAh _ _ _ _).mono ?_;rintro e w' ⟨rfl,rfl⟩)
   go_ret
   exact⟨qA8 (by rw[uh HC,h1,h2];rfl),(Keeps.refl _ _).alloc _⟩
  ·cases h3:inB c.panes 1 8
   ·go_enter Tryz.func114,Tryz.ntmps114
    go_wp2_with (go_at_call 45;refine(qAh _ _ _ _).mono ?_;rintro e w' ⟨rfl,rfl⟩)
    go_ret
    exact⟨qA8 (by rw[uh HC,h1,h2,h3];rfl),(Keeps.refl _ _).alloc _⟩
   ·cases h4:qEb c
    ·go_enter Tryz.func114,Tryz.ntmps114
     go_wp2_with (first | (go_at_call 45;refine(qAh _ _ _ _).mono ?_;rintro e w' ⟨rfl,rfl⟩) | (go_at_call 143;refine(qFf c _).mono ?_;rintro e w' ⟨rfl,hk⟩))
     go_ret
     exact⟨qA8 (by rw[uh HC,h1,h2,h3,h4];rfl),((Keeps.refl _ _).alloc _).then hk⟩
    ·obtain⟨p1,p8⟩:=qD0 h3
     obtain⟨q1,q8⟩:=qD0 h4
     obtain⟨r1,r3⟩:=qD0 h1
     cases h5:(c.window%c.panes==0)
     all_goals
      go_enter Tryz.func114,Tryz.ntmps114
      go_wp2_with (first | (go_at_call 45;refine(qAh _ _ _ _).mono ?_;rintro e w' ⟨rfl,rfl⟩))
      refine(qFf c _).mono ?_
      rintro e w1 ⟨rfl,hk⟩
      have hB:Blk w1 w.heap.size c.cells 32:=(Blk.new w c.cells 32).keeps hk (λh=>h)
      have HK:=hide (((Keeps.refl _ _).alloc _).then hk)
      have c5:w1.cell? ⟨w.heap.size,5,none⟩=some (.int .i64 c.window):=hB.cell rfl
      have c7:w1.cell? ⟨w.heap.size,7,none⟩=some (.int .i64 c.rows):=hB.cell rfl
      have c9:w1.cell? ⟨w.heap.size,9,none⟩=some (.int .i64 c.panes):=hB.cell rfl
      have c14:w1.cell? ⟨w.heap.size,14,none⟩=some (.int .i64 c.s00):=hB.cell rfl
      have c15:w1.cell? ⟨w.heap.size,15,none⟩=some (.int .i64 c.s01):=hB.cell rfl
      have c16:w1.cell? ⟨w.heap.size,16,none⟩=some (.int .i64 c.s10):=hB.cell rfl
      have c17:w1.cell? ⟨w.heap.size,17,none⟩=some (.int .i64 c.s11):=hB.cell rfl
      have c18:w1.cell? ⟨w.heap.size,18,none⟩=some (.int .i64 c.s20):=hB.cell rfl
      have c19:w1.cell? ⟨w.heap.size,19,none⟩=some (.int .i64 c.s21):=hB.cell rfl
      clear hk hB
      go_wp2_with fail
     ·go_ret
      exact⟨qA8 (by rw[uh HC,h1,h2,h3,h4,h5];rfl),uh HK⟩
     ·refine(qJc c c.rows _ (by omega) (by omega)).mono ?_
      rintro e w2 ⟨rfl,hk2⟩
      go_wp2
      go_ret
      exact⟨qA8 (by rw[uh HC,h1,h2,h3,h4,h5];rfl),(uh HK).then hk2⟩
end
end Go.Proofs.YtahnliehdjncdabGreatDoor
