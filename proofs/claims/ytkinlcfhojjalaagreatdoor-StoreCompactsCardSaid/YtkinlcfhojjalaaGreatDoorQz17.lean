import Derived.Deep.DeepAppendRoom
import Derived.Laws.IdiomCopy
import Derived.Test.YtkinlcfhojjalaaGreatDoorQz16
set_option maxHeartbeats 6400000
set_option maxRecDepth 100000
set_option linter.all false
namespace Go.Proofs.YtkinlcfhojjalaaGreatDoor
open Go.RowKit Go.Deep Go.Maps
theorem jj8(g o j:Nat):((⟨g,o,none⟩:Addr).add j)=⟨g,o+j,none⟩:=by unfold Addr.add;split<;>simp_all
theorem je2(b:Nat)(t:TypeId):∀(vs:List Value) (o:Nat) (w:World) (cs:Array Value),w.heap[b]? =some (.cells cs t (0,0))->∃cs',(w.setCells b o vs).heap[b]? =some (.cells cs' t (0,0))/\cs'.size=cs.size/\∀i,i<o->cs'[i]? =cs[i]?
 |[],_,_,cs,h=>⟨cs,h,rfl,fun _ _=>rfl⟩
 |v::vs,o,w,cs,h=>by
  obtain⟨cs',h1,h2,h3⟩:=je2 b t vs (o+1) (w.setCell ⟨b,o,none⟩ v) (cs.setIfInBounds o v) (heap_setCell_same w b o _ _ v h);refine⟨cs',h1,by rw[h2,Array.size_setIfInBounds],fun i hi=> ?_⟩;rw[h3 i zv,Array.getElem?_setIfInBounds_ne zv]
theorem jbp(b:Nat):∀(vs:List Value) (o:Nat) (w:World),w.grownBy (w.setCells b o vs) (some b)
 |[],_,w=>⟨rfl,rfl,rfl,zl,fun _ _ _=>rfl⟩
 |v::vs,o,w=>jam (jad w b o v) (jbp b vs (o+1) (w.setCell ⟨b,o,none⟩ v))
theorem rc_zero:∀w,(zeroValue 56).run Tryz.prog w= .ok (.agg (Rc.cells Rc.none_)) w:=(zero_of_info (n:=18) zk).1
theorem jq6(w:World)(ty:TypeId)(b o c:Nat)(hc:∀j,j<18->(w.cell? ⟨b,o+j,none⟩).isSome=true)(hf:∀j,j<18->w.frozen? ⟨b,o+j,none⟩=false):
  (Builtin.clear_ #[22] ty #[.slice (some ⟨b,o,none⟩) 1 c]).run Tryz.prog w= .ok (.tuple #[]) (w.setCells b o (Rc.cells Rc.none_).toList):=by
 have hzc:(Builtin.zeroCells (Value.agg (#[zi,zi,zi,zi,zi,.string ⟨#[]⟩,zi,zi,zi,zi,zi,zi,zi,zi,zi,zi,zi,zi])).cells 1).toList=(Rc.cells Rc.none_).toList:=by kernel_rfl
 have hst:=run_storeCells_cells (P:=Tryz.prog) b o (Rc.cells Rc.none_).toList 0 w (by simpa[Rc.cells]using hc) (by simpa[Rc.cells]using hf) (fun v hv=>Bk.rcC_one Rc.none_ v hv);simp only[Nat.add_zero]at hst;simp[Builtin.clear_,run_underlying Tryz.underlying22,rc_zero,hzc,hst]
theorem ju2(W:World)(B g c:Nat)(l:List Rc.R)(hown:OwF Bk.rcC 18 56 W B (.slice (some ⟨g,0,none⟩) 24 c) l):Calls Tryz.prog 234 #[.slice (some ⟨g,0,none⟩) 24 c,zi,.int .i64 1] W (fun e w'=>e= .returned (.slice (some ⟨g,0,none⟩) 23 c)/\OwF Bk.rcC 18 56 w' B (.slice (some ⟨g,0,none⟩) 23 c) l.tail/\W.grownBy w' (some g)):=by
 obtain⟨hl1,hl2,hl3⟩:=hown.len;obtain⟨i0,hi0,hz0,hz1,hz2⟩:=info_parts ja0;obtain⟨x,hx⟩:∃x,l=x::l.tail:=by
  cases l with
  |nil=>rw[List.length_nil]at hl1;omega
  |cons x l=>exact⟨x,rfl⟩
 have htl:l.tail.length=23:=by rw[List.length_tail];omega
 have hsl:=hown.sl;have TL:Hid ((l.tail.flatMap Bk.rcC).length=23*18):=by show _=_;rw[jim Bk.rcC_len,htl]
 have RD:Hid (∀j u,(l.tail.flatMap Bk.rcC)[j]? =some u->W.drew.cell? ((⟨g,18,none⟩:Addr).add j)=some u):=fun j u hu=>by
  obtain⟨b,o,e,hb,hr⟩:=hsl.rd zv;injection e with e
  injection e with e1 e2
  subst e1 e2;have h1:=hr (18+j) u (by
   rw[hx,List.flatMap_cons,List.getElem?_append_right (by rw[Bk.rcC_len];omega),Bk.rcC_len,show 18+j -18=j by omega];exact hu)
  have h2:((⟨g,18,none⟩:Addr).add j)=⟨g,18+j,none⟩:=jj8 g 18 j;rw[h2];rw[Nat.zero_add]at h1;exact h1
 have ON:Hid (∀u∈l.tail.flatMap Bk.rcC,u.oneCell'=true):=fun u hu=>by
  obtain⟨r,_,hr⟩:=List.mem_flatMap.1 hu;exact Bk.rcC_one r u hr
 have OE:Hid (W.drew.ownsRow B 56 18 (.slice (some ⟨g,0,none⟩) 0 c) 0 []):=by
  rcases hown.2 with⟨h,_⟩|⟨g',c',cur,h,hbg,hh,h1,h2,h3,h4⟩
  ·cases h
  ·injection h with e1 e2 e3
   injection e1 with e1
   injection e1 with e1 _
   subst e1 e3;exact⟨rfl,.inr ⟨g,c,cur,rfl,hbg,hh,Nat.zero_le _,h2,h3,by simp⟩⟩
 have hcm:(c:Int)<=9223372036854775807:=by unfold maxLen at hl3;omega
 have hc24:(24:Int)<=(c:Int):=by omega
 have hc1:24<=c:=hl2;have hcn1:¬(c=1):=by omega
 have hcn2:¬(c=23):=by omega
 have hcn3:¬(c<=23):=by omega
 have HTL:=zh htl;clear hl1 hl2 hl3 hx hsl hown htl hz0 hz2;go_in;go_upto_region 5 with fail
 refine wp_region_held_drew (S:=fun _=>True) zk trivial (fun hS=> ?_);refine tY 0 hS ?_;refine tY 1 hS ?_;refine tY 2 hS ?_;refine tY 3 hS ?_;refine tY 4 hS ?_;refine tY 5 hS ?_;simp only[Act.put,zT,zO,zS];refine rO 6 (fun K hK=> ?_);refine wp_append_own_spare _ (.tmp 22) (.tmp 25) 22 rfl B 56 i0 18 Tryz.underlying22 hi0 hz1 g 0 c [] rfl OE.o ⟨g,18,none⟩ 23 (c -1) (l.tail.flatMap Bk.rcC) rfl TL.o RD.o ON.o zv ?_;intro w2 ho2 hg2;have O2:=zh ho2;have G2:=zh (jam (show W.grownBy W.drew (some g)from⟨rfl,rfl,rfl,zl,fun _ _ _=>rfl⟩) hg2);have hS2:True:=trivial;clear hS ho2 hg2;have hS:=hS2;clear hS2;refine hK.out _ _ hS (fun _=> ?_);clear hK K;refine tY 7 hS ?_;simp only[Act.put,zT,zO,zS];refine wpAnyH_done zk ?_ _;clear hS;have hsz:∃cur,w2.heap[g]? =some (.cells cur 56 (0,0))/\cur.size=c*18/\B<=g/\c<=maxLen/\cur.toList.take (23*18)=l.tail.flatMap Bk.rcC:=by
  rcases O2.o.2 with⟨h,_⟩|⟨g',c',cur,h,hbg,hh,h1,h2,h3,h4⟩
  ·cases h
  ·injection h with e1 e2 e3
   injection e1 with e1
   injection e1 with e1 _
   subst e1 e3;exact⟨cur,hh,h3,hbg,h2,by simpa using h4⟩
 obtain⟨cur,k1,k2,k3,k4,k5⟩:=hsz;have hclr:=fun ty=>jq6 w2 ty g 414 (c -23) (fun j hj=>by rw[cell_of_row w2 g _ _ _ _ k1,Array.getElem?_eq_getElem zv];rfl) (fun j _=>frozen_of_row w2 g _ _ _ k1);have G3:=zh (jam G2.o (jbp g (Rc.cells Rc.none_).toList 414 w2));have O3:Hid (OwF Bk.rcC 18 56 (w2.setCells g 414 (Rc.cells Rc.none_).toList) B (.slice (some ⟨g,0,none⟩) 23 c) l.tail):=by
  obtain⟨cur',m1,m2,m3⟩:=je2 g 56 (Rc.cells Rc.none_).toList 414 w2 cur k1;have e:l.tail.length=23:=HTL.o;show World.ownsRow _ _ _ _ _ _ _;rw[e];refine⟨TL.o,.inr ⟨g,c,cur',rfl,k3,m1,zv,k4,by rw[m2,k2],?_⟩⟩;rw[<-k5];refine List.ext_getElem? fun i=> ?_;rw[List.getElem?_take,List.getElem?_take];split
  ·have:=m3 i zv
   simpa using this
  ·rfl
 clear O2 G2 k1 k2 k3 k4 k5;go_wp2;go_ret;exact⟨rfl,O3.o,G3.o⟩
structure RdC(w0:World)(q:Nat)(s:Bk.St)(ru:Nat->Bk.Un)(rv:Int)(lo ko:Option Nat)(H:Value)(K:Kv.St)(g:Nat)(r:Rc.R)(W:World):Prop where
 bd:BdIs W q s ru rv lo ko H K
 rc:RcAt W g r
 b:zF w0 W
section
variable{w0 W W':World}{q g:Nat}{s:Bk.St}{ru:Nat->Bk.Un}{rv:Int}{lo ko:Option Nat}{H:Value}{K:Kv.St}{r:Rc.R}
theorem RdC.on(h:RdC w0 q s ru rv lo ko H K g r W)(hb:zF W W'):RdC w0 q s ru rv lo ko H K g r W':=⟨h.bd.on hb,h.rc.on hb,h.b.trans (hb.mono h.b.size)⟩
theorem RdC.open_(h:BdIs w0 q s ru rv lo ko H K)(r:Rc.R):RdC w0 q s ru rv lo ko H K w0.heap.size r (w0.alloc (.cells (Rc.cells r) 56)):=by
 have hb:zF w0 (w0.alloc (.cells (Rc.cells r) 56)):=zE;exact⟨h.on hb,RcAt.new _ _,hb⟩
end
theorem Ph.of_small(t:ByteArray):i64P (Ph.of t):=by
 have:=Ph.place_le t;unfold Ph.of i64P;split<;>omega
theorem zz12{p:Prop}(h:p:=by
 clear hx hl
 go_wp2_with(first
 |(go_at_call 177;refine(CH.o _ R0.o).mono ?_;rintro e w1 ⟨rfl,hb⟩;have R1:=zh (R0.o.on hb);clear hb c3;have lq:=R1.o.bd.lt.1)
 |(go_at_call 178;refine(CL.o _ R1.o).mono ?_;rintro e w2 ⟨rfl,hw⟩;obtain rfl:=hw))
 go_ret;exact⟨rfl,R1.o.b⟩):p:=h
theorem jq7(q:Nat)(s:Bk.St)(ru:Nat->Bk.Un)(rv:Int)(lo ko:Option Nat)(H:Value)(K:Kv.St)(w:World)(h:BdIs w q s ru rv lo ko H K)(ht:BT w)(r:Rc.R)(hin:Rc.In r):Calls Tryz.prog 117 #[.pointer (some ⟨q,0,none⟩),.agg (Rc.cells r)] w (BRet (.int .i64 (Bk.chk2 s r)) w):=by
 obtain⟨ans,hans⟩:∃ans,ans=Bk.chk2 s r:=zx;rw[<-hans];have AN:=zh hans;clear hans;have HT:=zh ht;obtain⟨W,hW⟩:∃W,W=w.alloc (.cells (Rc.cells r) 56):=zx;obtain⟨g,hg⟩:∃g,g=w.heap.size:=zx;have R0:=zh (RdC.open_ h r);rw[<-hW,<-hg]at R0;have GE:Hid (w.heap.size<=g):=Nat.le_of_eq hg.symm;have HI:=zh (hin.nums r.n (by simp[Rc.nums]));have CH:Hid (∀W,RdC w q s ru rv lo ko H K g r W->Calls Tryz.prog 177 #[.pointer (some ⟨q,0,none⟩),.int .i64 r.n] W (BRet (.bool (Bk.has s.vs r.n)) W)):=fun W h=>jm2 q s ru rv lo ko H K W h.bd (HT.o.on h.b) r.n HI.o;have CL:Hid (∀W,RdC w q s ru rv lo ko H K g r W->Calls Tryz.prog 178 #[.pointer (some ⟨q,2,none⟩)] W (fun e w'=>e= .returned (.int .i64 (s.vs.length:Nat))/\w'=W)):=fun W h=>by
  have:=jjy W _ ko K h.bd.kvIs.ask;rw[h.bd.dg.len]at this;exact this
 clear h ht;go_in;go_upto_region 1 with fail
 rw[<-hW,<-hg];clear hW hg;have c3:=R0.o.rc.cs.c3
 cases hx:Bk.has s.vs r.n with
 |true=>
  have E:ans=6:=AN.o.trans (if_pos hx);subst E;rw[hx]at CH;clear hx;go_wp2_with(go_at_call 177;refine(CH.o _ R0.o).mono ?_;rintro e w1 ⟨rfl,hb⟩;have R1:=zh (R0.o.on hb);clear hb c3;have lq:=R1.o.bd.lt.1);go_ret;exact⟨rfl,R1.o.b⟩
 |false=>
  rw[hx]at CH;by_cases hl:64<=s.vs.length
  ·have E:ans=4:=by rw[AN.o];unfold Bk.chk2;rw[if_neg (by rw[hx];simp),if_pos hl]
   subst E;have hl2:(64:Int)<=(s.vs.length:Nat):=by omega
   exact zz12
  ·have E:ans=0:=by rw[AN.o];unfold Bk.chk2;rw[if_neg (by rw[hx];simp),if_neg hl]
   subst E;have hl2:¬(64:Int)<=(s.vs.length:Nat):=by omega
   exact zz12
theorem jq8(q:Nat)(s:Bk.St)(ru:Nat->Bk.Un)(rv:Int)(lo ko:Option Nat)(H:Value)(K:Kv.St)(w:World)(h:BdIs w q s ru rv lo ko H K)(ht:BT w)(r:Rc.R)(hin:Rc.In r):Calls Tryz.prog 119 #[.pointer (some ⟨q,0,none⟩),.agg (Rc.cells r)] w (BRet (.int .i64 (Bk.chk3 s r)) w):=by
 obtain⟨ans,hans⟩:∃ans,ans=Bk.chk3 s r:=zx;rw[<-hans];have AN:=zh hans;clear hans;have HT:=zh ht;obtain⟨W,hW⟩:∃W,W=w.alloc (.cells (Rc.cells r) 56):=zx;obtain⟨g,hg⟩:∃g,g=w.heap.size:=zx;have R0:=zh (RdC.open_ h r);rw[<-hW,<-hg]at R0;have GE:Hid (w.heap.size<=g):=Nat.le_of_eq hg.symm;have HI:=zh (hin.sp r.sp.v (by simp[Spc.flds]));have CH:Hid (∀W,RdC w q s ru rv lo ko H K g r W->Calls Tryz.prog 177 #[.pointer (some ⟨q,0,none⟩),.int .i64 r.sp.v] W (BRet (.bool (Bk.has s.vs r.sp.v)) W)):=fun W h=>jm2 q s ru rv lo ko H K W h.bd (HT.o.on h.b) r.sp.v HI.o;have CO:=zh (fun W=>jq5 s.ph W);clear h ht;go_in;go_upto_region 1 with fail
 rw[<-hW,<-hg];clear hW hg;have b9:=R0.o.bd.at_.cs.c9;have lq:=R0.o.bd.lt.1
 cases hx:Ph.open_ s.ph with
 |true=>
  have E:ans=10:=AN.o.trans (if_pos hx);subst E;rw[hx]at CO;clear hx;go_wp2_with(go_at_call 180;refine(CO.o _).mono ?_;rintro e w1 ⟨rfl,hb⟩;have R1:=zh (R0.o.on hb);clear hb b9;have c6:=R1.o.rc.cs.c6;have lq:=R1.o.bd.lt.1);go_ret;exact⟨rfl,R1.o.b⟩
 |false=>
  rw[hx]at CO
  cases hy:Bk.has s.vs r.sp.v with
  |false=>
   have E:ans=5:=by rw[AN.o];unfold Bk.chk3;rw[if_neg (by rw[hx];simp),if_pos hy]
   subst E;rw[hy]at CH;clear hx hy
   go_wp2_with(first
   |(go_at_call 180;refine(CO.o _).mono ?_;rintro e w1 ⟨rfl,hb⟩;have R1:=zh (R0.o.on hb);clear hb b9;have c6:=R1.o.rc.cs.c6;have lq:=R1.o.bd.lt.1)
   |(go_at_call 177;refine(CH.o _ R1.o).mono ?_;rintro e w2 ⟨rfl,hb⟩;have R2:=zh (R1.o.on hb);clear hb c6;have c6:=R2.o.rc.cs.c6;have b7:=R2.o.bd.at_.cs.c7;have lq:=R2.o.bd.lt.1))
   go_ret;exact⟨rfl,R2.o.b⟩
  |true=>
   rw[hy]at CH;go_upto_region 5 with(first
   |(go_at_call 180;refine(CO.o _).mono ?_;rintro e w1 ⟨rfl,hb⟩;have R1:=zh (R0.o.on hb);clear hb b9;have c6:=R1.o.rc.cs.c6;have lq:=R1.o.bd.lt.1)
   |(go_at_call 177;refine(CH.o _ R1.o).mono ?_;rintro e w2 ⟨rfl,hb⟩;have R2:=zh (R1.o.on hb);clear hb c6;have c6:=R2.o.rc.cs.c6;have b7:=R2.o.bd.at_.cs.c7;have lq:=R2.o.bd.lt.1))
   by_cases hz:r.sp.v=s.stable
   ·have E:ans=6:=by rw[AN.o];unfold Bk.chk3;rw[if_neg (by rw[hx];simp),if_neg (by rw[hy];simp),if_pos hz]
    subst E;have hz2:(r.sp.v==s.stable)=true:=by simpa using hz
    clear hx hy hz;go_region;go_wp2;go_ret;exact⟨rfl,R2.o.b.drew⟩
   ·have E:ans=0:=by rw[AN.o];unfold Bk.chk3;rw[if_neg (by rw[hx];simp),if_neg (by rw[hy];simp),if_neg hz]
    subst E;have hz2:(r.sp.v==s.stable)=false:=by simpa using hz
    clear hx hy hz;go_region;go_wp2;go_ret;exact⟨rfl,R2.o.b.drew⟩
theorem zz19{p:Prop}(h:p:=by
 go_wp2_with(go_at_call 182;refine(CF.o _ R0.o).mono ?_;rintro e w1 ⟨rfl,hb⟩;have R1:=zh (R0.o.on hb);clear hb c5;have b9:=R1.o.bd.at_.cs.c9;have lq:=R1.o.bd.lt.1);go_ret;exact⟨rfl,R1.o.b⟩):p:=h
theorem jq9(q:Nat)(s:Bk.St)(ru:Nat->Bk.Un)(rv:Int)(lo ko:Option Nat)(H:Value)(K:Kv.St)(w:World)(h:BdIs w q s ru rv lo ko H K)(ht:BT w)(r:Rc.R)(hin:Rc.In r):Calls Tryz.prog 121 #[.pointer (some ⟨q,0,none⟩),.agg (Rc.cells r)] w (BRet (.int .i64 (Bk.chk4 s r)) w):=by
 obtain⟨ans,hans⟩:∃ans,ans=Bk.chk4 s r:=zx;rw[<-hans];have AN:=zh hans;clear hans;have HT:=zh ht;obtain⟨W,hW⟩:∃W,W=w.alloc (.cells (Rc.cells r) 56):=zx;obtain⟨g,hg⟩:∃g,g=w.heap.size:=zx;have R0:=zh (RdC.open_ h r);rw[<-hW,<-hg]at R0;have GE:Hid (w.heap.size<=g):=Nat.le_of_eq hg.symm;obtain⟨ev,hev⟩:∃ev,ev=Ph.of r.text:=zx;obtain⟨ok,hok⟩:∃ok,ok=Ph.isWord r.text:=zx;obtain⟨nx,hnx⟩:∃nx,nx=Ph.next s.ph ev:=zx;obtain⟨dd,hdd⟩:∃dd,dd=Ph.did s.ph ev:=zx;have HA:Hid (Bk.chk4 s r=if ok=false\/ev=0\/ev=3 then 2 else if dd=false\/nx≠r.n then 10 else 0):=by show _=_;rw[hok,hdd,hnx,hev];rfl
 have PHS:Hid (i64P s.ph):=by have:=h.lok.ok.ph;exact jq3 zv
 have CF:Hid (∀W,RdC w q s ru rv lo ko H K g r W->Calls Tryz.prog 182 #[.string r.text] W (jfr W (.int .i64 ev) (.bool ok))):=fun W h=>by rw[hev,hok];exact pof_any r.text W (HT.o.on h.b).ph
 have CN:Hid (∀W,RdC w q s ru rv lo ko H K g r W->Calls Tryz.prog 183 #[.int .i64 s.ph,.int .i64 ev] W (jfr W (.int .i64 nx) (.bool dd))):=fun W h=>by rw[hnx,hdd];exact jq2 s.ph ev PHS.o (by rw[hev];exact Ph.of_small _) W (HT.o.on h.b).ph
 clear hev hok hnx hdd;clear h ht;go_in;go_upto_region 1 with fail
 rw[<-hW,<-hg];clear hW hg;have AE:=zh (AN.o.trans HA.o);clear HA AN;have HA:=AE;clear AE;have c5:=R0.o.rc.cs.c5
 cases ok with
 |false=>
  obtain rfl:=HA.o.trans (if_pos (.inl rfl));clear HA;exact zz19
 |true=>
  by_cases h0:ev=0
  ·obtain rfl:=HA.o.trans (if_pos (.inr (.inl h0)))
   have h02:(ev==0)=true:=by simpa using h0
   clear HA h0;exact zz19
  ·have h02:(ev==0)=false:=by simpa using h0
   by_cases h3:ev=3
   ·obtain rfl:=HA.o.trans (if_pos (.inr (.inr h3)))
    have h32:(ev==3)=true:=by simpa using h3
    clear HA h0 h3;exact zz19
   ·have h32:(ev==3)=false:=by simpa using h3
    have HB:=zh (HA.o.trans (if_neg (by rintro(h|h|h);cases h;exact h0 h;exact h3 h)));clear HA;have HA:=HB;clear HB
    cases dd with
    |false=>
     obtain rfl:=HA.o.trans (if_pos (.inl rfl));clear HA h0 h3
     go_wp2_with(first
   |(go_at_call 182;refine(CF.o _ R0.o).mono ?_;rintro e w1 ⟨rfl,hb⟩;have R1:=zh (R0.o.on hb);clear hb c5;have b9:=R1.o.bd.at_.cs.c9;have lq:=R1.o.bd.lt.1)
   |(go_at_call 183;refine(CN.o _ R1.o).mono ?_;rintro e w2 ⟨rfl,hb⟩;have R2:=zh (R1.o.on hb);clear hb b9;have c3:=R2.o.rc.cs.c3;have lq:=R2.o.bd.lt.1))
     go_ret;exact⟨rfl,R2.o.b⟩
    |true=>
     by_cases hn:nx=r.n
     ·obtain rfl:=HA.o.trans (if_neg (by rintro(h|h);cases h;exact h hn))
      have hn2:(nx !=r.n)=false:=by simpa using hn
      clear HA h0 h3 hn
      go_wp2_with(first
   |(go_at_call 182;refine(CF.o _ R0.o).mono ?_;rintro e w1 ⟨rfl,hb⟩;have R1:=zh (R0.o.on hb);clear hb c5;have b9:=R1.o.bd.at_.cs.c9;have lq:=R1.o.bd.lt.1)
   |(go_at_call 183;refine(CN.o _ R1.o).mono ?_;rintro e w2 ⟨rfl,hb⟩;have R2:=zh (R1.o.on hb);clear hb b9;have c3:=R2.o.rc.cs.c3;have lq:=R2.o.bd.lt.1))
      go_ret;exact⟨rfl,R2.o.b⟩
     ·obtain rfl:=HA.o.trans (if_pos (.inr hn))
      have hn2:(nx !=r.n)=true:=by simpa using hn
      clear HA h0 h3 hn
      go_wp2_with(first
   |(go_at_call 182;refine(CF.o _ R0.o).mono ?_;rintro e w1 ⟨rfl,hb⟩;have R1:=zh (R0.o.on hb);clear hb c5;have b9:=R1.o.bd.at_.cs.c9;have lq:=R1.o.bd.lt.1)
   |(go_at_call 183;refine(CN.o _ R1.o).mono ?_;rintro e w2 ⟨rfl,hb⟩;have R2:=zh (R1.o.on hb);clear hb b9;have c3:=R2.o.rc.cs.c3;have lq:=R2.o.bd.lt.1))
      go_ret;exact⟨rfl,R2.o.b⟩
theorem jax{a:Act}{oi:Oper}(x:Operand)(ho:oi.op= .load 56 x)(g:Nat)(r:Rc.R)(hx:a.eval x= .pointer (some ⟨g,0,none⟩)){W:World}(h:RcAt W g r):(execOp a.eval oi).run Tryz.prog W= .ok (.value (.agg (Rc.cells r))) W:=by
 unfold execOp;simp only[ho,hx,Instr.loadAt,Instr.sureAddr,Sem.run_bind,Sem.run_pure,Result.andThen_ok,run_loadVar_row (P:=Tryz.prog) W g 56 56 (Rc.cells r) (0,0) _ h.row jag rfl (jak r)]
section
variable{o:Oper}{a:Act}{w:World}{K:Act->World->Prop}{Q:Exit->Act->World->Prop}
theorem jcq{P:Program}{sl e:TypeId}{z:Value}{k by_:Nat}(hsl:P.underlying sl=some (.slice e))(hi0:(P.info? e).map (fun i=>(i.zero,i.size,i.bytes))=some (some z,k,by_))(hK0:0<k)(hK1:k<=1000)
  (x:Operand) (ho:o.op= .buildSlice sl 1 #[(0,x)]) (cs:Array Value) (hx:a.eval x= .agg cs) (hl:cs.size=k)
  (h:K (a.put o.dst (.slice (some ⟨w.heap.size,0,none⟩) 1 1)) (w.alloc (.cells cs e))):Oper.wp P o a w K Q:=by
 obtain⟨i0,hi,hz0,hz1,hz2⟩:=info_parts hi0;refine wp_buildSlice sl e 1 #[(0,x)] ho cs i0 z hsl hi hz0 (by rw[hz1];omega) (by rw[hz1];omega) ?_ h;have:=Great.fill_whole (s:=k) hK0 [.agg cs] ((Array.range (1*k)).map (z.cells[· %z.cells.size]!)) (fun v hv=>by rw[List.mem_singleton.1 hv];exact hl) (by simp);rw[hz1];simp only[List.zipIdx_cons,List.zipIdx_nil,List.map_cons,List.map_nil,List.flatMap_cons,List.flatMap_nil,List.append_nil]at this;simp only[List.map_toArray,List.map_cons,List.map_nil,hx];rw[this];rfl
theorem jce(s x:Operand)(ho:o.op= .call {callee:= .builtin .append,args:=#[s,x],argTypes:=#[22,22]})(base:Nat)(v:Value)(ts:List Rc.R)(hs:a.eval s=v)(hown:OwF Bk.rcC 18 56 w base v ts)
  (m:Nat) (t:Rc.R) (hx:a.eval x= .slice (some ⟨m,0,none⟩) 1 1) (ht:RcAt w m t) (hlen:ts.length<=1000) (hB:base<=w.heap.size)
  (h:∀v' w',OwF Bk.rcC 18 56 w' base v' (ts++[t])->w.grownBy w' v.ownBlock->(v'.ownBlock=v.ownBlock\/v'.ownBlock=some w.heap.size)->K (a.put o.dst v') w'):Oper.wp Tryz.prog o a w K Q:=by
 obtain⟨i0,hi,hz0,hz1,hz2⟩:=info_parts ja0;obtain⟨v',w',hr,h2,h3,h4,h5⟩:=run_append_own_at (P:=Tryz.prog) w base 22 o.type 56 i0 _ 18 152 Tryz.underlying22 hi hz0 hz1 hz2 rfl zv v ts.length _ hown ⟨m,0,none⟩ 1 1 (Bk.rcC t) (Bk.rcC_len t) (fun j u hu=>by
  rw[jj8,Nat.zero_add,cell_of_row w m j _ _ _ ht.row];rw[<-hu];unfold Bk.rcC;simp) (Bk.rcC_one t) (by unfold maxLen;omega) zv hB
 unfold Oper.wp execOp;simp only[ho,resolve,invoke,builtin,Sem.run_bind,Sem.run_pure,Result.andThen_ok,List.map_toArray,List.map_cons,List.map_nil,hs,hx,hr];refine h v' w' ?_ h3 h5;unfold OwF;rw[zA,List.flatMap_append];simpa using h2
end
def jb4(q:Nat)(s:Bk.St)(ru:Nat->Bk.Un)(rv:Int)(lm km H:Value)(r:Rc.R)(W:World)(e:Ending)(w':World):Prop:=
 ∃H',e= .returned (.tuple #[])/\BdAt w' q {s with h:=Bk.last24 (s.h++[r])} ru rv lm km H'/\OwF Bk.rcC 18 56 w' 0 H' (Bk.last24 (s.h++[r]))/\Kept (fun i=>i=q\/H.ownBlock=some i) W w'/\∀m,H'.ownBlock=some m->H.ownBlock=some m\/W.heap.size<=m
theorem jra{l:List Rc.R}{r:Rc.R}(h:l.length=24):Bk.last24 (l++[r])=l.tail++[r]:=by
 unfold Bk.last24;rw[zA,List.length_singleton,h]
 cases l with
 |nil=>simp at h
 |cons x l=>rfl
theorem jrb{l:List Rc.R}{r:Rc.R}(h:l.length<=23):Bk.last24 (l++[r])=l++[r]:=by
 unfold Bk.last24;rw[zA,List.length_singleton,show l.length+1 -24=0 by omega];rfl
theorem zz0{p:Prop}(h:p:=by
 refine wp_region_held_drew (S:=fun W=>RcAt W g r) zk (RC3.o.on (Below.refl W3.heap.size W3).drew) (fun hS=> ?_);refine tY 0 hS ?_;refine tY 1 hS ?_;refine tY 2 hS ?_;refine tY 3 hS ?_;refine tZ 5 (v:= .agg (Rc.cells r)) rfl (fun W hW=>jax (.tmp 3) rfl g r rfl hW) hS ?_;simp only[Act.put,zT,zO,zS];refine jgn 4 6 rfl rfl zk rfl rfl (fun K hK=> ?_) (fun K hK=> ?_)
 ·go_simp
  refine hK.out _ _ hS (fun _=> ?_);clear hK K;try simp only[Act.put,zT,zO,zS]
  refine rO 6 (fun K hK=> ?_);refine jcq Tryz.underlying22 ja0 zv zv (.tmp 23) rfl (Rc.cells r) rfl rfl ?_;have hb5:Below W3.drew.heap.size W3.drew (W3.drew.alloc (.cells (Rc.cells r) 56)):=zE;have R5:Hid (RcAt (W3.drew.alloc (.cells (Rc.cells r) 56)) W3.drew.heap.size r):=RcAt.new _ _;have A5:=zh ((A3.o.on (w':=W3.drew) (Below.refl W3.heap.size W3).drew).on hb5);have O5:=zh ((O3.o.below (w':=W3.drew) (Below.refl W3.heap.size W3).drew).below hb5);have K5:=zh (K3.o.trans (Kept.of_below (F:=fun _=>False) ((Below.refl W3.heap.size W3).drew.trans hb5)) fun _ _ h=>h.elim);have hS2:=hS.on hb5;clear hS hb5;have hS:=hS2;clear hS2;have Z5:Hid (W3.drew.heap.size<(W3.drew.alloc (.cells (Rc.cells r) 56)).heap.size):=R5.o.cs.lt;generalize W3.drew.alloc (.cells (Rc.cells r) 56)=W5 at*;generalize W3.drew.heap.size=m5 at*;refine hK.out _ _ hS (fun _=> ?_);clear hK K;try simp only[Act.put,zT,zO,zS]
  refine rO 7 (fun K hK=> ?_);refine jce (.tmp 22) (.tmp 24) rfl 0 H3 l3 rfl O5.o m5 r rfl R5.o (by have:=L3.o;omega) (Nat.zero_le _) ?_;intro v6 w6 ho6 hg6 hv6;have O6:=zh ho6;have A6:=zh (A5.o.keep (hg6.block q A5.o.lt (fun e=>NQ.o e.symm)));have K6:=zh (K5.o.trans (G:=fun i=>H3.ownBlock=some i) (Kept.of_grown hg6 fun k hk=>hk) fun i hi h=>HO.o i hi h);have V6:Hid (∀m,v6.ownBlock=some m->H.ownBlock=some m\/W.heap.size<=m):=fun m hm=>by
   rcases hv6 with e|e
   ·rw[e]at hm
    by_cases hlt:m<W.heap.size
    ·exact(HO.o m hlt hm).elim (fun e=>absurd (e▸hm) (fun h=>NQ.o h)) .inl
    ·exact .inr zv
   ·rw[e]at hm
    injection hm with hm
    have:=K5.o.size;exact .inr zv
  have NV:Hid (v6.ownBlock≠some q):=fun e=>by
   rcases hv6 with h|h
   ·exact NQ.o (h▸e)
   ·rw[h]at e
    injection e with e
    have:=A5.o.lt;omega
  obtain⟨A6v,c6v,hf6⟩:=ho6.form;generalize(l3++[r]).length=n6v at hf6;subst hf6;have hS2:RcAt w6 g r:=⟨(hg6.block g hS.cs.lt (fun e=>NG.o e.symm)).trans hS.row⟩;clear hS ho6 hg6 hv6;have hS:=hS2;clear hS2;have b74:=A6.o.cs.c74;have fz:=fun i=>A6.o.fz i;have lq:=A6.o.lt;refine hK.out _ _ hS (fun _=> ?_);clear hK K;refine tY 8 hS ?_;refine tY 9 hS ?_;simp only[Act.put,zT,zO,zS];refine rO 10 (fun K hK=> ?_);go_simp;have hS2:RcAt (w6.setCell ⟨q,74,none⟩ (.slice A6v n6v c6v)) g r:=⟨(heap_setCell_other _ _ _ _ (fun e=>GQ.o e)).trans hS.row⟩;have A7:=zh (A6.o.hs (.slice A6v n6v c6v) (l3++[r]));have O7:=zh (O6.o.kept (jad w6 q 74 (.slice A6v n6v c6v)) (fun e=>NV.o e));have K7:=zh (K6.o.trans (G:=fun i=>i=q) (Kept.of_grown (row:=some q) (jad w6 q 74 (.slice A6v n6v c6v)) (fun k hk=>by injection hk with hk;exact hk.symm)) fun i _ hi=> .inl hi)
  clear hS b74 fz lq;have hS:=hS2;clear hS2;refine hK.out _ _ hS (fun _=> ?_);clear hK K;try simp only[Act.put,zT,zO,zS]
  refine wpAnyH_done zk ?_ _;clear hS;go_wp2;go_end0;unfold jb4;rw[LE.o];exact⟨_,rfl,A7.o,O7.o,K7.o,V6.o⟩
 ·refine jcq Tryz.underlying22 ja0 zv zv (.tmp 23) rfl (Rc.cells r) rfl rfl ?_
  have hb5:Below W3.drew.heap.size W3.drew (W3.drew.alloc (.cells (Rc.cells r) 56)):=zE;have R5:Hid (RcAt (W3.drew.alloc (.cells (Rc.cells r) 56)) W3.drew.heap.size r):=RcAt.new _ _;have A5:=zh ((A3.o.on (w':=W3.drew) (Below.refl W3.heap.size W3).drew).on hb5);have O5:=zh ((O3.o.below (w':=W3.drew) (Below.refl W3.heap.size W3).drew).below hb5);have K5:=zh (K3.o.trans (Kept.of_below (F:=fun _=>False) ((Below.refl W3.heap.size W3).drew.trans hb5)) fun _ _ h=>h.elim);have hS2:=hS.on hb5;clear hS hb5;have hS:=hS2;clear hS2;have Z5:Hid (W3.drew.heap.size<(W3.drew.alloc (.cells (Rc.cells r) 56)).heap.size):=R5.o.cs.lt;generalize W3.drew.alloc (.cells (Rc.cells r) 56)=W5 at*;generalize W3.drew.heap.size=m5 at*;refine hK.out _ _ hS (fun _=> ?_);clear hK K;try simp only[Act.put,zT,zO,zS]
  refine rO 4 (fun K hK=> ?_);have b74:=A5.o.cs.c74;have lq:=A5.o.lt;go_simp;refine hK.out _ _ hS (fun _=> ?_);clear hK K;try simp only[Act.put,zT,zO,zS]
  refine rO 7 (fun K hK=> ?_);refine jce (.tmp 22) (.tmp 24) rfl 0 H3 l3 rfl O5.o m5 r rfl R5.o (by have:=L3.o;omega) (Nat.zero_le _) ?_;intro v6 w6 ho6 hg6 hv6;have O6:=zh ho6;have A6:=zh (A5.o.keep (hg6.block q A5.o.lt (fun e=>NQ.o e.symm)));have K6:=zh (K5.o.trans (G:=fun i=>H3.ownBlock=some i) (Kept.of_grown hg6 fun k hk=>hk) fun i hi h=>HO.o i hi h);have V6:Hid (∀m,v6.ownBlock=some m->H.ownBlock=some m\/W.heap.size<=m):=fun m hm=>by
   rcases hv6 with e|e
   ·rw[e]at hm
    by_cases hlt:m<W.heap.size
    ·exact(HO.o m hlt hm).elim (fun e=>absurd (e▸hm) (fun h=>NQ.o h)) .inl
    ·exact .inr zv
   ·rw[e]at hm
    injection hm with hm
    have:=K5.o.size;exact .inr zv
  have NV:Hid (v6.ownBlock≠some q):=fun e=>by
   rcases hv6 with h|h
   ·exact NQ.o (h▸e)
   ·rw[h]at e
    injection e with e
    have:=A5.o.lt;omega
  obtain⟨A6v,c6v,hf6⟩:=ho6.form;generalize(l3++[r]).length=n6v at hf6;subst hf6;have hS2:RcAt w6 g r:=⟨(hg6.block g hS.cs.lt (fun e=>NG.o e.symm)).trans hS.row⟩;clear hS ho6 hg6 hv6;have hS:=hS2;clear hS2;have b74:=A6.o.cs.c74;have fz:=fun i=>A6.o.fz i;have lq:=A6.o.lt;refine hK.out _ _ hS (fun _=> ?_);clear hK K;refine tY 8 hS ?_;refine tY 9 hS ?_;simp only[Act.put,zT,zO,zS];refine rO 10 (fun K hK=> ?_);go_simp;have hS2:RcAt (w6.setCell ⟨q,74,none⟩ (.slice A6v n6v c6v)) g r:=⟨(heap_setCell_other _ _ _ _ (fun e=>GQ.o e)).trans hS.row⟩;have A7:=zh (A6.o.hs (.slice A6v n6v c6v) (l3++[r]));have O7:=zh (O6.o.kept (jad w6 q 74 (.slice A6v n6v c6v)) (fun e=>NV.o e));have K7:=zh (K6.o.trans (G:=fun i=>i=q) (Kept.of_grown (row:=some q) (jad w6 q 74 (.slice A6v n6v c6v)) (fun k hk=>by injection hk with hk;exact hk.symm)) fun i _ hi=> .inl hi)
  clear hS b74 fz lq;have hS:=hS2;clear hS2;refine hK.out _ _ hS (fun _=> ?_);clear hK K;try simp only[Act.put,zT,zO,zS]
  refine wpAnyH_done zk ?_ _;clear hS;go_wp2;go_end0;unfold jb4;rw[LE.o];exact⟨_,rfl,A7.o,O7.o,K7.o,V6.o⟩):p:=h
theorem je3(q:Nat)(s:Bk.St)(ru:Nat->Bk.Un)(rv:Int)(lm km H:Value)(r:Rc.R)(W:World)(hat:BdAt W q s ru rv lm km H)(ho:OwF Bk.rcC 18 56 W 0 H s.h)(hq:H.ownBlock≠some q)(hl:s.h.length<=24):Calls Tryz.prog 181 #[.pointer (some ⟨q,0,none⟩),.agg (Rc.cells r)] W (jb4 q s ru rv lm km H r W):=by
 obtain⟨W1,hW⟩:∃W1,W1=W.alloc (.cells (Rc.cells r) 56):=zx;obtain⟨g,hg⟩:∃g,g=W.heap.size:=zx;have hb:zF W W1:=by rw[hW];exact zE
 have A1:=zh (hat.on hb);have O1:=zh (ho.below hb);have RC1:Hid (RcAt W1 g r):=by rw[hW,hg];exact RcAt.new _ _
 have NQ0:=zh hq;have HB:=zh hb;have HLT:=zh (fun m (e:H.ownBlock=some m)=>(ho.lt m e).2);have GQ:Hid (g≠q):=by have:=hat.lt;show g≠q;omega
 have GE:Hid (W.heap.size=g):=hg.symm;obtain⟨A,c,hH⟩:=ho.form;have HL:=zh hl;have HLN:=zh (show∀(n':Nat) (A':Option Addr) (c':Nat),H= .slice A' n' c'->n'=s.h.length from fun n' A' c' e=>by rw[hH]at e;injection e with _ e _;exact e.symm)
 have b74:=A1.o.cs.c74;rw[hH]at b74;have lq:=A1.o.lt;by_cases h24:s.h.length=24
 ·obtain⟨b,hA⟩:∃b,A=some ⟨b,0,none⟩:=by
   rcases ho.2 with⟨e,h0⟩|⟨g',c',cur,e,_⟩
   ·omega
   ·rw[hH]at e;injection e with e _ _;exact⟨g',e⟩
  subst hA;have hO1:=O1.o;rw[hH]at hO1;rw[h24]at b74 hO1 hH;have CD:=zh (ju2 W1 0 b c s.h hO1);have HH:=zh hH;have H24:=zh h24;clear hat ho hq hl hb hO1 hH h24;go_in;go_upto_region 1 with fail
  rw[<-hW,<-hg];clear hW hg;go_upto_region 3 with(go_at_call 234;refine CD.o.mono ?_;rintro e w2 ⟨rfl,ho2,hg2⟩;have O2:=zh ho2;have G2:=zh hg2;have A2:=zh (A1.o.keep (hg2.block q A1.o.lt (fun e=>NQ0.o (by rw[HH.o];exact e.symm))));clear ho2 hg2 b74 lq;have b74:=A2.o.cs.c74;have fz:=fun i=>A2.o.fz i;have lq:=A2.o.lt)
  obtain⟨l3,hl3⟩:∃l3,l3=s.h.tail:=zx;have LE:Hid (Bk.last24 (s.h++[r])=l3++[r]):=by show _=_;rw[hl3];exact jra H24.o
  have L3:Hid (l3.length<=23):=by show _<=_;rw[hl3,List.length_tail,H24.o];omega
  rw[<-hl3]at O2;have BQ:Hid (b≠q):=fun e=>NQ0.o (by rw[HH.o];show some b=_;rw[e]);have A3:=zh (A2.o.hs (.slice (some ⟨b,0,none⟩) 23 c) l3);have O3:=zh (O2.o.kept (jad w2 q 74 (.slice (some ⟨b,0,none⟩) 23 c)) (fun e=>BQ.o (by injection e)));have K2:=zh ((Kept.of_below (F:=fun i=>i=q\/H.ownBlock=some i) HB.o).trans (G:=fun i=>H.ownBlock=some i) (Kept.of_grown G2.o fun k hk=>by rw[HH.o];exact hk) fun i _ h=> .inr h);have K3:=zh (K2.o.trans (G:=fun i=>i=q) (Kept.of_grown (row:=some q) (jad w2 q 74 (.slice (some ⟨b,0,none⟩) 23 c)) (fun k hk=>by injection hk with hk;exact hk.symm)) fun i _ hi=> .inl hi)
  have NB:Hid (b≠g):=by have:=HLT.o b (by rw[HH.o];rfl);have:=GE.o;show b≠g;omega
  have RC3:Hid (RcAt (w2.setCell ⟨q,74,none⟩ (.slice (some ⟨b,0,none⟩) 23 c)) g r):=⟨(heap_setCell_other _ _ _ _ (fun e=>GQ.o e)).trans ((G2.o.block g RC1.o.cs.lt (fun e=>NB.o (by injection e with e;exact e.symm))).trans RC1.o.row)⟩
  have HO:Hid (∀i,i<W.heap.size->(Value.slice (some ⟨b,0,none⟩) 23 c).ownBlock=some i->i=q\/H.ownBlock=some i):=fun i _ e=> .inr (by rw[HH.o];exact e);have NQ:Hid ((Value.slice (some ⟨b,0,none⟩) 23 c).ownBlock≠some q):=fun e=>BQ.o (by injection e);have NG:Hid ((Value.slice (some ⟨b,0,none⟩) 23 c).ownBlock≠some g):=fun e=>NB.o (by injection e);clear b74 fz lq hl3;generalize hW3:w2.setCell ⟨q,74,none⟩ (.slice (some ⟨b,0,none⟩) 23 c)=W3 at*;generalize hH3:Value.slice (some ⟨b,0,none⟩) 23 c=H3 at*;have b74:=A3.o.cs.c74;have lq:=A3.o.lt;clear hW3 hH3;exact zz0
 ·obtain⟨l3,hl3⟩:∃l3,l3=s.h:=zx
  have LE:Hid (Bk.last24 (s.h++[r])=l3++[r]):=by show _=_;rw[hl3];exact jrb zv
  have L3:Hid (l3.length<=23):=by show _<=_;rw[hl3];omega
  have hn24:((s.h.length:Int)==24)=false:=by rw[zq];omega
  obtain⟨H3,hH3⟩:∃H3,H3=H:=zx;have A3:Hid (BdAt W1 q {s with h:=l3} ru rv lm km H3):=by rw[hH3,hl3];exact A1.o
  have O3:Hid (OwF Bk.rcC 18 56 W1 0 H3 l3):=by rw[hH3,hl3];exact O1.o
  clear hl3;have K3:=zh (Kept.of_below (F:=fun i=>i=q\/H.ownBlock=some i) HB.o);have RC3:=RC1;have HO:Hid (∀i,i<W.heap.size->H3.ownBlock=some i->i=q\/H.ownBlock=some i):=fun i _ e=> .inr (by rw[<-hH3];exact e);have NQ:Hid (H3.ownBlock≠some q):=by rw[hH3];exact NQ0.o
  have NG:Hid (H3.ownBlock≠some g):=fun e=>by rw[hH3]at e;have:=HLT.o g e;have:=GE.o;omega
  have b75:=A3.o.cs.c74;have HH:=zh hH;clear hat ho hq hl hb h24 hH hH3;go_in;go_upto_region 1 with fail
  rw[<-hW,<-hg];clear hW hg;go_upto_region 3 with fail
  clear b74;have b74:=b75;clear b75;clear hn24;have W3E:∃W3,W3=W1:=⟨_,rfl⟩;obtain⟨W3,hW3⟩:=W3E;subst hW3;exact zz0
namespace Bd
theorem act_lok{s:Bk.St}{r:Rc.R}(h:Lok s)(hc:Bk.chk s r=0):Lok (Bk.act s r):=by
 refine⟨Bk.act_ok h.ok hc,?_⟩;rcases Bk.kinds hc with hk|hk|hk|hk|hk|hk|hk
 ·rw[Bk.act1 hk]
  intro _;have h1:=Rc.right1 hk (Bk.chk_right hc);have h2:=h.ok.till;show 1<=Bk.leadT s r;unfold Bk.leadT Bk.late;split<;>omega
 all_goals first|(rw[Bk.act2 hk];exact h.t1)|(rw[Bk.act3 hk];exact h.t1)|(rw[Bk.act4 hk];exact h.t1)|(rw[Bk.act5 hk];exact h.t1)|(rw[Bk.act6 hk];exact h.t1)|(rw[Bk.act7 hk];exact h.t1)
end Bd
section
variable{w0 w w':World}{q g:Nat}{s s':Bk.St}{ru ru':Nat->Bk.Un}{rv:Int}{lo ko:Option Nat}{H H':Value}{K:Kv.St}{r:Rc.R}
abbrev KQ(q:Nat)(w0 w:World):Prop:=Kept (fun i=>i=q) w0 w
theorem KQ.set(h:KQ q w0 w)(k:Nat)(v:Value):KQ q w0 (w.setCell ⟨q,k,none⟩ v):=h.trans (G:=fun i=>i=q) (Kept.of_grown (row:=some q) (jad w q k v) (fun k hk=>by injection hk with hk;exact hk.symm)) fun i _ hi=>hi
theorem KQ.on(h:KQ q w0 w)(hb:zF w w'):KQ q w0 w':=h.trans (Kept.of_below (F:=fun _=>False) hb) fun _ _ h=>h.elim
theorem KQ.drew(h:KQ q w0 w):KQ q w0 w.drew:=h.on (Below.refl w.heap.size w).drew
theorem KQ.of(hb:zF w w')(q:Nat):KQ q w w':=Kept.of_below hb
theorem ja9(h:RcAt w g r)(hg:g≠q)(k:Nat)(v:Value):RcAt (w.setCell ⟨q,k,none⟩ v) g r:=⟨(heap_setCell_other w ⟨q,k,none⟩ g v hg).trans h.row⟩
theorem jg4(h:RcAt w g r):RcAt w.drew g r:=⟨h.row⟩
theorem jef{lm km:Value}(h:BdAt w q s ru rv lm km H):BdAt w.drew q s ru rv lm km H:=⟨h.row⟩
theorem BdIs.turnQ(h:BdIs w q s ru rv lo ko H K)(hk:KQ q w w')(ha:BdAt w' q s' ru' rv (.map lo) (.map ko) H)(ht:Bd.tab s'=Bd.tab s)(hv:s'.vs=s.vs)(hh:s'.h=s.h)(hr:Bd.Raw ru' s'.us)(hl:Bd.Lok s'):BdIs w' q s' ru' rv lo ko H K where
 at_:=ha
 ls:=by rw[ht];exact h.ls.keep fun m e=>hk.block m (h.lt.2.1 m e) (fun e2=>h.ql (by rw[e,e2]))
 kv:=h.kv.keep fun m e=>hk.block m (h.lt.2.2.1 m e) (fun e2=>h.qk (by rw[e,e2]))
 kg:=h.kg
 kr:=h.kr
 kb:=by rw[hv];exact h.kb
 dg:=by rw[hv];exact h.dg
 raw:=hr
 h:=by rw[hh];exact h.h.keep fun m e=>hk.block m (h.lt.2.2.2 m e) (fun e2=>h.qh (by rw[e,e2]))
 lk:=h.lk
 lok:=hl
theorem BdIs.turnH(h:BdIs w q s ru rv lo ko H K)(hk:Kept (fun i=>i=q\/H.ownBlock=some i) w w')(ha:BdAt w' q s' ru' rv (.map lo) (.map ko) H')(ho:OwF Bk.rcC 18 56 w' 0 H' s'.h)(ht:Bd.tab s'=Bd.tab s)(hv:s'.vs=s.vs)(hr:Bd.Raw ru' s'.us)(hl:Bd.Lok s'):BdIs w' q s' ru' rv lo ko H' K where
 at_:=ha
 ls:=by rw[ht];exact h.ls.keep fun m e=>hk.block m (h.lt.2.1 m e) (fun e2=>by rcases e2 with e2|e2;exact h.ql (by rw[e,e2]);exact h.hl m e e2)
 kv:=h.kv.keep fun m e=>hk.block m (h.lt.2.2.1 m e) (fun e2=>by rcases e2 with e2|e2;exact h.qk (by rw[e,e2]);exact h.hk m e e2)
 kg:=h.kg
 kr:=h.kr
 kb:=by rw[hv];exact h.kb
 dg:=by rw[hv];exact h.dg
 raw:=hr
 h:=ho
 lk:=h.lk
 lok:=hl
theorem turn_q(h:BdIs w q s ru rv lo ko H K)(hk:KQ q w w')(ha:BdAt w' q s' ru' rv (.map lo) (.map ko) H)(ht:Bd.tab s'=Bd.tab s)(hv:s'.vs=s.vs)(hh:s'.h=s.h)(hr:Bd.Raw ru' s'.us)(hl:Bd.Lok s'):ja1 q lo ko H s' (.tuple #[]) w (.returned (.tuple #[])) w':=
 ⟨ru',rv,lo,ko,H,K,rfl,h.turnQ hk ha ht hv hh hr hl,hk.more fun i _ e=> .inl e,fun i hi=> .inl hi⟩
theorem jm3{e:Ending}{s1:Bk.St}{w1:World}(h:BdIs w q s ru rv lo ko H K)(hk:KQ q w w1)(hn:jb4 q s1 ru' rv (.map lo) (.map ko) H r w1 e w')(hs:{s1 with h:=Bk.last24 (s1.h++[r])}=s')(ht:Bd.tab s'=Bd.tab s)(hv:s'.vs=s.vs)(hr:Bd.Raw ru' s'.us)(hl:Bd.Lok s'):ja1 q lo ko H s' (.tuple #[]) w e w':=by
 obtain⟨H',h1,h2,h3,h4,h5⟩:=hn;subst hs;have hk2:Kept (fun i=>i=q\/H.ownBlock=some i) w w':=(hk.more (G:=fun i=>i=q\/H.ownBlock=some i) fun i _ e=> .inl e).trans h4 fun i _ h=>h;refine⟨ru',rv,lo,ko,H',K,h1,h.turnH hk2 h2 h3 ht hv hr hl,hk2.more fun i _ e=> ?_,fun i hi=> ?_⟩
 ·rcases e with e|e
  ·exact .inl e
  ·exact .inr (.inr (.inr e))
 ·rcases hi with hi|hi|hi|hi
  ·exact .inl (.inl hi)
  ·exact .inl (.inr (.inl hi))
  ·exact .inl (.inr (.inr (.inl hi)))
  ·rcases h5 i hi with h6|h6
   ·exact .inl (.inr (.inr (.inr h6)))
   ·exact .inr (Nat.le_trans hk.size h6)
theorem BdIs.hist(h:BdIs w q s ru rv lo ko H K)(hk:KQ q w w'):OwF Bk.rcC 18 56 w' 0 H s.h:=h.h.keep fun m e=>hk.block m (h.lt.2.2.2 m e) (fun e2=>h.qh (by rw[e,e2]))
end
