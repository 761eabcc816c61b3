import Derived.Test.YtabandbigckfkaaGreatDoorQt15
import Derived.Deep.DeepAppendRoom
import Derived.Laws.IdiomCopy
set_option maxHeartbeats 6400000
set_option maxRecDepth 100000
set_option linter.unusedSimpArgs false
set_option linter.unusedVariables false
namespace Go.Proofs.YtabandbigckfkaaGreatDoor
open Go.RowKit Go.Deep Go.Maps
theorem jkp(W:World)(p:Value)(k:ByteArray)(a b c:Int)(f:Bool)(CG:Calls Tryz.prog 207 #[p,.string k] W (fun e w'=>e= .returned (.tuple #[leV a b c,.bool f])∧Below W.heap.size W w'))(ho ep now:Int){z:Bool}(hz:z=true↔(a=ho∧b=ep)∧(c≠0∧now<c)):
  Calls Tryz.prog 203 #[p,.string k,.int .i64 ho,.int .i64 ep,.int .i64 now] W (fun e w'=>e= .returned (.bool z)∧Below W.heap.size W w'):=by
 have CG:=zh CG;by_cases h1:a=ho∧b=ep
 ·have C1:=zh (fun W=>jgi W a b c ho ep (x:=true) (by simp[h1]))
  have C2:=zh (fun W=>jd5 W a b c now (x:=z) (by rw[hz];simp[h1]));clear hz h1;unfold leV at*;go_enter Tryz.func203,Tryz.ntmps203;go_upto_region 2 with(go_at_call 207;(with_reducible refine CG.out.mono ?_);rintro e w1 ⟨rfl,hb⟩;have B1:=zh hb;clear hb)
  have B2:=zh (B1.out.alloc (by have:=B1.out.size;omega) (.cells #[.int .i64 a,.int .i64 b,.int .i64 c] 260));have R2:=zh (heap_alloc_new w1 (.cells #[.int .i64 a,.int .i64 b,.int .i64 c] 260));obtain⟨g,hg⟩:∃g,g=w1.heap.size:=⟨_,rfl⟩;rw[←hg]at R2⊢;generalize w1.alloc (.cells #[.int .i64 a,.int .i64 b,.int .i64 c] 260)=w2 at*;have d0:=LsCells.c0 R2.out;have d1:=LsCells.c1 R2.out;have d2:=LsCells.c2 R2.out;have HG:=zh hg;clear hg
  go_wp2_with(first
   |(go_at_call 246;(with_reducible refine(C1.out _).mono ?_);rintro e w3 ⟨rfl,hb⟩;have B3:=zh (B2.out.trans (hb.mono B2.out.size));have R3:=jah R2.out hb;have e0:=LsCells.c0 R3;have e1:=LsCells.c1 R3;have e2:=LsCells.c2 R3;clear hb R3)
   |(go_at_call 247;(with_reducible refine(C2.out _).mono ?_);rintro e w4 ⟨rfl,hb⟩;have B4:=zh (B3.out.trans (hb.mono B3.out.size));clear hb))
  go_ret;exact⟨rfl,B4.out⟩
 ·have C1:=zh (fun W=>jgi W a b c ho ep (x:=false) (by simpa using h1))
  obtain rfl:z=false:=by rw[Bool.eq_false_iff];intro h;exact h1 (hz.1 h).1
  clear hz h1;unfold leV at*;go_enter Tryz.func203,Tryz.ntmps203;go_upto_region 2 with(go_at_call 207;(with_reducible refine CG.out.mono ?_);rintro e w1 ⟨rfl,hb⟩;have B1:=zh hb;clear hb)
  have B2:=zh (B1.out.alloc (by have:=B1.out.size;omega) (.cells #[.int .i64 a,.int .i64 b,.int .i64 c] 260));have R2:=zh (heap_alloc_new w1 (.cells #[.int .i64 a,.int .i64 b,.int .i64 c] 260));obtain⟨g,hg⟩:∃g,g=w1.heap.size:=⟨_,rfl⟩;rw[←hg]at R2⊢;generalize w1.alloc (.cells #[.int .i64 a,.int .i64 b,.int .i64 c] 260)=w2 at*;have d0:=LsCells.c0 R2.out;have d1:=LsCells.c1 R2.out;have d2:=LsCells.c2 R2.out;have HG:=zh hg;clear hg;go_wp2_with(go_at_call 246;(with_reducible refine(C1.out _).mono ?_);rintro e w3 ⟨rfl,hb⟩;have B3:=zh (B2.out.trans (hb.mono B2.out.size));clear hb);go_ret;exact⟨rfl,B3.out⟩
theorem jhl(W:World)(q:Nat)(cs:Array Value)(ty:TypeId)(mo:Option Nat)(s:Ls.St)(h:LsIs W q cs ty mo s)(k:ByteArray)(hk:k.size≤maxLen)(ho ep now:Int){z:Bool}(hz:z=true↔Ls.Holds s k ho ep now):
  Calls Tryz.prog 203 #[.pointer (some ⟨q,0,none⟩),.string k,.int .i64 ho,.int .i64 ep,.int .i64 now] W (fun e w'=>e= .returned (.bool z)∧Below W.heap.size W w'):=
 jkp W _ k _ _ _ _ (jc3 W q cs ty mo s h k hk) ho ep now (hz.trans (Ls.holds_is h.good k ho ep now))
open Classical in
noncomputable def Ls.notE(s:Ls.St)(k:ByteArray)(h ep:Int):Nat:=match Ls.find s.l k with
 |none=>5
 |some e=>if Ls.Other e h ep then 8 else 0
open Classical in
theorem Ls.notE_is{s:Ls.St}{k:ByteArray}{h ep:Int}{f x:Bool}(hf:(Ls.find s.l k).isSome=f)(hx:x=true↔Ls.holderOf s.l k=h∧Ls.epochOf s.l k=ep):Ls.notE s k h ep=if f then(if x then 0 else 8)else 5:=by
 unfold Ls.notE Ls.holderOf Ls.epochOf at*
 cases he:Ls.find s.l k with
 |none=>rw[he]at hf;subst hf;rfl
 |some e=>
  rw[he]at hf hx;subst hf;show(if Ls.Other e h ep then 8 else 0)=if x then 0 else 8
  unfold Ls.Other;by_cases h1:e.holder=h∧e.epoch=ep
  ·rw[if_neg (by omega),if_pos (hx.2 h1)]
  ·rw[if_pos (by omega),if_neg (fun h=>h1 (hx.1 h))]
theorem jm5(W:World)(q:Nat)(cs:Array Value)(ty:TypeId)(mo:Option Nat)(s:Ls.St)(h:LsIs W q cs ty mo s)(k:ByteArray)(hk:k.size≤maxLen)(ho ep:Int):
  Calls Tryz.prog 250 #[.pointer (some ⟨q,0,none⟩),.string k,.int .i64 ho,.int .i64 ep] W (fun e w'=>e= .returned (.int .i64 (Ls.notE s k ho ep:Nat))∧Below W.heap.size W w'):=by
 have CG:=zh (jc3 W q cs ty mo s h k hk);obtain⟨x,hx⟩:∃x:Bool,x=true↔Ls.holderOf s.l k=ho∧Ls.epochOf s.l k=ep:=⟨decide _,decide_eq_true_iff⟩;have EN:=zh (Ls.notE_is (f:=(Ls.find s.l k).isSome) rfl hx);unfold LGet lval at CG;rw[EN.out];clear EN;generalize(Ls.find s.l k).isSome=f at*;generalize Ls.holderOf s.l k=a at*;generalize Ls.epochOf s.l k=b at*;generalize Ls.tillOf s.l k=c at*;have C1:=zh (fun W=>jgi W a b c ho ep hx);clear h hk hx;unfold leV at*
 cases f with
 |false=>
  go_enter Tryz.func250,Tryz.ntmps250;go_upto_region 2 with(go_at_call 207;(with_reducible refine CG.out.mono ?_);rintro e w1 ⟨rfl,hb⟩;have B1:=zh hb;clear hb)
  have B2:=zh (B1.out.alloc (by have:=B1.out.size;omega) (.cells #[.int .i64 a,.int .i64 b,.int .i64 c] 260));go_wp2_with fail;go_ret;exact⟨rfl,B2.out⟩
 |true=>
  cases x with
  |false=>
   go_enter Tryz.func250,Tryz.ntmps250;go_upto_region 2 with(go_at_call 207;(with_reducible refine CG.out.mono ?_);rintro e w1 ⟨rfl,hb⟩;have B1:=zh hb;clear hb)
   have B2:=zh (B1.out.alloc (by have:=B1.out.size;omega) (.cells #[.int .i64 a,.int .i64 b,.int .i64 c] 260));go_wp2_with(go_at_call 246;(with_reducible refine(C1.out _).mono ?_);rintro e w3 ⟨rfl,hb⟩;have B3:=zh (B2.out.trans (hb.mono B2.out.size));clear hb);go_ret;exact⟨rfl,B3.out⟩
  |true=>
   go_enter Tryz.func250,Tryz.ntmps250;go_upto_region 2 with(go_at_call 207;(with_reducible refine CG.out.mono ?_);rintro e w1 ⟨rfl,hb⟩;have B1:=zh hb;clear hb)
   have B2:=zh (B1.out.alloc (by have:=B1.out.size;omega) (.cells #[.int .i64 a,.int .i64 b,.int .i64 c] 260));go_wp2_with(go_at_call 246;(with_reducible refine(C1.out _).mono ?_);rintro e w3 ⟨rfl,hb⟩;have B3:=zh (B2.out.trans (hb.mono B2.out.size));clear hb);go_ret;exact⟨rfl,B3.out⟩
structure LsX(W:World)(X:Nat→Prop)(q:Nat)(mo:Option Nat):Prop where
 q:X q
 m:∀m,mo=some m→X m
 lt:∀i,X i→i<W.heap.size
def jjn(q:Nat)(cs:Array Value)(ty:TypeId)(mo:Option Nat)(s':Ls.St)(v:Value)(W:World)(e:Ending)(w':World):Prop:=
 ∃mo',e= .returned v∧LsIs w' q (cs.setIfInBounds 1 (.map mo')) ty mo' s'∧Kept (fun i=>i=q∨mo=some i) W w'∧∀m,mo'=some m→mo=some m∨W.heap.size≤m
theorem jfa{W w':World}{X:Nat→Prop}{q:Nat}{cs:Array Value}{ty:TypeId}{mo:Option Nat}{s:Ls.St}(_:LsX W X q mo)(h:LsIs W q cs ty mo s)(hb:Below W.heap.size W w')(v:Value):jjn q cs ty mo s v W (.returned v) w':=
 ⟨mo,rfl,by rw[set_same h.k1];exact h.on hb,Kept.of_below hb,fun _ hi=> .inl hi⟩
theorem jiv{W W1 w':World}{X:Nat→Prop}{q:Nat}{cs:Array Value}{ty:TypeId}{mo mo':Option Nat}{s':Ls.St}(_:LsX W X q mo)(hb:Below W.heap.size W W1)(h:LsIs w' q (cs.setIfInBounds 1 (.map mo')) ty mo' s')(hk:Kept (fun i=>i=q∨mo=some i) W1 w')(hm:∀m,mo'=some m→mo=some m∨W1.heap.size≤m)(v:Value):jjn q cs ty mo s' v W (.returned v) w':=
 ⟨mo',rfl,h,(Kept.of_below (F:=fun i=>i=q∨mo=some i) hb).trans hk fun _ _ h=>h,fun m e=>(hm m e).imp id (Nat.le_trans hb.size)⟩
structure RdW(w0:World)(q:Nat)(s:Bk.St)(ru:Nat→Bk.Un)(rv:Int)(lo ko:Option Nat)(H:Value)(K:Kv.St)(W:World):Prop where
 bd:BdIs W q s ru rv lo ko H K
 b:Below w0.heap.size w0 W
theorem RdW.on{w0 W W':World}{q:Nat}{s:Bk.St}{ru:Nat→Bk.Un}{rv:Int}{lo ko:Option Nat}{H:Value}{K:Kv.St}(h:RdW w0 q s ru rv lo ko H K W)(hb:Below W.heap.size W W'):RdW w0 q s ru rv lo ko H K W':=
 ⟨h.bd.on hb,h.b.trans (hb.mono h.b.size)⟩
theorem jjo(n:Int)(hn:Spc.i64 n)(w:World)(ht:BT w):Calls Tryz.prog 155 #[.int .i64 n] w (BRet (.string (Bd.key n)) w):=by
 have C:=zh (jqb n hn w ht.pow);unfold Bd.key;generalize txt (Spc.digs n)=k at*;clear ht hn;go_enter Tryz.func155,Tryz.ntmps155;go_wp2_with(go_at_call 223;(with_reducible refine C.out.mono ?_);rintro e w1 ⟨rfl,hb⟩;have B:=zh hb;clear hb);go_ret;exact⟨rfl,B.out⟩
theorem jiw(q:Nat)(s:Bk.St)(ru:Nat→Bk.Un)(rv:Int)(lo ko:Option Nat)(H:Value)(K:Kv.St)(w:World)(h:BdIs w q s ru rv lo ko H K)(ht:BT w)(n:Int)(hn:Spc.i64 n):Calls Tryz.prog 87 #[.pointer (some ⟨q,0,none⟩),.int .i64 n] w (BRet (.tuple #[.string (Bk.text s.vs n),.bool (Bk.has s.vs n)]) w):=by
 have HT:=zh ht;have CK:Hid (∀W,BT W→Calls Tryz.prog 155 #[.int .i64 n] W (BRet (.string (Bd.key n)) W)):=fun W h=>jjo n hn W h;obtain⟨hv,hr⟩:=h.dg.val h.kg h.lok.ok.rise n;have KS:Hid ((Bd.key n).size≤maxLen):=by
  have:=Bd.digs_len hn;show(Bd.key n).size≤maxLen;unfold Bd.key maxLen;rw[jbx];omega
 have CG:Hid (∀W,RdW w q s ru rv lo ko H K W→Calls Tryz.prog 154 #[.pointer (some ⟨q,2,none⟩),.string (Bd.key n)] W (KGet K (Bd.key n) W)):=fun W h=>jhe W _ ko K h.bd.kvIs.ask _ KS.out;unfold KGet at CG;rw[hv]at CG;have hne:(Kv.revOf K.l (Bd.key n) !=0)=Bk.has s.vs n:=by rw[Bool.eq_iff_iff,bne_iff_ne];exact hr
 have HNE:=zh hne;rw[←HNE.out];have R0:=zh (RdW.mk h (Below.refl w.heap.size w));generalize Bk.text s.vs n=tx at*;generalize Kv.revOf K.l (Bd.key n)=rr at*;generalize Bd.key n=kk at*;clear hv hr hne HNE ht hn h KS;go_enter Tryz.func87,Tryz.ntmps87;go_upto_region 3 with fail
 refine wp_region_held_drew (S:=RdW w q s ru rv lo ko H K) (by kernel_rfl) (R0.out.on (Below.refl w.heap.size w).drew) (fun hS=> ?_);refine tY 0 hS ?_;refine tY 1 hS ?_;refine tY 2 hS ?_;refine tY 3 hS ?_;simp only[Act.put,zT,zO,zS];refine rO 4 (fun K hK=> ?_);go_simp
 with_reducible refine(CK.out _ (HT.out.on hS.b)).mono ?_
 rintro e w7 ⟨rfl,hb⟩;replace hS:=hS.on hb;clear hb;refine hK.out _ _ hS (fun _=> ?_);clear hK K;try simp only[Act.put,zT,zO,zS]
 refine rO 5 (fun K hK=> ?_);go_simp
 with_reducible refine(CG.out _ hS).mono ?_
 rintro e w8 ⟨rfl,hb⟩;replace hS:=hS.on hb;clear hb;refine hK.out _ _ hS (fun _=> ?_);clear hK K;refine tY 6 hS ?_;refine tY 7 hS ?_;refine tY 8 hS ?_;refine tY 9 hS ?_;refine tY 10 hS ?_;simp only[Act.put,zT,zO,zS];refine wpAnyH_done (by kernel_rfl) ?_ _;have B:=zh hS.b;clear hS;go_wp2_with fail;go_ret2;exact⟨rfl,B.out⟩
theorem jjp(q:Nat)(s:Bk.St)(ru:Nat→Bk.Un)(rv:Int)(lo ko:Option Nat)(H:Value)(K:Kv.St)(w:World)(h:BdIs w q s ru rv lo ko H K)(ht:BT w)(n:Int)(hn:Spc.i64 n):Calls Tryz.prog 208 #[.pointer (some ⟨q,0,none⟩),.int .i64 n] w (BRet (.bool (Bk.has s.vs n)) w):=by
 have C:=zh (jiw q s ru rv lo ko H K w h ht n hn);generalize Bk.text s.vs n=tx at*;generalize Bk.has s.vs n=hx at*;clear h ht hn;go_enter Tryz.func208,Tryz.ntmps208;go_wp2_with(go_at_call 87;(with_reducible refine C.out.mono ?_);rintro e w1 ⟨rfl,hb⟩;have B:=zh hb;clear hb);go_ret;exact⟨rfl,B.out⟩
theorem jhm(g o j:Nat):((⟨g,o,none⟩:Addr).add j)=⟨g,o+j,none⟩:=by unfold Addr.add;split<;>simp_all
theorem jdv(b:Nat)(t:TypeId):∀(vs:List Value) (o:Nat) (w:World) (cs:Array Value),w.heap[b]? =some (.cells cs t (0,0))→∃cs',(w.setCells b o vs).heap[b]? =some (.cells cs' t (0,0))∧cs'.size=cs.size∧∀i,i<o→cs'[i]? =cs[i]?
 |[],_,_,cs,h=>⟨cs,h,rfl,fun _ _=>rfl⟩
 |v::vs,o,w,cs,h=>by
  obtain⟨cs',h1,h2,h3⟩:=jdv b t vs (o+1) (w.setCell ⟨b,o,none⟩ v) (cs.setIfInBounds o v) (heap_setCell_same w b o _ _ v h);refine⟨cs',h1,by rw[h2,Array.size_setIfInBounds],fun i hi=> ?_⟩;rw[h3 i (by omega),Array.getElem?_setIfInBounds_ne (by omega)]
theorem jdb(b:Nat):∀(vs:List Value) (o:Nat) (w:World),w.grownBy (w.setCells b o vs) (some b)
 |[],_,w=>⟨rfl,rfl,rfl,Nat.le_refl _,fun _ _ _=>rfl⟩
 |v::vs,o,w=>jam (jad w b o v) (jdb b vs (o+1) (w.setCell ⟨b,o,none⟩ v))
theorem rc_zero:∀w,(zeroValue 45).run Tryz.prog w= .ok (.agg (Rc.cells Rc.none_)) w:=(zero_of_info (n:=18) (by kernel_rfl)).1
theorem jm6(w:World)(ty:TypeId)(b o c:Nat)(hc:∀j,j<18→(w.cell? ⟨b,o+j,none⟩).isSome=true)(hf:∀j,j<18→w.frozen? ⟨b,o+j,none⟩=false):
  (Builtin.clear_ #[28] ty #[.slice (some ⟨b,o,none⟩) 1 c]).run Tryz.prog w= .ok (.tuple #[]) (w.setCells b o (Rc.cells Rc.none_).toList):=by
 have hzc:(Builtin.zeroCells (Value.agg (#[.int .i64 0,.int .i64 0,.int .i64 0,.int .i64 0,.int .i64 0,.string ⟨#[]⟩,.int .i64 0,.int .i64 0,.int .i64 0,.int .i64 0,.int .i64 0,.int .i64 0,.int .i64 0,.int .i64 0,.int .i64 0,.int .i64 0,.int .i64 0,.int .i64 0])).cells 1).toList=(Rc.cells Rc.none_).toList:=by kernel_rfl
 have hst:=run_storeCells_cells (P:=Tryz.prog) b o (Rc.cells Rc.none_).toList 0 w (by simpa[Rc.cells]using hc) (by simpa[Rc.cells]using hf) (fun v hv=>Bk.rcC_one Rc.none_ v hv);simp only[Nat.add_zero]at hst;simp[Builtin.clear_,run_underlying Tryz.underlying28,rc_zero,hzc,hst]
theorem jqf(W:World)(B g c:Nat)(l:List Rc.R)(hown:OwF Bk.rcC 18 45 W B (.slice (some ⟨g,0,none⟩) 24 c) l):Calls Tryz.prog 256 #[.slice (some ⟨g,0,none⟩) 24 c,.int .i64 0,.int .i64 1] W (fun e w'=>e= .returned (.slice (some ⟨g,0,none⟩) 23 c)∧OwF Bk.rcC 18 45 w' B (.slice (some ⟨g,0,none⟩) 23 c) l.tail∧W.grownBy w' (some g)):=by
 obtain⟨hl1,hl2,hl3⟩:=hown.len;obtain⟨i0,hi0,hz0,hz1,hz2⟩:=info_parts jbv;obtain⟨x,hx⟩:∃x,l=x::l.tail:=by
  cases l with
  |nil=>rw[List.length_nil]at hl1;omega
  |cons x l=>exact⟨x,rfl⟩
 have htl:l.tail.length=23:=by rw[List.length_tail];omega
 have hsl:=hown.sl;have TL:Hid ((l.tail.flatMap Bk.rcC).length=23*18):=by show _=_;rw[jgf Bk.rcC_len,htl]
 have RD:Hid (∀j u,(l.tail.flatMap Bk.rcC)[j]? =some u→W.drew.cell? ((⟨g,18,none⟩:Addr).add j)=some u):=fun j u hu=>by
  obtain⟨b,o,e,hb,hr⟩:=hsl.rd (by omega);injection e with e
  injection e with e1 e2
  subst e1 e2;have h1:=hr (18+j) u (by
   rw[hx,List.flatMap_cons,List.getElem?_append_right (by rw[Bk.rcC_len];omega),Bk.rcC_len,show 18+j -18=j by omega];exact hu)
  have h2:((⟨g,18,none⟩:Addr).add j)=⟨g,18+j,none⟩:=jhm g 18 j;rw[h2];rw[Nat.zero_add]at h1;exact h1
 have ON:Hid (∀u∈l.tail.flatMap Bk.rcC,u.oneCell'=true):=fun u hu=>by
  obtain⟨r,_,hr⟩:=List.mem_flatMap.1 hu;exact Bk.rcC_one r u hr
 have OE:Hid (W.drew.ownsRow B 45 18 (.slice (some ⟨g,0,none⟩) 0 c) 0 []):=by
  rcases hown.2 with⟨h,_⟩|⟨g',c',cur,h,hbg,hh,h1,h2,h3,h4⟩
  ·cases h
  ·injection h with e1 e2 e3
   injection e1 with e1
   injection e1 with e1 _
   subst e1 e3;exact⟨rfl,.inr ⟨g,c,cur,rfl,hbg,hh,Nat.zero_le _,h2,h3,by simp⟩⟩
 have hcm:(c:Int)≤9223372036854775807:=by unfold maxLen at hl3;omega
 have hc24:(24:Int)≤(c:Int):=by omega
 have hc1:24≤c:=hl2;have hcn1:¬(c=1):=by omega
 have hcn2:¬(c=23):=by omega
 have hcn3:¬(c≤23):=by omega
 have HTL:=zh htl;clear hl1 hl2 hl3 hx hsl hown htl hz0 hz2;go_enter Tryz.func256,Tryz.ntmps256;go_upto_region 5 with fail
 refine wp_region_held_drew (S:=fun _=>True) (by kernel_rfl) trivial (fun hS=> ?_);refine tY 0 hS ?_;refine tY 1 hS ?_;refine tY 2 hS ?_;refine tY 3 hS ?_;refine tY 4 hS ?_;refine tY 5 hS ?_;simp only[Act.put,zT,zO,zS];refine rO 6 (fun K hK=> ?_);refine wp_append_own_spare _ (.tmp 22) (.tmp 25) 28 rfl B 45 i0 18 Tryz.underlying28 hi0 hz1 g 0 c [] rfl OE.out ⟨g,18,none⟩ 23 (c -1) (l.tail.flatMap Bk.rcC) rfl TL.out RD.out ON.out (by omega) ?_;intro w2 ho2 hg2;have O2:=zh ho2;have G2:=zh (jam (show W.grownBy W.drew (some g)from⟨rfl,rfl,rfl,Nat.le_refl _,fun _ _ _=>rfl⟩) hg2);have hS2:True:=trivial;clear hS ho2 hg2;have hS:=hS2;clear hS2;refine hK.out _ _ hS (fun _=> ?_);clear hK K;refine tY 7 hS ?_;simp only[Act.put,zT,zO,zS];refine wpAnyH_done (by kernel_rfl) ?_ _;clear hS;have hsz:∃cur,w2.heap[g]? =some (.cells cur 45 (0,0))∧cur.size=c*18∧B≤g∧c≤maxLen∧cur.toList.take (23*18)=l.tail.flatMap Bk.rcC:=by
  rcases O2.out.2 with⟨h,_⟩|⟨g',c',cur,h,hbg,hh,h1,h2,h3,h4⟩
  ·cases h
  ·injection h with e1 e2 e3
   injection e1 with e1
   injection e1 with e1 _
   subst e1 e3;exact⟨cur,hh,h3,hbg,h2,by simpa using h4⟩
 obtain⟨cur,k1,k2,k3,k4,k5⟩:=hsz;have hclr:=fun ty=>jm6 w2 ty g 414 (c -23) (fun j hj=>by rw[cell_of_row w2 g _ _ _ _ k1,Array.getElem?_eq_getElem (by omega)];rfl) (fun j _=>frozen_of_row w2 g _ _ _ k1);have G3:=zh (jam G2.out (jdb g (Rc.cells Rc.none_).toList 414 w2));have O3:Hid (OwF Bk.rcC 18 45 (w2.setCells g 414 (Rc.cells Rc.none_).toList) B (.slice (some ⟨g,0,none⟩) 23 c) l.tail):=by
  obtain⟨cur',m1,m2,m3⟩:=jdv g 45 (Rc.cells Rc.none_).toList 414 w2 cur k1;have e:l.tail.length=23:=HTL.out;show World.ownsRow _ _ _ _ _ _ _;rw[e];refine⟨TL.out,.inr ⟨g,c,cur',rfl,k3,m1,by omega,k4,by rw[m2,k2],?_⟩⟩;rw[←k5];refine List.ext_getElem? fun i=> ?_;rw[List.getElem?_take,List.getElem?_take];split
  ·have:=m3 i (by omega)
   simpa using this
  ·rfl
 clear O2 G2 k1 k2 k3 k4 k5;go_wp2_with fail;go_ret;exact⟨rfl,O3.out,G3.out⟩
structure RdC(w0:World)(q:Nat)(s:Bk.St)(ru:Nat→Bk.Un)(rv:Int)(lo ko:Option Nat)(H:Value)(K:Kv.St)(g:Nat)(r:Rc.R)(W:World):Prop where
 bd:BdIs W q s ru rv lo ko H K
 rc:RcAt W g r
 b:Below w0.heap.size w0 W
section
variable{w0 W W':World}{q g:Nat}{s:Bk.St}{ru:Nat→Bk.Un}{rv:Int}{lo ko:Option Nat}{H:Value}{K:Kv.St}{r:Rc.R}
theorem RdC.on(h:RdC w0 q s ru rv lo ko H K g r W)(hb:Below W.heap.size W W'):RdC w0 q s ru rv lo ko H K g r W':=⟨h.bd.on hb,h.rc.on hb,h.b.trans (hb.mono h.b.size)⟩
theorem RdC.open_(h:BdIs w0 q s ru rv lo ko H K)(r:Rc.R):RdC w0 q s ru rv lo ko H K w0.heap.size r (w0.alloc (.cells (Rc.cells r) 45)):=by
 have hb:Below w0.heap.size w0 (w0.alloc (.cells (Rc.cells r) 45)):=(Below.refl _ _).alloc (Nat.le_refl _) _;exact⟨h.on hb,RcAt.new _ _,hb⟩
end
theorem Ph.of_small(t:ByteArray):i64P (Ph.of t):=by
 have:=Ph.place_le t;unfold Ph.of i64P;split<;>omega
theorem jm7(q:Nat)(s:Bk.St)(ru:Nat→Bk.Un)(rv:Int)(lo ko:Option Nat)(H:Value)(K:Kv.St)(w:World)(h:BdIs w q s ru rv lo ko H K)(ht:BT w)(r:Rc.R)(hin:Rc.In r):Calls Tryz.prog 134 #[.pointer (some ⟨q,0,none⟩),.agg (Rc.cells r)] w (BRet (.int .i64 (Bk.chk2 s r)) w):=by
 obtain⟨ans,hans⟩:∃ans,ans=Bk.chk2 s r:=⟨_,rfl⟩;rw[←hans];have AN:=zh hans;clear hans;have HT:=zh ht;obtain⟨W,hW⟩:∃W,W=w.alloc (.cells (Rc.cells r) 45):=⟨_,rfl⟩;obtain⟨g,hg⟩:∃g,g=w.heap.size:=⟨_,rfl⟩;have R0:=zh (RdC.open_ h r);rw[←hW,←hg]at R0;have GE:Hid (w.heap.size≤g):=Nat.le_of_eq hg.symm;have HI:=zh (hin.nums r.n (by simp[Rc.nums]));have CH:Hid (∀W,RdC w q s ru rv lo ko H K g r W→Calls Tryz.prog 208 #[.pointer (some ⟨q,0,none⟩),.int .i64 r.n] W (BRet (.bool (Bk.has s.vs r.n)) W)):=fun W h=>jjp q s ru rv lo ko H K W h.bd (HT.out.on h.b) r.n HI.out;have CL:Hid (∀W,RdC w q s ru rv lo ko H K g r W→Calls Tryz.prog 209 #[.pointer (some ⟨q,2,none⟩)] W (fun e w'=>e= .returned (.int .i64 (s.vs.length:Nat))∧w'=W)):=fun W h=>by
  have:=jhd W _ ko K h.bd.kvIs.ask;rw[h.bd.dg.len]at this;exact this
 clear h ht;go_enter Tryz.func134,Tryz.ntmps134;go_upto_region 1 with fail
 rw[←hW,←hg];clear hW hg;have c3:=R0.out.rc.cs.c3
 cases hx:Bk.has s.vs r.n with
 |true=>
  have E:ans=6:=AN.out.trans (if_pos hx);subst E;rw[hx]at CH;clear hx;go_wp2_with(go_at_call 208;(with_reducible refine(CH.out _ R0.out).mono ?_);rintro e w1 ⟨rfl,hb⟩;have R1:=zh (R0.out.on hb);clear hb c3;have lq:=R1.out.bd.lt.1);go_ret;exact⟨rfl,R1.out.b⟩
 |false=>
  rw[hx]at CH;by_cases hl:64≤s.vs.length
  ·have E:ans=4:=by rw[AN.out];unfold Bk.chk2;rw[if_neg (by rw[hx];simp),if_pos hl]
   subst E;have hl2:(64:Int)≤(s.vs.length:Nat):=by omega
   clear hx hl
   go_wp2_with(first
   |(go_at_call 208;(with_reducible refine(CH.out _ R0.out).mono ?_);rintro e w1 ⟨rfl,hb⟩;have R1:=zh (R0.out.on hb);clear hb c3;have lq:=R1.out.bd.lt.1)
   |(go_at_call 209;(with_reducible refine(CL.out _ R1.out).mono ?_);rintro e w2 ⟨rfl,hw⟩;obtain rfl:=hw))
   go_ret;exact⟨rfl,R1.out.b⟩
  ·have E:ans=0:=by rw[AN.out];unfold Bk.chk2;rw[if_neg (by rw[hx];simp),if_neg hl]
   subst E;have hl2:¬(64:Int)≤(s.vs.length:Nat):=by omega
   clear hx hl
   go_wp2_with(first
   |(go_at_call 208;(with_reducible refine(CH.out _ R0.out).mono ?_);rintro e w1 ⟨rfl,hb⟩;have R1:=zh (R0.out.on hb);clear hb c3;have lq:=R1.out.bd.lt.1)
   |(go_at_call 209;(with_reducible refine(CL.out _ R1.out).mono ?_);rintro e w2 ⟨rfl,hw⟩;obtain rfl:=hw))
   go_ret;exact⟨rfl,R1.out.b⟩
theorem jm8(q:Nat)(s:Bk.St)(ru:Nat→Bk.Un)(rv:Int)(lo ko:Option Nat)(H:Value)(K:Kv.St)(w:World)(h:BdIs w q s ru rv lo ko H K)(ht:BT w)(r:Rc.R)(hin:Rc.In r):Calls Tryz.prog 136 #[.pointer (some ⟨q,0,none⟩),.agg (Rc.cells r)] w (BRet (.int .i64 (Bk.chk3 s r)) w):=by
 obtain⟨ans,hans⟩:∃ans,ans=Bk.chk3 s r:=⟨_,rfl⟩;rw[←hans];have AN:=zh hans;clear hans;have HT:=zh ht;obtain⟨W,hW⟩:∃W,W=w.alloc (.cells (Rc.cells r) 45):=⟨_,rfl⟩;obtain⟨g,hg⟩:∃g,g=w.heap.size:=⟨_,rfl⟩;have R0:=zh (RdC.open_ h r);rw[←hW,←hg]at R0;have GE:Hid (w.heap.size≤g):=Nat.le_of_eq hg.symm;have HI:=zh (hin.sp r.sp.v (by simp[Spc.flds]));have CH:Hid (∀W,RdC w q s ru rv lo ko H K g r W→Calls Tryz.prog 208 #[.pointer (some ⟨q,0,none⟩),.int .i64 r.sp.v] W (BRet (.bool (Bk.has s.vs r.sp.v)) W)):=fun W h=>jjp q s ru rv lo ko H K W h.bd (HT.out.on h.b) r.sp.v HI.out;have CO:=zh (fun W=>jm4 s.ph W);clear h ht;go_enter Tryz.func136,Tryz.ntmps136;go_upto_region 1 with fail
 rw[←hW,←hg];clear hW hg;have b9:=R0.out.bd.at_.cs.c9;have lq:=R0.out.bd.lt.1
 cases hx:Ph.open_ s.ph with
 |true=>
  have E:ans=10:=AN.out.trans (if_pos hx);subst E;rw[hx]at CO;clear hx;go_wp2_with(go_at_call 211;(with_reducible refine(CO.out _).mono ?_);rintro e w1 ⟨rfl,hb⟩;have R1:=zh (R0.out.on hb);clear hb b9;have c6:=R1.out.rc.cs.c6;have lq:=R1.out.bd.lt.1);go_ret;exact⟨rfl,R1.out.b⟩
 |false=>
  rw[hx]at CO
  cases hy:Bk.has s.vs r.sp.v with
  |false=>
   have E:ans=5:=by rw[AN.out];unfold Bk.chk3;rw[if_neg (by rw[hx];simp),if_pos hy]
   subst E;rw[hy]at CH;clear hx hy
   go_wp2_with(first
   |(go_at_call 211;(with_reducible refine(CO.out _).mono ?_);rintro e w1 ⟨rfl,hb⟩;have R1:=zh (R0.out.on hb);clear hb b9;have c6:=R1.out.rc.cs.c6;have lq:=R1.out.bd.lt.1)
   |(go_at_call 208;(with_reducible refine(CH.out _ R1.out).mono ?_);rintro e w2 ⟨rfl,hb⟩;have R2:=zh (R1.out.on hb);clear hb c6;have c6:=R2.out.rc.cs.c6;have b7:=R2.out.bd.at_.cs.c7;have lq:=R2.out.bd.lt.1))
   go_ret;exact⟨rfl,R2.out.b⟩
  |true=>
   rw[hy]at CH;go_upto_region 5 with(first
   |(go_at_call 211;(with_reducible refine(CO.out _).mono ?_);rintro e w1 ⟨rfl,hb⟩;have R1:=zh (R0.out.on hb);clear hb b9;have c6:=R1.out.rc.cs.c6;have lq:=R1.out.bd.lt.1)
   |(go_at_call 208;(with_reducible refine(CH.out _ R1.out).mono ?_);rintro e w2 ⟨rfl,hb⟩;have R2:=zh (R1.out.on hb);clear hb c6;have c6:=R2.out.rc.cs.c6;have b7:=R2.out.bd.at_.cs.c7;have lq:=R2.out.bd.lt.1))
   by_cases hz:r.sp.v=s.stable
   ·have E:ans=6:=by rw[AN.out];unfold Bk.chk3;rw[if_neg (by rw[hx];simp),if_neg (by rw[hy];simp),if_pos hz]
    subst E;have hz2:(r.sp.v==s.stable)=true:=by simpa using hz
    clear hx hy hz;go_region;go_wp2_with fail;go_ret;exact⟨rfl,R2.out.b.drew⟩
   ·have E:ans=0:=by rw[AN.out];unfold Bk.chk3;rw[if_neg (by rw[hx];simp),if_neg (by rw[hy];simp),if_neg hz]
    subst E;have hz2:(r.sp.v==s.stable)=false:=by simpa using hz
    clear hx hy hz;go_region;go_wp2_with fail;go_ret;exact⟨rfl,R2.out.b.drew⟩
theorem jm9(q:Nat)(s:Bk.St)(ru:Nat→Bk.Un)(rv:Int)(lo ko:Option Nat)(H:Value)(K:Kv.St)(w:World)(h:BdIs w q s ru rv lo ko H K)(ht:BT w)(r:Rc.R)(hin:Rc.In r):Calls Tryz.prog 138 #[.pointer (some ⟨q,0,none⟩),.agg (Rc.cells r)] w (BRet (.int .i64 (Bk.chk4 s r)) w):=by
 obtain⟨ans,hans⟩:∃ans,ans=Bk.chk4 s r:=⟨_,rfl⟩;rw[←hans];have AN:=zh hans;clear hans;have HT:=zh ht;obtain⟨W,hW⟩:∃W,W=w.alloc (.cells (Rc.cells r) 45):=⟨_,rfl⟩;obtain⟨g,hg⟩:∃g,g=w.heap.size:=⟨_,rfl⟩;have R0:=zh (RdC.open_ h r);rw[←hW,←hg]at R0;have GE:Hid (w.heap.size≤g):=Nat.le_of_eq hg.symm;obtain⟨ev,hev⟩:∃ev,ev=Ph.of r.text:=⟨_,rfl⟩;obtain⟨ok,hok⟩:∃ok,ok=Ph.isWord r.text:=⟨_,rfl⟩;obtain⟨nx,hnx⟩:∃nx,nx=Ph.next s.ph ev:=⟨_,rfl⟩;obtain⟨dd,hdd⟩:∃dd,dd=Ph.did s.ph ev:=⟨_,rfl⟩;have HA:Hid (Bk.chk4 s r=if ok=false∨ev=0∨ev=3 then 2 else if dd=false∨nx≠r.n then 10 else 0):=by show _=_;rw[hok,hdd,hnx,hev];rfl
 have PHS:Hid (i64P s.ph):=by have:=h.lok.ok.ph;exact jm2 (by omega)
 have CF:Hid (∀W,RdC w q s ru rv lo ko H K g r W→Calls Tryz.prog 213 #[.string r.text] W (jee W (.int .i64 ev) (.bool ok))):=fun W h=>by rw[hev,hok];exact pof_any r.text W (HT.out.on h.b).ph
 have CN:Hid (∀W,RdC w q s ru rv lo ko H K g r W→Calls Tryz.prog 214 #[.int .i64 s.ph,.int .i64 ev] W (jee W (.int .i64 nx) (.bool dd))):=fun W h=>by rw[hnx,hdd];exact jm1 s.ph ev PHS.out (by rw[hev];exact Ph.of_small _) W (HT.out.on h.b).ph
 clear hev hok hnx hdd;clear h ht;go_enter Tryz.func138,Tryz.ntmps138;go_upto_region 1 with fail
 rw[←hW,←hg];clear hW hg;have AE:=zh (AN.out.trans HA.out);clear HA AN;have HA:=AE;clear AE;have c5:=R0.out.rc.cs.c5
 cases ok with
 |false=>
  obtain rfl:=HA.out.trans (if_pos (.inl rfl));clear HA;go_wp2_with(go_at_call 213;(with_reducible refine(CF.out _ R0.out).mono ?_);rintro e w1 ⟨rfl,hb⟩;have R1:=zh (R0.out.on hb);clear hb c5;have b9:=R1.out.bd.at_.cs.c9;have lq:=R1.out.bd.lt.1);go_ret;exact⟨rfl,R1.out.b⟩
 |true=>
  by_cases h0:ev=0
  ·obtain rfl:=HA.out.trans (if_pos (.inr (.inl h0)))
   have h02:(ev==0)=true:=by simpa using h0
   clear HA h0;go_wp2_with(go_at_call 213;(with_reducible refine(CF.out _ R0.out).mono ?_);rintro e w1 ⟨rfl,hb⟩;have R1:=zh (R0.out.on hb);clear hb c5;have b9:=R1.out.bd.at_.cs.c9;have lq:=R1.out.bd.lt.1);go_ret;exact⟨rfl,R1.out.b⟩
  ·have h02:(ev==0)=false:=by simpa using h0
   by_cases h3:ev=3
   ·obtain rfl:=HA.out.trans (if_pos (.inr (.inr h3)))
    have h32:(ev==3)=true:=by simpa using h3
    clear HA h0 h3;go_wp2_with(go_at_call 213;(with_reducible refine(CF.out _ R0.out).mono ?_);rintro e w1 ⟨rfl,hb⟩;have R1:=zh (R0.out.on hb);clear hb c5;have b9:=R1.out.bd.at_.cs.c9;have lq:=R1.out.bd.lt.1);go_ret;exact⟨rfl,R1.out.b⟩
   ·have h32:(ev==3)=false:=by simpa using h3
    have HB:=zh (HA.out.trans (if_neg (by rintro(h|h|h);cases h;exact h0 h;exact h3 h)));clear HA;have HA:=HB;clear HB
    cases dd with
    |false=>
     obtain rfl:=HA.out.trans (if_pos (.inl rfl));clear HA h0 h3
     go_wp2_with(first
   |(go_at_call 213;(with_reducible refine(CF.out _ R0.out).mono ?_);rintro e w1 ⟨rfl,hb⟩;have R1:=zh (R0.out.on hb);clear hb c5;have b9:=R1.out.bd.at_.cs.c9;have lq:=R1.out.bd.lt.1)
   |(go_at_call 214;(with_reducible refine(CN.out _ R1.out).mono ?_);rintro e w2 ⟨rfl,hb⟩;have R2:=zh (R1.out.on hb);clear hb b9;have c3:=R2.out.rc.cs.c3;have lq:=R2.out.bd.lt.1))
     go_ret;exact⟨rfl,R2.out.b⟩
    |true=>
     by_cases hn:nx=r.n
     ·obtain rfl:=HA.out.trans (if_neg (by rintro(h|h);cases h;exact h hn))
      have hn2:(nx !=r.n)=false:=by simpa using hn
      clear HA h0 h3 hn
      go_wp2_with(first
   |(go_at_call 213;(with_reducible refine(CF.out _ R0.out).mono ?_);rintro e w1 ⟨rfl,hb⟩;have R1:=zh (R0.out.on hb);clear hb c5;have b9:=R1.out.bd.at_.cs.c9;have lq:=R1.out.bd.lt.1)
   |(go_at_call 214;(with_reducible refine(CN.out _ R1.out).mono ?_);rintro e w2 ⟨rfl,hb⟩;have R2:=zh (R1.out.on hb);clear hb b9;have c3:=R2.out.rc.cs.c3;have lq:=R2.out.bd.lt.1))
      go_ret;exact⟨rfl,R2.out.b⟩
     ·obtain rfl:=HA.out.trans (if_pos (.inr hn))
      have hn2:(nx !=r.n)=true:=by simpa using hn
      clear HA h0 h3 hn
      go_wp2_with(first
   |(go_at_call 213;(with_reducible refine(CF.out _ R0.out).mono ?_);rintro e w1 ⟨rfl,hb⟩;have R1:=zh (R0.out.on hb);clear hb c5;have b9:=R1.out.bd.at_.cs.c9;have lq:=R1.out.bd.lt.1)
   |(go_at_call 214;(with_reducible refine(CN.out _ R1.out).mono ?_);rintro e w2 ⟨rfl,hb⟩;have R2:=zh (R1.out.on hb);clear hb b9;have c3:=R2.out.rc.cs.c3;have lq:=R2.out.bd.lt.1))
      go_ret;exact⟨rfl,R2.out.b⟩
theorem jap{a:Act}{oi:Oper}(x:Operand)(ho:oi.op= .load 45 x)(g:Nat)(r:Rc.R)(hx:a.eval x= .pointer (some ⟨g,0,none⟩)){W:World}(h:RcAt W g r):(execOp a.eval oi).run Tryz.prog W= .ok (.value (.agg (Rc.cells r))) W:=by
 unfold execOp;simp only[ho,hx,Instr.loadAt,Instr.sureAddr,Sem.run_bind,Sem.run_pure,Result.andThen_ok,run_loadVar_row (P:=Tryz.prog) W g 45 45 (Rc.cells r) (0,0) _ h.row jaf rfl (jai r)]
section
variable{o:Oper}{a:Act}{w:World}{K:Act→World→Prop}{Q:Exit→Act→World→Prop}
theorem jb1{P:Program}{sl e:TypeId}{z:Value}{k by_:Nat}(hsl:P.underlying sl=some (.slice e))(hi0:(P.info? e).map (fun i=>(i.zero,i.size,i.bytes))=some (some z,k,by_))(hK0:0<k)(hK1:k≤1000)
  (x:Operand) (ho:o.op= .buildSlice sl 1 #[(0,x)]) (cs:Array Value) (hx:a.eval x= .agg cs) (hl:cs.size=k)
  (h:K (a.put o.dst (.slice (some ⟨w.heap.size,0,none⟩) 1 1)) (w.alloc (.cells cs e))):Oper.wp P o a w K Q:=by
 obtain⟨i0,hi,hz0,hz1,hz2⟩:=info_parts hi0;refine wp_buildSlice sl e 1 #[(0,x)] ho cs i0 z hsl hi hz0 (by rw[hz1];omega) (by rw[hz1];omega) ?_ h;have:=Great.fill_whole (s:=k) hK0 [.agg cs] ((Array.range (1*k)).map (z.cells[· %z.cells.size]!)) (fun v hv=>by rw[List.mem_singleton.1 hv];exact hl) (by simp);rw[hz1];simp only[List.zipIdx_cons,List.zipIdx_nil,List.map_cons,List.map_nil,List.flatMap_cons,List.flatMap_nil,List.append_nil]at this;simp only[List.map_toArray,List.map_cons,List.map_nil,hx];rw[this];rfl
theorem jbq(s x:Operand)(ho:o.op= .call {callee:= .builtin .append,args:=#[s,x],argTypes:=#[28,28]})(base:Nat)(v:Value)(ts:List Rc.R)(hs:a.eval s=v)(hown:OwF Bk.rcC 18 45 w base v ts)
  (m:Nat) (t:Rc.R) (hx:a.eval x= .slice (some ⟨m,0,none⟩) 1 1) (ht:RcAt w m t) (hlen:ts.length≤1000) (hB:base≤w.heap.size)
  (h:∀v' w',OwF Bk.rcC 18 45 w' base v' (ts++[t])→w.grownBy w' v.ownBlock→(v'.ownBlock=v.ownBlock∨v'.ownBlock=some w.heap.size)→K (a.put o.dst v') w'):Oper.wp Tryz.prog o a w K Q:=by
 obtain⟨i0,hi,hz0,hz1,hz2⟩:=info_parts jbv;obtain⟨v',w',hr,h2,h3,h4,h5⟩:=run_append_own_at (P:=Tryz.prog) w base 28 o.type 45 i0 _ 18 152 Tryz.underlying28 hi hz0 hz1 hz2 rfl (by omega) v ts.length _ hown ⟨m,0,none⟩ 1 1 (Bk.rcC t) (Bk.rcC_len t) (fun j u hu=>by
  rw[jhm,Nat.zero_add,cell_of_row w m j _ _ _ ht.row];rw[←hu];unfold Bk.rcC;simp) (Bk.rcC_one t) (by unfold maxLen;omega) (by omega) hB
 unfold Oper.wp execOp;simp only[ho,resolve,invoke,builtin,Sem.run_bind,Sem.run_pure,Result.andThen_ok,List.map_toArray,List.map_cons,List.map_nil,hs,hx,hr];refine h v' w' ?_ h3 h5;unfold OwF;rw[List.length_append,List.flatMap_append];simpa using h2
end
def jbg(q:Nat)(s:Bk.St)(ru:Nat→Bk.Un)(rv:Int)(lm km H:Value)(r:Rc.R)(W:World)(e:Ending)(w':World):Prop:=
 ∃H',e= .returned (.tuple #[])∧BdAt w' q {s with h:=Bk.last24 (s.h++[r])} ru rv lm km H'∧OwF Bk.rcC 18 45 w' 0 H' (Bk.last24 (s.h++[r]))∧Kept (fun i=>i=q∨H.ownBlock=some i) W w'∧∀m,H'.ownBlock=some m→H.ownBlock=some m∨W.heap.size≤m
theorem jna{l:List Rc.R}{r:Rc.R}(h:l.length=24):Bk.last24 (l++[r])=l.tail++[r]:=by
 unfold Bk.last24;rw[List.length_append,List.length_singleton,h]
 cases l with
 |nil=>simp at h
 |cons x l=>rfl
theorem jnb{l:List Rc.R}{r:Rc.R}(h:l.length≤23):Bk.last24 (l++[r])=l++[r]:=by
 unfold Bk.last24;rw[List.length_append,List.length_singleton,show l.length+1 -24=0 by omega];rfl
theorem jdw(q:Nat)(s:Bk.St)(ru:Nat→Bk.Un)(rv:Int)(lm km H:Value)(r:Rc.R)(W:World)(hat:BdAt W q s ru rv lm km H)(ho:OwF Bk.rcC 18 45 W 0 H s.h)(hq:H.ownBlock≠some q)(hl:s.h.length≤24):Calls Tryz.prog 212 #[.pointer (some ⟨q,0,none⟩),.agg (Rc.cells r)] W (jbg q s ru rv lm km H r W):=by
 obtain⟨W1,hW⟩:∃W1,W1=W.alloc (.cells (Rc.cells r) 45):=⟨_,rfl⟩;obtain⟨g,hg⟩:∃g,g=W.heap.size:=⟨_,rfl⟩;have hb:Below W.heap.size W W1:=by rw[hW];exact(Below.refl _ _).alloc (Nat.le_refl _) _
 have A1:=zh (hat.on hb);have O1:=zh (ho.below hb);have RC1:Hid (RcAt W1 g r):=by rw[hW,hg];exact RcAt.new _ _
 have NQ0:=zh hq;have HB:=zh hb;have HLT:=zh (fun m (e:H.ownBlock=some m)=>(ho.lt m e).2);have GQ:Hid (g≠q):=by have:=hat.lt;show g≠q;omega
 have GE:Hid (W.heap.size=g):=hg.symm;obtain⟨A,c,hH⟩:=ho.form;have HL:=zh hl;have HLN:=zh (show∀(n':Nat) (A':Option Addr) (c':Nat),H= .slice A' n' c'→n'=s.h.length from fun n' A' c' e=>by rw[hH]at e;injection e with _ e _;exact e.symm)
 have b74:=A1.out.cs.c74;rw[hH]at b74;have lq:=A1.out.lt;by_cases h24:s.h.length=24
 ·obtain⟨b,hA⟩:∃b,A=some ⟨b,0,none⟩:=by
   rcases ho.2 with⟨e,h0⟩|⟨g',c',cur,e,_⟩
   ·omega
   ·rw[hH]at e;injection e with e _ _;exact⟨g',e⟩
  subst hA;have hO1:=O1.out;rw[hH]at hO1;rw[h24]at b74 hO1 hH;have CD:=zh (jqf W1 0 b c s.h hO1);have HH:=zh hH;have H24:=zh h24;clear hat ho hq hl hb hO1 hH h24;go_enter Tryz.func212,Tryz.ntmps212;go_upto_region 1 with fail
  rw[←hW,←hg];clear hW hg;go_upto_region 3 with(go_at_call 256;(with_reducible refine CD.out.mono ?_);rintro e w2 ⟨rfl,ho2,hg2⟩;have O2:=zh ho2;have G2:=zh hg2;have A2:=zh (A1.out.keep (hg2.block q A1.out.lt (fun e=>NQ0.out (by rw[HH.out];exact e.symm))));clear ho2 hg2 b74 lq;have b74:=A2.out.cs.c74;have fz:=fun i=>A2.out.fz i;have lq:=A2.out.lt)
  obtain⟨l3,hl3⟩:∃l3,l3=s.h.tail:=⟨_,rfl⟩;have LE:Hid (Bk.last24 (s.h++[r])=l3++[r]):=by show _=_;rw[hl3];exact jna H24.out
  have L3:Hid (l3.length≤23):=by show _≤_;rw[hl3,List.length_tail,H24.out];omega
  rw[←hl3]at O2;have BQ:Hid (b≠q):=fun e=>NQ0.out (by rw[HH.out];show some b=_;rw[e]);have A3:=zh (A2.out.hs (.slice (some ⟨b,0,none⟩) 23 c) l3);have O3:=zh (O2.out.kept (jad w2 q 74 (.slice (some ⟨b,0,none⟩) 23 c)) (fun e=>BQ.out (by injection e)));have K2:=zh ((Kept.of_below (F:=fun i=>i=q∨H.ownBlock=some i) HB.out).trans (G:=fun i=>H.ownBlock=some i) (Kept.of_grown G2.out fun k hk=>by rw[HH.out];exact hk) fun i _ h=> .inr h);have K3:=zh (K2.out.trans (G:=fun i=>i=q) (Kept.of_grown (row:=some q) (jad w2 q 74 (.slice (some ⟨b,0,none⟩) 23 c)) (fun k hk=>by injection hk with hk;exact hk.symm)) fun i _ hi=> .inl hi)
  have NB:Hid (b≠g):=by have:=HLT.out b (by rw[HH.out];rfl);have:=GE.out;show b≠g;omega
  have RC3:Hid (RcAt (w2.setCell ⟨q,74,none⟩ (.slice (some ⟨b,0,none⟩) 23 c)) g r):=⟨(heap_setCell_other _ _ _ _ (fun e=>GQ.out e)).trans ((G2.out.block g RC1.out.cs.lt (fun e=>NB.out (by injection e with e;exact e.symm))).trans RC1.out.row)⟩
  have HO:Hid (∀i,i<W.heap.size→(Value.slice (some ⟨b,0,none⟩) 23 c).ownBlock=some i→i=q∨H.ownBlock=some i):=fun i _ e=> .inr (by rw[HH.out];exact e);have NQ:Hid ((Value.slice (some ⟨b,0,none⟩) 23 c).ownBlock≠some q):=fun e=>BQ.out (by injection e);have NG:Hid ((Value.slice (some ⟨b,0,none⟩) 23 c).ownBlock≠some g):=fun e=>NB.out (by injection e);clear b74 fz lq hl3;generalize hW3:w2.setCell ⟨q,74,none⟩ (.slice (some ⟨b,0,none⟩) 23 c)=W3 at*;generalize hH3:Value.slice (some ⟨b,0,none⟩) 23 c=H3 at*;have b74:=A3.out.cs.c74;have lq:=A3.out.lt;clear hW3 hH3;refine wp_region_held_drew (S:=fun W=>RcAt W g r) (by kernel_rfl) (RC3.out.on (Below.refl W3.heap.size W3).drew) (fun hS=> ?_);refine tY 0 hS ?_;refine tY 1 hS ?_;refine tY 2 hS ?_;refine tY 3 hS ?_;refine tZ 5 (v:= .agg (Rc.cells r)) rfl (fun W hW=>jap (.tmp 3) rfl g r rfl hW) hS ?_;simp only[Act.put,zT,zO,zS];refine jex 4 6 rfl rfl (by kernel_rfl) rfl rfl (fun K hK=> ?_) (fun K hK=> ?_)
  ·go_simp
   refine hK.out _ _ hS (fun _=> ?_);clear hK K;try simp only[Act.put,zT,zO,zS]
   refine rO 6 (fun K hK=> ?_);refine jb1 Tryz.underlying28 jbv (by omega) (by omega) (.tmp 23) rfl (Rc.cells r) rfl rfl ?_;have hb5:Below W3.drew.heap.size W3.drew (W3.drew.alloc (.cells (Rc.cells r) 45)):=(Below.refl _ _).alloc (Nat.le_refl _) _;have R5:Hid (RcAt (W3.drew.alloc (.cells (Rc.cells r) 45)) W3.drew.heap.size r):=RcAt.new _ _;have A5:=zh ((A3.out.on (w':=W3.drew) (Below.refl W3.heap.size W3).drew).on hb5);have O5:=zh ((O3.out.below (w':=W3.drew) (Below.refl W3.heap.size W3).drew).below hb5);have K5:=zh (K3.out.trans (Kept.of_below (F:=fun _=>False) ((Below.refl W3.heap.size W3).drew.trans hb5)) fun _ _ h=>h.elim);have hS2:=hS.on hb5;clear hS hb5;have hS:=hS2;clear hS2;have Z5:Hid (W3.drew.heap.size<(W3.drew.alloc (.cells (Rc.cells r) 45)).heap.size):=R5.out.cs.lt;generalize W3.drew.alloc (.cells (Rc.cells r) 45)=W5 at*;generalize W3.drew.heap.size=m5 at*;refine hK.out _ _ hS (fun _=> ?_);clear hK K;try simp only[Act.put,zT,zO,zS]
   refine rO 7 (fun K hK=> ?_);refine jbq (.tmp 22) (.tmp 24) rfl 0 H3 l3 rfl O5.out m5 r rfl R5.out (by have:=L3.out;omega) (Nat.zero_le _) ?_;intro v6 w6 ho6 hg6 hv6;have O6:=zh ho6;have A6:=zh (A5.out.keep (hg6.block q A5.out.lt (fun e=>NQ.out e.symm)));have K6:=zh (K5.out.trans (G:=fun i=>H3.ownBlock=some i) (Kept.of_grown hg6 fun k hk=>hk) fun i hi h=>HO.out i hi h);have V6:Hid (∀m,v6.ownBlock=some m→H.ownBlock=some m∨W.heap.size≤m):=fun m hm=>by
    rcases hv6 with e|e
    ·rw[e]at hm
     by_cases hlt:m<W.heap.size
     ·exact(HO.out m hlt hm).elim (fun e=>absurd (e▸hm) (fun h=>NQ.out h)) .inl
     ·exact .inr (by omega)
    ·rw[e]at hm
     injection hm with hm
     have:=K5.out.size;exact .inr (by omega)
   have NV:Hid (v6.ownBlock≠some q):=fun e=>by
    rcases hv6 with h|h
    ·exact NQ.out (h▸e)
    ·rw[h]at e
     injection e with e
     have:=A5.out.lt;omega
   obtain⟨A6v,c6v,hf6⟩:=ho6.form;generalize(l3++[r]).length=n6v at hf6;subst hf6;have hS2:RcAt w6 g r:=⟨(hg6.block g hS.cs.lt (fun e=>NG.out e.symm)).trans hS.row⟩;clear hS ho6 hg6 hv6;have hS:=hS2;clear hS2;have b74:=A6.out.cs.c74;have fz:=fun i=>A6.out.fz i;have lq:=A6.out.lt;refine hK.out _ _ hS (fun _=> ?_);clear hK K;refine tY 8 hS ?_;refine tY 9 hS ?_;simp only[Act.put,zT,zO,zS];refine rO 10 (fun K hK=> ?_);go_simp;have hS2:RcAt (w6.setCell ⟨q,74,none⟩ (.slice A6v n6v c6v)) g r:=⟨(heap_setCell_other _ _ _ _ (fun e=>GQ.out e)).trans hS.row⟩;have A7:=zh (A6.out.hs (.slice A6v n6v c6v) (l3++[r]));have O7:=zh (O6.out.kept (jad w6 q 74 (.slice A6v n6v c6v)) (fun e=>NV.out e));have K7:=zh (K6.out.trans (G:=fun i=>i=q) (Kept.of_grown (row:=some q) (jad w6 q 74 (.slice A6v n6v c6v)) (fun k hk=>by injection hk with hk;exact hk.symm)) fun i _ hi=> .inl hi)
   clear hS b74 fz lq;have hS:=hS2;clear hS2;refine hK.out _ _ hS (fun _=> ?_);clear hK K;try simp only[Act.put,zT,zO,zS]
   refine wpAnyH_done (by kernel_rfl) ?_ _;clear hS;go_wp2_with fail;go_end0;unfold jbg;rw[LE.out];exact⟨_,rfl,A7.out,O7.out,K7.out,V6.out⟩
  ·refine jb1 Tryz.underlying28 jbv (by omega) (by omega) (.tmp 23) rfl (Rc.cells r) rfl rfl ?_
   have hb5:Below W3.drew.heap.size W3.drew (W3.drew.alloc (.cells (Rc.cells r) 45)):=(Below.refl _ _).alloc (Nat.le_refl _) _;have R5:Hid (RcAt (W3.drew.alloc (.cells (Rc.cells r) 45)) W3.drew.heap.size r):=RcAt.new _ _;have A5:=zh ((A3.out.on (w':=W3.drew) (Below.refl W3.heap.size W3).drew).on hb5);have O5:=zh ((O3.out.below (w':=W3.drew) (Below.refl W3.heap.size W3).drew).below hb5);have K5:=zh (K3.out.trans (Kept.of_below (F:=fun _=>False) ((Below.refl W3.heap.size W3).drew.trans hb5)) fun _ _ h=>h.elim);have hS2:=hS.on hb5;clear hS hb5;have hS:=hS2;clear hS2;have Z5:Hid (W3.drew.heap.size<(W3.drew.alloc (.cells (Rc.cells r) 45)).heap.size):=R5.out.cs.lt;generalize W3.drew.alloc (.cells (Rc.cells r) 45)=W5 at*;generalize W3.drew.heap.size=m5 at*;refine hK.out _ _ hS (fun _=> ?_);clear hK K;try simp only[Act.put,zT,zO,zS]
   refine rO 4 (fun K hK=> ?_);have b74:=A5.out.cs.c74;have lq:=A5.out.lt;go_simp;refine hK.out _ _ hS (fun _=> ?_);clear hK K;try simp only[Act.put,zT,zO,zS]
   refine rO 7 (fun K hK=> ?_);refine jbq (.tmp 22) (.tmp 24) rfl 0 H3 l3 rfl O5.out m5 r rfl R5.out (by have:=L3.out;omega) (Nat.zero_le _) ?_;intro v6 w6 ho6 hg6 hv6;have O6:=zh ho6;have A6:=zh (A5.out.keep (hg6.block q A5.out.lt (fun e=>NQ.out e.symm)));have K6:=zh (K5.out.trans (G:=fun i=>H3.ownBlock=some i) (Kept.of_grown hg6 fun k hk=>hk) fun i hi h=>HO.out i hi h);have V6:Hid (∀m,v6.ownBlock=some m→H.ownBlock=some m∨W.heap.size≤m):=fun m hm=>by
    rcases hv6 with e|e
    ·rw[e]at hm
     by_cases hlt:m<W.heap.size
     ·exact(HO.out m hlt hm).elim (fun e=>absurd (e▸hm) (fun h=>NQ.out h)) .inl
     ·exact .inr (by omega)
    ·rw[e]at hm
     injection hm with hm
     have:=K5.out.size;exact .inr (by omega)
   have NV:Hid (v6.ownBlock≠some q):=fun e=>by
    rcases hv6 with h|h
    ·exact NQ.out (h▸e)
    ·rw[h]at e
     injection e with e
     have:=A5.out.lt;omega
   obtain⟨A6v,c6v,hf6⟩:=ho6.form;generalize(l3++[r]).length=n6v at hf6;subst hf6;have hS2:RcAt w6 g r:=⟨(hg6.block g hS.cs.lt (fun e=>NG.out e.symm)).trans hS.row⟩;clear hS ho6 hg6 hv6;have hS:=hS2;clear hS2;have b74:=A6.out.cs.c74;have fz:=fun i=>A6.out.fz i;have lq:=A6.out.lt;refine hK.out _ _ hS (fun _=> ?_);clear hK K;refine tY 8 hS ?_;refine tY 9 hS ?_;simp only[Act.put,zT,zO,zS];refine rO 10 (fun K hK=> ?_);go_simp;have hS2:RcAt (w6.setCell ⟨q,74,none⟩ (.slice A6v n6v c6v)) g r:=⟨(heap_setCell_other _ _ _ _ (fun e=>GQ.out e)).trans hS.row⟩;have A7:=zh (A6.out.hs (.slice A6v n6v c6v) (l3++[r]));have O7:=zh (O6.out.kept (jad w6 q 74 (.slice A6v n6v c6v)) (fun e=>NV.out e));have K7:=zh (K6.out.trans (G:=fun i=>i=q) (Kept.of_grown (row:=some q) (jad w6 q 74 (.slice A6v n6v c6v)) (fun k hk=>by injection hk with hk;exact hk.symm)) fun i _ hi=> .inl hi)
   clear hS b74 fz lq;have hS:=hS2;clear hS2;refine hK.out _ _ hS (fun _=> ?_);clear hK K;try simp only[Act.put,zT,zO,zS]
   refine wpAnyH_done (by kernel_rfl) ?_ _;clear hS;go_wp2_with fail;go_end0;unfold jbg;rw[LE.out];exact⟨_,rfl,A7.out,O7.out,K7.out,V6.out⟩
 ·obtain⟨l3,hl3⟩:∃l3,l3=s.h:=⟨_,rfl⟩
  have LE:Hid (Bk.last24 (s.h++[r])=l3++[r]):=by show _=_;rw[hl3];exact jnb (by omega)
  have L3:Hid (l3.length≤23):=by show _≤_;rw[hl3];omega
  have hn24:((s.h.length:Int)==24)=false:=by rw[beq_eq_false_iff_ne];omega
  obtain⟨H3,hH3⟩:∃H3,H3=H:=⟨_,rfl⟩;have A3:Hid (BdAt W1 q {s with h:=l3} ru rv lm km H3):=by rw[hH3,hl3];exact A1.out
  have O3:Hid (OwF Bk.rcC 18 45 W1 0 H3 l3):=by rw[hH3,hl3];exact O1.out
  clear hl3;have K3:=zh (Kept.of_below (F:=fun i=>i=q∨H.ownBlock=some i) HB.out);have RC3:=RC1;have HO:Hid (∀i,i<W.heap.size→H3.ownBlock=some i→i=q∨H.ownBlock=some i):=fun i _ e=> .inr (by rw[←hH3];exact e);have NQ:Hid (H3.ownBlock≠some q):=by rw[hH3];exact NQ0.out
  have NG:Hid (H3.ownBlock≠some g):=fun e=>by rw[hH3]at e;have:=HLT.out g e;have:=GE.out;omega
  have b75:=A3.out.cs.c74;have HH:=zh hH;clear hat ho hq hl hb h24 hH hH3;go_enter Tryz.func212,Tryz.ntmps212;go_upto_region 1 with fail
  rw[←hW,←hg];clear hW hg;go_upto_region 3 with fail
  clear b74;have b74:=b75;clear b75;clear hn24;have W3E:∃W3,W3=W1:=⟨_,rfl⟩;obtain⟨W3,hW3⟩:=W3E;subst hW3;refine wp_region_held_drew (S:=fun W=>RcAt W g r) (by kernel_rfl) (RC3.out.on (Below.refl W3.heap.size W3).drew) (fun hS=> ?_);refine tY 0 hS ?_;refine tY 1 hS ?_;refine tY 2 hS ?_;refine tY 3 hS ?_;refine tZ 5 (v:= .agg (Rc.cells r)) rfl (fun W hW=>jap (.tmp 3) rfl g r rfl hW) hS ?_;simp only[Act.put,zT,zO,zS];refine jex 4 6 rfl rfl (by kernel_rfl) rfl rfl (fun K hK=> ?_) (fun K hK=> ?_)
  ·go_simp
   refine hK.out _ _ hS (fun _=> ?_);clear hK K;try simp only[Act.put,zT,zO,zS]
   refine rO 6 (fun K hK=> ?_);refine jb1 Tryz.underlying28 jbv (by omega) (by omega) (.tmp 23) rfl (Rc.cells r) rfl rfl ?_;have hb5:Below W3.drew.heap.size W3.drew (W3.drew.alloc (.cells (Rc.cells r) 45)):=(Below.refl _ _).alloc (Nat.le_refl _) _;have R5:Hid (RcAt (W3.drew.alloc (.cells (Rc.cells r) 45)) W3.drew.heap.size r):=RcAt.new _ _;have A5:=zh ((A3.out.on (w':=W3.drew) (Below.refl W3.heap.size W3).drew).on hb5);have O5:=zh ((O3.out.below (w':=W3.drew) (Below.refl W3.heap.size W3).drew).below hb5);have K5:=zh (K3.out.trans (Kept.of_below (F:=fun _=>False) ((Below.refl W3.heap.size W3).drew.trans hb5)) fun _ _ h=>h.elim);have hS2:=hS.on hb5;clear hS hb5;have hS:=hS2;clear hS2;have Z5:Hid (W3.drew.heap.size<(W3.drew.alloc (.cells (Rc.cells r) 45)).heap.size):=R5.out.cs.lt;generalize W3.drew.alloc (.cells (Rc.cells r) 45)=W5 at*;generalize W3.drew.heap.size=m5 at*;refine hK.out _ _ hS (fun _=> ?_);clear hK K;try simp only[Act.put,zT,zO,zS]
   refine rO 7 (fun K hK=> ?_);refine jbq (.tmp 22) (.tmp 24) rfl 0 H3 l3 rfl O5.out m5 r rfl R5.out (by have:=L3.out;omega) (Nat.zero_le _) ?_;intro v6 w6 ho6 hg6 hv6;have O6:=zh ho6;have A6:=zh (A5.out.keep (hg6.block q A5.out.lt (fun e=>NQ.out e.symm)));have K6:=zh (K5.out.trans (G:=fun i=>H3.ownBlock=some i) (Kept.of_grown hg6 fun k hk=>hk) fun i hi h=>HO.out i hi h);have V6:Hid (∀m,v6.ownBlock=some m→H.ownBlock=some m∨W.heap.size≤m):=fun m hm=>by
    rcases hv6 with e|e
    ·rw[e]at hm
     by_cases hlt:m<W.heap.size
     ·exact(HO.out m hlt hm).elim (fun e=>absurd (e▸hm) (fun h=>NQ.out h)) .inl
     ·exact .inr (by omega)
    ·rw[e]at hm
     injection hm with hm
     have:=K5.out.size;exact .inr (by omega)
   have NV:Hid (v6.ownBlock≠some q):=fun e=>by
    rcases hv6 with h|h
    ·exact NQ.out (h▸e)
    ·rw[h]at e
     injection e with e
     have:=A5.out.lt;omega
   obtain⟨A6v,c6v,hf6⟩:=ho6.form;generalize(l3++[r]).length=n6v at hf6;subst hf6;have hS2:RcAt w6 g r:=⟨(hg6.block g hS.cs.lt (fun e=>NG.out e.symm)).trans hS.row⟩;clear hS ho6 hg6 hv6;have hS:=hS2;clear hS2;have b74:=A6.out.cs.c74;have fz:=fun i=>A6.out.fz i;have lq:=A6.out.lt;refine hK.out _ _ hS (fun _=> ?_);clear hK K;refine tY 8 hS ?_;refine tY 9 hS ?_;simp only[Act.put,zT,zO,zS];refine rO 10 (fun K hK=> ?_);go_simp;have hS2:RcAt (w6.setCell ⟨q,74,none⟩ (.slice A6v n6v c6v)) g r:=⟨(heap_setCell_other _ _ _ _ (fun e=>GQ.out e)).trans hS.row⟩;have A7:=zh (A6.out.hs (.slice A6v n6v c6v) (l3++[r]));have O7:=zh (O6.out.kept (jad w6 q 74 (.slice A6v n6v c6v)) (fun e=>NV.out e));have K7:=zh (K6.out.trans (G:=fun i=>i=q) (Kept.of_grown (row:=some q) (jad w6 q 74 (.slice A6v n6v c6v)) (fun k hk=>by injection hk with hk;exact hk.symm)) fun i _ hi=> .inl hi)
   clear hS b74 fz lq;have hS:=hS2;clear hS2;refine hK.out _ _ hS (fun _=> ?_);clear hK K;try simp only[Act.put,zT,zO,zS]
   refine wpAnyH_done (by kernel_rfl) ?_ _;clear hS;go_wp2_with fail;go_end0;unfold jbg;rw[LE.out];exact⟨_,rfl,A7.out,O7.out,K7.out,V6.out⟩
  ·refine jb1 Tryz.underlying28 jbv (by omega) (by omega) (.tmp 23) rfl (Rc.cells r) rfl rfl ?_
   have hb5:Below W3.drew.heap.size W3.drew (W3.drew.alloc (.cells (Rc.cells r) 45)):=(Below.refl _ _).alloc (Nat.le_refl _) _;have R5:Hid (RcAt (W3.drew.alloc (.cells (Rc.cells r) 45)) W3.drew.heap.size r):=RcAt.new _ _;have A5:=zh ((A3.out.on (w':=W3.drew) (Below.refl W3.heap.size W3).drew).on hb5);have O5:=zh ((O3.out.below (w':=W3.drew) (Below.refl W3.heap.size W3).drew).below hb5);have K5:=zh (K3.out.trans (Kept.of_below (F:=fun _=>False) ((Below.refl W3.heap.size W3).drew.trans hb5)) fun _ _ h=>h.elim);have hS2:=hS.on hb5;clear hS hb5;have hS:=hS2;clear hS2;have Z5:Hid (W3.drew.heap.size<(W3.drew.alloc (.cells (Rc.cells r) 45)).heap.size):=R5.out.cs.lt;generalize W3.drew.alloc (.cells (Rc.cells r) 45)=W5 at*;generalize W3.drew.heap.size=m5 at*;refine hK.out _ _ hS (fun _=> ?_);clear hK K;try simp only[Act.put,zT,zO,zS]
   refine rO 4 (fun K hK=> ?_);have b74:=A5.out.cs.c74;have lq:=A5.out.lt;go_simp;refine hK.out _ _ hS (fun _=> ?_);clear hK K;try simp only[Act.put,zT,zO,zS]
   refine rO 7 (fun K hK=> ?_);refine jbq (.tmp 22) (.tmp 24) rfl 0 H3 l3 rfl O5.out m5 r rfl R5.out (by have:=L3.out;omega) (Nat.zero_le _) ?_;intro v6 w6 ho6 hg6 hv6;have O6:=zh ho6;have A6:=zh (A5.out.keep (hg6.block q A5.out.lt (fun e=>NQ.out e.symm)));have K6:=zh (K5.out.trans (G:=fun i=>H3.ownBlock=some i) (Kept.of_grown hg6 fun k hk=>hk) fun i hi h=>HO.out i hi h);have V6:Hid (∀m,v6.ownBlock=some m→H.ownBlock=some m∨W.heap.size≤m):=fun m hm=>by
    rcases hv6 with e|e
    ·rw[e]at hm
     by_cases hlt:m<W.heap.size
     ·exact(HO.out m hlt hm).elim (fun e=>absurd (e▸hm) (fun h=>NQ.out h)) .inl
     ·exact .inr (by omega)
    ·rw[e]at hm
     injection hm with hm
     have:=K5.out.size;exact .inr (by omega)
   have NV:Hid (v6.ownBlock≠some q):=fun e=>by
    rcases hv6 with h|h
    ·exact NQ.out (h▸e)
    ·rw[h]at e
     injection e with e
     have:=A5.out.lt;omega
   obtain⟨A6v,c6v,hf6⟩:=ho6.form;generalize(l3++[r]).length=n6v at hf6;subst hf6;have hS2:RcAt w6 g r:=⟨(hg6.block g hS.cs.lt (fun e=>NG.out e.symm)).trans hS.row⟩;clear hS ho6 hg6 hv6;have hS:=hS2;clear hS2;have b74:=A6.out.cs.c74;have fz:=fun i=>A6.out.fz i;have lq:=A6.out.lt;refine hK.out _ _ hS (fun _=> ?_);clear hK K;refine tY 8 hS ?_;refine tY 9 hS ?_;simp only[Act.put,zT,zO,zS];refine rO 10 (fun K hK=> ?_);go_simp;have hS2:RcAt (w6.setCell ⟨q,74,none⟩ (.slice A6v n6v c6v)) g r:=⟨(heap_setCell_other _ _ _ _ (fun e=>GQ.out e)).trans hS.row⟩;have A7:=zh (A6.out.hs (.slice A6v n6v c6v) (l3++[r]));have O7:=zh (O6.out.kept (jad w6 q 74 (.slice A6v n6v c6v)) (fun e=>NV.out e));have K7:=zh (K6.out.trans (G:=fun i=>i=q) (Kept.of_grown (row:=some q) (jad w6 q 74 (.slice A6v n6v c6v)) (fun k hk=>by injection hk with hk;exact hk.symm)) fun i _ hi=> .inl hi)
   clear hS b74 fz lq;have hS:=hS2;clear hS2;refine hK.out _ _ hS (fun _=> ?_);clear hK K;try simp only[Act.put,zT,zO,zS]
   refine wpAnyH_done (by kernel_rfl) ?_ _;clear hS;go_wp2_with fail;go_end0;unfold jbg;rw[LE.out];exact⟨_,rfl,A7.out,O7.out,K7.out,V6.out⟩
namespace Bd
theorem act_lok{s:Bk.St}{r:Rc.R}(h:Lok s)(hc:Bk.chk s r=0):Lok (Bk.act s r):=by
 refine⟨Bk.act_ok h.ok hc,?_⟩;rcases Bk.kinds hc with hk|hk|hk|hk|hk|hk|hk
 ·rw[Bk.act1 hk]
  intro _;have h1:=Rc.right1 hk (Bk.chk_right hc);have h2:=h.ok.till;show 1≤Bk.leadT s r;unfold Bk.leadT Bk.late;split<;>omega
 all_goals first|(rw[Bk.act2 hk];exact h.t1)|(rw[Bk.act3 hk];exact h.t1)|(rw[Bk.act4 hk];exact h.t1)|(rw[Bk.act5 hk];exact h.t1)|(rw[Bk.act6 hk];exact h.t1)|(rw[Bk.act7 hk];exact h.t1)
end Bd
section
variable{w0 w w':World}{q g:Nat}{s s':Bk.St}{ru ru':Nat→Bk.Un}{rv:Int}{lo ko:Option Nat}{H H':Value}{K:Kv.St}{r:Rc.R}
abbrev KQ(q:Nat)(w0 w:World):Prop:=Kept (fun i=>i=q) w0 w
theorem KQ.set(h:KQ q w0 w)(k:Nat)(v:Value):KQ q w0 (w.setCell ⟨q,k,none⟩ v):=h.trans (G:=fun i=>i=q) (Kept.of_grown (row:=some q) (jad w q k v) (fun k hk=>by injection hk with hk;exact hk.symm)) fun i _ hi=>hi
theorem KQ.on(h:KQ q w0 w)(hb:Below w.heap.size w w'):KQ q w0 w':=h.trans (Kept.of_below (F:=fun _=>False) hb) fun _ _ h=>h.elim
theorem KQ.drew(h:KQ q w0 w):KQ q w0 w.drew:=h.on (Below.refl w.heap.size w).drew
theorem KQ.of(hb:Below w.heap.size w w')(q:Nat):KQ q w w':=Kept.of_below hb
theorem jax(h:RcAt w g r)(hg:g≠q)(k:Nat)(v:Value):RcAt (w.setCell ⟨q,k,none⟩ v) g r:=⟨(heap_setCell_other w ⟨q,k,none⟩ g v hg).trans h.row⟩
theorem jfb(h:RcAt w g r):RcAt w.drew g r:=⟨h.row⟩
theorem jdf{lm km:Value}(h:BdAt w q s ru rv lm km H):BdAt w.drew q s ru rv lm km H:=⟨h.row⟩
theorem BdIs.turnQ(h:BdIs w q s ru rv lo ko H K)(hk:KQ q w w')(ha:BdAt w' q s' ru' rv (.map lo) (.map ko) H)(ht:Bd.tab s'=Bd.tab s)(hv:s'.vs=s.vs)(hh:s'.h=s.h)(hr:Bd.Raw ru' s'.us)(hl:Bd.Lok s'):BdIs w' q s' ru' rv lo ko H K where
 at_:=ha
 ls:=by rw[ht];exact h.ls.keep fun m e=>hk.block m (h.lt.2.1 m e) (fun e2=>h.ql (by rw[e,e2]))
 kv:=h.kv.keep fun m e=>hk.block m (h.lt.2.2.1 m e) (fun e2=>h.qk (by rw[e,e2]))
 kg:=h.kg
 kr:=h.kr
 kb:=by rw[hv];exact h.kb
 dg:=by rw[hv];exact h.dg
 raw:=hr
 h:=by rw[hh];exact h.h.keep fun m e=>hk.block m (h.lt.2.2.2 m e) (fun e2=>h.qh (by rw[e,e2]))
 lk:=h.lk
 lok:=hl
theorem BdIs.turnH(h:BdIs w q s ru rv lo ko H K)(hk:Kept (fun i=>i=q∨H.ownBlock=some i) w w')(ha:BdAt w' q s' ru' rv (.map lo) (.map ko) H')(ho:OwF Bk.rcC 18 45 w' 0 H' s'.h)(ht:Bd.tab s'=Bd.tab s)(hv:s'.vs=s.vs)(hr:Bd.Raw ru' s'.us)(hl:Bd.Lok s'):BdIs w' q s' ru' rv lo ko H' K where
 at_:=ha
 ls:=by rw[ht];exact h.ls.keep fun m e=>hk.block m (h.lt.2.1 m e) (fun e2=>by rcases e2 with e2|e2;exact h.ql (by rw[e,e2]);exact h.hl m e e2)
 kv:=h.kv.keep fun m e=>hk.block m (h.lt.2.2.1 m e) (fun e2=>by rcases e2 with e2|e2;exact h.qk (by rw[e,e2]);exact h.hk m e e2)
 kg:=h.kg
 kr:=h.kr
 kb:=by rw[hv];exact h.kb
 dg:=by rw[hv];exact h.dg
 raw:=hr
 h:=ho
 lk:=h.lk
 lok:=hl
theorem turn_q(h:BdIs w q s ru rv lo ko H K)(hk:KQ q w w')(ha:BdAt w' q s' ru' rv (.map lo) (.map ko) H)(ht:Bd.tab s'=Bd.tab s)(hv:s'.vs=s.vs)(hh:s'.h=s.h)(hr:Bd.Raw ru' s'.us)(hl:Bd.Lok s'):jas q lo ko H s' (.tuple #[]) w (.returned (.tuple #[])) w':=
 ⟨ru',rv,lo,ko,H,K,rfl,h.turnQ hk ha ht hv hh hr hl,hk.more fun i _ e=> .inl e,fun i hi=> .inl hi⟩
theorem jjq{e:Ending}{s1:Bk.St}{w1:World}(h:BdIs w q s ru rv lo ko H K)(hk:KQ q w w1)(hn:jbg q s1 ru' rv (.map lo) (.map ko) H r w1 e w')(hs:{s1 with h:=Bk.last24 (s1.h++[r])}=s')(ht:Bd.tab s'=Bd.tab s)(hv:s'.vs=s.vs)(hr:Bd.Raw ru' s'.us)(hl:Bd.Lok s'):jas q lo ko H s' (.tuple #[]) w e w':=by
 obtain⟨H',h1,h2,h3,h4,h5⟩:=hn;subst hs;have hk2:Kept (fun i=>i=q∨H.ownBlock=some i) w w':=(hk.more (G:=fun i=>i=q∨H.ownBlock=some i) fun i _ e=> .inl e).trans h4 fun i _ h=>h;refine⟨ru',rv,lo,ko,H',K,h1,h.turnH hk2 h2 h3 ht hv hr hl,hk2.more fun i _ e=> ?_,fun i hi=> ?_⟩
 ·rcases e with e|e
  ·exact .inl e
  ·exact .inr (.inr (.inr e))
 ·rcases hi with hi|hi|hi|hi
  ·exact .inl (.inl hi)
  ·exact .inl (.inr (.inl hi))
  ·exact .inl (.inr (.inr (.inl hi)))
  ·rcases h5 i hi with h6|h6
   ·exact .inl (.inr (.inr (.inr h6)))
   ·exact .inr (Nat.le_trans hk.size h6)
theorem BdIs.hist(h:BdIs w q s ru rv lo ko H K)(hk:KQ q w w'):OwF Bk.rcC 18 45 w' 0 H s.h:=h.h.keep fun m e=>hk.block m (h.lt.2.2.2 m e) (fun e2=>h.qh (by rw[e,e2]))
end
end Go.Proofs.YtabandbigckfkaaGreatDoor
