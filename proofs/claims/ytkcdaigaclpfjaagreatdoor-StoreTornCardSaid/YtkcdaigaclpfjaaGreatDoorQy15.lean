import Derived.Test.YtkcdaigaclpfjaaGreatDoorQy14
import Derived.Deep.DeepAppendRoom
import Derived.Lib.SliceRun
import Derived.Laws.IdiomCopy
import Derived.WalkSpells
import Derived.ArgAppend
set_option maxHeartbeats 6400000
set_option maxRecDepth 100000
set_option linter.unusedSimpArgs false
set_option linter.unusedVariables false
namespace Go.Proofs.YtkcdaigaclpfjaaGreatDoor
open Go.RowKit Go.Deep Go.Maps
theorem jmj(W:World)(p:Value)(k:ByteArray)(a b c:Int)(f:Bool)(CG:Calls Tryz.prog 118 #[p,.string k] W (fun e w'=>e= .returned (.tuple #[leV a b c,.bool f])/\Below W.heap.size W w'))(ho ep now:Int){z:Bool}(hz:z=true↔(a=ho/\b=ep)/\(c≠0/\now<c)):
  Calls Tryz.prog 114 #[p,.string k,.int .i64 ho,.int .i64 ep,.int .i64 now] W (fun e w'=>e= .returned (.bool z)/\Below W.heap.size W w'):=by
 have CG:=zh CG;by_cases h1:a=ho/\b=ep
 ·have C1:=zh (fun W=>jhl W a b c ho ep (x:=true) (by simp[h1]))
  have C2:=zh (fun W=>jew W a b c now (x:=z) (by rw[hz];simp[h1]));clear hz h1;unfold leV at*;go_enter Tryz.func114,Tryz.ntmps114;go_upto_region 2 with(go_at_call 118;(with_reducible refine CG.out.mono ?_);rintro e w1 ⟨rfl,hb⟩;have B1:=zh hb;clear hb)
  have B2:=zh (B1.out.alloc (by have:=B1.out.size;omega) (.cells #[.int .i64 a,.int .i64 b,.int .i64 c] 189));have R2:=zh (heap_alloc_new w1 (.cells #[.int .i64 a,.int .i64 b,.int .i64 c] 189));obtain⟨g,hg⟩:∃g,g=w1.heap.size:=⟨_,rfl⟩;rw[<-hg]at R2⊢;generalize w1.alloc (.cells #[.int .i64 a,.int .i64 b,.int .i64 c] 189)=w2 at*;have d0:=LsCells.c0 R2.out;have d1:=LsCells.c1 R2.out;have d2:=LsCells.c2 R2.out;have HG:=zh hg;clear hg
  go_wp2_with(first
   |(go_at_call 157;(with_reducible refine(C1.out _).mono ?_);rintro e w3 ⟨rfl,hb⟩;have B3:=zh (B2.out.trans (hb.mono B2.out.size));have R3:=jag R2.out hb;have e0:=LsCells.c0 R3;have e1:=LsCells.c1 R3;have e2:=LsCells.c2 R3;clear hb R3)
   |(go_at_call 158;(with_reducible refine(C2.out _).mono ?_);rintro e w4 ⟨rfl,hb⟩;have B4:=zh (B3.out.trans (hb.mono B3.out.size));clear hb))
  go_ret;exact⟨rfl,B4.out⟩
 ·have C1:=zh (fun W=>jhl W a b c ho ep (x:=false) (by simpa using h1))
  obtain rfl:z=false:=by rw[Bool.eq_false_iff];intro h;exact h1 (hz.1 h).1
  clear hz h1;unfold leV at*;go_enter Tryz.func114,Tryz.ntmps114;go_upto_region 2 with(go_at_call 118;(with_reducible refine CG.out.mono ?_);rintro e w1 ⟨rfl,hb⟩;have B1:=zh hb;clear hb)
  have B2:=zh (B1.out.alloc (by have:=B1.out.size;omega) (.cells #[.int .i64 a,.int .i64 b,.int .i64 c] 189));have R2:=zh (heap_alloc_new w1 (.cells #[.int .i64 a,.int .i64 b,.int .i64 c] 189));obtain⟨g,hg⟩:∃g,g=w1.heap.size:=⟨_,rfl⟩;rw[<-hg]at R2⊢;generalize w1.alloc (.cells #[.int .i64 a,.int .i64 b,.int .i64 c] 189)=w2 at*;have d0:=LsCells.c0 R2.out;have d1:=LsCells.c1 R2.out;have d2:=LsCells.c2 R2.out;have HG:=zh hg;clear hg;go_wp2_with(go_at_call 157;(with_reducible refine(C1.out _).mono ?_);rintro e w3 ⟨rfl,hb⟩;have B3:=zh (B2.out.trans (hb.mono B2.out.size));clear hb);go_ret;exact⟨rfl,B3.out⟩
theorem jip(W:World)(q:Nat)(cs:Array Value)(ty:TypeId)(mo:Option Nat)(s:Ls.St)(h:LsIs W q cs ty mo s)(k:ByteArray)(hk:k.size<=maxLen)(ho ep now:Int){z:Bool}(hz:z=true↔Ls.Holds s k ho ep now):
  Calls Tryz.prog 114 #[.pointer (some ⟨q,0,none⟩),.string k,.int .i64 ho,.int .i64 ep,.int .i64 now] W (fun e w'=>e= .returned (.bool z)/\Below W.heap.size W w'):=
 jmj W _ k _ _ _ _ (jdj W q cs ty mo s h k hk) ho ep now (hz.trans (Ls.holds_is h.good k ho ep now))
open Classical in
noncomputable def Ls.notE(s:Ls.St)(k:ByteArray)(h ep:Int):Nat:=match Ls.find s.l k with
 |none=>5
 |some e=>if Ls.Other e h ep then 8 else 0
open Classical in
theorem Ls.notE_is{s:Ls.St}{k:ByteArray}{h ep:Int}{f x:Bool}(hf:(Ls.find s.l k).isSome=f)(hx:x=true↔Ls.holderOf s.l k=h/\Ls.epochOf s.l k=ep):Ls.notE s k h ep=if f then(if x then 0 else 8)else 5:=by
 unfold Ls.notE Ls.holderOf Ls.epochOf at*
 cases he:Ls.find s.l k with
 |none=>rw[he]at hf;subst hf;rfl
 |some e=>
  rw[he]at hf hx;subst hf;show(if Ls.Other e h ep then 8 else 0)=if x then 0 else 8
  unfold Ls.Other;by_cases h1:e.holder=h/\e.epoch=ep
  ·rw[if_neg zv,if_pos (hx.2 h1)]
  ·rw[if_pos zv,if_neg (fun h=>h1 (hx.1 h))]
theorem jop(W:World)(q:Nat)(cs:Array Value)(ty:TypeId)(mo:Option Nat)(s:Ls.St)(h:LsIs W q cs ty mo s)(k:ByteArray)(hk:k.size<=maxLen)(ho ep:Int):
  Calls Tryz.prog 161 #[.pointer (some ⟨q,0,none⟩),.string k,.int .i64 ho,.int .i64 ep] W (fun e w'=>e= .returned (.int .i64 (Ls.notE s k ho ep:Nat))/\Below W.heap.size W w'):=by
 have CG:=zh (jdj W q cs ty mo s h k hk);obtain⟨x,hx⟩:∃x:Bool,x=true↔Ls.holderOf s.l k=ho/\Ls.epochOf s.l k=ep:=⟨decide _,decide_eq_true_iff⟩;have EN:=zh (Ls.notE_is (f:=(Ls.find s.l k).isSome) rfl hx);unfold LGet lval at CG;rw[EN.out];clear EN;generalize(Ls.find s.l k).isSome=f at*;generalize Ls.holderOf s.l k=a at*;generalize Ls.epochOf s.l k=b at*;generalize Ls.tillOf s.l k=c at*;have C1:=zh (fun W=>jhl W a b c ho ep hx);clear h hk hx;unfold leV at*
 cases f with
 |false=>
  go_enter Tryz.func161,Tryz.ntmps161;go_upto_region 2 with(go_at_call 118;(with_reducible refine CG.out.mono ?_);rintro e w1 ⟨rfl,hb⟩;have B1:=zh hb;clear hb)
  have B2:=zh (B1.out.alloc (by have:=B1.out.size;omega) (.cells #[.int .i64 a,.int .i64 b,.int .i64 c] 189));go_wp2_with fail;go_ret;exact⟨rfl,B2.out⟩
 |true=>
  cases x with
  |false=>
   go_enter Tryz.func161,Tryz.ntmps161;go_upto_region 2 with(go_at_call 118;(with_reducible refine CG.out.mono ?_);rintro e w1 ⟨rfl,hb⟩;have B1:=zh hb;clear hb)
   have B2:=zh (B1.out.alloc (by have:=B1.out.size;omega) (.cells #[.int .i64 a,.int .i64 b,.int .i64 c] 189));go_wp2_with(go_at_call 157;(with_reducible refine(C1.out _).mono ?_);rintro e w3 ⟨rfl,hb⟩;have B3:=zh (B2.out.trans (hb.mono B2.out.size));clear hb);go_ret;exact⟨rfl,B3.out⟩
  |true=>
   go_enter Tryz.func161,Tryz.ntmps161;go_upto_region 2 with(go_at_call 118;(with_reducible refine CG.out.mono ?_);rintro e w1 ⟨rfl,hb⟩;have B1:=zh hb;clear hb)
   have B2:=zh (B1.out.alloc (by have:=B1.out.size;omega) (.cells #[.int .i64 a,.int .i64 b,.int .i64 c] 189));go_wp2_with(go_at_call 157;(with_reducible refine(C1.out _).mono ?_);rintro e w3 ⟨rfl,hb⟩;have B3:=zh (B2.out.trans (hb.mono B2.out.size));clear hb);go_ret;exact⟨rfl,B3.out⟩
structure LsX(W:World)(X:Nat->Prop)(q:Nat)(mo:Option Nat):Prop where
 q:X q
 m:∀m,mo=some m->X m
 lt:∀i,X i->i<W.heap.size
def jk5(q:Nat)(cs:Array Value)(ty:TypeId)(mo:Option Nat)(s':Ls.St)(v:Value)(W:World)(e:Ending)(w':World):Prop:=
 ∃mo',e= .returned v/\LsIs w' q (cs.setIfInBounds 1 (.map mo')) ty mo' s'/\Kept (fun i=>i=q\/mo=some i) W w'/\∀m,mo'=some m->mo=some m\/W.heap.size<=m
theorem jga{W w':World}{X:Nat->Prop}{q:Nat}{cs:Array Value}{ty:TypeId}{mo:Option Nat}{s:Ls.St}(_:LsX W X q mo)(h:LsIs W q cs ty mo s)(hb:Below W.heap.size W w')(v:Value):jk5 q cs ty mo s v W (.returned v) w':=
 ⟨mo,rfl,by rw[set_same h.k1];exact h.on hb,Kept.of_below hb,fun _ hi=> .inl hi⟩
theorem jj7{W W1 w':World}{X:Nat->Prop}{q:Nat}{cs:Array Value}{ty:TypeId}{mo mo':Option Nat}{s':Ls.St}(_:LsX W X q mo)(hb:Below W.heap.size W W1)(h:LsIs w' q (cs.setIfInBounds 1 (.map mo')) ty mo' s')(hk:Kept (fun i=>i=q\/mo=some i) W1 w')(hm:∀m,mo'=some m->mo=some m\/W1.heap.size<=m)(v:Value):jk5 q cs ty mo s' v W (.returned v) w':=
 ⟨mo',rfl,h,(Kept.of_below (F:=fun i=>i=q\/mo=some i) hb).trans hk fun _ _ h=>h,fun m e=>(hm m e).imp id (Nat.le_trans hb.size)⟩
structure RdW(w0:World)(q:Nat)(s:Bk.St)(ru:Nat->Bk.Un)(rv:Int)(lo ko:Option Nat)(H:Value)(K:Kv.St)(W:World):Prop where
 bd:BdIs W q s ru rv lo ko H K
 b:Below w0.heap.size w0 W
theorem RdW.on{w0 W W':World}{q:Nat}{s:Bk.St}{ru:Nat->Bk.Un}{rv:Int}{lo ko:Option Nat}{H:Value}{K:Kv.St}(h:RdW w0 q s ru rv lo ko H K W)(hb:Below W.heap.size W W'):RdW w0 q s ru rv lo ko H K W':=
 ⟨h.bd.on hb,h.b.trans (hb.mono h.b.size)⟩
theorem jk6(n:Int)(hn:Spc.i64 n)(w:World)(ht:BT w):Calls Tryz.prog 122 #[.int .i64 n] w (BRet (.string (Bd.key n)) w):=by
 have C:=zh (jru n hn w ht.pow);unfold Bd.key;generalize txt (Spc.digs n)=k at*;clear ht hn;go_enter Tryz.func122,Tryz.ntmps122;go_wp2_with(go_at_call 169;(with_reducible refine C.out.mono ?_);rintro e w1 ⟨rfl,hb⟩;have B:=zh hb;clear hb);go_ret;exact⟨rfl,B.out⟩
theorem jj8(q:Nat)(s:Bk.St)(ru:Nat->Bk.Un)(rv:Int)(lo ko:Option Nat)(H:Value)(K:Kv.St)(w:World)(h:BdIs w q s ru rv lo ko H K)(ht:BT w)(n:Int)(hn:Spc.i64 n):Calls Tryz.prog 165 #[.pointer (some ⟨q,0,none⟩),.int .i64 n] w (BRet (.tuple #[.string (Bk.text s.vs n),.bool (Bk.has s.vs n)]) w):=by
 have HT:=zh ht;have CK:Hid (∀W,BT W->Calls Tryz.prog 122 #[.int .i64 n] W (BRet (.string (Bd.key n)) W)):=fun W h=>jk6 n hn W h;obtain⟨hv,hr⟩:=h.dg.val h.kg h.lok.ok.rise n;have KS:Hid ((Bd.key n).size<=maxLen):=by
  have:=Bd.digs_len hn;show(Bd.key n).size<=maxLen;unfold Bd.key maxLen;rw[jbi];omega
 have CG:Hid (∀W,RdW w q s ru rv lo ko H K W->Calls Tryz.prog 192 #[.pointer (some ⟨q,2,none⟩),.string (Bd.key n)] W (KGet K (Bd.key n) W)):=fun W h=>jik W _ ko K h.bd.kvIs.ask _ KS.out;unfold KGet at CG;rw[hv]at CG;have hne:(Kv.revOf K.l (Bd.key n) !=0)=Bk.has s.vs n:=by rw[Bool.eq_iff_iff,bne_iff_ne];exact hr
 have HNE:=zh hne;rw[<-HNE.out];have R0:=zh (RdW.mk h (Below.refl w.heap.size w));generalize Bk.text s.vs n=tx at*;generalize Kv.revOf K.l (Bd.key n)=rr at*;generalize Bd.key n=kk at*;clear hv hr hne HNE ht hn h KS;go_enter Tryz.func165,Tryz.ntmps165;go_upto_region 3 with fail
 refine wp_region_held_drew (S:=RdW w q s ru rv lo ko H K) (by kernel_rfl) (R0.out.on (Below.refl w.heap.size w).drew) (fun hS=> ?_);refine tY 0 hS ?_;refine tY 1 hS ?_;refine tY 2 hS ?_;refine tY 3 hS ?_;simp only[Act.put,zT,zO,zS];refine rO 4 (fun K hK=> ?_);go_simp
 with_reducible refine(CK.out _ (HT.out.on hS.b)).mono ?_
 rintro e w7 ⟨rfl,hb⟩;replace hS:=hS.on hb;clear hb;refine hK.out _ _ hS (fun _=> ?_);clear hK K;try simp only[Act.put,zT,zO,zS]
 refine rO 5 (fun K hK=> ?_);go_simp
 with_reducible refine(CG.out _ hS).mono ?_
 rintro e w8 ⟨rfl,hb⟩;replace hS:=hS.on hb;clear hb;refine hK.out _ _ hS (fun _=> ?_);clear hK K;refine tY 6 hS ?_;refine tY 7 hS ?_;refine tY 8 hS ?_;refine tY 9 hS ?_;refine tY 10 hS ?_;simp only[Act.put,zT,zO,zS];refine wpAnyH_done (by kernel_rfl) ?_ _;have B:=zh hS.b;clear hS;go_wp2_with fail;go_ret2;exact⟨rfl,B.out⟩
theorem jk7(q:Nat)(s:Bk.St)(ru:Nat->Bk.Un)(rv:Int)(lo ko:Option Nat)(H:Value)(K:Kv.St)(w:World)(h:BdIs w q s ru rv lo ko H K)(ht:BT w)(n:Int)(hn:Spc.i64 n):Calls Tryz.prog 119 #[.pointer (some ⟨q,0,none⟩),.int .i64 n] w (BRet (.bool (Bk.has s.vs n)) w):=by
 have C:=zh (jj8 q s ru rv lo ko H K w h ht n hn);generalize Bk.text s.vs n=tx at*;generalize Bk.has s.vs n=hx at*;clear h ht hn;go_enter Tryz.func119,Tryz.ntmps119;go_wp2_with(go_at_call 165;(with_reducible refine C.out.mono ?_);rintro e w1 ⟨rfl,hb⟩;have B:=zh hb;clear hb);go_ret;exact⟨rfl,B.out⟩
theorem jiq(g o j:Nat):((⟨g,o,none⟩:Addr).add j)=⟨g,o+j,none⟩:=by unfold Addr.add;split<;>simp_all
theorem jeh(b:Nat)(t:TypeId):∀(vs:List Value) (o:Nat) (w:World) (cs:Array Value),w.heap[b]? =some (.cells cs t (0,0))->∃cs',(w.setCells b o vs).heap[b]? =some (.cells cs' t (0,0))/\cs'.size=cs.size/\∀i,i<o->cs'[i]? =cs[i]?
 |[],_,_,cs,h=>⟨cs,h,rfl,fun _ _=>rfl⟩
 |v::vs,o,w,cs,h=>by
  obtain⟨cs',h1,h2,h3⟩:=jeh b t vs (o+1) (w.setCell ⟨b,o,none⟩ v) (cs.setIfInBounds o v) (heap_setCell_same w b o _ _ v h);refine⟨cs',h1,by rw[h2,Array.size_setIfInBounds],fun i hi=> ?_⟩;rw[h3 i zv,Array.getElem?_setIfInBounds_ne zv]
theorem jbe(b:Nat):∀(vs:List Value) (o:Nat) (w:World),w.grownBy (w.setCells b o vs) (some b)
 |[],_,w=>⟨rfl,rfl,rfl,Nat.le_refl _,fun _ _ _=>rfl⟩
 |v::vs,o,w=>jan (jad w b o v) (jbe b vs (o+1) (w.setCell ⟨b,o,none⟩ v))
theorem rc_zero:∀w,(zeroValue 45).run Tryz.prog w= .ok (.agg (Rc.cells Rc.none_)) w:=(zero_of_info (n:=18) (by kernel_rfl)).1
theorem joq(w:World)(ty:TypeId)(b o c:Nat)(hc:∀j,j<18->(w.cell? ⟨b,o+j,none⟩).isSome=true)(hf:∀j,j<18->w.frozen? ⟨b,o+j,none⟩=false):
  (Builtin.clear_ #[22] ty #[.slice (some ⟨b,o,none⟩) 1 c]).run Tryz.prog w= .ok (.tuple #[]) (w.setCells b o (Rc.cells Rc.none_).toList):=by
 have hzc:(Builtin.zeroCells (Value.agg (#[.int .i64 0,.int .i64 0,.int .i64 0,.int .i64 0,.int .i64 0,.string ⟨#[]⟩,.int .i64 0,.int .i64 0,.int .i64 0,.int .i64 0,.int .i64 0,.int .i64 0,.int .i64 0,.int .i64 0,.int .i64 0,.int .i64 0,.int .i64 0,.int .i64 0])).cells 1).toList=(Rc.cells Rc.none_).toList:=by kernel_rfl
 have hst:=run_storeCells_cells (P:=Tryz.prog) b o (Rc.cells Rc.none_).toList 0 w (by simpa[Rc.cells]using hc) (by simpa[Rc.cells]using hf) (fun v hv=>Bk.rcC_one Rc.none_ v hv);simp only[Nat.add_zero]at hst;simp[Builtin.clear_,run_underlying Tryz.underlying22,rc_zero,hzc,hst]
theorem jrz(W:World)(B g c:Nat)(l:List Rc.R)(hown:OwF Bk.rcC 18 45 W B (.slice (some ⟨g,0,none⟩) 24 c) l):Calls Tryz.prog 170 #[.slice (some ⟨g,0,none⟩) 24 c,.int .i64 0,.int .i64 1] W (fun e w'=>e= .returned (.slice (some ⟨g,0,none⟩) 23 c)/\OwF Bk.rcC 18 45 w' B (.slice (some ⟨g,0,none⟩) 23 c) l.tail/\W.grownBy w' (some g)):=by
 obtain⟨hl1,hl2,hl3⟩:=hown.len;obtain⟨i0,hi0,hz0,hz1,hz2⟩:=info_parts jbj;obtain⟨x,hx⟩:∃x,l=x::l.tail:=by
  cases l with
  |nil=>rw[List.length_nil]at hl1;omega
  |cons x l=>exact⟨x,rfl⟩
 have htl:l.tail.length=23:=by rw[List.length_tail];omega
 have hsl:=hown.sl;have TL:Hid ((l.tail.flatMap Bk.rcC).length=23*18):=by show _=_;rw[jhi Bk.rcC_len,htl]
 have RD:Hid (∀j u,(l.tail.flatMap Bk.rcC)[j]? =some u->W.drew.cell? ((⟨g,18,none⟩:Addr).add j)=some u):=fun j u hu=>by
  obtain⟨b,o,e,hb,hr⟩:=hsl.rd zv;injection e with e
  injection e with e1 e2
  subst e1 e2;have h1:=hr (18+j) u (by
   rw[hx,List.flatMap_cons,List.getElem?_append_right (by rw[Bk.rcC_len];omega),Bk.rcC_len,show 18+j -18=j by omega];exact hu)
  have h2:((⟨g,18,none⟩:Addr).add j)=⟨g,18+j,none⟩:=jiq g 18 j;rw[h2];rw[Nat.zero_add]at h1;exact h1
 have ON:Hid (∀u∈l.tail.flatMap Bk.rcC,u.oneCell'=true):=fun u hu=>by
  obtain⟨r,_,hr⟩:=List.mem_flatMap.1 hu;exact Bk.rcC_one r u hr
 have OE:Hid (W.drew.ownsRow B 45 18 (.slice (some ⟨g,0,none⟩) 0 c) 0 []):=by
  rcases hown.2 with⟨h,_⟩|⟨g',c',cur,h,hbg,hh,h1,h2,h3,h4⟩
  ·cases h
  ·injection h with e1 e2 e3
   injection e1 with e1
   injection e1 with e1 _
   subst e1 e3;exact⟨rfl,.inr ⟨g,c,cur,rfl,hbg,hh,Nat.zero_le _,h2,h3,by simp⟩⟩
 have hcm:(c:Int)<=9223372036854775807:=by unfold maxLen at hl3;omega
 have hc24:(24:Int)<=(c:Int):=by omega
 have hc1:24<=c:=hl2;have hcn1:¬(c=1):=by omega
 have hcn2:¬(c=23):=by omega
 have hcn3:¬(c<=23):=by omega
 have HTL:=zh htl;clear hl1 hl2 hl3 hx hsl hown htl hz0 hz2;go_enter Tryz.func170,Tryz.ntmps170;go_upto_region 5 with fail
 refine wp_region_held_drew (S:=fun _=>True) (by kernel_rfl) trivial (fun hS=> ?_);refine tY 0 hS ?_;refine tY 1 hS ?_;refine tY 2 hS ?_;refine tY 3 hS ?_;refine tY 4 hS ?_;refine tY 5 hS ?_;simp only[Act.put,zT,zO,zS];refine rO 6 (fun K hK=> ?_);refine wp_append_own_spare _ (.tmp 22) (.tmp 25) 22 rfl B 45 i0 18 Tryz.underlying22 hi0 hz1 g 0 c [] rfl OE.out ⟨g,18,none⟩ 23 (c -1) (l.tail.flatMap Bk.rcC) rfl TL.out RD.out ON.out zv ?_;intro w2 ho2 hg2;have O2:=zh ho2;have G2:=zh (jan (show W.grownBy W.drew (some g)from⟨rfl,rfl,rfl,Nat.le_refl _,fun _ _ _=>rfl⟩) hg2);have hS2:True:=trivial;clear hS ho2 hg2;have hS:=hS2;clear hS2;refine hK.out _ _ hS (fun _=> ?_);clear hK K;refine tY 7 hS ?_;simp only[Act.put,zT,zO,zS];refine wpAnyH_done (by kernel_rfl) ?_ _;clear hS;have hsz:∃cur,w2.heap[g]? =some (.cells cur 45 (0,0))/\cur.size=c*18/\B<=g/\c<=maxLen/\cur.toList.take (23*18)=l.tail.flatMap Bk.rcC:=by
  rcases O2.out.2 with⟨h,_⟩|⟨g',c',cur,h,hbg,hh,h1,h2,h3,h4⟩
  ·cases h
  ·injection h with e1 e2 e3
   injection e1 with e1
   injection e1 with e1 _
   subst e1 e3;exact⟨cur,hh,h3,hbg,h2,by simpa using h4⟩
 obtain⟨cur,k1,k2,k3,k4,k5⟩:=hsz;have hclr:=fun ty=>joq w2 ty g 414 (c -23) (fun j hj=>by rw[cell_of_row w2 g _ _ _ _ k1,Array.getElem?_eq_getElem zv];rfl) (fun j _=>frozen_of_row w2 g _ _ _ k1);have G3:=zh (jan G2.out (jbe g (Rc.cells Rc.none_).toList 414 w2));have O3:Hid (OwF Bk.rcC 18 45 (w2.setCells g 414 (Rc.cells Rc.none_).toList) B (.slice (some ⟨g,0,none⟩) 23 c) l.tail):=by
  obtain⟨cur',m1,m2,m3⟩:=jeh g 45 (Rc.cells Rc.none_).toList 414 w2 cur k1;have e:l.tail.length=23:=HTL.out;show World.ownsRow _ _ _ _ _ _ _;rw[e];refine⟨TL.out,.inr ⟨g,c,cur',rfl,k3,m1,zv,k4,by rw[m2,k2],?_⟩⟩;rw[<-k5];refine List.ext_getElem? fun i=> ?_;rw[List.getElem?_take,List.getElem?_take];split
  ·have:=m3 i zv
   simpa using this
  ·rfl
 clear O2 G2 k1 k2 k3 k4 k5;go_wp2_with fail;go_ret;exact⟨rfl,O3.out,G3.out⟩
end Go.Proofs.YtkcdaigaclpfjaaGreatDoor
namespace Go.Proofs.YtkcdaigaclpfjaaGreatDoor
open Go.RowKit
def vals(l:List Nat):List Value:=l.map fun x=> .int .u8 ((x:Nat):Int)
theorem jav(l:List Nat):(vals l).length=l.length:=by simp[vals]
theorem jbc(a b:List Nat):vals (a++b)=vals a++vals b:=by simp[vals]
theorem jgb{l:List Nat}{j:Nat}(h:j<l.length):(vals l)[j]? =some (.int .u8 ((l.getD j 0:Nat):Int)):=by
 rw[jak h];simp[vals,h]
theorem jk8(l:List Nat):∀u∈vals l,u.oneCell'=true:=by
 intro u hu;simp only[vals,List.mem_map]at hu;obtain⟨x,_,rfl⟩:=hu;rfl
theorem Rd.cells{w:World}{B b o:Nat}{l:List Nat}(h:Rd w B (some ⟨b,o,none⟩) l):∀j u,(vals l)[j]? =some u->w.cell? ((⟨b,o,none⟩:Addr).add j)=some u:=by
 intro j u hu;have hj:j<l.length:=by
  rcases Nat.lt_or_ge j l.length with h|h
  ·exact h
  ·rw[List.getElem?_eq_none (by rw[jav];omega)]at hu;cases hu
 obtain⟨b',o',e,_,hc⟩:=h.2 zv;injection e with e
 injection e with e1 e2
 subst e1 e2;rw[jgb hj]at hu;rw[<-hu,<-hc j hj]
 congr 1
 unfold Addr.add;split<;>simp_all
theorem Rd.of_own{w:World}{base n c g:Nat}{e:TypeId}{l:List Nat}(h:w.ownsRow base e 1 (.slice (some ⟨g,0,none⟩) n c) n (vals l))(hl:∀x∈l,x<256):Rd w w.heap.size (some ⟨g,0,none⟩) l:=by
 have hn:n=l.length:=by have:=h.1;rw[jav]at this;omega
 refine⟨hl,fun h0=>⟨g,0,rfl,?_,fun j hj=> ?_⟩⟩
 ·have hc:=h.cellAt 0 zv
  rw[jgb h0]at hc;exact block_lt_of_cell hc
 ·rw[Nat.zero_add,h.cellAt j zv,jgb hj]
theorem jam{P:Program}{w:World}{ops:Array Oper}{rest:List Oper}{op:Oper}{a:Act}{Q:Exit->Act->World->Prop}(hgd:op.guard=none)(s x:Operand)(t:TypeId)
  (ho:op.op= .call {callee:= .builtin .append,args:=#[s,x],argTypes:=#[t,t]})
  (base:Nat) (e:TypeId) (i:TypeInfo) (z:Value) (ht:P.underlying t=some (.slice e)) (hi:P.info? e=some i) (hz:i.zero=some z)
  (hsize:i.size=1) (hby:i.bytes=1) (hzs:z.cells.size=1)
  (v:Value) (n:Nat) (xs:List Value) (hs:a.eval s=v) (hown:w.ownsRow base e 1 v n xs)
  (B m c:Nat) (A:Option Addr) (l:List Nat) (hx:a.eval x= .slice A m c) (hr:Rd w B A l) (hm:m=l.length) (hA:A=none->c=0)
  (hnm:n+m<=140737488355328) (hbase:base<=w.heap.size)
  (h:∀v' w',w'.ownsRow base e 1 v' (n+m) (xs++vals l)->w.grownBy w' v.ownBlock->wpList P ops Q rest (a.put op.dst v') w'):wpList P ops Q (op::rest) a w:=by
 rcases A with _|ad
 ·obtain rfl:=hA rfl
  have hl:l=[]:=by
   rcases l with _|⟨x,l⟩
   ·rfl
   ·obtain⟨_,_,h0,_⟩:=hr.2 (by simp);cases h0
  subst hl;subst hm;refine wpList_append_own_none hgd s x t ho base e i 1 ht hi v n xs hs hown hx ?_;exact h v w (by simpa[vals]using hown) (World.grownBy.refl w _)
 ·have hcells:∀j u,(vals l)[j]? =some u->w.cell? (ad.add j)=some u:=by
   rcases l with _|⟨y,l⟩
   ·intro j u hu;simp[vals]at hu
   ·obtain⟨b,o,h0,_⟩:=hr.2 (by simp)
    injection h0 with h0
    subst h0;exact hr.cells
  exact wpList_append_own w hgd s x t ho base e i z 1 1 ht hi hz hsize hby hzs zv v n xs hs hown ad m c (vals l) hx (by rw[jav];omega) hcells (jk8 l) (by unfold maxLen;omega) zv hbase
   fun v' w' h2 h3 _=>h v' w' h2 h3
theorem jbs:(Tryz.prog.info? 5).map (fun i=>(i.zero,i.size,i.bytes))=some (some (.int .u8 0),1,1):=by kernel_rfl
structure Sl(w:World)(A:Option Addr)(n c:Nat)(l:List Nat):Prop where
 rd:Rd w w.heap.size A l
 len:n=l.length
 cap:n<=c
 max:c<=maxLen
 nil:A=none->c=0
section
variable{w:World}{A:Option Addr}{n c:Nat}{l:List Nat}
theorem Sl.on{w':World}(h:Sl w A n c l)(hb:Below w.heap.size w w'):Sl w' A n c l:=⟨h.rd.on hb,h.len,h.cap,h.max,h.nil⟩
theorem Sl.take(h:Sl w A n c l){k:Nat}(hk:k<=n):Sl w A k c (l.take k):=
 ⟨h.rd.take _,by rw[List.length_take,<-h.len];omega,by have:=h.cap;omega,h.max,h.nil⟩
theorem Sl.drop(h:Sl w A n c l){k:Nat}(hk:k<=n)(hc:¬c=k):Sl w (A.map (fun x=>x.add k)) (n -k) (c -k) (l.drop k):=by
 refine⟨?_,by rw[List.length_drop,<-h.len],by have:=h.cap;omega,by have:=h.max;omega,fun e=> ?_⟩
 ·have:=h.rd.drop (k:=k) (c:=c) (by rw[<-h.len];exact h.cap) (fun x=>x.add k) (fun b o=>by unfold Addr.add;split<;>simp_all)
  rwa [if_neg hc]at this
 ·rw[Option.map_eq_none_iff]at e;have:=h.nil e;omega
theorem Sl.dropAll(h:Sl w A n c l){k:Nat}(hk:k<=n)(hc:c=k):Sl w A (n -k) (c -k) (l.drop k):=by
 have hcap:=h.cap;refine⟨?_,by rw[List.length_drop,<-h.len],zv,by have:=h.max;omega,fun e=>by have:=h.nil e;omega⟩;rw[List.drop_of_length_le (by rw[<-h.len];omega)];exact Rd.empty _ _ _
theorem Sl.none_(w:World):Sl w none 0 0 []:=⟨Rd.empty _ _ _,rfl,Nat.le_refl _,Nat.zero_le _,fun _=>rfl⟩
end
theorem Sl.off{w w':World}{A:Option Addr}{n c:Nat}{row:Option Nat}{l:List Nat}(h:Sl w A n c l)(hg:w.grownBy w' row)(hr:0<l.length->∀a,A=some a->row≠some a.block):Sl w' A n c l:=
 ⟨⟨h.rd.1,fun hl=>by
  obtain⟨b,o,e,hb,hc⟩:=h.rd.2 hl;exact⟨b,o,e,Nat.lt_of_lt_of_le hb hg.size,fun j hj=>hg.cell (hc j hj) (fun e2=>hr hl _ e e2.symm)⟩⟩,h.len,h.cap,h.max,h.nil⟩
theorem Sl.block{w:World}{A:Option Addr}{n c:Nat}{l:List Nat}(h:Sl w A n c l)(hl:0<l.length):∀a,A=some a->a.block<w.heap.size:=by
 intro a ha;obtain⟨b,o,e,hb,_⟩:=h.rd.2 hl;rw[ha]at e;injection e with e;subst e;exact hb
theorem Rd.made{w:World}{t:TypeId}{cs:Array Value}{fr:Nat×Nat}(l:List Nat)(hcs:cs=(vals l).toArray)(hl:∀x∈l,x<256):Rd (w.alloc (.cells cs t fr)) (w.alloc (.cells cs t fr)).heap.size (some ⟨w.heap.size,0,none⟩) l:=by
 subst hcs;exact⟨hl,fun _=>⟨_,0,rfl,by simp,fun j hj=>by rw[cell_of_row _ _ _ _ t fr (heap_alloc_new w _),Nat.zero_add,List.getElem?_toArray,jgb hj]⟩⟩
theorem jor{w:World}{B n c:Nat}{A:Option Addr}{l:List Nat}(h:Rd w B A l)(hn:n=l.length):
  (convert 78 9 (.slice A n c)).run Tryz.prog w= .ok (.string (txt l)) w:=by
 by_cases h0:l=[]
 ·subst h0
  subst hn;rcases A with _|ad
  ·rw[run_convert_bytes_nil w 78 5 Tryz.underlying78 Tryz.underlying5 _ _ _ Tryz.underlying9];rfl
  ·rw[run_convert_bytes_string w 78 9 5 _ _ _ Tryz.underlying78 Tryz.underlying5 Tryz.underlying9,run_bytesToString w ad _ c [] (by simp[loadCells,loadCellsFrom])];rfl
 ·obtain⟨b,o,rfl,_,hc⟩:=h.2 (List.length_pos_iff.2 h0)
  refine run_convert_bytes_arg w 78 5 Tryz.underlying78 Tryz.underlying5 b o n c _ (by simp[hn]) (fun i hi=> ?_) _ Tryz.underlying9;rw[hc i zv,jak zv,jak (by simp;omega)];simp
def OwnB(w:World)(B:Nat)(v:Value)(l:List Nat):Prop:=w.ownsRow B 5 1 v l.length (vals l)/\∀x∈l,x<256
theorem OwnB.sl{w:World}{B:Nat}{v:Value}{l:List Nat}(h:OwnB w B v l):∃A c,v= .slice A l.length c/\Sl w A l.length c l:=by
 rcases h.1.2 with⟨rfl,h0⟩|⟨g,cap,cur,rfl,_,_,h1,h2,_⟩
 ·have hl:l=[]:=by simpa using h0
  subst hl;exact⟨none,0,rfl,Sl.none_ w⟩
 ·exact⟨_,cap,rfl,Rd.of_own h.1 h.2,rfl,h1,h2,fun h=>by cases h⟩
theorem OwnB.sls{w:World}{B n c:Nat}{A:Option Addr}{l:List Nat}(h:OwnB w B (.slice A n c) l):Sl w A n c l:=by
 obtain⟨A',c',e,hs⟩:=h.sl;injection e with e1 e2 e3
 subst e1 e2 e3;exact hs
theorem OwnB.far{w:World}{B n c:Nat}{A:Option Addr}{v:Value}{l:List Nat}(h:OwnB w B v l)(hv:v= .slice A n c):∀a,A=some a->B<=a.block:=by
 intro a ha;subst ha;subst hv;rcases h.1.2 with⟨h0,_⟩|⟨g,cap,cur,h0,hb,_⟩
 ·cases h0
 ·injection h0 with h0;injection h0 with h0;subst h0;exact hb
theorem OwnB.from_{w:World}{B n c:Nat}{A:Option Addr}{l:List Nat}(h:OwnB w B (.slice A n c) l):∀a,A=some a->B<=a.block:=by
 intro a ha;subst ha;rcases h.1.2 with⟨h0,_⟩|⟨g,cap,cur,h0,hb,_⟩
 ·cases h0
 ·injection h0 with h0;injection h0 with h0;subst h0;exact hb
theorem OwnB.below{w w':World}{B:Nat}{v:Value}{l:List Nat}(h:OwnB w B v l)(hb:Below w.heap.size w w'):OwnB w' B v l:=⟨jb7 h.1 hb,h.2⟩
theorem OwnB.lower{w:World}{B B':Nat}{v:Value}{l:List Nat}(h:OwnB w B v l)(hB:B'<=B):OwnB w B' v l:=⟨jcm h.1 hB,h.2⟩
theorem OwnB.none_(w:World)(B:Nat):OwnB w B (.slice none 0 0) []:=⟨World.ownsRow_nil _ _ _ _,by simp⟩
theorem OwnB.snoc{w:World}{B:Nat}{v:Value}{l:List Nat}{x:Nat}(h:w.ownsRow B 5 1 v (l.length+1) (vals l++[.int .u8 ((x:Nat):Int)]))(hl:∀y∈l,y<256)(hx:x<256):OwnB w B v (l++[x]):=by
 refine⟨?_,?_⟩
 ·rw[jbc,List.length_append];exact h
 ·intro y hy
  rcases List.mem_append.1 hy with hy|hy
  ·exact hl y hy
  ·simp at hy;omega
theorem ja9{w:World}{ops:Array Oper}{rest:List Oper}{op:Oper}{a:Act}{Q:Exit->Act->World->Prop}(hgd:op.guard=none)(s x:Operand)
  (ho:op.op= .call {callee:= .builtin .append,args:=#[s,x],argTypes:=#[78,78]})
  (base:Nat) (v:Value) (l:List Nat) (hs:a.eval s=v) (hown:OwnB w base v l) (X:Int) (y:Nat) (hX:X=(y:Int)) (hy:y<256) (hx:a.eval x= .slice (some ⟨w.heap.size,0,none⟩) 1 1)
  (hl:l.length<=3000000) (hB:base<=w.heap.size)
  (h:∀v' w',OwnB w' base v' (l++[y])->Below base w w'->wpList Tryz.prog ops Q rest (a.put op.dst v') w'):wpList Tryz.prog ops Q (op::rest) a (w.alloc (.cells #[.int .u8 X] 5)):=by
 obtain⟨i0,hi0,hz0,hz1,hz2⟩:=info_parts jbs;subst hX;refine wpList_append_own _ hgd s x 78 ho base 5 i0 (.int .u8 0) 1 1 Tryz.underlying78 hi0 hz0 hz1 hz2 rfl (by decide) v l.length (vals l) hs (hown.1.alloc _) ⟨w.heap.size,0,none⟩ 1 1 [.int .u8 (y:Int)] hx rfl ?_ ?_ (by unfold maxLen;omega) zv (by simp;omega) ?_
 ·intro j u hu
  rcases j with _|j
  ·simp at hu;subst hu
   have:((⟨w.heap.size,0,none⟩:Addr).add 0)=⟨w.heap.size,0,none⟩:=by unfold Addr.add;split<;>simp_all
   rw[this,World.cell?_alloc_at _ _ _ _ rfl];rfl
  ·simp at hu
 ·intro u hu;simp at hu;subst hu;rfl
 ·intro v' w' h1 h2 _
  exact h v' w' (OwnB.snoc h1 hown.2 hy) (((Below.refl base w).alloc hB _).grown h2 (by simp;omega) (ja0 hown.1))
def jex(l:List Nat)(w:World)(e:Ending)(w':World):Prop:=
 ∃A c,e= .returned (.slice A l.length c)/\OwnB w' w.heap.size (.slice A l.length c) l/\Below w.heap.size w w'
theorem jex.mk{l:List Nat}{w w':World}{v:Value}(h:OwnB w' w.heap.size v l)(hb:Below w.heap.size w w'):jex l w (.returned v) w':=by
 obtain⟨A,c,rfl,_⟩:=h.sl;exact⟨A,c,rfl,h,hb⟩
theorem jal{w:World}{ops:Array Oper}{rest:List Oper}{op:Oper}{a:Act}{Q:Exit->Act->World->Prop}(hgd:op.guard=none)(s x:Operand)
  (ho:op.op= .call {callee:= .builtin .append,args:=#[s,x],argTypes:=#[78,78]})
  (base:Nat) (v:Value) (l1:List Nat) (hs:a.eval s=v) (hown:OwnB w base v l1) (m c:Nat) (A:Option Addr) (l:List Nat) (hx:a.eval x= .slice A m c) (hr:Sl w A m c l)
  (hlen:l1.length+l.length<=140737488355328) (hbase:base<=w.heap.size)
  (h:∀v' w',OwnB w' base v' (l1++l)->Below base w w'->wpList Tryz.prog ops Q rest (a.put op.dst v') w'):wpList Tryz.prog ops Q (op::rest) a w:=by
 obtain⟨i0,hi0,hz0,hz1,hz2⟩:=info_parts jbs;refine jam hgd s x 78 ho base 5 i0 _ Tryz.underlying78 hi0 hz0 hz1 hz2 rfl v l1.length (vals l1) hs hown.1 w.heap.size m c A l hx hr.rd hr.len hr.nil (by rw[hr.len];exact hlen) hbase ?_;intro v' w' h1 h2;refine h v' w' ⟨?_,?_⟩ ((Below.refl base w).grown h2 hbase (ja0 hown.1))
 ·rw[jbc,List.length_append,<-hr.len];exact h1
 ·intro y hy
  rcases List.mem_append.1 hy with hy|hy
  ·exact hown.2 y hy
  ·exact hr.rd.1 y hy
theorem sl_two(w:World)(x y:Nat)(hx:x<256)(hy:y<256)(X Y:Int)(e1:X=(x:Int))(e2:Y=(y:Int)):Sl (w.alloc (.cells #[.int .u8 X,.int .u8 Y] 5)) (some ⟨w.heap.size,0,none⟩) 2 2 [x,y]:=by
 subst e1 e2;exact⟨Rd.made [x,y] rfl (by intro z hz;simp at hz;omega),rfl,Nat.le_refl _,by unfold maxLen;omega,fun h=>by cases h⟩
theorem jc3(n c:Nat)(A:Option Addr)(l:List Nat)(w:World)(h:Sl w A n c l)(hl:n<=1000000000):
  Calls Tryz.prog 98 #[.slice A n c] w (jex l w):=by
 have H:=zh h;have hnil:=fun(w:World) (a:Option Addr) (n c:Nat)=>Lib.run_eql_slice_nil (P:=Tryz.prog) w 78 5 a n c 0 0 Tryz.underlying78;rcases A with _|ad
 ·obtain rfl:=h.nil rfl
  have hn:n=0:=by have:=h.cap;omega
  subst hn;have hl0:l=[]:=by have:=h.len;exact List.eq_nil_of_length_eq_zero this.symm
  subst hl0;clear h;go_enter Tryz.func98,Tryz.ntmps98;go_wp2_with fail;go_ret;exact jex.mk (OwnB.none_ _ _) (Below.refl _ _)
 ·have O1:Hid (OwnB (w.alloc (.cells #[] 5)) w.heap.size (.slice (some ⟨w.heap.size,0,none⟩) 0 0) []):=⟨World.ownsRow_made w #[] 0 (Nat.le_refl _) (Nat.zero_le _) rfl,by simp⟩
  have HB:=zh ((Below.refl w.heap.size w).alloc (Nat.le_refl _) (.cells #[] 5));have HL:Hid (([]:List Nat).length+l.length<=140737488355328):=by show _<=_;rw[<-h.len];simp;omega
  have hs0:(w.alloc (.cells #[] 5)).heap.size=w.heap.size+1:=by simp
  have HS:=zh hs0;clear h hs0 hl;go_enter Tryz.func98,Tryz.ntmps98;go_wp2_with(at_builtin;refine jal rfl (.tmp 5) (.tmp 6) rfl w.heap.size _ [] rfl O1.out n c _ l rfl (H.out.on HB.out) HL.out (by rw[HS.out];omega) ?_;intro v2 w2 hown2 hb2;have O2:=zh hown2;have B2:=zh hb2;clear hown2 hb2);go_ret;exact jex.mk O2.out (HB.out.trans B2.out)
def OwnC(w:World)(v:Value)(l:List Nat):Prop:=
 (∀x∈l,x<256)/\((v= .slice none 0 0/\l=[])\/
  ∃g cap cur,v= .slice (some ⟨g,0,none⟩) l.length cap/\w.heap[g]? =some (.cells cur 5 (0,0))/\l.length<=cap/\cap<=maxLen/\cap<=cur.size/\cur.toList.take l.length=vals l)
theorem OwnC.none_(w:World):OwnC w (.slice none 0 0) []:=⟨by simp,.inl ⟨rfl,rfl⟩⟩
theorem OwnC.of_own{w:World}{B:Nat}{v:Value}{l:List Nat}(h:OwnB w B v l):OwnC w v l:=by
 refine⟨h.2,?_⟩;rcases h.1.2 with⟨h1,h2⟩|⟨g,cap,cur,h1,_,h2,h3,h4,h5,h6⟩
 ·exact .inl ⟨h1,List.eq_nil_of_length_eq_zero h2⟩
 ·rw[Nat.mul_one]at h5 h6
  exact .inr ⟨g,cap,cur,h1,h2,h3,h4,zv,h6⟩
theorem OwnC.lt{w:World}{v:Value}{l:List Nat}(h:OwnC w v l):∀k,v.ownBlock=some k->k<w.heap.size:=by
 intro k hk;rcases h.2 with⟨rfl,_⟩|⟨g,cap,cur,rfl,h2,_⟩
 ·cases hk
 ·injection hk with hk;subst hk;exact(Array.getElem?_eq_some_iff.1 h2).1
theorem OwnC.keep{w w':World}{v:Value}{l:List Nat}(h:OwnC w v l)(hk:∀k,v.ownBlock=some k->w'.heap[k]? =w.heap[k]?):OwnC w' v l:=by
 refine⟨h.1,?_⟩;rcases h.2 with h2|⟨g,cap,cur,rfl,h2,h3⟩
 ·exact .inl h2
 ·exact .inr ⟨g,cap,cur,rfl,(hk g rfl).trans h2,h3⟩
theorem OwnC.sl{w:World}{v:Value}{l:List Nat}(h:OwnC w v l):∃A c,v= .slice A l.length c/\Sl w A l.length c l:=by
 rcases h.2 with⟨rfl,rfl⟩|⟨g,cap,cur,rfl,h2,h3,h4,h5,h6⟩
 ·exact⟨none,0,rfl,Sl.none_ w⟩
 ·refine⟨_,cap,rfl,⟨⟨h.1,fun h0=>⟨g,0,rfl,(Array.getElem?_eq_some_iff.1 h2).1,fun j hj=> ?_⟩⟩,rfl,h3,h4,fun h=>by cases h⟩⟩
  rw[cell_of_row w g (0+j) _ _ _ h2,Nat.zero_add,<-jgb hj,<-h6,List.getElem?_take,if_pos hj];simp
theorem OwnC.cut{w:World}{A:Option Addr}{n c:Nat}{l:List Nat}(h:OwnC w (.slice A n c) l)(k:Nat)(hk:k<=n):OwnC w (.slice A k k) (l.take k):=by
 refine⟨fun x hx=>h.1 x (List.mem_of_mem_take hx),?_⟩;rcases h.2 with⟨h1,rfl⟩|⟨g,cap,cur,h1,h2,h3,h4,h5,h6⟩
 ·injection h1 with h1 h2 h3
  obtain rfl:k=0:=by omega
  exact .inl ⟨by rw[h1],rfl⟩
 ·injection h1 with h1 h7 h8
  subst h1 h7 h8;have e:(l.take k).length=k:=by rw[List.length_take];omega
  refine .inr ⟨g,k,cur,by rw[e],h2,zv,zv,zv,?_⟩;rw[e];have:=congrArg (List.take k) h6;rw[List.take_take,Nat.min_eq_left hk]at this;rw[this];simp[vals,List.map_take]
theorem jey{w:World}{ops:Array Oper}{rest:List Oper}{op:Oper}{a:Act}{Q:Exit->Act->World->Prop}(hgd:op.guard=none)(s x:Operand)
  (ho:op.op= .call {callee:= .builtin .append,args:=#[s,x],argTypes:=#[78,78]})
  (v:Value) (l1:List Nat) (hs:a.eval s=v) (hown:OwnC w v l1) (m c:Nat) (A:Option Addr) (l:List Nat) (hx:a.eval x= .slice A m c) (hr:Sl w A m c l)
  (hlen:l1.length+l.length<=140737488355328)
  (h:∀v' w',OwnC w' v' (l1++l)->(v'.ownBlock=v.ownBlock\/∃k,v'.ownBlock=some k/\w.heap.size<=k)->w.grownBy w' v.ownBlock->wpList Tryz.prog ops Q rest (a.put op.dst v') w'):wpList Tryz.prog ops Q (op::rest) a w:=by
 obtain⟨i0,hi0,hz0,hz1,hz2⟩:=info_parts jbs;have hby:∀y∈l1++l,y<256:=by
  intro y hy;rcases List.mem_append.1 hy with hy|hy
  ·exact hown.1 y hy
  ·exact hr.rd.1 y hy
 rcases hown.2 with⟨rfl,rfl⟩|⟨g,cap,cur,rfl,h2,h3,h4,h5,h6⟩
 ·refine jal hgd s x ho w.heap.size _ [] hs (OwnB.none_ _ _) m c A l hx hr hlen (Nat.le_refl _) ?_
  intro v' w' h1 h2;refine h v' w' (OwnC.of_own h1) ?_ (jfs _ h2);rcases h1.1.2 with⟨rfl,_⟩|⟨g,cap,cur,rfl,hg,_⟩
  ·exact .inl rfl
  ·exact .inr ⟨g,rfl,hg⟩
 ·obtain rfl:=hr.len
  rcases A with _|ad
  ·obtain rfl:=hr.nil rfl
   have hl:l=[]:=List.eq_nil_of_length_eq_zero (by have:=hr.cap;omega);subst hl;refine wpList_plain hgd fun K hK=> ?_;have hrun:(Builtin.append_ #[78,78] op.type #[.slice (some ⟨g,0,none⟩) l1.length cap,.slice none 0 0]).run Tryz.prog w= .ok (.slice (some ⟨g,0,none⟩) l1.length cap) w:=by
    simp[Builtin.append_,run_underlying Tryz.underlying78,sizeOf,typeInfo,hi0,Builtin.lenOf,Builtin.firstCells,h3,storeCells]
   unfold Oper.wp;simp only[List.length_nil]at hx;simp[execOp,ho,resolve,invoke,builtin,hs,hx,hrun,Result.andThen];exact hK _ _ (h _ w (by rw[List.append_nil];exact hown) (.inl rfl) (World.grownBy.refl _ _))
  ·have hcells:∀j u,(vals l)[j]? =some u->w.cell? (ad.add j)=some u:=by
    rcases l with _|⟨y,l⟩
    ·intro j u hu;simp[vals]at hu
    ·obtain⟨b,o,h0,_⟩:=hr.rd.2 (by simp)
     injection h0 with h0
     subst h0;exact hr.rd.cells
   by_cases hroom:l1.length+l.length<=cap
   ·refine wpList_plain hgd fun K hK=> ?_
    have hrun:=run_append_room (P:=Tryz.prog) w 78 op.type 5 i0 Tryz.underlying78 hi0 g l1.length cap cur h2 ad l.length c (vals l) (by rw[jav,hz1,Nat.mul_one]) hcells (jk8 l) hroom (by rw[hz1,jav];omega);unfold Oper.wp;simp[execOp,ho,resolve,invoke,builtin,hs,hx,hrun,Result.andThen];refine hK _ _ (h _ _ ⟨hby,.inr ⟨g,cap,_,by rw[List.length_append],setRow_heap w g cur _ _ _ h2,by rw[List.length_append];omega,h4,?_,?_⟩⟩ (.inl rfl) ⟨rfl,rfl,rfl,by simp[World.setRow],fun k _ hk=>setRow_other w g k _ (fun e=>hk (by simp[e,Value.ownBlock]))⟩)
    ·simp only[List.size_toArray,List.length_append,List.length_take,List.length_drop,Array.length_toList,hz1,Nat.mul_one,jav]
     omega
    ·rw[hz1,Nat.mul_one,h6,List.length_append,show l1.length+l.length=(vals l1++vals l).length from by rw[List.length_append,jav,jav],jbc]
     show List.take _ (vals l1++(vals l++_))=_;rw[<-List.append_assoc];exact List.take_left
   ·refine wpList_plain hgd fun K hK=> ?_
    obtain⟨v',w',hrun,r1,r2⟩:=run_append_arg_grows (P:=Tryz.prog) w 78 op.type 5 i0 _ 1 1 Tryz.underlying78 hi0 hz0 hz1 hz2 rfl zv ⟨g,0,none⟩ l1.length cap (vals l1) (by rw[jav];omega)
     (fun j u hj=>by
      have hjl:j<l1.length:=by
       rcases Nat.lt_or_ge j l1.length with h|h
       ·exact h
       ·rw[List.getElem?_eq_none (by rw[jav];omega)]at hj;cases hj
      rw[Addr.add_lit,cell_of_row w g (0+j) _ _ _ h2,Nat.zero_add,<-hj,<-h6,List.getElem?_take,if_pos hjl];simp)
     ad l.length c (vals l) (by rw[jav];omega) hcells zv (by unfold maxLen;omega) zv
    unfold Oper.wp;simp[execOp,ho,resolve,invoke,builtin,hs,hx,hrun,Result.andThen];have r3:OwnB w' w.heap.size v' (l1++l):=⟨by rw[jbc,List.length_append];exact r1,hby⟩;refine hK _ _ (h v' w' (OwnC.of_own r3) ?_ ⟨r2.os,r2.tape,r2.output,r2.size,fun k hk _=>r2.block k hk (by simp)⟩);rcases r1.2 with⟨rfl,h0⟩|⟨g',cap',cur',rfl,hg,_⟩
    ·omega
    ·exact .inr ⟨g',rfl,hg⟩
namespace Dk
structure St where
 room:Nat
 safe:Nat
 l:List Nat
def fits(n:Int):Nat:=(max 0 (min n 1048576)).toNat
def new(n:Int):St:=⟨fits n,0,[]⟩
def Okay(d:St):Prop:=d.safe<=d.l.length/\d.l.length<=d.room/\d.room<=1048576
def goes(d:St)(b:List Nat):Prop:=d.l.length+b.length<=d.room
instance (d:St) (b:List Nat):Decidable (goes d b):=by unfold goes;infer_instance
def write(d:St)(b:List Nat):St:=if goes d b then⟨d.room,d.safe,d.l++b⟩else d
def writeE(d:St)(b:List Nat):Int:=if goes d b then 0 else 4
def opens(d:St):Nat:=d.l.length -d.safe
def sync(d:St):St:=⟨d.room,d.l.length,d.l⟩
def leave(d:St)(n:Nat):St:=⟨d.room,n,d.l.take n⟩
def kept(d:St)(keep:Int):Nat:=(max 0 (min keep (opens d:Nat))).toNat
def crash(d:St)(keep:Int):St:=leave d (d.safe+kept d keep)
def lost(d:St)(keep:Int):Nat:=opens d -kept d keep
def within(d:St)(n:Int):Prop:=0<=n/\n<=(d.l.length:Nat)
instance (d:St) (n:Int):Decidable (within d n):=by unfold within;infer_instance
def cut(d:St)(n:Int):St:=if within d n then leave d n.toNat else d
def cutE(d:St)(n:Int):Int:=if within d n then 0 else 1
def swap(d:St)(b:List Nat):St:=if b.length<=d.room then⟨d.room,b.length,b⟩else d
def swapE(d:St)(b:List Nat):Int:=if b.length<=d.room then 0 else 4
theorem fits_le(n:Int):fits n<=1048576:=by unfold fits;omega
theorem Okay.new(n:Int):Okay (new n):=⟨Nat.le_refl _,Nat.zero_le _,fits_le n⟩
theorem Okay.write{d:St}(h:Okay d)(b:List Nat):Okay (write d b):=by
 unfold Dk.write;split
 ·rename_i h1
  unfold goes at h1;exact⟨by simp;have:=h.1;omega,by simp;omega,h.2.2⟩
 ·exact h
theorem Okay.sync{d:St}(h:Okay d):Okay (sync d):=⟨Nat.le_refl _,h.2⟩
theorem Okay.leave{d:St}(h:Okay d){n:Nat}(hn:n<=d.l.length):Okay (leave d n):=by
 have h1:=h.2.1;refine⟨?_,?_,h.2.2⟩
 ·show n<=(d.l.take n).length;rw[List.length_take];omega
 ·show(d.l.take n).length<=d.room;rw[List.length_take];omega
theorem kept_le(d:St)(keep:Int):kept d keep<=opens d:=by unfold kept;omega
theorem Okay.swap{d:St}(h:Okay d)(b:List Nat):Okay (swap d b):=by
 unfold Dk.swap;split
 ·rename_i h1;exact⟨Nat.le_refl _,h1,h.2.2⟩
 ·exact h
end Dk
structure Dsk(w:World)(r:Nat)(v:Value)(d:Dk.St):Prop where
 blk:w.heap[r]? =some (.cells #[.int .i64 (d.room:Nat),.int .i64 (d.safe:Nat),v] 170 (0,0))
 own:OwnC w v d.l
 off:v.ownBlock≠some r
 okay:Dk.Okay d
def foot(r:Nat)(v:Value)(i:Nat):Prop:=i=r\/v.ownBlock=some i
theorem Dsk.lt{w:World}{r:Nat}{v:Value}{d:Dk.St}(h:Dsk w r v d):∀i,foot r v i->i<w.heap.size:=by
 rintro i (rfl|hi)
 ·exact(Array.getElem?_eq_some_iff.1 h.blk).1
 ·exact h.own.lt _ hi
theorem Dsk.keep{w w':World}{r:Nat}{v:Value}{d:Dk.St}(h:Dsk w r v d)(hk:∀i,foot r v i->w'.heap[i]? =w.heap[i]?):Dsk w' r v d:=
 ⟨(hk r (.inl rfl)).trans h.blk,h.own.keep fun k hk2=>hk k (.inr hk2),h.off,h.okay⟩
theorem Dsk.below{w w':World}{r:Nat}{v:Value}{d:Dk.St}(h:Dsk w r v d)(hb:Below w.heap.size w w'):Dsk w' r v d:=h.keep fun i hi=>hb.block i (h.lt i hi)
theorem Dsk.facts{w:World}{r:Nat}{v:Value}{d:Dk.St}(h:Dsk w r v d):
  w.cell? ⟨r,0,none⟩=some (.int .i64 (d.room:Nat))/\w.cell? ⟨r,1,none⟩=some (.int .i64 (d.safe:Nat))/\w.cell? ⟨r,2,none⟩=some v/\w.frozen? ⟨r,1,none⟩=false/\w.frozen? ⟨r,2,none⟩=false:=
 ⟨by rw[cell_of_row w r 0 _ _ _ h.blk];rfl,by rw[cell_of_row w r 1 _ _ _ h.blk];rfl,by rw[cell_of_row w r 2 _ _ _ h.blk];rfl,frozen_of_row w r 1 _ _ h.blk,frozen_of_row w r 2 _ _ h.blk⟩
def jcy(w:World)(r:Nat)(v:Value)(d:Dk.St)(x:Value)(e:Ending)(w':World):Prop:=
 e= .returned x/\∃v',Dsk w' r v' d/\(∀i,v'.ownBlock=some i->v.ownBlock=some i\/w.heap.size<=i)/\Kept (foot r v) w w'
def jez(w:World)(x:Value)(e:Ending)(w':World):Prop:=e= .returned x/\Below w.heap.size w w'
theorem jir(w:World)(r:Nat)(v:Value)(d:Dk.St)(h:Dsk w r v d):
  Calls Tryz.prog 135 #[.pointer (some ⟨r,0,none⟩)] w (jez w (.int .i64 (Dk.opens d:Nat))):=by
 obtain⟨c0,c1,c2,f1,f2⟩:=h.facts;obtain⟨A,c,rfl,hs⟩:=h.own.sl;have hok:=h.okay;have HO:Hid (Dk.opens d=d.l.length -d.safe):=rfl;unfold Dk.Okay at hok;clear h hs c0 f1 f2;generalize d.l.length=n at*;generalize d.safe=s at*;go_enter Tryz.func135,Tryz.ntmps135;go_wp2_with fail;go_quiet (fail);go_wp2_with fail;go_ret;exact⟨jb6 (by rw[HO.out];omega),Below.drewN (Below.refl _ _) _⟩
theorem jis(w:World)(r:Nat)(v:Value)(d:Dk.St)(h:Dsk w r v d):
  Calls Tryz.prog 134 #[.pointer (some ⟨r,0,none⟩)] w (jez w (.int .i64 (d.room -d.l.length:Nat))):=by
 obtain⟨c0,c1,c2,f1,f2⟩:=h.facts;obtain⟨A,c,rfl,hs⟩:=h.own.sl;have hok:=h.okay;unfold Dk.Okay at hok;clear h hs c1 f1 f2;generalize d.l.length=n at*;generalize d.room=s at*;go_enter Tryz.func134,Tryz.ntmps134;go_wp2_with fail;go_quiet (fail);go_wp2_with fail;go_ret;exact⟨jb6 zv,Below.drewN (Below.refl _ _) _⟩
theorem jr0(w:World)(r:Nat)(v:Value)(d:Dk.St)(h:Dsk w r v d):
  Calls Tryz.prog 75 #[.pointer (some ⟨r,0,none⟩)] w (jez w (.int .i64 (d.l.length:Nat))):=by
 obtain⟨c0,c1,c2,f1,f2⟩:=h.facts;obtain⟨A,c,rfl,hs⟩:=h.own.sl;clear h hs c1 c0 f1 f2;generalize d.l.length=n at*;go_enter Tryz.func75,Tryz.ntmps75;go_wp2_with fail;go_ret;exact⟨rfl,Below.refl _ _⟩
theorem jos(w:World)(r:Nat)(v:Value)(d:Dk.St)(h:Dsk w r v d):
  Calls Tryz.prog 81 #[.pointer (some ⟨r,0,none⟩)] w (jez w (.int .i64 (d.safe:Nat))):=by
 obtain⟨c0,c1,c2,f1,f2⟩:=h.facts;clear h c2 c0 f1 f2;generalize d.safe=n at*;go_enter Tryz.func81,Tryz.ntmps81;go_wp2_with fail;go_ret;exact⟨rfl,Below.refl _ _⟩
theorem jr1(w:World)(r:Nat)(v:Value)(d:Dk.St)(h:Dsk w r v d):
  Calls Tryz.prog 45 #[.pointer (some ⟨r,0,none⟩)] w (jex d.l w):=by
 obtain⟨c0,c1,c2,f1,f2⟩:=h.facts;obtain⟨A,c,rfl,hs⟩:=h.own.sl;have hok:=h.okay;unfold Dk.Okay at hok;have HC:=zh (jc3 d.l.length c A d.l w hs zv);clear h hs c1 c0 f1 f2 hok;go_enter Tryz.func45,Tryz.ntmps45;go_wp2_with fail
 (with_reducible refine HC.out.mono ?_)
 rintro e w1 ⟨A1,c1,rfl,ho,hb⟩;have O:=zh ho;clear ho;have B:=zh hb;clear hb;go_wp2_with fail;go_ret;exact⟨A1,c1,rfl,O.out,B.out⟩
def NPost(n:Int)(w:World)(e:Ending)(w':World):Prop:=∃r,e= .returned (.pointer (some ⟨r,0,none⟩))/\w.heap.size<=r/\Dsk w' r (.slice none 0 0) (Dk.new n)/\Below w.heap.size w w'
theorem jj9(n lo hi:Int)(w:World):
  Calls Tryz.prog 177 #[.int .i64 n,.int .i64 lo,.int .i64 hi] w fun e w'=>e= .returned (.int .i64 (max lo (min n hi)))/\w=w':=by
 go_enter Tryz.func177,Tryz.ntmps177;go_wp2_with fail
 all_goals (go_ret;exact⟨jb6 zv,rfl⟩)
theorem jr2(n:Int)(w:World):
  Calls Tryz.prog 139 #[.int .i64 n] w fun e w'=>e= .returned (.int .i64 (Dk.fits n:Nat))/\w=w':=by
 have HF:Hid ((Dk.fits n:Nat)=max 0 (min n 1048576)):=by show _=_;unfold Dk.fits;omega
 go_enter Tryz.func139,Tryz.ntmps139;go_wp2_with fail;refine(jj9 n 0 1048576 w).mono ?_;rintro e w' ⟨rfl,rfl⟩;go_wp2_with fail;go_ret;exact⟨jb6 HF.out.symm,rfl⟩
theorem jr3(n:Int)(w:World):Calls Tryz.prog 77 #[.int .i64 n] w (NPost n w):=by
 have HO:=zh (Dk.Okay.new n);have HC:=zh (jr2 n w);have HF:Hid (Dk.new n=⟨Dk.fits n,0,[]⟩):=rfl;generalize Dk.fits n=m at*;go_enter Tryz.func77,Tryz.ntmps77;go_wp2_with fail;refine HC.out.mono ?_;rintro e w' ⟨rfl,rfl⟩;go_wp2_with fail;go_ret;refine⟨w.heap.size,rfl,Nat.le_refl _,⟨?_,?_,by simp[Value.ownBlock],HO.out⟩,(Below.refl _ _).alloc (Nat.le_refl _) _⟩
 ·rw[HF.out];exact heap_alloc_new w _
 ·rw[HF.out];exact OwnC.none_ _
theorem jgs(w:World)(r o:Nat)(u:Value)(k:Nat)(h:k≠r):(w.setCell ⟨r,o,none⟩ u).heap[k]? =w.heap[k]? :=Below.heap_setCell _ _ _ _ (by simpa using h)
theorem OwnC.set{w:World}{v:Value}{l:List Nat}{r o:Nat}{u:Value}(h:OwnC w v l)(hr:v.ownBlock≠some r):OwnC (w.setCell ⟨r,o,none⟩ u) v l:=
 h.keep fun k hk=>jgs _ _ _ _ _ (fun e=>hr (by rw[hk,e]))
theorem jg3(w:World)(r n:Nat)(v:Value)(d:Dk.St)(h:Dsk w r v d)(hn:n<=d.l.length):
  Calls Tryz.prog 136 #[.pointer (some ⟨r,0,none⟩),.int .i64 (n:Nat)] w (jcy w r v (Dk.leave d n) (.tuple #[])):=by
 obtain⟨c0,c1,c2,f1,f2⟩:=h.facts;obtain⟨A,c,rfl,hs⟩:=h.own.sl;have hok:=h.okay;have hcap:=hs.cap;have hmax:=hs.max;unfold maxLen at hmax;have HOC:=h.own.cut n hn;have HR:Hid ((Value.slice A n n).ownBlock≠some r):=by
  have:=h.off
  cases A<;>exact this
 have D1:=heap_setCell_same w r 2 _ _ (.slice A n n) h.blk;have D2:=heap_setCell_same (w.setCell ⟨r,2,none⟩ (.slice A n n)) r 1 _ _ (.int .i64 (n:Nat)) D1;have HD:Hid (Dsk ((w.setCell ⟨r,2,none⟩ (.slice A n n)).setCell ⟨r,1,none⟩ (.int .i64 (n:Nat))) r (.slice A n n) (Dk.leave d n)):=
  ⟨by rw[D2];rfl,(HOC.set HR.out).set HR.out,HR.out,hok.leave hn⟩
 clear D1 D2 HOC h hs;generalize d.l.length=m at*;go_enter Tryz.func136,Tryz.ntmps136;go_wp2_with fail;go_end0;refine⟨rfl,_,HD.out,fun i hi=> .inl ?_,Kept.of_grown (row:=some r) (jan (jad _ _ _ _) (jad _ _ _ _)) (fun k hk=> .inl (by injection hk with hk;exact hk.symm))⟩
 cases A<;>exact hi
theorem jcy.of_safe{w:World}{r:Nat}{v:Value}{d d':Dk.St}(h:Dsk w r v d)(x:Value)(n:Nat)(e:d'=⟨d.room,n,d.l⟩)(hok:Dk.Okay d'):jcy w r v d' x (.returned x) (w.setCell ⟨r,1,none⟩ (.int .i64 (n:Nat))):=by
 subst e;have D1:=heap_setCell_same w r 1 _ _ (.int .i64 (n:Nat)) h.blk;exact⟨rfl,v,⟨by rw[D1];rfl,h.own.set h.off,h.off,hok⟩,fun i hi=> .inl hi,Kept.of_grown (row:=some r) (jad _ _ _ _) (fun k hk=> .inl (by injection hk with hk;exact hk.symm))⟩
theorem jcy.before{w w1:World}{r:Nat}{v:Value}{d:Dk.St}{x:Value}{e:Ending}{w':World}(h:jcy w1 r v d x e w')(hb:Below w.heap.size w w1):jcy w r v d x e w':=by
 obtain⟨rfl,v',h1,h2,h3⟩:=h;refine⟨rfl,v',h1,fun i hi=> ?_,(Kept.of_below hb).trans h3 fun i _ h=>h⟩;rcases h2 i hi with h4|h4
 ·exact .inl h4
 ·exact .inr (Nat.le_trans hb.size h4)
theorem jcy.behind{w w1 w':World}{r:Nat}{v:Value}{d:Dk.St}{x y:Value}{e:Ending}(h:jcy w r v d x e w1)(hb:Below w1.heap.size w1 w'):jcy w r v d y (.returned y) w':=by
 obtain⟨rfl,v',h1,h2,h3⟩:=h;exact⟨rfl,v',h1.below hb,h2,h3.trans (Kept.of_below hb) fun i _ h=>h⟩
theorem jot(w:World)(r:Nat)(v:Value)(d:Dk.St)(h:Dsk w r v d):
  Calls Tryz.prog 82 #[.pointer (some ⟨r,0,none⟩)] w (jcy w r v (Dk.sync d) (.int .i64 (Dk.opens d:Nat))):=by
 have HD:=zh h;have HC:=zh (jir w r v d h);have HS:Hid (Dk.sync d=⟨d.room,d.l.length,d.l⟩):=rfl;have HK:=zh h.okay.sync;clear h;generalize Dk.opens d=m at*;go_enter Tryz.func82,Tryz.ntmps82;go_wp2_with fail;refine HC.out.mono ?_;rintro e w1 ⟨rfl,hb⟩;have B:=zh hb;have D1:=HD.out.below hb;have HD1:=zh D1;obtain⟨c0,c1,c2,f1,f2⟩:=D1.facts;obtain⟨A,c,rfl,hs⟩:=D1.own.sl;clear hb D1 hs;go_wp2_with fail;go_ret;exact(jcy.of_safe HD1.out (.int .i64 (m:Nat)) d.l.length HS.out HK.out).before B.out
theorem jmk(w:World)(r:Nat)(keep:Int)(v:Value)(d:Dk.St)(h:Dsk w r v d)(hk: -9223372036854775808<=keep/\keep<=9223372036854775807):
  Calls Tryz.prog 74 #[.pointer (some ⟨r,0,none⟩),.int .i64 keep] w (jcy w r v (Dk.crash d keep) (.int .i64 (Dk.lost d keep:Nat))):=by
 have HD:=zh h;have HC:=zh (fun W h=>jir W r v d h);have HS:Hid (Dk.crash d keep=Dk.leave d (d.safe+Dk.kept d keep)):=rfl;have HL:Hid (Dk.lost d keep=Dk.opens d -Dk.kept d keep):=rfl;have hok:=h.okay;have hm:max 0 (min keep (Dk.opens d:Nat))=(Dk.kept d keep:Nat):=by unfold Dk.kept;omega
 have hle:=Dk.kept_le d keep;have hop:Dk.opens d=d.l.length -d.safe:=rfl;unfold Dk.Okay at hok;have HV:=zh (fun W h (hn:d.safe+Dk.kept d keep<=d.l.length)=>jg3 W r (d.safe+Dk.kept d keep) v d h hn);have HN:Hid (d.safe+Dk.kept d keep<=d.l.length):=by show _<=_;omega
 have hb1:Dk.opens d<=1048576/\d.safe+Dk.kept d keep<=1048576:=by omega
 clear h hop hok;generalize Dk.opens d=m at*;generalize Dk.kept d keep=k at*;go_enter Tryz.func74,Tryz.ntmps74;go_wp2_with fail;refine(HC.out _ HD.out).mono ?_;rintro e w1 ⟨rfl,hb⟩;have B:=zh hb;have HD1:=zh (HD.out.below hb);clear hb;go_wp2_with fail;refine(HC.out _ HD1.out).mono ?_;rintro e w2 ⟨rfl,hb⟩;have B2:=zh (B.out.trans (hb.mono B.out.size));have HD2:=zh (HD1.out.below hb);obtain⟨c0,c1,c2,f1,f2⟩:=HD2.out.facts;clear hb c0 c2 f1 f2;go_wp2_with fail;have e1:(d.safe:Int)+(k:Int)=((d.safe+k:Nat):Int):=by omega
 rw[e1]
 (with_reducible refine(HV.out _ HD2.out HN.out).mono ?_)
 rintro e w3 hp;obtain rfl:=hp.1;have P:=zh (hp.before B2.out);clear hp e1;go_wp2_with fail;go_ret;rw[HS.out,HL.out];have e2:(m:Int) -(k:Int)=((m -k:Nat):Int):=by omega
 rw[e2];exact P.out.behind (Below.refl _ _)
theorem jr4(w:World)(r:Nat)(n:Int)(v:Value)(d:Dk.St)(h:Dsk w r v d)(hn: -9223372036854775808<=n/\n<=9223372036854775807):
  Calls Tryz.prog 138 #[.pointer (some ⟨r,0,none⟩),.int .i64 n] w (jcy w r v (Dk.cut d n) (.int .i64 (Dk.cutE d n))):=by
 have HD:=zh h;obtain⟨c0,c1,c2,f1,f2⟩:=h.facts;obtain⟨A,c,rfl,hs⟩:=h.own.sl;have HQ:Hid (Dk.cut d n=if Dk.within d n then Dk.leave d n.toNat else d):=rfl;have HE:Hid (Dk.cutE d n=if Dk.within d n then 0 else 1):=rfl;by_cases hw:Dk.within d n
 ·rw[if_pos hw]at HQ HE
  unfold Dk.within at hw;obtain⟨k,rfl⟩:∃k:Nat,n=(k:Int):=⟨n.toNat,zv⟩;have HV:=zh (jg3 w r k (.slice A d.l.length c) d h zv);rw[Int.toNat_natCast]at HQ;clear h hs c0 c1 f1 f2;generalize d.l.length=m at*;have t1:¬(m:Int)<k:=by omega
  go_enter Tryz.func138,Tryz.ntmps138;go_wp2_with fail;refine HV.out.mono ?_;rintro e w1 hp;obtain rfl:=hp.1;have P:=zh hp;clear hp;go_wp2_with fail;go_ret;rw[HQ.out,HE.out];exact P.out.behind (Below.refl _ _)
 ·rw[if_neg hw]at HQ HE
  unfold Dk.within at hw;clear h hs c0 c1 f1 f2;generalize d.l.length=m at*;have hor:n<0\/(m:Int)<n:=by omega
  rcases hor with hor|hor
  all_goals
   go_enter Tryz.func138,Tryz.ntmps138;go_wp2_with fail;go_ret;rw[HQ.out,HE.out];exact⟨rfl,_,HD.out,fun i hi=> .inl hi,Kept.refl _ _⟩
theorem jml(w:World)(r n c:Nat)(A:Option Addr)(b:List Nat)(v:Value)(d:Dk.St)(h:Dsk w r v d)(hs:Sl w A n c b):
  Calls Tryz.prog 73 #[.pointer (some ⟨r,0,none⟩),.slice A n c] w (jcy w r v (Dk.write d b) (.int .i64 (Dk.writeE d b))):=by
 have HD:=zh h;have HS:=zh hs;have HC:=zh (jis w r v d h);have HQ:Hid (Dk.write d b=if Dk.goes d b then⟨d.room,d.safe,d.l++b⟩else d):=rfl;have HE:Hid (Dk.writeE d b=if Dk.goes d b then 0 else 4):=rfl;have hlen:=hs.len;have hok:=h.okay;unfold Dk.Okay at hok;by_cases hw:Dk.goes d b
 ·have HW:=zh (h.okay.write b)
  rw[if_pos hw]at HQ HE;unfold Dk.goes at hw;have t1:n<=d.room -d.l.length:=by omega
  have HL:Hid (d.l.length+b.length<=140737488355328):=by show _<=_;omega
  clear h hs hlen hok hw;generalize d.room -d.l.length=q at*;go_enter Tryz.func73,Tryz.ntmps73;go_wp2_with fail;refine HC.out.mono ?_;rintro e w1 ⟨rfl,hb⟩;have B:=zh hb;have D1:=HD.out.below hb;have HD1:=zh D1;have S1:=zh (HS.out.on hb);obtain⟨c0,c1,c2,f1,f2⟩:=D1.facts;clear hb D1 c0 c1 f1;go_wp2_with(at_builtin;refine jey rfl (.tmp 16) (.tmp 17) rfl v d.l rfl HD1.out.own n c A b rfl S1.out HL.out ?_;intro v2 w2 hown2 hor2 hg2;obtain⟨A2,cc2,rfl,_⟩:=hown2.sl;have hown3:OwnC w2 (.slice A2 (d.l.length+b.length) cc2) (d.l++b):=(by rw[<-List.length_append];exact hown2);have O2:=zh hown3;have R2:=zh hor2;have G2:=zh hg2;have hb2:w2.heap[r]? =w1.heap[r]? :=hg2.block r (HD1.out.lt r (.inl rfl)) (fun e=>HD1.out.off e.symm);have X2:=zh (hb2.trans HD1.out.blk);have f22:w2.frozen? ⟨r,2,none⟩=false:=frozen_of_row w2 r 2 _ _ X2.out;have c22:w2.cell? ⟨r,2,none⟩=some v:=by{rw[cell_of_row w2 r 2 _ _ _ X2.out];rfl};clear hown2 hown3 hor2 hg2 hb2);go_ret;have D3:=heap_setCell_same w2 r 2 _ _ (.slice A2 (d.l.length+b.length) cc2) X2.out;have hoff:(Value.slice A2 (d.l.length+b.length) cc2).ownBlock≠some r:=by
   have e0:(Value.slice A2 (d.l.length+b.length) cc2).ownBlock=(Value.slice A2 (d.l++b).length cc2).ownBlock:=by rw[List.length_append]
   rw[e0];rcases R2.out with e|⟨k,e,hk⟩
   ·rw[e];exact HD1.out.off
   ·rw[e];intro e2;injection e2 with e2;have:=HD1.out.lt r (.inl rfl);omega
  rw[HQ.out,HE.out];rw[HQ.out]at HW;refine jcy.before ⟨rfl,_,⟨by rw[D3];rfl,O2.out.set hoff,hoff,HW.out⟩,fun i hi=> ?_,?_⟩ B.out
  ·rw[<-List.length_append]at hi
   rcases R2.out with e|⟨k,e,hk⟩
   ·exact .inl (by rw[<-e];exact hi)
   ·rw[e]at hi;injection hi with hi;exact .inr zv
  ·refine(Kept.of_grown (F:=foot r v) G2.out fun k hk=> .inr hk).trans (G:=foot r v) (Kept.of_grown (row:=some r) (jad _ _ _ _) fun k hk=> .inl (by injection hk with hk;exact hk.symm)) fun i _ h=>h
 ·rw[if_neg hw]at HQ HE
  unfold Dk.goes at hw;have t1:d.room -d.l.length<n:=by omega
  clear h hs hlen hok hw;generalize d.room -d.l.length=q at*;go_enter Tryz.func73,Tryz.ntmps73;go_wp2_with fail;refine HC.out.mono ?_;rintro e w1 ⟨rfl,hb⟩;have B:=zh hb;have HD1:=zh (HD.out.below hb);clear hb;go_wp2_with fail;go_ret;rw[HQ.out,HE.out];exact⟨rfl,v,HD1.out,fun i hi=> .inl hi,Kept.of_below B.out⟩
theorem jit(w:World)(r n c:Nat)(A:Option Addr)(b:List Nat)(v:Value)(d:Dk.St)(h:Dsk w r v d)(hs:Sl w A n c b):
  Calls Tryz.prog 78 #[.pointer (some ⟨r,0,none⟩),.slice A n c] w (jcy w r v (Dk.swap d b) (.int .i64 (Dk.swapE d b))):=by
 have HD:=zh h;obtain⟨c0,c1,c2,f1,f2⟩:=h.facts;have HQ:Hid (Dk.swap d b=if b.length<=d.room then⟨d.room,b.length,b⟩else d):=rfl;have HE:Hid (Dk.swapE d b=if b.length<=d.room then 0 else 4):=rfl;have hlen:=hs.len;by_cases hw:b.length<=d.room
 ·have HW:=zh (h.okay.swap b)
  have hok:=h.okay;unfold Dk.Okay at hok;have HC:=zh (jc3 n c A b w hs zv);clear hok;rw[if_pos hw]at HQ HE;have t1:n<=d.room:=by omega
  have HL:=zh hlen;clear h hs hlen hw c1 c2 f1 f2;generalize hrm:d.room=q at*;have RM:=zh hrm;clear hrm;go_enter Tryz.func78,Tryz.ntmps78;go_wp2_with fail
  (with_reducible refine HC.out.mono ?_)
  rintro e w1 ⟨A1,cc,rfl,ho,hb⟩;have B:=zh hb;have O:=zh ho;have D1:=zh (HD.out.below hb);obtain⟨c0,c1,c2,f1,f2⟩:=D1.out.facts;have X2:=heap_setCell_same w1 r 2 _ _ (.slice A1 b.length cc) D1.out.blk;have HX2:=zh X2;have c12:(w1.setCell ⟨r,2,none⟩ (.slice A1 b.length cc)).cell? ⟨r,1,none⟩=some (.int .i64 (d.safe:Nat)):=by rw[cell_of_row _ r 1 _ _ _ X2];rfl
  have f12:(w1.setCell ⟨r,2,none⟩ (.slice A1 b.length cc)).frozen? ⟨r,1,none⟩=false:=frozen_of_row _ r 1 _ _ X2;clear hb ho X2 c0 c1 f1;go_wp2_with fail;go_ret;have D3:=heap_setCell_same (w1.setCell ⟨r,2,none⟩ (.slice A1 b.length cc)) r 1 _ _ (.int .i64 (b.length:Nat)) HX2.out;have hfr:∀k,(Value.slice A1 b.length cc).ownBlock=some k->w.heap.size<=k:=by
   intro k hk;rcases A1 with _|a
   ·cases hk
   ·injection hk with hk;subst hk;exact O.out.from_ a rfl
  have hoff:(Value.slice A1 b.length cc).ownBlock≠some r:=fun e=>by have:=hfr r e;have:=HD.out.lt r (.inl rfl);omega
  rw[HQ.out,HE.out];rw[HQ.out]at HW;rw[HL.out];refine⟨rfl,_,⟨by rw[D3,<-RM.out];rfl,((OwnC.of_own O.out).set hoff).set hoff,hoff,HW.out⟩,fun i hi=> .inr (hfr i hi),?_⟩;refine(Kept.of_below (F:=foot r v) B.out).trans (G:=foot r v) (Kept.of_grown (row:=some r) (jan (jad _ _ _ _) (jad _ _ _ _)) fun k hk=> .inl (by injection hk with hk;exact hk.symm)) fun i _ h=>h
 ·rw[if_neg hw]at HQ HE
  have t1:d.room<n:=by omega
  clear h hs hlen hw c1 c2 f1 f2;generalize d.room=q at*;go_enter Tryz.func78,Tryz.ntmps78;go_wp2_with fail;go_ret;rw[HQ.out,HE.out];exact⟨rfl,v,HD.out,fun i hi=> .inl hi,Kept.refl _ _⟩
def DskB(w:World)(B r:Nat)(d:Dk.St):Prop:=∃v,Dsk w r v d/\∀i,foot r v i->B<=i
def jr5(w0:World)(r:Nat)(d:Dk.St)(x:Value)(e:Ending)(w':World):Prop:=e= .returned x/\DskB w' w0.heap.size r d/\Below w0.heap.size w0 w'
theorem jr5.mk{w0 W:World}{r:Nat}{v:Value}{d:Dk.St}{x:Value}{e:Ending}{w':World}(h:jcy W r v d x e w')(hb:Below w0.heap.size w0 W)(hv:∀i,foot r v i->w0.heap.size<=i):jr5 w0 r d x e w':=by
 obtain⟨rfl,v',h1,h2,h3⟩:=h;refine⟨rfl,⟨v',h1,?_⟩,hb.trans (h3.below hb.size hv)⟩;rintro i (rfl|hi)
 ·exact hv _ (.inl rfl)
 ·rcases h2 i hi with h4|h4
  ·exact hv i (.inr h4)
  ·exact Nat.le_trans hb.size h4
section
variable{w0:World}(W:World){r:Nat}{d:Dk.St}(hb:Below w0.heap.size w0 W)(hd:DskB W w0.heap.size r d)
include hb hd
theorem jr6{n c:Nat}{A:Option Addr}{b:List Nat}(hs:Sl W A n c b):Calls Tryz.prog 78 #[.pointer (some ⟨r,0,none⟩),.slice A n c] W (jr5 w0 r (Dk.swap d b) (.int .i64 (Dk.swapE d b))):=by
 obtain⟨v,h1,h2⟩:=hd;exact(jit W r n c A b v d h1 hs).mono fun _ _ h=>jr5.mk h hb h2
end
def NewPost(w0:World)(d:Dk.St)(W:World)(e:Ending)(w':World):Prop:=∃r,e= .returned (.pointer (some ⟨r,0,none⟩))/\W.heap.size<=r/\DskB w' W.heap.size r d/\Below w0.heap.size w0 w'/\Below W.heap.size W w'
theorem dNew_at{w0:World}(W:World)(n:Int)(hb:Below w0.heap.size w0 W):Calls Tryz.prog 77 #[.int .i64 n] W (NewPost w0 (Dk.new n) W):=by
 refine(jr3 n W).mono ?_;rintro e w' ⟨r,rfl,h1,h2,h3⟩;refine⟨r,rfl,h1,⟨_,h2,?_⟩,hb.trans (h3.mono hb.size),h3⟩;rintro i (rfl|hi)
 ·exact h1
 ·cases hi
theorem jka(W:World)(o:Obj):Below W.heap.size W (W.alloc o):=(Below.refl _ _).alloc (Nat.le_refl _) o
theorem jk9{W:World}{g:Nat}{x y z:Value}{t:TypeId}(h:W.heap[g]? =some (.cells #[x,y,z] t (0,0))):W.cell? ⟨g,0,none⟩=some x/\W.cell? ⟨g,1,none⟩=some y/\W.cell? ⟨g,2,none⟩=some z:=
 ⟨by rw[cell_of_row W g 0 _ _ _ h];rfl,by rw[cell_of_row W g 1 _ _ _ h];rfl,by rw[cell_of_row W g 2 _ _ _ h];rfl⟩
theorem jfn{W:World}{g:Nat}{x y z:Value}{t:TypeId}(h:W.heap[g]? =some (.cells #[x,y,z] t (0,0))):
  W.cell? ⟨g,0,none⟩=some x/\W.cell? ⟨g,1,none⟩=some y/\W.cell? ⟨g,2,none⟩=some z/\W.frozen? ⟨g,0,none⟩=false/\W.frozen? ⟨g,1,none⟩=false/\W.frozen? ⟨g,2,none⟩=false:=
 ⟨by rw[cell_of_row W g 0 _ _ _ h];rfl,by rw[cell_of_row W g 1 _ _ _ h];rfl,by rw[cell_of_row W g 2 _ _ _ h];rfl,frozen_of_row W g 0 _ _ h,frozen_of_row W g 1 _ _ h,frozen_of_row W g 2 _ _ h⟩
theorem jiu{W:World}{g:Nat}{x y z:Value}{t:TypeId}(h:W.heap[g]? =some (.cells #[x,y,z] t (0,0)))(x' y' z':Value):
  (((W.setCell ⟨g,0,none⟩ x').setCell ⟨g,1,none⟩ y').setCell ⟨g,2,none⟩ z').heap[g]? =some (.cells #[x',y',z'] t (0,0)):=by
 have h1:=heap_setCell_same W g 0 _ _ x' h;have h2:=heap_setCell_same _ g 1 _ _ y' h1;exact heap_setCell_same _ g 2 _ _ z' h2
theorem jg4(W:World)(g:Nat)(x y z:Value):W.grownBy (((W.setCell ⟨g,0,none⟩ x).setCell ⟨g,1,none⟩ y).setCell ⟨g,2,none⟩ z) (some g):=
 jan (jan (jad _ _ _ _) (jad _ _ _ _)) (jad _ _ _ _)
end Go.Proofs.YtkcdaigaclpfjaaGreatDoor
