import Derived.Test.YtkinlcfhojjalaaGreatDoorQz10
import Derived.Deep.MidRow
set_option maxHeartbeats 6400000
set_option maxRecDepth 100000
set_option linter.all false
namespace Go.Proofs.YtkinlcfhojjalaaGreatDoor
open Go.RowKit
theorem zz1{p:Prop}(h:p:=by
 by_cases hst:r.who=s.step+1
 ·have p1:(r.who !=s.step+1)=false:=by rw[bne_eq_false_iff_eq];exact hst
  by_cases hsl:(sl.length:Int)<r.who
  ·have E:ans=7:=by rw[HA.o,if_neg zv,if_neg TX.o,if_pos (.inr hsl)]
   subst E;have p2:decide ((sl.length:Int)<r.who)=true:=decide_eq_true hsl;clear hst hsl hph;go_upto_region 48 with(first
    |((with_reducible show zL 16);refine zR (.tmp 3) BX.o.rc ?_)
    |(go_at_call 82;refine(CR.o _).mono ?_;rintro e wr ⟨rfl,hb⟩;have BX:=zh (BX.o.on hb);clear hb b3 b8 b9 b13 b14 b15 b16 b17 b18 b19 b20 b21 b22 b23 b24 c0 c1 c2 c5 k0 k1;have b3:=BX.o.bk.cs.c3;have b8:=BX.o.bk.cs.c8;have b9:=BX.o.bk.cs.c9;have b13:=BX.o.bk.cs.c13;have b14:=BX.o.bk.cs.c14;have b15:=BX.o.bk.cs.c15;have b16:=BX.o.bk.cs.c16;have b17:=BX.o.bk.cs.c17;have b18:=BX.o.bk.cs.c18;have b19:=BX.o.bk.cs.c19;have b20:=BX.o.bk.cs.c20;have b21:=BX.o.bk.cs.c21;have b22:=BX.o.bk.cs.c22;have b23:=BX.o.bk.cs.c23;have b24:=BX.o.bk.cs.c24;have c0:=BX.o.rc.cs.c0;have c1:=BX.o.rc.cs.c1;have c2:=BX.o.rc.cs.c2;have c5:=BX.o.rc.cs.c5;rw[HK.o]at c0;have k1:=BX.o.rc.cs.lt;have k0:=BX.o.bk.lt))
   refine wp_region_held_drew (S:=fun W=>BkAt W n s L V H/\RcAt W (n+1) r/\zF w W) zk ⟨⟨BX.o.bk.row⟩,⟨BX.o.rc.row⟩,BX.o.below.drew⟩ (fun hS=> ?_);refine tY 0 hS ?_;refine tZ 1 rfl (by intro W hW;have y2:=(RcAt.cs hW.2.1).c2;go_simp;(try with_reducible rfl)) hS ?_;refine tY 2 hS ?_;refine tZ 3 rfl (by intro W hW;have z9:=(BkAt.cs hW.1).c9;go_simp;(try with_reducible rfl)) hS ?_;refine tY 4 hS ?_;refine tY 5 hS ?_;simp only[Act.put,zT,zO,zS];refine tY 6 hS ?_;refine tY 7 hS ?_;refine tZ 8 rfl (by intro W hW;have y2:=(RcAt.cs hW.2.1).c2;go_simp;(try with_reducible rfl)) hS ?_;refine tY 9 hS ?_;refine tZ 10 rfl (by intro W hW;have z13:=(BkAt.cs hW.1).c13;have z14:=(BkAt.cs hW.1).c14;have z15:=(BkAt.cs hW.1).c15;have z16:=(BkAt.cs hW.1).c16;have z17:=(BkAt.cs hW.1).c17;have z18:=(BkAt.cs hW.1).c18;have z19:=(BkAt.cs hW.1).c19;have z20:=(BkAt.cs hW.1).c20;have z21:=(BkAt.cs hW.1).c21;have z22:=(BkAt.cs hW.1).c22;have z23:=(BkAt.cs hW.1).c23;have z24:=(BkAt.cs hW.1).c24;go_simp;(try with_reducible rfl)) hS ?_;simp only[Act.put,zT,zO,zS];refine rO 11 (fun K hK=> ?_);go_simp
   refine(CS.o _).mono ?_
   rintro e ws ⟨AS,cs,rfl,_,hb⟩;have hS2:BkAt ws n s L V H/\RcAt ws (n+1) r/\zF w ws:=⟨hS.1.on hb,hS.2.1.on hb,hS.2.2.trans (hb.mono hS.2.2.size)⟩;clear hS hb;have hS:=hS2;clear hS2;refine hK.out _ _ hS (fun _=> ?_);clear hK K;refine tY 12 hS ?_;refine tY 13 hS ?_;refine tY 14 hS ?_;simp only[Act.put,zT,zO,zS];refine wpAnyH_done zk ?_ _;go_wp2;go_ret;exact⟨rfl,hS.2.2⟩
  ·have E:ans=0:=by rw[HA.o,if_neg zv,if_neg TX.o,if_neg zv]
   subst E;have p2:decide ((sl.length:Int)<r.who)=false:=decide_eq_false hsl;clear hst hsl hph;go_upto_region 48 with(first
    |((with_reducible show zL 16);refine zR (.tmp 3) BX.o.rc ?_)
    |(go_at_call 82;refine(CR.o _).mono ?_;rintro e wr ⟨rfl,hb⟩;have BX:=zh (BX.o.on hb);clear hb b3 b8 b9 b13 b14 b15 b16 b17 b18 b19 b20 b21 b22 b23 b24 c0 c1 c2 c5 k0 k1;have b3:=BX.o.bk.cs.c3;have b8:=BX.o.bk.cs.c8;have b9:=BX.o.bk.cs.c9;have b13:=BX.o.bk.cs.c13;have b14:=BX.o.bk.cs.c14;have b15:=BX.o.bk.cs.c15;have b16:=BX.o.bk.cs.c16;have b17:=BX.o.bk.cs.c17;have b18:=BX.o.bk.cs.c18;have b19:=BX.o.bk.cs.c19;have b20:=BX.o.bk.cs.c20;have b21:=BX.o.bk.cs.c21;have b22:=BX.o.bk.cs.c22;have b23:=BX.o.bk.cs.c23;have b24:=BX.o.bk.cs.c24;have c0:=BX.o.rc.cs.c0;have c1:=BX.o.rc.cs.c1;have c2:=BX.o.rc.cs.c2;have c5:=BX.o.rc.cs.c5;rw[HK.o]at c0;have k1:=BX.o.rc.cs.lt;have k0:=BX.o.bk.lt))
   refine wp_region_held_drew (S:=fun W=>BkAt W n s L V H/\RcAt W (n+1) r/\zF w W) zk ⟨⟨BX.o.bk.row⟩,⟨BX.o.rc.row⟩,BX.o.below.drew⟩ (fun hS=> ?_);refine tY 0 hS ?_;refine tZ 1 rfl (by intro W hW;have y2:=(RcAt.cs hW.2.1).c2;go_simp;(try with_reducible rfl)) hS ?_;refine tY 2 hS ?_;refine tZ 3 rfl (by intro W hW;have z9:=(BkAt.cs hW.1).c9;go_simp;(try with_reducible rfl)) hS ?_;refine tY 4 hS ?_;refine tY 5 hS ?_;simp only[Act.put,zT,zO,zS];refine tY 6 hS ?_;refine tY 7 hS ?_;refine tZ 8 rfl (by intro W hW;have y2:=(RcAt.cs hW.2.1).c2;go_simp;(try with_reducible rfl)) hS ?_;refine tY 9 hS ?_;refine tZ 10 rfl (by intro W hW;have z13:=(BkAt.cs hW.1).c13;have z14:=(BkAt.cs hW.1).c14;have z15:=(BkAt.cs hW.1).c15;have z16:=(BkAt.cs hW.1).c16;have z17:=(BkAt.cs hW.1).c17;have z18:=(BkAt.cs hW.1).c18;have z19:=(BkAt.cs hW.1).c19;have z20:=(BkAt.cs hW.1).c20;have z21:=(BkAt.cs hW.1).c21;have z22:=(BkAt.cs hW.1).c22;have z23:=(BkAt.cs hW.1).c23;have z24:=(BkAt.cs hW.1).c24;go_simp;(try with_reducible rfl)) hS ?_;simp only[Act.put,zT,zO,zS];refine rO 11 (fun K hK=> ?_);go_simp
   refine(CS.o _).mono ?_
   rintro e ws ⟨AS,cs,rfl,_,hb⟩;have hS2:BkAt ws n s L V H/\RcAt ws (n+1) r/\zF w ws:=⟨hS.1.on hb,hS.2.1.on hb,hS.2.2.trans (hb.mono hS.2.2.size)⟩;clear hS hb;have hS:=hS2;clear hS2;refine hK.out _ _ hS (fun _=> ?_);clear hK K;refine tY 12 hS ?_;refine tY 13 hS ?_;refine tY 14 hS ?_;simp only[Act.put,zT,zO,zS];refine wpAnyH_done zk ?_ _;go_wp2;go_ret;exact⟨rfl,hS.2.2⟩
 ·have p1:(r.who !=s.step+1)=true:=by rw[bne_iff_ne];exact hst
  have E:ans=7:=by rw[HA.o,if_neg zv,if_neg TX.o,if_pos (.inl hst)]
  subst E;clear hst hph;go_upto_region 48 with(first
   |((with_reducible show zL 16);refine zR (.tmp 3) BX.o.rc ?_)
   |(go_at_call 82;refine(CR.o _).mono ?_;rintro e wr ⟨rfl,hb⟩;have BX:=zh (BX.o.on hb);clear hb b3 b8 b9 b13 b14 b15 b16 b17 b18 b19 b20 b21 b22 b23 b24 c0 c1 c2 c5 k0 k1;have b3:=BX.o.bk.cs.c3;have b8:=BX.o.bk.cs.c8;have b9:=BX.o.bk.cs.c9;have b13:=BX.o.bk.cs.c13;have b14:=BX.o.bk.cs.c14;have b15:=BX.o.bk.cs.c15;have b16:=BX.o.bk.cs.c16;have b17:=BX.o.bk.cs.c17;have b18:=BX.o.bk.cs.c18;have b19:=BX.o.bk.cs.c19;have b20:=BX.o.bk.cs.c20;have b21:=BX.o.bk.cs.c21;have b22:=BX.o.bk.cs.c22;have b23:=BX.o.bk.cs.c23;have b24:=BX.o.bk.cs.c24;have c0:=BX.o.rc.cs.c0;have c1:=BX.o.rc.cs.c1;have c2:=BX.o.rc.cs.c2;have c5:=BX.o.rc.cs.c5;rw[HK.o]at c0;have k1:=BX.o.rc.cs.lt;have k0:=BX.o.bk.lt))
  go_quiet (fail);go_wp2;go_ret;exact⟨rfl,jci BX.o.below _⟩):p:=h
theorem zzi{p:Prop}(h:p:=by
 go_wp2_with(first
  |((with_reducible show zL 16);refine zR (.tmp 3) BX.o.rc ?_)
  |(go_at_call 82;refine(CR.o _).mono ?_;rintro e wr ⟨rfl,hb⟩;have BX:=zh (BX.o.on hb);clear hb b3 b8 b9 b13 b14 b15 b16 b17 b18 b19 b20 b21 b22 b23 b24 c0 c1 c2 c5 k0 k1;have b3:=BX.o.bk.cs.c3;have b8:=BX.o.bk.cs.c8;have b9:=BX.o.bk.cs.c9;have b13:=BX.o.bk.cs.c13;have b14:=BX.o.bk.cs.c14;have b15:=BX.o.bk.cs.c15;have b16:=BX.o.bk.cs.c16;have b17:=BX.o.bk.cs.c17;have b18:=BX.o.bk.cs.c18;have b19:=BX.o.bk.cs.c19;have b20:=BX.o.bk.cs.c20;have b21:=BX.o.bk.cs.c21;have b22:=BX.o.bk.cs.c22;have b23:=BX.o.bk.cs.c23;have b24:=BX.o.bk.cs.c24;have c0:=BX.o.rc.cs.c0;have c1:=BX.o.rc.cs.c1;have c2:=BX.o.rc.cs.c2;have c5:=BX.o.rc.cs.c5;rw[HK.o]at c0;have k1:=BX.o.rc.cs.lt;have k0:=BX.o.bk.lt))
 go_ret;exact⟨rfl,BX.o.below⟩):p:=h
theorem jlc(s:Bk.St)(ok:Bk.Ok s)(r:Rc.R)(hin:Rc.In r)(L V H:Value)(w:World)(h:BkRd w s L V H)(hr:Rc.right r=true)(hk:r.kind=7)(he:r.epoch=s.ep):Calls Tryz.prog 78 #[.agg (Bk.cells s L V H),.agg (Rc.cells r)] w (jbg w (.int .i64 (Bk.chk7 s r))):=by
 have CR:=zh (fun W=>ja5 r hin W);unfold Rc.val at CR;rw[hr]at CR;have HK:=zh hk;have q1:(r.epoch !=s.ep)=false:=by rw[bne_eq_false_iff_eq];exact he
 have hw1:wrap64 (s.step+1)=s.step+1:=IntWalk.wrap64_in _ ⟨by have:=ok.step;omega,by have:=ok.step;omega⟩;have hw2:IntKind.i64.wrap (s.step+1)=s.step+1:=IntWalk.i64_in _ ⟨by have:=ok.step;omega,by have:=ok.step;omega⟩;have CS:Hid (∀W,Calls Tryz.prog 134 #[.agg #[.int .i64 s.sp.v,.int .i64 s.sp.d,.int .i64 s.sp.u,.int .i64 s.sp.n,.int .i64 s.sp.g,.int .i64 s.sp.a,.int .i64 s.sp.b,.int .i64 s.sp.c,.int .i64 s.sp.e,.int .i64 s.sp.w,.int .i64 s.sp.x,.int .i64 s.sp.k]] W (fun e w'=>∃A c,e= .returned (.slice A (Spc.steps s.sp).length c)/\OwnI w' W.heap.size (.slice A (Spc.steps s.sp).length c) (Spc.steps s.sp)/\zF W w')):=fun W=>jnm s.sp W;obtain⟨ans,hans⟩:∃ans,ans=Bk.chk7 s r:=zx;rw[<-hans];unfold Bk.chk7 at hans;have HA:=zh hans;have e1:Bk.passed.toList=[112,97,115,115,101,100]:=by rw[ByteArray.toList_eq];rfl
 have e2:Bk.promote.toList=[112,114,111,109,111,116,101]:=by rw[ByteArray.toList_eq];rfl
 have t1:(r.text.toList==[112,97,115,115,101,100])=decide (r.text=Bk.passed):=by rw[<-e1];exact jb7
 have t2:(r.text.toList==[112,114,111,109,111,116,101])=decide (r.text=Bk.promote):=by rw[<-e2];exact jb7
 clear e1 e2;generalize Spc.steps s.sp=sl at*;clear ok hr hk he hans;obtain⟨W,hW⟩:∃W,W=(w.alloc (.cells (Bk.cells s L V H) 38)).alloc (.cells (Rc.cells r) 56):=zx;obtain⟨r1,r2,hb,hs⟩:=jbl hW;have BX:=zh (BkRc.mk ⟨r1⟩ ⟨r2⟩ (h.on hb) hb zl);clear r1 r2 hs hb h hin;go_in;go_upto_region 1 with fail
 rw[<-hW];clear hW;obtain⟨n,hn⟩:∃n,n=w.heap.size:=zx;rw[<-hn]at BX⊢;clear hn;have b3:=BX.o.bk.cs.c3;have b8:=BX.o.bk.cs.c8;have b9:=BX.o.bk.cs.c9;have b13:=BX.o.bk.cs.c13;have b14:=BX.o.bk.cs.c14;have b15:=BX.o.bk.cs.c15;have b16:=BX.o.bk.cs.c16;have b17:=BX.o.bk.cs.c17;have b18:=BX.o.bk.cs.c18;have b19:=BX.o.bk.cs.c19;have b20:=BX.o.bk.cs.c20;have b21:=BX.o.bk.cs.c21;have b22:=BX.o.bk.cs.c22;have b23:=BX.o.bk.cs.c23;have b24:=BX.o.bk.cs.c24;have c0:=BX.o.rc.cs.c0;have c1:=BX.o.rc.cs.c1;have c2:=BX.o.rc.cs.c2;have c5:=BX.o.rc.cs.c5;rw[HK.o]at c0;have k1:=BX.o.rc.cs.lt;have k0:=BX.o.bk.lt;by_cases hph:s.ph=1
 ·have o1:(s.ph !=1)=false:=by rw[bne_eq_false_iff_eq];exact hph
  by_cases hx1:r.text=Bk.passed
  ·have TX:Hid (¬(r.text≠Bk.passed/\r.text≠Bk.promote)):=fun h=>h.1 hx1
   rw[decide_eq_true hx1]at t1;clear t2 hx1;exact zz1
  ·rw[decide_eq_false hx1]at t1
   by_cases hx2:r.text=Bk.promote
   ·have TX:Hid (¬(r.text≠Bk.passed/\r.text≠Bk.promote)):=fun h=>h.2 hx2
    rw[decide_eq_true hx2]at t2;clear hx1 hx2;exact zz1
   ·rw[decide_eq_false hx2]at t2
    have E:ans=2:=by rw[HA.o,if_neg zv,if_pos ⟨hx1,hx2⟩]
    subst E;clear hx1 hx2 hph
    exact zzi
 ·have o1:(s.ph !=1)=true:=by rw[bne_iff_ne];exact hph
  have E:ans=10:=by rw[HA.o,if_pos hph]
  subst E;clear hph t1 t2
  exact zzi
theorem jbu(s:Bk.St)(ok:Bk.Ok s)(r:Rc.R)(hin:Rc.In r)(L V H:Value)(w:World)(h:BkRd w s L V H):Calls Tryz.prog 78 #[.agg (Bk.cells s L V H),.agg (Rc.cells r)] w (jbg w (.int .i64 (Bk.chk s r))):=by
 cases hr:Rc.right r with
 |false=>rw[Bk.chk_wrong hr];exact jla s ok r hin L V H w h hr
 |true=>
  by_cases h1:r.kind=1
  ·rw[Bk.chk_lead hr h1];exact jno s ok r hin L V H w h hr h1
  ·by_cases he:r.epoch=s.ep
   ·have hk:=(Rc.ok_of hr).kind
    have h7:r.kind=2\/r.kind=3\/r.kind=4\/r.kind=5\/r.kind=6\/r.kind=7:=by omega
    rcases h7 with h2|h2|h2|h2|h2|h2
    ·rw[Bk.chk_two hr h2 he];exact jp9 s ok r hin L V H w h hr h2 he
    ·rw[Bk.chk_three hr h2 he];exact jlb s ok r hin L V H w h hr h2 he
    ·rw[Bk.chk_four hr h2 he];exact jnp s ok r hin L V H w h hr h2 he
    ·rw[Bk.chk_five hr h2 he];exact jnq s ok r hin L V H w h hr h2 he
    ·rw[Bk.chk_six hr h2 he];exact jqa s ok r hin L V H w h hr h2 he
    ·rw[Bk.chk_seven hr h2 he];exact jlc s ok r hin L V H w h hr h2 he
   ·rw[Bk.chk_ep hr h1 he];exact jum s ok r hin L V H w h hr h1 he
def jgs:Value->Bool
 | .string _=>false
 |_=>true
structure jnr(L V H:Value):Prop where
 l:jgs L=true
 v:jgs V=true
 h:jgs H=true
theorem jcd:jnr (.slice none 0 0) (.slice none 0 0) (.slice none 0 0):=⟨rfl,rfl,rfl⟩
theorem BkRd.flat{w:World}{s:Bk.St}{L V H:Value}(h:BkRd w s L V H):jnr L V H:=by
 exact zz2f
theorem jun(s:Bk.St){L V H:Value}(h:jnr L V H):(Bk.cells s L V H).all jgs=true:=by
 obtain⟨h1,h2,h3⟩:=h;simp[Bk.cells,h1,h2,h3];simp[jgs]
theorem jns{w:World}{g:Nat}{cs:Array Value}{t:TypeId}{fr:Nat×Nat}(h:w.heap[g]? =some (.cells cs t fr))(hs:cs.all jgs=true)(i:Nat)(x:ByteArray):w.cell? ⟨g,i,none⟩≠some (.string x):=by
 intro e;rw[cell_of_row w g i _ _ _ h]at e;obtain⟨hi,he⟩:=zg e;have:=(Array.all_eq_true.1 hs) i hi;rw[he]at this
 cases this
section
variable{w w':World}{g:Nat}{A:Option Addr}{n c:Nat}
theorem SlF.apart{T:Type}{enc:T->List Value}{ts:List T}(h:SlF enc w A n c ts){k:Nat}(hs:∀t,∃x,(enc t)[k]? =some (.string x)){cs:Array Value}{t:TypeId}{fr:Nat×Nat}(hg:w.heap[g]? =some (.cells cs t fr))(hn:cs.all jgs=true){b o:Nat}(he:A=some ⟨b,o,none⟩)(hl:0<ts.length):b≠g:=by
 rintro rfl;obtain⟨b',o',h1,h2,h3⟩:=h.rd hl;rw[he]at h1;injection h1 with h1;injection h1 with h1 h1';subst h1 h1'
 obtain⟨y,l,rfl⟩:∃y l,ts=y::l:=by
  cases ts with
  |nil=>simp at hl
  |cons y l=>exact⟨y,l,rfl⟩
 obtain⟨x,hx⟩:=hs y;have hk:=(List.getElem?_eq_some_iff.1 hx).1;exact jns hg hn _ x (h3 k _ (by rw[List.flatMap_cons,List.getElem?_append_left hk];exact hx))
theorem leC_str(l:Le):∃x,(Bk.leC l)[0]? =some (.string x):=⟨_,rfl⟩
theorem vnC_str(l:Bk.Vn):∃x,(Bk.vnC l)[1]? =some (.string x):=⟨_,rfl⟩
theorem rcC_str(l:Rc.R):∃x,(Bk.rcC l)[5]? =some (.string x):=⟨_,rfl⟩
variable{s s2:Bk.St}{L V H L2 V2 H2:Value}
theorem BkRd.past(h:BkRd w s L V H)(hg:BkAt w g s2 L2 V2 H2)(hf:jnr L2 V2 H2)(hs:w.heap.size<=w'.heap.size)(hk:∀b,b<w.heap.size->b≠g->w'.heap[b]? =w.heap[b]?):BkRd w' s L V H:=by
 obtain⟨⟨A1,c1,e1,h1⟩,⟨A2,c2,e2,h2⟩,⟨A3,c3,e3,h3⟩⟩:=h;have hn:=jun s2 hf;refine⟨⟨A1,c1,e1,h1.keep hs fun b o e hl=> ?_⟩,⟨A2,c2,e2,h2.keep hs fun b o e hl=> ?_⟩,⟨A3,c3,e3,h3.keep hs fun b o e hl=> ?_⟩⟩
 ·obtain⟨b',o',e',hb,_⟩:=h1.rd hl
  rw[e]at e';injection e' with e';injection e' with e' _;subst e'
  exact hk b hb (h1.apart leC_str hg.row hn e hl)
 ·obtain⟨b',o',e',hb,_⟩:=h2.rd hl
  rw[e]at e';injection e' with e';injection e' with e' _;subst e'
  exact hk b hb (h2.apart vnC_str hg.row hn e hl)
 ·obtain⟨b',o',e',hb,_⟩:=h3.rd hl
  rw[e]at e';injection e' with e';injection e' with e' _;subst e'
  exact hk b hb (h3.apart rcC_str hg.row hn e hl)
theorem BkRd.setRow(h:BkRd w s L V H)(hg:BkAt w g s2 L2 V2 H2)(hf:jnr L2 V2 H2)(cs:Array Value):BkRd (w.setRow g cs) s L V H:=
 h.past hg hf (by rw[jba];exact zl) fun b _ hne=>jbn _ _ (fun e=>hne e.symm)
theorem BkRd.re(h:BkRd w s L V H)(h1:Bk.tl s2=Bk.tl s)(h2:s2.vs=s.vs)(h3:s2.h=s.h):BkRd w s2 L V H:=by
 obtain⟨⟨A1,c1,e1,k1⟩,⟨A2,c2,e2,k2⟩,⟨A3,c3,e3,k3⟩⟩:=h;refine⟨⟨A1,c1,by rw[h1];exact e1,by rw[h1];exact k1⟩,⟨A2,c2,by rw[h2];exact e2,by rw[h2];exact k2⟩,⟨A3,c3,by rw[h3];exact e3,by rw[h3];exact k3⟩⟩
end
structure Only(n:Nat)(w w':World):Prop where
 os:w'.os=w.os
 tape:w'.tape=w.tape
 output:w'.output=w.output
 size:w'.heap.size=w.heap.size
 block:∀b,b≠n->w'.heap[b]? =w.heap[b]?
section
variable{w w':World}{n g:Nat}
theorem Only.refl(n:Nat)(w:World):Only n w w:=⟨rfl,rfl,rfl,rfl,fun _ _=>rfl⟩
theorem Only.set(h:Only n w w')(k:Nat)(v:Value):Only n w (w'.setCell ⟨n,k,none⟩ v):=⟨h.os,h.tape,h.output,by simp[h.size],fun b hb=>(Below.heap_setCell _ _ _ _ hb).trans (h.block b hb)⟩
theorem Only.row(h:Only n w w')(cs:Array Value):Only n w (w'.setRow n cs):=⟨h.os,h.tape,h.output,by rw[jba,h.size],fun b hb=>(jbn _ _ (fun e=>hb e.symm)).trans (h.block b hb)⟩
theorem Only.puts(h:Only n w w')(t:Spc.Sp):Only n w (jd6 w' n t):=((((((((((((h.set _ _).set _ _).set _ _).set _ _).set _ _).set _ _).set _ _).set _ _).set _ _).set _ _).set _ _).set _ _)
theorem Only.below{w0:World}{B:Nat}(h:Only n w w')(hb:Below B w0 w)(hB:B<=n):Below B w0 w':=⟨h.os.trans hb.os,h.tape.trans hb.tape,h.output.trans hb.output,by rw[h.size];exact hb.size,fun b hlt=>(h.block b zv).trans (hb.block b hlt)⟩
theorem Only.bk{s:Bk.St}{L V H:Value}(h:Only n w w')(hg:BkAt w g s L V H)(hne:g≠n):BkAt w' g s L V H:=hg.keep (h.block g hne)
theorem Only.rc{r:Rc.R}(h:Only n w w')(hg:RcAt w g r)(hne:g≠n):RcAt w' g r:=⟨(h.block g hne).trans hg.row⟩
theorem Only.rd{s s2:Bk.St}{L V H L2 V2 H2:Value}(h:Only n w w')(hr:BkRd w s L V H)(hg:BkAt w n s2 L2 V2 H2)(hf:jnr L2 V2 H2):BkRd w' s L V H:=hr.past hg hf (by rw[h.size];exact zl) fun b _ hb=>h.block b hb
end
theorem setU_at(us:Nat->Bk.Un)(k:Nat)(u:Bk.Un):Bk.setU us k u k=u:=by unfold Bk.setU;rw[if_pos rfl]
theorem jqb(us:Nat->Bk.Un)(k:Nat)(u v:Bk.Un):Bk.setU (Bk.setU us k u) k v=Bk.setU us k v:=by
 funext i;unfold Bk.setU;by_cases h:i=k
 ·rw[if_pos h,if_pos h]
 ·rw[if_neg h,if_neg h,if_neg h]
theorem jc3{w:World}{A:Option Addr}{n c:Nat}{ts:List Rc.R}(h:SlF Bk.rcC w A n c ts){q:Nat}{t:Rc.R}(hq:ts[q]? =some t):∃b o,A=some ⟨b,o,none⟩/\b<w.heap.size/\w.rangeAt b (o+q*18) (Rc.cells t).toList:=by
 obtain⟨b,o,h1,h2,h3⟩:=h.at_ Bk.rcC_len hq;exact⟨b,o,h1,h2,fun i u hi=>h3 i u hi⟩
theorem zz1m{p:Prop}(h:p:=by
 rw[Array.toArray_toList]at this;unfold execOp;simp only[ho,hx,Instr.loadAt,Instr.sureAddr,Sem.run_bind,Sem.run_pure,Result.andThen_ok,this]):p:=h
theorem jmv{a:Act}{oi:Oper}(x:Operand)(ho:oi.op= .load 56 x)(b o:Nat)(r:Rc.R)(hx:a.eval x= .pointer (some ⟨b,o,none⟩)){W:World}(h:W.rangeAt b o (Rc.cells r).toList):(execOp a.eval oi).run Tryz.prog W= .ok (.value (.agg (Rc.cells r))) W:=by
 have:=run_loadVar_mid (P:=Tryz.prog) W b o 56 (Rc.cells r).toList _ h jag rfl (jak r);exact zz1m
theorem jf6{w w':World}{b o:Nat}{cs:List Value}(h:w.rangeAt b o cs)(hb:w'.heap[b]? =w.heap[b]?):w'.rangeAt b o cs:=fun j v hv=>(World.cell?_of_block hb).trans (h j v hv)
def jnt(W:World)(X X2:Value):Prop:=X2=X\/∀A n c b o,X2= .slice A n c->A=some ⟨b,o,none⟩->0<n->W.heap.size<=b
theorem jf7{W:World}{X:Value}{A:Option Addr}{n c:Nat}(h:∀b o,A=some ⟨b,o,none⟩->0<n->W.heap.size<=b):jnt W X (.slice A n c):= .inr fun A2 n2 c2 b o e1 e2 hp=>by
 injection e1 with e3 e4 e5
 subst e3 e4 e5;exact h b o e2 hp
def jez(W:World)(L V H L2 V2 H2:Value):Prop:=jnt W L L2/\jnt W V V2/\jnt W H H2
theorem jcf{W W1:World}{X X2:Value}(h:jnt W1 X X2)(hs:W.heap.size<=W1.heap.size):jnt W X X2:=by
 rcases h with h|h
 ·exact .inl h
 ·exact .inr fun A n c b o e1 e2 hp=>Nat.le_trans hs (h A n c b o e1 e2 hp)
theorem jjq{W W1:World}{L V H L2 V2 H2:Value}(h:jez W1 L V H L2 V2 H2)(hs:W.heap.size<=W1.heap.size):jez W L V H L2 V2 H2:=⟨jcf h.1 hs,jcf h.2.1 hs,jcf h.2.2 hs⟩
def jgt(L V H:Value)(W:World)(s:Bk.St)(e:Ending)(w':World):Prop:=∃L2 V2 H2,e= .returned (.agg (Bk.cells s L2 V2 H2))/\BkRd w' s L2 V2 H2/\zF W w'/\jez W L V H L2 V2 H2
def jcv(L V H:Value)(W:World)(s:Bk.St)(x:Value)(e:Ending)(w':World):Prop:=∃L2 V2 H2,e= .returned (.tuple #[.agg (Bk.cells s L2 V2 H2),x])/\BkRd w' s L2 V2 H2/\zF W w'/\jez W L V H L2 V2 H2
theorem juo(s:Bk.St)(ok:Bk.Ok s)(r:Rc.R)(hin:Rc.In r)(L V H:Value)(w:World)(h:BkRd w s L V H)(hc:Bk.chk s r≠0):Calls Tryz.prog 45 #[.agg (Bk.cells s L V H),.agg (Rc.cells r)] w (jcv L V H w (Bk.app s r) (.int .i64 (Bk.chk s r))):=by
 have CC:Hid (∀W,BkRd W s L V H->Calls Tryz.prog 78 #[.agg (Bk.cells s L V H),.agg (Rc.cells r)] W (jbg W (.int .i64 (Bk.chk s r)))):=fun W h=>jbu s ok r hin L V H W h;have hz:=jbt;rw[Bk.app_no hc];have q1:(Bk.chk s r !=0)=true:=by rw[bne_iff_ne];exact hc
 generalize Bk.chk s r=cx at*;have RD1:=zh h.one;clear hc ok;obtain⟨W,hW⟩:∃W,W=((w.alloc (.cells (Bk.cells s L V H) 38)).alloc (.cells (Rc.cells r) 56)).alloc (.cells Bk.zeros 38):=zx;obtain⟨r1,r2,r3,hb,hs⟩:=jaq hW;have BX:=zh (BkRc.mk ⟨r1⟩ ⟨r2⟩ (h.on hb) hb zl);go_in;go_upto_region 1 with fail
 rw[<-hW];clear hW hz;obtain⟨n,hn⟩:∃n,n=w.heap.size:=zx;rw[<-hn]at BX r3⊢;have X3:Hid (BkAt W (n+1+1) Bk.none_ (.slice none 0 0) (.slice none 0 0) (.slice none 0 0)):=⟨r3⟩;have NB:=zh (Nat.le_of_eq hn.symm);clear r1 r2 r3 hs hb h hin hn;have bf:=BX.o.bk.fz;have k1:=BX.o.rc.cs.lt;have k0:=BX.o.bk.lt
 go_wp2_with(first
  |((with_reducible show zL 9);refine jab rfl (.tmp 2) rfl rfl BX.o.bk ?_)
  |((with_reducible show zL 10);refine zR (.tmp 3) BX.o.rc ?_)
  |((with_reducible show zL 14);refine jab rfl (.tmp 2) rfl rfl BX.o.bk ?_)
  |(go_at_call 78;refine(CC.o _ BX.o.rd).mono ?_;rintro e wc ⟨rfl,hb⟩;have BX:=zh (BX.o.on hb);have X3:=zh (X3.o.on hb);clear hb bf k0 k1;have bf:=BX.o.bk.fz;have k1:=BX.o.rc.cs.lt;have k0:=BX.o.bk.lt)
  |((with_reducible show zW);refine jac rfl (.tmp 4) (.tmp 14) rfl rfl rfl X3.o RD1.o ?_))
 exact bodyPost_ret (jbb Tryz.results45 _ rfl (X3.o.setRow _ _ _ _)) rfl ⟨L,V,H,rfl,BX.o.rd.setRow X3.o jcd _,below_setRow BX.o.below (by have:=NB.o;omega) _,.inl rfl,.inl rfl,.inl rfl⟩
theorem zzu{p:Prop}(h:p:=by
 have XF:=zh hX;have XF3:=zh hX3;have RDF:=zh hRD;have BF:=zh hBB;clear hX hX3 hRD hBB hO
 go_wp2_with(first
  |((with_reducible show zL 115);refine jab rfl (.tmp 2) rfl rfl XF.o ?_)
  |((with_reducible show zW);refine jac rfl (.tmp 4) (.tmp 115) rfl rfl rfl XF3.o RDF.o.one ?_))
 exact bodyPost_ret (jbb Tryz.results45 _ rfl (XF3.o.setRow _ _ _ _)) rfl ⟨L,V,H,rfl,RDF.o.setRow XF3.o jcd _,below_setRow BF.o (by have:=NB.o;omega) _,.inl rfl,.inl rfl,.inl rfl⟩):p:=h
theorem jqc(s:Bk.St)(ok:Bk.Ok s)(r:Rc.R)(hin:Rc.In r)(L V H:Value)(w:World)(h:BkRd w s L V H)(hc:Bk.chk s r=0)(hk:r.kind=6):Calls Tryz.prog 45 #[.agg (Bk.cells s L V H),.agg (Rc.cells r)] w (jcv L V H w (Bk.app s r) (.int .i64 (Bk.chk s r))):=by
 have CC:Hid (∀W,BkRd W s L V H->Calls Tryz.prog 78 #[.agg (Bk.cells s L V H),.agg (Rc.cells r)] W (jbg W (.int .i64 (Bk.chk s r)))):=fun W h=>jbu s ok r hin L V H W h;have hz:=jbt;rw[Bk.app_ok hc,hc,Bk.act6 hk];have HK:=zh hk;have hr:=Bk.chk_right hc;rw[hc]at CC;obtain⟨i1,i2⟩:=Rc.right6 hk hr;obtain⟨k,hkk⟩:=Int.eq_ofNat_of_zero_le i1.1;have EK:=zh hkk;have HKK:Hid (k<16):=by show k<16;omega
 have k16:(k:Int)<16:=by omega
 rw[hkk,show((k:Int)).toNat=k from rfl];clear ok hr hk hc i1 i2 hkk;obtain⟨W,hW⟩:∃W,W=((w.alloc (.cells (Bk.cells s L V H) 38)).alloc (.cells (Rc.cells r) 56)).alloc (.cells Bk.zeros 38):=zx;obtain⟨r1,r2,r3,hb,hs⟩:=jaq hW;have BX:=zh (BkRc.mk ⟨r1⟩ ⟨r2⟩ (h.on hb) hb zl);go_in;go_upto_region 1 with fail
 rw[<-hW];clear hW hz;obtain⟨n,hn⟩:∃n,n=w.heap.size:=zx;rw[<-hn]at BX r3⊢;have X3:Hid (BkAt W (n+1+1) Bk.none_ (.slice none 0 0) (.slice none 0 0) (.slice none 0 0)):=⟨r3⟩;have NB:=zh (Nat.le_of_eq hn.symm);clear r1 r2 r3 hs hb h hin hn;have c0:=BX.o.rc.cs.c0;have c2:=BX.o.rc.cs.c2;rw[HK.o]at c0;have bf:=BX.o.bk.fz;have k1:=BX.o.rc.cs.lt;have k0:=BX.o.bk.lt;go_upto_region 30 with(first
  |((with_reducible show zL 9);refine jab rfl (.tmp 2) rfl rfl BX.o.bk ?_)
  |((with_reducible show zL 10);refine zR (.tmp 3) BX.o.rc ?_)
  |(go_at_call 78;refine(CC.o _ BX.o.rd).mono ?_;rintro e wc ⟨rfl,hb⟩;have BX:=zh (BX.o.on hb);have X3:=zh (X3.o.on hb);clear hb c0 c2 bf k0 k1;have c0:=BX.o.rc.cs.c0;have c2:=BX.o.rc.cs.c2;rw[HK.o]at c0;have bf:=BX.o.bk.fz;have k1:=BX.o.rc.cs.lt;have k0:=BX.o.bk.lt))
 have u:=BX.o.bk.unit HKK.o;obtain⟨u0,u1,u2⟩:=u;rw[EK.o]at c2;generalize hwq:wc=wq at*;clear hwq;have BQ:=zh BX.o.below;go_upto_region 35 with fail
 have hX:BkAt ((wq.setCell ⟨n,25+k*3+2,none⟩ (.bool true))) n ({s with us:=Bk.setU s.us k {s.us k with d:=true}}) L V H:=BX.o.bk.unitD HKK.o true
 have hO:Only n wq ((wq.setCell ⟨n,25+k*3+2,none⟩ (.bool true))):=(Only.refl n wq).set _ _;have hX3:BkAt ((wq.setCell ⟨n,25+k*3+2,none⟩ (.bool true))) (n+1+1) Bk.none_ (.slice none 0 0) (.slice none 0 0) (.slice none 0 0):=hO.bk X3.o zv;have hRD:BkRd ((wq.setCell ⟨n,25+k*3+2,none⟩ (.bool true))) ({s with us:=Bk.setU s.us k {s.us k with d:=true}}) L V H:=(hO.rd BX.o.rd BX.o.bk BX.o.rd.flat).re rfl rfl rfl
 have hBB:zF w ((wq.setCell ⟨n,25+k*3+2,none⟩ (.bool true))):=hO.below BQ.o NB.o;generalize((wq.setCell ⟨n,25+k*3+2,none⟩ (.bool true)))=wf at*;exact zzu
theorem jnu(s:Bk.St)(ok:Bk.Ok s)(r:Rc.R)(hin:Rc.In r)(L V H:Value)(w:World)(h:BkRd w s L V H)(hc:Bk.chk s r=0)(hk:r.kind=5):Calls Tryz.prog 45 #[.agg (Bk.cells s L V H),.agg (Rc.cells r)] w (jcv L V H w (Bk.app s r) (.int .i64 (Bk.chk s r))):=by
 have CC:Hid (∀W,BkRd W s L V H->Calls Tryz.prog 78 #[.agg (Bk.cells s L V H),.agg (Rc.cells r)] W (jbg W (.int .i64 (Bk.chk s r)))):=fun W h=>jbu s ok r hin L V H W h;have hz:=jbt;rw[Bk.app_ok hc,hc,Bk.act5 hk];have HK:=zh hk;have hr:=Bk.chk_right hc;rw[hc]at CC;obtain⟨i1,i2,i3⟩:=Rc.right5 hk hr;obtain⟨k,hkk⟩:=Int.eq_ofNat_of_zero_le i1.1;have EK:=zh hkk;have HKK:Hid (k<16):=by show k<16;omega
 have k16:(k:Int)<16:=by omega
 rw[hkk,show((k:Int)).toNat=k from rfl];clear ok hr hk hc i1 i2 i3 hkk;obtain⟨W,hW⟩:∃W,W=((w.alloc (.cells (Bk.cells s L V H) 38)).alloc (.cells (Rc.cells r) 56)).alloc (.cells Bk.zeros 38):=zx;obtain⟨r1,r2,r3,hb,hs⟩:=jaq hW;have BX:=zh (BkRc.mk ⟨r1⟩ ⟨r2⟩ (h.on hb) hb zl);go_in;go_upto_region 1 with fail
 rw[<-hW];clear hW hz;obtain⟨n,hn⟩:∃n,n=w.heap.size:=zx;rw[<-hn]at BX r3⊢;have X3:Hid (BkAt W (n+1+1) Bk.none_ (.slice none 0 0) (.slice none 0 0) (.slice none 0 0)):=⟨r3⟩;have NB:=zh (Nat.le_of_eq hn.symm);clear r1 r2 r3 hs hb h hin hn;have c0:=BX.o.rc.cs.c0;have c2:=BX.o.rc.cs.c2;have c3:=BX.o.rc.cs.c3;have c4:=BX.o.rc.cs.c4;rw[HK.o]at c0;have bf:=BX.o.bk.fz;have k1:=BX.o.rc.cs.lt;have k0:=BX.o.bk.lt;go_upto_region 27 with(first
  |((with_reducible show zL 9);refine jab rfl (.tmp 2) rfl rfl BX.o.bk ?_)
  |((with_reducible show zL 10);refine zR (.tmp 3) BX.o.rc ?_)
  |(go_at_call 78;refine(CC.o _ BX.o.rd).mono ?_;rintro e wc ⟨rfl,hb⟩;have BX:=zh (BX.o.on hb);have X3:=zh (X3.o.on hb);clear hb c0 c2 c3 c4 bf k0 k1;have c0:=BX.o.rc.cs.c0;have c2:=BX.o.rc.cs.c2;have c3:=BX.o.rc.cs.c3;have c4:=BX.o.rc.cs.c4;rw[HK.o]at c0;have bf:=BX.o.bk.fz;have k1:=BX.o.rc.cs.lt;have k0:=BX.o.bk.lt))
 have u:=BX.o.bk.unit HKK.o;obtain⟨u0,u1,u2⟩:=u;rw[EK.o]at c2;have b12:=BX.o.bk.cs.c12;generalize hwq:wc=wq at*;clear hwq;have BQ:=zh BX.o.below;go_upto_region 35 with fail
 have hX:BkAt (((((wq.setCell ⟨n,25+k*3,none⟩ (.int .i64 r.n)).setCell ⟨n,25+k*3+1,none⟩ (.int .i64 r.seq)).setCell ⟨n,25+k*3+2,none⟩ (.bool false)).setCell ⟨n,12,none⟩ (.int .i64 r.seq))) n ({s with us:=Bk.setU s.us k ⟨r.n,r.seq,false⟩,seq:=r.seq}) L V H:=by
  have:=((((BX.o.bk.unitV HKK.o r.n).unitQ HKK.o r.seq).unitD HKK.o false).seq r.seq);simp only[jqb,setU_at]at this;exact this
 have hO:Only n wq (((((wq.setCell ⟨n,25+k*3,none⟩ (.int .i64 r.n)).setCell ⟨n,25+k*3+1,none⟩ (.int .i64 r.seq)).setCell ⟨n,25+k*3+2,none⟩ (.bool false)).setCell ⟨n,12,none⟩ (.int .i64 r.seq))):=((((Only.refl n wq).set _ _).set _ _).set _ _).set _ _;have hX3:BkAt (((((wq.setCell ⟨n,25+k*3,none⟩ (.int .i64 r.n)).setCell ⟨n,25+k*3+1,none⟩ (.int .i64 r.seq)).setCell ⟨n,25+k*3+2,none⟩ (.bool false)).setCell ⟨n,12,none⟩ (.int .i64 r.seq))) (n+1+1) Bk.none_ (.slice none 0 0) (.slice none 0 0) (.slice none 0 0):=hO.bk X3.o zv;have hRD:BkRd (((((wq.setCell ⟨n,25+k*3,none⟩ (.int .i64 r.n)).setCell ⟨n,25+k*3+1,none⟩ (.int .i64 r.seq)).setCell ⟨n,25+k*3+2,none⟩ (.bool false)).setCell ⟨n,12,none⟩ (.int .i64 r.seq))) ({s with us:=Bk.setU s.us k ⟨r.n,r.seq,false⟩,seq:=r.seq}) L V H:=(hO.rd BX.o.rd BX.o.bk BX.o.rd.flat).re rfl rfl rfl
 have hBB:zF w (((((wq.setCell ⟨n,25+k*3,none⟩ (.int .i64 r.n)).setCell ⟨n,25+k*3+1,none⟩ (.int .i64 r.seq)).setCell ⟨n,25+k*3+2,none⟩ (.bool false)).setCell ⟨n,12,none⟩ (.int .i64 r.seq))):=hO.below BQ.o NB.o;generalize(((((wq.setCell ⟨n,25+k*3,none⟩ (.int .i64 r.n)).setCell ⟨n,25+k*3+1,none⟩ (.int .i64 r.seq)).setCell ⟨n,25+k*3+2,none⟩ (.bool false)).setCell ⟨n,12,none⟩ (.int .i64 r.seq)))=wf at*;exact zzu