import Derived.Test.YtpehidgjfcfjoaaGreatDoorQz06
set_option maxHeartbeats 6400000
set_option maxRecDepth 100000
set_option linter.unusedSimpArgs false
set_option linter.unusedVariables false
namespace Go.Proofs.YtpehidgjfcfjoaaGreatDoor
open Go.RowKit
theorem zz1{p:Prop}(h:p:=by
 by_cases hst:r.who=s.step+1
 ·have p1:(r.who !=s.step+1)=false:=by rw[bne_eq_false_iff_eq];exact hst
  by_cases hsl:(sl.length:Int)<r.who
  ·have E:ans=7:=by rw[HA.out,if_neg zv,if_neg TX.out,if_pos (.inr hsl)]
   subst E;have p2:decide ((sl.length:Int)<r.who)=true:=decide_eq_true hsl;clear hst hsl hph;go_upto_region 48 with(first
    |((with_reducible show zL 16);refine zR (.tmp 3) BX.out.rc ?_)
    |(go_at_call 85;(with_reducible refine(CR.out _).mono ?_);rintro e wr ⟨rfl,hb⟩;have BX:=zh (BX.out.on hb);clear hb b3 b8 b9 b13 b14 b15 b16 b17 b18 b19 b20 b21 b22 b23 b24 c0 c1 c2 c5 k0 k1;have b3:=BX.out.bk.cs.c3;have b8:=BX.out.bk.cs.c8;have b9:=BX.out.bk.cs.c9;have b13:=BX.out.bk.cs.c13;have b14:=BX.out.bk.cs.c14;have b15:=BX.out.bk.cs.c15;have b16:=BX.out.bk.cs.c16;have b17:=BX.out.bk.cs.c17;have b18:=BX.out.bk.cs.c18;have b19:=BX.out.bk.cs.c19;have b20:=BX.out.bk.cs.c20;have b21:=BX.out.bk.cs.c21;have b22:=BX.out.bk.cs.c22;have b23:=BX.out.bk.cs.c23;have b24:=BX.out.bk.cs.c24;have c0:=BX.out.rc.cs.c0;have c1:=BX.out.rc.cs.c1;have c2:=BX.out.rc.cs.c2;have c5:=BX.out.rc.cs.c5;rw[HK.out]at c0;have k1:=BX.out.rc.cs.lt;have k0:=BX.out.bk.lt))
   refine wp_region_held_drew (S:=fun W=>BkAt W n s L V H/\RcAt W (n+1) r/\Below w.heap.size w W) zk ⟨⟨BX.out.bk.row⟩,⟨BX.out.rc.row⟩,BX.out.below.drew⟩ (fun hS=> ?_);refine tY 0 hS ?_;refine tZ 1 rfl (by intro W hW;have y2:=(RcAt.cs hW.2.1).c2;go_simp;(try with_reducible rfl)) hS ?_;refine tY 2 hS ?_;refine tZ 3 rfl (by intro W hW;have z9:=(BkAt.cs hW.1).c9;go_simp;(try with_reducible rfl)) hS ?_;refine tY 4 hS ?_;refine tY 5 hS ?_;simp only[Act.put,zT,zO,zS];refine tY 6 hS ?_;refine tY 7 hS ?_;refine tZ 8 rfl (by intro W hW;have y2:=(RcAt.cs hW.2.1).c2;go_simp;(try with_reducible rfl)) hS ?_;refine tY 9 hS ?_;refine tZ 10 rfl (by intro W hW;have z13:=(BkAt.cs hW.1).c13;have z14:=(BkAt.cs hW.1).c14;have z15:=(BkAt.cs hW.1).c15;have z16:=(BkAt.cs hW.1).c16;have z17:=(BkAt.cs hW.1).c17;have z18:=(BkAt.cs hW.1).c18;have z19:=(BkAt.cs hW.1).c19;have z20:=(BkAt.cs hW.1).c20;have z21:=(BkAt.cs hW.1).c21;have z22:=(BkAt.cs hW.1).c22;have z23:=(BkAt.cs hW.1).c23;have z24:=(BkAt.cs hW.1).c24;go_simp;(try with_reducible rfl)) hS ?_;simp only[Act.put,zT,zO,zS];refine rO 11 (fun K hK=> ?_);go_simp
   with_reducible refine(CS.out _).mono ?_
   rintro e ws ⟨AS,cs,rfl,_,hb⟩;have hS2:BkAt ws n s L V H/\RcAt ws (n+1) r/\Below w.heap.size w ws:=⟨hS.1.on hb,hS.2.1.on hb,hS.2.2.trans (hb.mono hS.2.2.size)⟩;clear hS hb;have hS:=hS2;clear hS2;refine hK.out _ _ hS (fun _=> ?_);clear hK K;refine tY 12 hS ?_;refine tY 13 hS ?_;refine tY 14 hS ?_;simp only[Act.put,zT,zO,zS];refine wpAnyH_done zk ?_ _;go_wp2;go_ret;exact⟨rfl,hS.2.2⟩
  ·have E:ans=0:=by rw[HA.out,if_neg zv,if_neg TX.out,if_neg zv]
   subst E;have p2:decide ((sl.length:Int)<r.who)=false:=decide_eq_false hsl;clear hst hsl hph;go_upto_region 48 with(first
    |((with_reducible show zL 16);refine zR (.tmp 3) BX.out.rc ?_)
    |(go_at_call 85;(with_reducible refine(CR.out _).mono ?_);rintro e wr ⟨rfl,hb⟩;have BX:=zh (BX.out.on hb);clear hb b3 b8 b9 b13 b14 b15 b16 b17 b18 b19 b20 b21 b22 b23 b24 c0 c1 c2 c5 k0 k1;have b3:=BX.out.bk.cs.c3;have b8:=BX.out.bk.cs.c8;have b9:=BX.out.bk.cs.c9;have b13:=BX.out.bk.cs.c13;have b14:=BX.out.bk.cs.c14;have b15:=BX.out.bk.cs.c15;have b16:=BX.out.bk.cs.c16;have b17:=BX.out.bk.cs.c17;have b18:=BX.out.bk.cs.c18;have b19:=BX.out.bk.cs.c19;have b20:=BX.out.bk.cs.c20;have b21:=BX.out.bk.cs.c21;have b22:=BX.out.bk.cs.c22;have b23:=BX.out.bk.cs.c23;have b24:=BX.out.bk.cs.c24;have c0:=BX.out.rc.cs.c0;have c1:=BX.out.rc.cs.c1;have c2:=BX.out.rc.cs.c2;have c5:=BX.out.rc.cs.c5;rw[HK.out]at c0;have k1:=BX.out.rc.cs.lt;have k0:=BX.out.bk.lt))
   refine wp_region_held_drew (S:=fun W=>BkAt W n s L V H/\RcAt W (n+1) r/\Below w.heap.size w W) zk ⟨⟨BX.out.bk.row⟩,⟨BX.out.rc.row⟩,BX.out.below.drew⟩ (fun hS=> ?_);refine tY 0 hS ?_;refine tZ 1 rfl (by intro W hW;have y2:=(RcAt.cs hW.2.1).c2;go_simp;(try with_reducible rfl)) hS ?_;refine tY 2 hS ?_;refine tZ 3 rfl (by intro W hW;have z9:=(BkAt.cs hW.1).c9;go_simp;(try with_reducible rfl)) hS ?_;refine tY 4 hS ?_;refine tY 5 hS ?_;simp only[Act.put,zT,zO,zS];refine tY 6 hS ?_;refine tY 7 hS ?_;refine tZ 8 rfl (by intro W hW;have y2:=(RcAt.cs hW.2.1).c2;go_simp;(try with_reducible rfl)) hS ?_;refine tY 9 hS ?_;refine tZ 10 rfl (by intro W hW;have z13:=(BkAt.cs hW.1).c13;have z14:=(BkAt.cs hW.1).c14;have z15:=(BkAt.cs hW.1).c15;have z16:=(BkAt.cs hW.1).c16;have z17:=(BkAt.cs hW.1).c17;have z18:=(BkAt.cs hW.1).c18;have z19:=(BkAt.cs hW.1).c19;have z20:=(BkAt.cs hW.1).c20;have z21:=(BkAt.cs hW.1).c21;have z22:=(BkAt.cs hW.1).c22;have z23:=(BkAt.cs hW.1).c23;have z24:=(BkAt.cs hW.1).c24;go_simp;(try with_reducible rfl)) hS ?_;simp only[Act.put,zT,zO,zS];refine rO 11 (fun K hK=> ?_);go_simp
   with_reducible refine(CS.out _).mono ?_
   rintro e ws ⟨AS,cs,rfl,_,hb⟩;have hS2:BkAt ws n s L V H/\RcAt ws (n+1) r/\Below w.heap.size w ws:=⟨hS.1.on hb,hS.2.1.on hb,hS.2.2.trans (hb.mono hS.2.2.size)⟩;clear hS hb;have hS:=hS2;clear hS2;refine hK.out _ _ hS (fun _=> ?_);clear hK K;refine tY 12 hS ?_;refine tY 13 hS ?_;refine tY 14 hS ?_;simp only[Act.put,zT,zO,zS];refine wpAnyH_done zk ?_ _;go_wp2;go_ret;exact⟨rfl,hS.2.2⟩
 ·have p1:(r.who !=s.step+1)=true:=by rw[bne_iff_ne];exact hst
  have E:ans=7:=by rw[HA.out,if_neg zv,if_neg TX.out,if_pos (.inl hst)]
  subst E;clear hst hph;go_upto_region 48 with(first
   |((with_reducible show zL 16);refine zR (.tmp 3) BX.out.rc ?_)
   |(go_at_call 85;(with_reducible refine(CR.out _).mono ?_);rintro e wr ⟨rfl,hb⟩;have BX:=zh (BX.out.on hb);clear hb b3 b8 b9 b13 b14 b15 b16 b17 b18 b19 b20 b21 b22 b23 b24 c0 c1 c2 c5 k0 k1;have b3:=BX.out.bk.cs.c3;have b8:=BX.out.bk.cs.c8;have b9:=BX.out.bk.cs.c9;have b13:=BX.out.bk.cs.c13;have b14:=BX.out.bk.cs.c14;have b15:=BX.out.bk.cs.c15;have b16:=BX.out.bk.cs.c16;have b17:=BX.out.bk.cs.c17;have b18:=BX.out.bk.cs.c18;have b19:=BX.out.bk.cs.c19;have b20:=BX.out.bk.cs.c20;have b21:=BX.out.bk.cs.c21;have b22:=BX.out.bk.cs.c22;have b23:=BX.out.bk.cs.c23;have b24:=BX.out.bk.cs.c24;have c0:=BX.out.rc.cs.c0;have c1:=BX.out.rc.cs.c1;have c2:=BX.out.rc.cs.c2;have c5:=BX.out.rc.cs.c5;rw[HK.out]at c0;have k1:=BX.out.rc.cs.lt;have k0:=BX.out.bk.lt))
  go_quiet (fail);go_wp2;go_ret;exact⟨rfl,jcg BX.out.below _⟩):p:=h
theorem zzi{p:Prop}(h:p:=by
 go_wp2_with(first
  |((with_reducible show zL 16);refine zR (.tmp 3) BX.out.rc ?_)
  |(go_at_call 85;(with_reducible refine(CR.out _).mono ?_);rintro e wr ⟨rfl,hb⟩;have BX:=zh (BX.out.on hb);clear hb b3 b8 b9 b13 b14 b15 b16 b17 b18 b19 b20 b21 b22 b23 b24 c0 c1 c2 c5 k0 k1;have b3:=BX.out.bk.cs.c3;have b8:=BX.out.bk.cs.c8;have b9:=BX.out.bk.cs.c9;have b13:=BX.out.bk.cs.c13;have b14:=BX.out.bk.cs.c14;have b15:=BX.out.bk.cs.c15;have b16:=BX.out.bk.cs.c16;have b17:=BX.out.bk.cs.c17;have b18:=BX.out.bk.cs.c18;have b19:=BX.out.bk.cs.c19;have b20:=BX.out.bk.cs.c20;have b21:=BX.out.bk.cs.c21;have b22:=BX.out.bk.cs.c22;have b23:=BX.out.bk.cs.c23;have b24:=BX.out.bk.cs.c24;have c0:=BX.out.rc.cs.c0;have c1:=BX.out.rc.cs.c1;have c2:=BX.out.rc.cs.c2;have c5:=BX.out.rc.cs.c5;rw[HK.out]at c0;have k1:=BX.out.rc.cs.lt;have k0:=BX.out.bk.lt))
 go_ret;exact⟨rfl,BX.out.below⟩):p:=h
theorem jkj(s:Bk.St)(ok:Bk.Ok s)(r:Rc.R)(hin:Rc.In r)(L V H:Value)(w:World)(h:BkRd w s L V H)(hr:Rc.right r=true)(hk:r.kind=7)(he:r.epoch=s.ep):Calls Tryz.prog 81 #[.agg (Bk.cells s L V H),.agg (Rc.cells r)] w (jba w (.int .i64 (Bk.chk7 s r))):=by
 have CR:=zh (fun W=>ja1 r hin W);unfold Rc.val at CR;rw[hr]at CR;have HK:=zh hk;have q1:(r.epoch !=s.ep)=false:=by rw[bne_eq_false_iff_eq];exact he
 have hw1:wrap64 (s.step+1)=s.step+1:=IntWalk.wrap64_in _ ⟨by have:=ok.step;omega,by have:=ok.step;omega⟩;have hw2:IntKind.i64.wrap (s.step+1)=s.step+1:=IntWalk.i64_in _ ⟨by have:=ok.step;omega,by have:=ok.step;omega⟩;have CS:Hid (∀W,Calls Tryz.prog 138 #[.agg #[.int .i64 s.sp.v,.int .i64 s.sp.d,.int .i64 s.sp.u,.int .i64 s.sp.n,.int .i64 s.sp.g,.int .i64 s.sp.a,.int .i64 s.sp.b,.int .i64 s.sp.c,.int .i64 s.sp.e,.int .i64 s.sp.w,.int .i64 s.sp.x,.int .i64 s.sp.k]] W (fun e w'=>∃A c,e= .returned (.slice A (Spc.steps s.sp).length c)/\OwnI w' W.heap.size (.slice A (Spc.steps s.sp).length c) (Spc.steps s.sp)/\Below W.heap.size W w')):=fun W=>jmp s.sp W;obtain⟨ans,hans⟩:∃ans,ans=Bk.chk7 s r:=⟨_,rfl⟩;rw[<-hans];unfold Bk.chk7 at hans;have HA:=zh hans;have e1:Bk.passed.toList=[112,97,115,115,101,100]:=by rw[ByteArray.toList_eq];rfl
 have e2:Bk.promote.toList=[112,114,111,109,111,116,101]:=by rw[ByteArray.toList_eq];rfl
 have t1:(r.text.toList==[112,97,115,115,101,100])=decide (r.text=Bk.passed):=by rw[<-e1];exact jb2
 have t2:(r.text.toList==[112,114,111,109,111,116,101])=decide (r.text=Bk.promote):=by rw[<-e2];exact jb2
 clear e1 e2;generalize Spc.steps s.sp=sl at*;clear ok hr hk he hans;obtain⟨W,hW⟩:∃W,W=(w.alloc (.cells (Bk.cells s L V H) 38)).alloc (.cells (Rc.cells r) 60):=⟨_,rfl⟩;obtain⟨r1,r2,hb,hs⟩:=jbe hW;have BX:=zh (BkRc.mk ⟨r1⟩ ⟨r2⟩ (h.on hb) hb (Nat.le_refl _));clear r1 r2 hs hb h hin;go_in;go_upto_region 1 with fail
 rw[<-hW];clear hW;obtain⟨n,hn⟩:∃n,n=w.heap.size:=⟨_,rfl⟩;rw[<-hn]at BX⊢;clear hn;have b3:=BX.out.bk.cs.c3;have b8:=BX.out.bk.cs.c8;have b9:=BX.out.bk.cs.c9;have b13:=BX.out.bk.cs.c13;have b14:=BX.out.bk.cs.c14;have b15:=BX.out.bk.cs.c15;have b16:=BX.out.bk.cs.c16;have b17:=BX.out.bk.cs.c17;have b18:=BX.out.bk.cs.c18;have b19:=BX.out.bk.cs.c19;have b20:=BX.out.bk.cs.c20;have b21:=BX.out.bk.cs.c21;have b22:=BX.out.bk.cs.c22;have b23:=BX.out.bk.cs.c23;have b24:=BX.out.bk.cs.c24;have c0:=BX.out.rc.cs.c0;have c1:=BX.out.rc.cs.c1;have c2:=BX.out.rc.cs.c2;have c5:=BX.out.rc.cs.c5;rw[HK.out]at c0;have k1:=BX.out.rc.cs.lt;have k0:=BX.out.bk.lt;by_cases hph:s.ph=1
 ·have o1:(s.ph !=1)=false:=by rw[bne_eq_false_iff_eq];exact hph
  by_cases hx1:r.text=Bk.passed
  ·have TX:Hid (¬(r.text≠Bk.passed/\r.text≠Bk.promote)):=fun h=>h.1 hx1
   rw[decide_eq_true hx1]at t1;clear t2 hx1;exact zz1
  ·rw[decide_eq_false hx1]at t1
   by_cases hx2:r.text=Bk.promote
   ·have TX:Hid (¬(r.text≠Bk.passed/\r.text≠Bk.promote)):=fun h=>h.2 hx2
    rw[decide_eq_true hx2]at t2;clear hx1 hx2;exact zz1
   ·rw[decide_eq_false hx2]at t2
    have E:ans=2:=by rw[HA.out,if_neg zv,if_pos ⟨hx1,hx2⟩]
    subst E;clear hx1 hx2 hph
    exact zzi
 ·have o1:(s.ph !=1)=true:=by rw[bne_iff_ne];exact hph
  have E:ans=10:=by rw[HA.out,if_pos hph]
  subst E;clear hph t1 t2
  exact zzi
theorem jbq(s:Bk.St)(ok:Bk.Ok s)(r:Rc.R)(hin:Rc.In r)(L V H:Value)(w:World)(h:BkRd w s L V H):Calls Tryz.prog 81 #[.agg (Bk.cells s L V H),.agg (Rc.cells r)] w (jba w (.int .i64 (Bk.chk s r))):=by
 cases hr:Rc.right r with
 |false=>rw[Bk.chk_wrong hr];exact jkh s ok r hin L V H w h hr
 |true=>
  by_cases h1:r.kind=1
  ·rw[Bk.chk_lead hr h1];exact jmr s ok r hin L V H w h hr h1
  ·by_cases he:r.epoch=s.ep
   ·have hk:=(Rc.ok_of hr).kind
    have h7:r.kind=2\/r.kind=3\/r.kind=4\/r.kind=5\/r.kind=6\/r.kind=7:=by omega
    rcases h7 with h2|h2|h2|h2|h2|h2
    ·rw[Bk.chk_two hr h2 he];exact jos s ok r hin L V H w h hr h2 he
    ·rw[Bk.chk_three hr h2 he];exact jki s ok r hin L V H w h hr h2 he
    ·rw[Bk.chk_four hr h2 he];exact jms s ok r hin L V H w h hr h2 he
    ·rw[Bk.chk_five hr h2 he];exact jmt s ok r hin L V H w h hr h2 he
    ·rw[Bk.chk_six hr h2 he];exact jot s ok r hin L V H w h hr h2 he
    ·rw[Bk.chk_seven hr h2 he];exact jkj s ok r hin L V H w h hr h2 he
   ·rw[Bk.chk_ep hr h1 he];exact jsy s ok r hin L V H w h hr h1 he
def jge:Value->Bool
 | .string _=>false
 |_=>true
structure jmu(L V H:Value):Prop where
 l:jge L=true
 v:jge V=true
 h:jge H=true
theorem jca:jmu (.slice none 0 0) (.slice none 0 0) (.slice none 0 0):=⟨rfl,rfl,rfl⟩
theorem BkRd.flat{w:World}{s:Bk.St}{L V H:Value}(h:BkRd w s L V H):jmu L V H:=by
 exact zz2i
theorem jsz(s:Bk.St){L V H:Value}(h:jmu L V H):(Bk.cells s L V H).all jge=true:=by
 obtain⟨h1,h2,h3⟩:=h;simp[Bk.cells,h1,h2,h3];simp[jge]
theorem jmv{w:World}{g:Nat}{cs:Array Value}{t:TypeId}{fr:Nat×Nat}(h:w.heap[g]? =some (.cells cs t fr))(hs:cs.all jge=true)(i:Nat)(x:ByteArray):w.cell? ⟨g,i,none⟩≠some (.string x):=by
 intro e;rw[cell_of_row w g i _ _ _ h]at e;obtain⟨hi,he⟩:=Array.getElem?_eq_some_iff.1 e;have:=(Array.all_eq_true.1 hs) i hi;rw[he]at this
 cases this
section
variable{w w':World}{g:Nat}{A:Option Addr}{n c:Nat}
theorem SlF.apart{T:Type}{enc:T->List Value}{ts:List T}(h:SlF enc w A n c ts){k:Nat}(hs:∀t,∃x,(enc t)[k]? =some (.string x)){cs:Array Value}{t:TypeId}{fr:Nat×Nat}(hg:w.heap[g]? =some (.cells cs t fr))(hn:cs.all jge=true){b o:Nat}(he:A=some ⟨b,o,none⟩)(hl:0<ts.length):b≠g:=by
 rintro rfl;obtain⟨b',o',h1,h2,h3⟩:=h.rd hl;rw[he]at h1;injection h1 with h1;injection h1 with h1 h1';subst h1 h1'
 obtain⟨y,l,rfl⟩:∃y l,ts=y::l:=by
  cases ts with
  |nil=>simp at hl
  |cons y l=>exact⟨y,l,rfl⟩
 obtain⟨x,hx⟩:=hs y;have hk:=(List.getElem?_eq_some_iff.1 hx).1;exact jmv hg hn _ x (h3 k _ (by rw[List.flatMap_cons,List.getElem?_append_left hk];exact hx))
theorem leC_str(l:Le):∃x,(Bk.leC l)[0]? =some (.string x):=⟨_,rfl⟩
theorem vnC_str(l:Bk.Vn):∃x,(Bk.vnC l)[1]? =some (.string x):=⟨_,rfl⟩
theorem rcC_str(l:Rc.R):∃x,(Bk.rcC l)[5]? =some (.string x):=⟨_,rfl⟩
variable{s s2:Bk.St}{L V H L2 V2 H2:Value}
theorem BkRd.past(h:BkRd w s L V H)(hg:BkAt w g s2 L2 V2 H2)(hf:jmu L2 V2 H2)(hs:w.heap.size<=w'.heap.size)(hk:∀b,b<w.heap.size->b≠g->w'.heap[b]? =w.heap[b]?):BkRd w' s L V H:=by
 obtain⟨⟨A1,c1,e1,h1⟩,⟨A2,c2,e2,h2⟩,⟨A3,c3,e3,h3⟩⟩:=h;have hn:=jsz s2 hf;refine⟨⟨A1,c1,e1,h1.keep hs fun b o e hl=> ?_⟩,⟨A2,c2,e2,h2.keep hs fun b o e hl=> ?_⟩,⟨A3,c3,e3,h3.keep hs fun b o e hl=> ?_⟩⟩
 ·obtain⟨b',o',e',hb,_⟩:=h1.rd hl
  rw[e]at e';injection e' with e';injection e' with e' _;subst e'
  exact hk b hb (h1.apart leC_str hg.row hn e hl)
 ·obtain⟨b',o',e',hb,_⟩:=h2.rd hl
  rw[e]at e';injection e' with e';injection e' with e' _;subst e'
  exact hk b hb (h2.apart vnC_str hg.row hn e hl)
 ·obtain⟨b',o',e',hb,_⟩:=h3.rd hl
  rw[e]at e';injection e' with e';injection e' with e' _;subst e'
  exact hk b hb (h3.apart rcC_str hg.row hn e hl)
theorem BkRd.setRow(h:BkRd w s L V H)(hg:BkAt w g s2 L2 V2 H2)(hf:jmu L2 V2 H2)(cs:Array Value):BkRd (w.setRow g cs) s L V H:=
 h.past hg hf (by rw[ja6];exact Nat.le_refl _) fun b _ hne=>jcc _ _ (fun e=>hne e.symm)
theorem BkRd.re(h:BkRd w s L V H)(h1:Bk.tl s2=Bk.tl s)(h2:s2.vs=s.vs)(h3:s2.h=s.h):BkRd w s2 L V H:=by
 obtain⟨⟨A1,c1,e1,k1⟩,⟨A2,c2,e2,k2⟩,⟨A3,c3,e3,k3⟩⟩:=h;refine⟨⟨A1,c1,by rw[h1];exact e1,by rw[h1];exact k1⟩,⟨A2,c2,by rw[h2];exact e2,by rw[h2];exact k2⟩,⟨A3,c3,by rw[h3];exact e3,by rw[h3];exact k3⟩⟩
end
structure Only(n:Nat)(w w':World):Prop where
 os:w'.os=w.os
 tape:w'.tape=w.tape
 output:w'.output=w.output
 size:w'.heap.size=w.heap.size
 block:∀b,b≠n->w'.heap[b]? =w.heap[b]?
section
variable{w w':World}{n g:Nat}
theorem Only.refl(n:Nat)(w:World):Only n w w:=⟨rfl,rfl,rfl,rfl,fun _ _=>rfl⟩
theorem Only.set(h:Only n w w')(k:Nat)(v:Value):Only n w (w'.setCell ⟨n,k,none⟩ v):=⟨h.os,h.tape,h.output,by simp[h.size],fun b hb=>(Below.heap_setCell _ _ _ _ hb).trans (h.block b hb)⟩
theorem Only.row(h:Only n w w')(cs:Array Value):Only n w (w'.setRow n cs):=⟨h.os,h.tape,h.output,by rw[ja6,h.size],fun b hb=>(jcc _ _ (fun e=>hb e.symm)).trans (h.block b hb)⟩
theorem Only.puts(h:Only n w w')(t:Spc.Sp):Only n w (jd1 w' n t):=((((((((((((h.set _ _).set _ _).set _ _).set _ _).set _ _).set _ _).set _ _).set _ _).set _ _).set _ _).set _ _).set _ _)
theorem Only.below{w0:World}{B:Nat}(h:Only n w w')(hb:Below B w0 w)(hB:B<=n):Below B w0 w':=⟨h.os.trans hb.os,h.tape.trans hb.tape,h.output.trans hb.output,by rw[h.size];exact hb.size,fun b hlt=>(h.block b zv).trans (hb.block b hlt)⟩
theorem Only.bk{s:Bk.St}{L V H:Value}(h:Only n w w')(hg:BkAt w g s L V H)(hne:g≠n):BkAt w' g s L V H:=hg.keep (h.block g hne)
theorem Only.rc{r:Rc.R}(h:Only n w w')(hg:RcAt w g r)(hne:g≠n):RcAt w' g r:=⟨(h.block g hne).trans hg.row⟩
theorem Only.rd{s s2:Bk.St}{L V H L2 V2 H2:Value}(h:Only n w w')(hr:BkRd w s L V H)(hg:BkAt w n s2 L2 V2 H2)(hf:jmu L2 V2 H2):BkRd w' s L V H:=hr.past hg hf (by rw[h.size];exact Nat.le_refl _) fun b _ hb=>h.block b hb
end
theorem setU_at(us:Nat->Bk.Un)(k:Nat)(u:Bk.Un):Bk.setU us k u k=u:=by unfold Bk.setU;rw[if_pos rfl]
theorem jou(us:Nat->Bk.Un)(k:Nat)(u v:Bk.Un):Bk.setU (Bk.setU us k u) k v=Bk.setU us k v:=by
 funext i;unfold Bk.setU;by_cases h:i=k
 ·rw[if_pos h,if_pos h]
 ·rw[if_neg h,if_neg h,if_neg h]
def jmw(W:World)(X X2:Value):Prop:=X2=X\/∀A n c b o,X2= .slice A n c->A=some ⟨b,o,none⟩->0<n->W.heap.size<=b
theorem jfx{W:World}{X:Value}{A:Option Addr}{n c:Nat}(h:∀b o,A=some ⟨b,o,none⟩->0<n->W.heap.size<=b):jmw W X (.slice A n c):= .inr fun A2 n2 c2 b o e1 e2 hp=>by
 injection e1 with e3 e4 e5
 subst e3 e4 e5;exact h b o e2 hp
def jel(W:World)(L V H L2 V2 H2:Value):Prop:=jmw W L L2/\jmw W V V2/\jmw W H H2
theorem jcd{W W1:World}{X X2:Value}(h:jmw W1 X X2)(hs:W.heap.size<=W1.heap.size):jmw W X X2:=by
 rcases h with h|h
 ·exact .inl h
 ·exact .inr fun A n c b o e1 e2 hp=>Nat.le_trans hs (h A n c b o e1 e2 hp)
theorem jis{W W1:World}{L V H L2 V2 H2:Value}(h:jel W1 L V H L2 V2 H2)(hs:W.heap.size<=W1.heap.size):jel W L V H L2 V2 H2:=⟨jcd h.1 hs,jcd h.2.1 hs,jcd h.2.2 hs⟩
def jgf(L V H:Value)(W:World)(s:Bk.St)(e:Ending)(w':World):Prop:=∃L2 V2 H2,e= .returned (.agg (Bk.cells s L2 V2 H2))/\BkRd w' s L2 V2 H2/\Below W.heap.size W w'/\jel W L V H L2 V2 H2
def jct(L V H:Value)(W:World)(s:Bk.St)(x:Value)(e:Ending)(w':World):Prop:=∃L2 V2 H2,e= .returned (.tuple #[.agg (Bk.cells s L2 V2 H2),x])/\BkRd w' s L2 V2 H2/\Below W.heap.size W w'/\jel W L V H L2 V2 H2
theorem js0(s:Bk.St)(ok:Bk.Ok s)(r:Rc.R)(hin:Rc.In r)(L V H:Value)(w:World)(h:BkRd w s L V H)(hc:Bk.chk s r≠0):Calls Tryz.prog 43 #[.agg (Bk.cells s L V H),.agg (Rc.cells r)] w (jct L V H w (Bk.app s r) (.int .i64 (Bk.chk s r))):=by
 have CC:Hid (∀W,BkRd W s L V H->Calls Tryz.prog 81 #[.agg (Bk.cells s L V H),.agg (Rc.cells r)] W (jba W (.int .i64 (Bk.chk s r)))):=fun W h=>jbq s ok r hin L V H W h;have hz:=jbo;rw[Bk.app_no hc];have q1:(Bk.chk s r !=0)=true:=by rw[bne_iff_ne];exact hc
 generalize Bk.chk s r=cx at*;have RD1:=zh h.one;clear hc ok;obtain⟨W,hW⟩:∃W,W=((w.alloc (.cells (Bk.cells s L V H) 38)).alloc (.cells (Rc.cells r) 60)).alloc (.cells Bk.zeros 38):=⟨_,rfl⟩;obtain⟨r1,r2,r3,hb,hs⟩:=jap hW;have BX:=zh (BkRc.mk ⟨r1⟩ ⟨r2⟩ (h.on hb) hb (Nat.le_refl _));go_in;go_upto_region 1 with fail
 rw[<-hW];clear hW hz;obtain⟨n,hn⟩:∃n,n=w.heap.size:=⟨_,rfl⟩;rw[<-hn]at BX r3⊢;have X3:Hid (BkAt W (n+1+1) Bk.none_ (.slice none 0 0) (.slice none 0 0) (.slice none 0 0)):=⟨r3⟩;have NB:=zh (Nat.le_of_eq hn.symm);clear r1 r2 r3 hs hb h hin hn;have bf:=BX.out.bk.fz;have k1:=BX.out.rc.cs.lt;have k0:=BX.out.bk.lt
 go_wp2_with(first
  |((with_reducible show zL 9);refine jab rfl (.tmp 2) rfl rfl BX.out.bk ?_)
  |((with_reducible show zL 10);refine zR (.tmp 3) BX.out.rc ?_)
  |((with_reducible show zL 14);refine jab rfl (.tmp 2) rfl rfl BX.out.bk ?_)
  |(go_at_call 81;(with_reducible refine(CC.out _ BX.out.rd).mono ?_);rintro e wc ⟨rfl,hb⟩;have BX:=zh (BX.out.on hb);have X3:=zh (X3.out.on hb);clear hb bf k0 k1;have bf:=BX.out.bk.fz;have k1:=BX.out.rc.cs.lt;have k0:=BX.out.bk.lt)
  |((with_reducible show zW);refine jac rfl (.tmp 4) (.tmp 14) rfl rfl rfl X3.out RD1.out ?_))
 exact bodyPost_ret (ja7 Tryz.results43 _ rfl (X3.out.setRow _ _ _ _)) rfl ⟨L,V,H,rfl,BX.out.rd.setRow X3.out jca _,below_setRow BX.out.below (by have:=NB.out;omega) _,.inl rfl,.inl rfl,.inl rfl⟩
theorem zzv{p:Prop}(h:p:=by
 have XF:=zh hX;have XF3:=zh hX3;have RDF:=zh hRD;have BF:=zh hBB;clear hX hX3 hRD hBB hO
 go_wp2_with(first
  |((with_reducible show zL 115);refine jab rfl (.tmp 2) rfl rfl XF.out ?_)
  |((with_reducible show zW);refine jac rfl (.tmp 4) (.tmp 115) rfl rfl rfl XF3.out RDF.out.one ?_))
 exact bodyPost_ret (ja7 Tryz.results43 _ rfl (XF3.out.setRow _ _ _ _)) rfl ⟨L,V,H,rfl,RDF.out.setRow XF3.out jca _,below_setRow BF.out (by have:=NB.out;omega) _,.inl rfl,.inl rfl,.inl rfl⟩):p:=h
theorem jov(s:Bk.St)(ok:Bk.Ok s)(r:Rc.R)(hin:Rc.In r)(L V H:Value)(w:World)(h:BkRd w s L V H)(hc:Bk.chk s r=0)(hk:r.kind=6):Calls Tryz.prog 43 #[.agg (Bk.cells s L V H),.agg (Rc.cells r)] w (jct L V H w (Bk.app s r) (.int .i64 (Bk.chk s r))):=by
 have CC:Hid (∀W,BkRd W s L V H->Calls Tryz.prog 81 #[.agg (Bk.cells s L V H),.agg (Rc.cells r)] W (jba W (.int .i64 (Bk.chk s r)))):=fun W h=>jbq s ok r hin L V H W h;have hz:=jbo;rw[Bk.app_ok hc,hc,Bk.act6 hk];have HK:=zh hk;have hr:=Bk.chk_right hc;rw[hc]at CC;obtain⟨i1,i2⟩:=Rc.right6 hk hr;obtain⟨k,hkk⟩:=Int.eq_ofNat_of_zero_le i1.1;have EK:=zh hkk;have HKK:Hid (k<16):=by show k<16;omega
 have k16:(k:Int)<16:=by omega
 rw[hkk,show((k:Int)).toNat=k from rfl];clear ok hr hk hc i1 i2 hkk;obtain⟨W,hW⟩:∃W,W=((w.alloc (.cells (Bk.cells s L V H) 38)).alloc (.cells (Rc.cells r) 60)).alloc (.cells Bk.zeros 38):=⟨_,rfl⟩;obtain⟨r1,r2,r3,hb,hs⟩:=jap hW;have BX:=zh (BkRc.mk ⟨r1⟩ ⟨r2⟩ (h.on hb) hb (Nat.le_refl _));go_in;go_upto_region 1 with fail
 rw[<-hW];clear hW hz;obtain⟨n,hn⟩:∃n,n=w.heap.size:=⟨_,rfl⟩;rw[<-hn]at BX r3⊢;have X3:Hid (BkAt W (n+1+1) Bk.none_ (.slice none 0 0) (.slice none 0 0) (.slice none 0 0)):=⟨r3⟩;have NB:=zh (Nat.le_of_eq hn.symm);clear r1 r2 r3 hs hb h hin hn;have c0:=BX.out.rc.cs.c0;have c2:=BX.out.rc.cs.c2;rw[HK.out]at c0;have bf:=BX.out.bk.fz;have k1:=BX.out.rc.cs.lt;have k0:=BX.out.bk.lt;go_upto_region 30 with(first
  |((with_reducible show zL 9);refine jab rfl (.tmp 2) rfl rfl BX.out.bk ?_)
  |((with_reducible show zL 10);refine zR (.tmp 3) BX.out.rc ?_)
  |(go_at_call 81;(with_reducible refine(CC.out _ BX.out.rd).mono ?_);rintro e wc ⟨rfl,hb⟩;have BX:=zh (BX.out.on hb);have X3:=zh (X3.out.on hb);clear hb c0 c2 bf k0 k1;have c0:=BX.out.rc.cs.c0;have c2:=BX.out.rc.cs.c2;rw[HK.out]at c0;have bf:=BX.out.bk.fz;have k1:=BX.out.rc.cs.lt;have k0:=BX.out.bk.lt))
 have u:=BX.out.bk.unit HKK.out;obtain⟨u0,u1,u2⟩:=u;rw[EK.out]at c2;generalize hwq:wc=wq at*;clear hwq;have BQ:=zh BX.out.below;go_upto_region 35 with fail
 have hX:BkAt ((wq.setCell ⟨n,25+k*3+2,none⟩ (.bool true))) n ({s with us:=Bk.setU s.us k {s.us k with d:=true}}) L V H:=BX.out.bk.unitD HKK.out true
 have hO:Only n wq ((wq.setCell ⟨n,25+k*3+2,none⟩ (.bool true))):=(Only.refl n wq).set _ _;have hX3:BkAt ((wq.setCell ⟨n,25+k*3+2,none⟩ (.bool true))) (n+1+1) Bk.none_ (.slice none 0 0) (.slice none 0 0) (.slice none 0 0):=hO.bk X3.out zv;have hRD:BkRd ((wq.setCell ⟨n,25+k*3+2,none⟩ (.bool true))) ({s with us:=Bk.setU s.us k {s.us k with d:=true}}) L V H:=(hO.rd BX.out.rd BX.out.bk BX.out.rd.flat).re rfl rfl rfl
 have hBB:Below w.heap.size w ((wq.setCell ⟨n,25+k*3+2,none⟩ (.bool true))):=hO.below BQ.out NB.out;generalize((wq.setCell ⟨n,25+k*3+2,none⟩ (.bool true)))=wf at*;exact zzv
theorem jmx(s:Bk.St)(ok:Bk.Ok s)(r:Rc.R)(hin:Rc.In r)(L V H:Value)(w:World)(h:BkRd w s L V H)(hc:Bk.chk s r=0)(hk:r.kind=5):Calls Tryz.prog 43 #[.agg (Bk.cells s L V H),.agg (Rc.cells r)] w (jct L V H w (Bk.app s r) (.int .i64 (Bk.chk s r))):=by
 have CC:Hid (∀W,BkRd W s L V H->Calls Tryz.prog 81 #[.agg (Bk.cells s L V H),.agg (Rc.cells r)] W (jba W (.int .i64 (Bk.chk s r)))):=fun W h=>jbq s ok r hin L V H W h;have hz:=jbo;rw[Bk.app_ok hc,hc,Bk.act5 hk];have HK:=zh hk;have hr:=Bk.chk_right hc;rw[hc]at CC;obtain⟨i1,i2,i3⟩:=Rc.right5 hk hr;obtain⟨k,hkk⟩:=Int.eq_ofNat_of_zero_le i1.1;have EK:=zh hkk;have HKK:Hid (k<16):=by show k<16;omega
 have k16:(k:Int)<16:=by omega
 rw[hkk,show((k:Int)).toNat=k from rfl];clear ok hr hk hc i1 i2 i3 hkk;obtain⟨W,hW⟩:∃W,W=((w.alloc (.cells (Bk.cells s L V H) 38)).alloc (.cells (Rc.cells r) 60)).alloc (.cells Bk.zeros 38):=⟨_,rfl⟩;obtain⟨r1,r2,r3,hb,hs⟩:=jap hW;have BX:=zh (BkRc.mk ⟨r1⟩ ⟨r2⟩ (h.on hb) hb (Nat.le_refl _));go_in;go_upto_region 1 with fail
 rw[<-hW];clear hW hz;obtain⟨n,hn⟩:∃n,n=w.heap.size:=⟨_,rfl⟩;rw[<-hn]at BX r3⊢;have X3:Hid (BkAt W (n+1+1) Bk.none_ (.slice none 0 0) (.slice none 0 0) (.slice none 0 0)):=⟨r3⟩;have NB:=zh (Nat.le_of_eq hn.symm);clear r1 r2 r3 hs hb h hin hn;have c0:=BX.out.rc.cs.c0;have c2:=BX.out.rc.cs.c2;have c3:=BX.out.rc.cs.c3;have c4:=BX.out.rc.cs.c4;rw[HK.out]at c0;have bf:=BX.out.bk.fz;have k1:=BX.out.rc.cs.lt;have k0:=BX.out.bk.lt;go_upto_region 27 with(first
  |((with_reducible show zL 9);refine jab rfl (.tmp 2) rfl rfl BX.out.bk ?_)
  |((with_reducible show zL 10);refine zR (.tmp 3) BX.out.rc ?_)
  |(go_at_call 81;(with_reducible refine(CC.out _ BX.out.rd).mono ?_);rintro e wc ⟨rfl,hb⟩;have BX:=zh (BX.out.on hb);have X3:=zh (X3.out.on hb);clear hb c0 c2 c3 c4 bf k0 k1;have c0:=BX.out.rc.cs.c0;have c2:=BX.out.rc.cs.c2;have c3:=BX.out.rc.cs.c3;have c4:=BX.out.rc.cs.c4;rw[HK.out]at c0;have bf:=BX.out.bk.fz;have k1:=BX.out.rc.cs.lt;have k0:=BX.out.bk.lt))
 have u:=BX.out.bk.unit HKK.out;obtain⟨u0,u1,u2⟩:=u;rw[EK.out]at c2;have b12:=BX.out.bk.cs.c12;generalize hwq:wc=wq at*;clear hwq;have BQ:=zh BX.out.below;go_upto_region 35 with fail
 have hX:BkAt (((((wq.setCell ⟨n,25+k*3,none⟩ (.int .i64 r.n)).setCell ⟨n,25+k*3+1,none⟩ (.int .i64 r.seq)).setCell ⟨n,25+k*3+2,none⟩ (.bool false)).setCell ⟨n,12,none⟩ (.int .i64 r.seq))) n ({s with us:=Bk.setU s.us k ⟨r.n,r.seq,false⟩,seq:=r.seq}) L V H:=by
  have:=((((BX.out.bk.unitV HKK.out r.n).unitQ HKK.out r.seq).unitD HKK.out false).seq r.seq);simp only[jou,setU_at]at this;exact this
 have hO:Only n wq (((((wq.setCell ⟨n,25+k*3,none⟩ (.int .i64 r.n)).setCell ⟨n,25+k*3+1,none⟩ (.int .i64 r.seq)).setCell ⟨n,25+k*3+2,none⟩ (.bool false)).setCell ⟨n,12,none⟩ (.int .i64 r.seq))):=((((Only.refl n wq).set _ _).set _ _).set _ _).set _ _;have hX3:BkAt (((((wq.setCell ⟨n,25+k*3,none⟩ (.int .i64 r.n)).setCell ⟨n,25+k*3+1,none⟩ (.int .i64 r.seq)).setCell ⟨n,25+k*3+2,none⟩ (.bool false)).setCell ⟨n,12,none⟩ (.int .i64 r.seq))) (n+1+1) Bk.none_ (.slice none 0 0) (.slice none 0 0) (.slice none 0 0):=hO.bk X3.out zv;have hRD:BkRd (((((wq.setCell ⟨n,25+k*3,none⟩ (.int .i64 r.n)).setCell ⟨n,25+k*3+1,none⟩ (.int .i64 r.seq)).setCell ⟨n,25+k*3+2,none⟩ (.bool false)).setCell ⟨n,12,none⟩ (.int .i64 r.seq))) ({s with us:=Bk.setU s.us k ⟨r.n,r.seq,false⟩,seq:=r.seq}) L V H:=(hO.rd BX.out.rd BX.out.bk BX.out.rd.flat).re rfl rfl rfl
 have hBB:Below w.heap.size w (((((wq.setCell ⟨n,25+k*3,none⟩ (.int .i64 r.n)).setCell ⟨n,25+k*3+1,none⟩ (.int .i64 r.seq)).setCell ⟨n,25+k*3+2,none⟩ (.bool false)).setCell ⟨n,12,none⟩ (.int .i64 r.seq))):=hO.below BQ.out NB.out;generalize(((((wq.setCell ⟨n,25+k*3,none⟩ (.int .i64 r.n)).setCell ⟨n,25+k*3+1,none⟩ (.int .i64 r.seq)).setCell ⟨n,25+k*3+2,none⟩ (.bool false)).setCell ⟨n,12,none⟩ (.int .i64 r.seq)))=wf at*;exact zzv
end Go.Proofs.YtpehidgjfcfjoaaGreatDoor
