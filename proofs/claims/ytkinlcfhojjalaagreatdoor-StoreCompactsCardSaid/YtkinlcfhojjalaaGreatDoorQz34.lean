import Derived.Test.YtkinlcfhojjalaaGreatDoorQz33
set_option maxHeartbeats 6400000
set_option maxRecDepth 100000
set_option linter.all false
namespace Go.Proofs.YtkinlcfhojjalaaGreatDoor
open Go.RowKit Go.Deep Go.Maps
theorem SsAt.disk{w:World}{g:Nat}{m R:Int}{A B:ByteArray}{l:Value}{s:Bk.St}{L V H:Value}(h:SsAt w g m R A B l s L V H):w.rangeAt g 1 [.int .i64 R,.string A,.string B]:=fun j v hv=>by
 rw[h.cell]
 match j,hv with
 |0,hv=>exact hv
 |1,hv=>exact hv
 |2,hv=>exact hv
 |j+3,hv=>simp at hv
theorem jdo{ops:Array Oper}{rest:List Oper}{op:Oper}{a:Act}{w:World}{Q:Exit->Act->World->Prop}{g:Nat}{m:Int}{d:Dk.St}{l:Value}{s:Bk.St}{L V H:Value}(hgd:op.guard=none)(x:Operand)(ho:op.op= .load 26 x)(hx:a.eval x= .pointer (some ⟨g,1,none⟩))(hg:SsAt w g m (d.room:Nat) (tA d) (tB d) l s L V H)
  (h:wpList Tryz.prog ops Q rest (a.put op.dst (.agg #[.int .i64 (d.room:Nat),.string (tA d),.string (tB d)])) w):wpList Tryz.prog ops Q (op::rest) a w:=
 wpList_load_mid hgd 26 x ho g 1 hx [.int .i64 (d.room:Nat),.string (tA d),.string (tB d)] _ hg.disk jko rfl (ji5 ..) h
theorem joy(m:Int)(d:Dk.St)(n c:Nat)(A:Option Addr)(s:Bk.St)(ok:Bk.Ok s)(r:Rc.R)(hin:Rc.In r)(hc:Bk.chk s r≠0)(L V H:Value)(w:World)(h:BkRd w s L V H):Calls Tryz.prog 19 #[.agg (Ss.cs m (d.room:Nat) (tA d) (tB d) (.slice A n c) (Bk.cells s L V H)).toArray,.agg (Rc.cells r)] w (fun e w'=>e= .returned (.tuple #[.agg (Ss.cs m (d.room:Nat) (tA d) (tB d) (.slice A n c) (Bk.cells s L V H)).toArray,.int .i64 (Bk.chk s r)])/\zF w w'):=by
 have hz:=jfm;have hzb:=jbt;go_in;go_upto_region 1 with fail
 obtain⟨CS,hCS⟩:∃CS,CS=(Ss.cs m (d.room:Nat) (tA d) (tB d) (.slice A n c) (Bk.cells s L V H)).toArray:=zx;have S2:=SsAt.new w m (d.room:Nat) (tA d) (tB d) (.slice A n c) s L V H;rw[<-hCS]at S2⊢;have hb1:zF w (w.alloc (.cells CS 40)):=zE;have E1:(w.alloc (.cells CS 40)).heap.size=w.heap.size+1:=by simp
 generalize w.alloc (.cells CS 40)=wa at*;have R3:=RcAt.new wa r;have hb2:zF wa (wa.alloc (.cells (Rc.cells r) 56)):=zE;have E2:(wa.alloc (.cells (Rc.cells r) 56)).heap.size=wa.heap.size+1:=by simp
 rw[E1]at R3 E2;generalize wa.alloc (.cells (Rc.cells r) 56)=wb at*;have hb3:zF wb (wb.alloc (.cells Ss.zeros 40)):=zE;have Z4:(wb.alloc (.cells Ss.zeros 40)).heap[wb.heap.size]? =some (.cells Ss.zeros 40 (0,0)):=heap_alloc_new wb _;have S3:=(S2.on hb2).on hb3;have R4:=R3.on hb3;have B3:=(hb1.trans (hb2.mono hb1.size)).trans (hb3.mono (hb1.trans (hb2.mono hb1.size)).size);rw[E2]at Z4;subst hCS;generalize wb.alloc (.cells Ss.zeros 40)=w1 at*;obtain⟨g2,hg2⟩:∃g2,g2=w.heap.size:=zx;rw[<-hg2]at S3 R4 Z4⊢;obtain⟨g3,hg3⟩:∃g3,g3=g2+1:=zx;rw[<-hg3]at R4 Z4⊢;obtain⟨g4,hg4⟩:∃g4,g4=g3+1:=zx;rw[<-hg4]at Z4⊢;have G2:Hid (w.heap.size<=g2):=Nat.le_of_eq hg2.symm;have N3:Hid (g2<g3):=by rw[hg3];exact Nat.lt_succ_self _
 have N4:Hid (g3<g4):=by rw[hg4];exact Nat.lt_succ_self _
 have S1:=zh S3;have R1:=zh R4;have Z1:=zh Z4;have B1:=zh B3;have RD1:=zh (h.on B3);have HC:=zh hc;have CP:=zh (jgu s ok r hin L V H w1 RD1.o);clear S2 R3 E1 E2 hb1 hb2 hb3 Z4 S3 R4 B3 hg2 hg3 hg4 hc;clear wb wa;go_upto_region 2 with(first
  |((with_reducible show zL 17);refine jby rfl (.tmp 16) rfl rfl S1.o ?_)
  |((with_reducible show zL 18);refine zR (.tmp 3) R1.o ?_)
  |(go_at_call 45;refine CP.o.mono ?_;rintro e w7 ⟨L2,V2,H2,rfl,hrd,hb,hnew⟩;have NW:=zh hnew;have RD:=zh hrd;have B7:=zh hb;have X7:=zh (BkAt.zero w7);clear hnew hrd hb CP)
  |((with_reducible show zW);refine jac rfl (.tmp 6) (.tmp 20) rfl rfl rfl X7.o RD.o.one ?_))
 rw[World.setRow_alloc_new];have hb8:zF w7 (w7.alloc (.cells (Bk.cells (Bk.app s r) L2 V2 H2) 38)):=zE;have B8:=zh (B7.o.trans (hb8.mono B7.o.size));have RD8:=zh (RD.o.on hb8);have K8:=zh (BkAt.new w7 (Bk.app s r) L2 V2 H2);have R8:=zh (R1.o.on B8.o);have S8:=zh (S1.o.on B8.o);have Z8:Hid (_=_):=(B8.o.block g4 (zg Z1.o).1).trans Z1.o;have BW:=zh (B1.o.trans (B8.o.mono B1.o.size));have G6:Hid (w1.heap.size<=w7.heap.size):=B7.o.size;clear hb8 RD X7 R1 S1;obtain⟨g6,hg6⟩:∃g6,g6=w7.heap.size:=zx;rw[<-hg6]at K8 G6⊢;clear hg6;generalize w7.alloc (.cells (Bk.cells (Bk.app s r) L2 V2 H2) 38)=w8 at*;have hcc:(Bk.chk s r !=0)=true:=by simpa using HC.o
 obtain⟨cc,hc0⟩:∃cc,cc=Bk.chk s r:=zx;have HC0:=zh hc0;rw[<-hc0]at hcc⊢;clear hc0
 go_wp2_with(first
  |((with_reducible show zL 24);refine jbq rfl (.tmp 2) rfl rfl S8.o ?_)
  |((with_reducible show zW);refine jav rfl (.tmp 4) (.tmp 24) rfl rfl rfl Z8.o rfl (Ss.one (l:= .slice A n c) rfl RD1.o.one) ?_))
 have hg:=ja6 w8 g4 (Ss.cs m (d.room:Nat) (tA d) (tB d) (.slice A n c) (Bk.cells s L V H)).toArray;exact bodyPost_ret (v:= .tuple #[.agg (Ss.cs m (d.room:Nat) (tA d) (tB d) (.slice A n c) (Bk.cells s L V H)).toArray,.int .i64 cc]) (jel Tryz.results19 _ rfl ⟨setRow_heap _ g4 _ _ _ _ Z8.o⟩) rfl ⟨by rw[HC0.o],BW.o.grown hg BW.o.size fun k e=>by injection e with e;have h2:=G2.o;have h3:=N3.o;have h4:=N4.o;omega⟩
theorem js4(m:Int)(d:Dk.St)(n c:Nat)(A:Option Addr)(s:Bk.St)(ok:Bk.Ok s)(r:Rc.R)(hin:Rc.In r)(hc:Bk.chk s r=0)(hok:Dk.Okay d)(p:List Nat)(hp:p=Rc.bytesL r)(hbl:p.length<=1000)(d2:Dk.St)(hd2:d2=Jn.app d p)(ae:Int)(hae:ae=Jn.appE d p)(ha:ae≠0)(L V H:Value)(w:World)(h:BkRd w s L V H):Calls Tryz.prog 19 #[.agg (Ss.cs m (d.room:Nat) (tA d) (tB d) (.slice A n c) (Bk.cells s L V H)).toArray,.agg (Rc.cells r)] w (fun e w'=>e= .returned (.tuple #[.agg (Ss.cs m (d.room:Nat) (tA d) (tB d) (.slice A n c) (Bk.cells s L V H)).toArray,.int .i64 (ae)])/\zF w w'):=by
 have hz:=jfm;have hzb:=jbt;go_in;go_upto_region 1 with fail
 obtain⟨CS,hCS⟩:∃CS,CS=(Ss.cs m (d.room:Nat) (tA d) (tB d) (.slice A n c) (Bk.cells s L V H)).toArray:=zx;have S2:=SsAt.new w m (d.room:Nat) (tA d) (tB d) (.slice A n c) s L V H;rw[<-hCS]at S2⊢;have hb1:zF w (w.alloc (.cells CS 40)):=zE;have E1:(w.alloc (.cells CS 40)).heap.size=w.heap.size+1:=by simp
 generalize w.alloc (.cells CS 40)=wa at*;have R3:=RcAt.new wa r;have hb2:zF wa (wa.alloc (.cells (Rc.cells r) 56)):=zE;have E2:(wa.alloc (.cells (Rc.cells r) 56)).heap.size=wa.heap.size+1:=by simp
 rw[E1]at R3 E2;generalize wa.alloc (.cells (Rc.cells r) 56)=wb at*;have hb3:zF wb (wb.alloc (.cells Ss.zeros 40)):=zE;have Z4:(wb.alloc (.cells Ss.zeros 40)).heap[wb.heap.size]? =some (.cells Ss.zeros 40 (0,0)):=heap_alloc_new wb _;have S3:=(S2.on hb2).on hb3;have R4:=R3.on hb3;have B3:=(hb1.trans (hb2.mono hb1.size)).trans (hb3.mono (hb1.trans (hb2.mono hb1.size)).size);rw[E2]at Z4;subst hCS;generalize wb.alloc (.cells Ss.zeros 40)=w1 at*;obtain⟨g2,hg2⟩:∃g2,g2=w.heap.size:=zx;rw[<-hg2]at S3 R4 Z4⊢;obtain⟨g3,hg3⟩:∃g3,g3=g2+1:=zx;rw[<-hg3]at R4 Z4⊢;obtain⟨g4,hg4⟩:∃g4,g4=g3+1:=zx;rw[<-hg4]at Z4⊢;have G2:Hid (w.heap.size<=g2):=Nat.le_of_eq hg2.symm;have N3:Hid (g2<g3):=by rw[hg3];exact Nat.lt_succ_self _
 have N4:Hid (g3<g4):=by rw[hg4];exact Nat.lt_succ_self _
 have S1:=zh S3;have R1:=zh R4;have Z1:=zh Z4;have B1:=zh B3;have RD1:=zh (h.on B3);have HC:=zh hc;have CP:=zh (jgu s ok r hin L V H w1 RD1.o);clear S2 R3 E1 E2 hb1 hb2 hb3 Z4 S3 R4 B3 hg2 hg3 hg4 hc;clear wb wa;go_upto_region 2 with(first
  |((with_reducible show zL 17);refine jby rfl (.tmp 16) rfl rfl S1.o ?_)
  |((with_reducible show zL 18);refine zR (.tmp 3) R1.o ?_)
  |(go_at_call 45;refine CP.o.mono ?_;rintro e w7 ⟨L2,V2,H2,rfl,hrd,hb,hnew⟩;have NW:=zh hnew;have RD:=zh hrd;have B7:=zh hb;have X7:=zh (BkAt.zero w7);clear hnew hrd hb CP)
  |((with_reducible show zW);refine jac rfl (.tmp 6) (.tmp 20) rfl rfl rfl X7.o RD.o.one ?_))
 rw[World.setRow_alloc_new];have hb8:zF w7 (w7.alloc (.cells (Bk.cells (Bk.app s r) L2 V2 H2) 38)):=zE;have B8:=zh (B7.o.trans (hb8.mono B7.o.size));have RD8:=zh (RD.o.on hb8);have K8:=zh (BkAt.new w7 (Bk.app s r) L2 V2 H2);have R8:=zh (R1.o.on B8.o);have S8:=zh (S1.o.on B8.o);have Z8:Hid (_=_):=(B8.o.block g4 (zg Z1.o).1).trans Z1.o;have BW:=zh (B1.o.trans (B8.o.mono B1.o.size));have G6:Hid (w1.heap.size<=w7.heap.size):=B7.o.size;clear hb8 RD X7 R1 S1;obtain⟨g6,hg6⟩:∃g6,g6=w7.heap.size:=zx;rw[<-hg6]at K8 G6⊢;clear hg6;generalize w7.alloc (.cells (Bk.cells (Bk.app s r) L2 V2 H2) 38)=w8 at*;have CY:=zh (fun W=>jg6 r hin W);unfold Rc.val at CY;rw[<-hp]at CY;generalize Rc.bytesE r=be at*;have PL:=zh hbl;have CA:=zh (fun W A2 c2 h2=>jm7 hok p.length c2 A2 p W h2 (by have:=PL.o;omega));rw[<-hd2,<-hae]at CA;have HA:=zh ha;clear hp hbl hd2 hae ha;have HC2:=HC.o;rw[HC2];clear HC2;go_upto_region 5 with(first
  |((with_reducible show zL 27);refine zR (.tmp 3) R8.o ?_)
  |(go_at_call 46;refine(CY.o _).mono ?_;rintro e w9 ⟨A9,c9,rfl,hsl,hb⟩;have SL:=zh hsl;have B9:=zh hb;clear hsl hb CY))
 have S9:=zh (S8.o.on B9.o);go_upto_region 6 with(first
  |((with_reducible show zL 33);refine jdo rfl (.tmp 32) rfl rfl S9.o ?_)
  |(go_at_call 47;refine(CA.o _ _ _ SL.o).mono ?_;rintro e w10 ⟨rfl,hb⟩;have B10:=zh (B9.o.trans (hb.mono B9.o.size));clear hb CA)
  |((with_reducible show zW);refine jcn (d:=d2) rfl (.tmp 10) (.tmp 36) rfl rfl ?_))
 have hb11:zF w10 (w10.alloc (.cells #[.int .i64 (d2.room:Nat),.string (tA d2),.string (tB d2)] 26)):=zE;have B11:=zh (B10.o.trans (hb11.mono B10.o.size));have D11:=zh (DdAt.new w10 d2);obtain⟨g10,hg10⟩:∃g10,g10=w10.heap.size:=zx;rw[<-hg10]at D11⊢;clear hb11 hg10 S9 SL B9 B10;generalize w10.alloc (.cells #[.int .i64 (d2.room:Nat),.string (tA d2),.string (tB d2)] 26)=w11 at*;have BX:=zh (BW.o.trans (B11.o.mono BW.o.size));have Z11:Hid (_=_):=(B11.o.block g4 (zg Z8.o).1).trans Z8.o;have S11:=zh (S8.o.on B11.o);have hcc:(ae !=0)=true:=by simpa using HA.o
 go_wp2_with(first
  |((with_reducible show zL 40);refine jbq rfl (.tmp 2) rfl rfl S11.o ?_)
  |((with_reducible show zW);refine jav rfl (.tmp 4) (.tmp 40) rfl rfl rfl Z11.o rfl (Ss.one (l:= .slice A n c) rfl RD1.o.one) ?_))
 have hg:=ja6 w11 g4 (Ss.cs m (d.room:Nat) (tA d) (tB d) (.slice A n c) (Bk.cells s L V H)).toArray;exact bodyPost_ret (v:= .tuple #[.agg (Ss.cs m (d.room:Nat) (tA d) (tB d) (.slice A n c) (Bk.cells s L V H)).toArray,.int .i64 ae]) (jel Tryz.results19 _ rfl ⟨setRow_heap _ g4 _ _ _ _ Z11.o⟩) rfl ⟨rfl,BX.o.grown hg BX.o.size fun k e=>by injection e with e;have h2:=G2.o;have h3:=N3.o;have h4:=N4.o;omega⟩
theorem js5(m:Int)(d:Dk.St)(n c:Nat)(A:Option Addr)(s:Bk.St)(ok:Bk.Ok s)(r:Rc.R)(hin:Rc.In r)(hc:Bk.chk s r=0)(hok:Dk.Okay d)(p:List Nat)(hp:p=Rc.bytesL r)(hbl:p.length<=1000)(d2:Dk.St)(hd2:d2=Jn.app d p)(hok2:Dk.Okay d2)(d3:Dk.St)(hd3:d3=Dk.sync d2)(ae:Int)(hae:ae=Jn.appE d p)(ha:ae=0)(ls:List Rc.R)(hn:ls.length<=1000)(L V H:Value)(w:World)(h:BkRd w s L V H)(hrow:SlF Bk.rcC w A n c ls):Calls Tryz.prog 19 #[.agg (Ss.cs m (d.room:Nat) (tA d) (tB d) (.slice A n c) (Bk.cells s L V H)).toArray,.agg (Rc.cells r)] w (fun e w'=>∃A2 c2 L2 V2 H2,e= .returned (.tuple #[.agg (Ss.cs m (d3.room:Nat) (tA d3) (tB d3) (.slice A2 (ls.length+1) c2) (Bk.cells (Bk.app s r) L2 V2 H2)).toArray,zi])/\SlF Bk.rcC w' A2 (ls.length+1) c2 (ls++[r])/\BkRd w' (Bk.app s r) L2 V2 H2/\zF w w'/\jez w L V H L2 V2 H2/\∀b o,A2=some ⟨b,o,none⟩->w.heap.size<=b):=by
 have hz:=jfm;have hzb:=jbt;go_in;go_upto_region 1 with fail
 obtain⟨CS,hCS⟩:∃CS,CS=(Ss.cs m (d.room:Nat) (tA d) (tB d) (.slice A n c) (Bk.cells s L V H)).toArray:=zx;have S2:=SsAt.new w m (d.room:Nat) (tA d) (tB d) (.slice A n c) s L V H;rw[<-hCS]at S2⊢;have hb1:zF w (w.alloc (.cells CS 40)):=zE;have E1:(w.alloc (.cells CS 40)).heap.size=w.heap.size+1:=by simp
 generalize w.alloc (.cells CS 40)=wa at*;have R3:=RcAt.new wa r;have hb2:zF wa (wa.alloc (.cells (Rc.cells r) 56)):=zE;have E2:(wa.alloc (.cells (Rc.cells r) 56)).heap.size=wa.heap.size+1:=by simp
 rw[E1]at R3 E2;generalize wa.alloc (.cells (Rc.cells r) 56)=wb at*;have hb3:zF wb (wb.alloc (.cells Ss.zeros 40)):=zE;have Z4:(wb.alloc (.cells Ss.zeros 40)).heap[wb.heap.size]? =some (.cells Ss.zeros 40 (0,0)):=heap_alloc_new wb _;have S3:=(S2.on hb2).on hb3;have R4:=R3.on hb3;have B3:=(hb1.trans (hb2.mono hb1.size)).trans (hb3.mono (hb1.trans (hb2.mono hb1.size)).size);rw[E2]at Z4;subst hCS;generalize wb.alloc (.cells Ss.zeros 40)=w1 at*;obtain⟨g2,hg2⟩:∃g2,g2=w.heap.size:=zx;rw[<-hg2]at S3 R4 Z4⊢;obtain⟨g3,hg3⟩:∃g3,g3=g2+1:=zx;rw[<-hg3]at R4 Z4⊢;obtain⟨g4,hg4⟩:∃g4,g4=g3+1:=zx;rw[<-hg4]at Z4⊢;have G2:Hid (w.heap.size<=g2):=Nat.le_of_eq hg2.symm;have N3:Hid (g2<g3):=by rw[hg3];exact Nat.lt_succ_self _
 have N4:Hid (g3<g4):=by rw[hg4];exact Nat.lt_succ_self _
 have S1:=zh S3;have R1:=zh R4;have Z1:=zh Z4;have B1:=zh B3;have RD1:=zh (h.on B3);have HC:=zh hc;have CP:=zh (jgu s ok r hin L V H w1 RD1.o);clear S2 R3 E1 E2 hb1 hb2 hb3 Z4 S3 R4 B3 hg2 hg3 hg4 hc;clear wb wa;go_upto_region 2 with(first
   |((with_reducible show zL 17);refine jby rfl (.tmp 16) rfl rfl S1.o ?_)
   |((with_reducible show zL 18);refine zR (.tmp 3) R1.o ?_)
   |(go_at_call 45;refine CP.o.mono ?_;rintro e w7 ⟨L2,V2,H2,rfl,hrd,hb,hnew⟩;have NW:=zh hnew;have RD:=zh hrd;have B7:=zh hb;have X7:=zh (BkAt.zero w7);clear hnew hrd hb CP)
   |((with_reducible show zW);refine jac rfl (.tmp 6) (.tmp 20) rfl rfl rfl X7.o RD.o.one ?_))
 rw[World.setRow_alloc_new];have hb8:zF w7 (w7.alloc (.cells (Bk.cells (Bk.app s r) L2 V2 H2) 38)):=zE;have B8:=zh (B7.o.trans (hb8.mono B7.o.size));have RD8:=zh (RD.o.on hb8);have K8:=zh (BkAt.new w7 (Bk.app s r) L2 V2 H2);have R8:=zh (R1.o.on B8.o);have S8:=zh (S1.o.on B8.o);have Z8:Hid (_=_):=(B8.o.block g4 (zg Z1.o).1).trans Z1.o;have BW:=zh (B1.o.trans (B8.o.mono B1.o.size));have G6:Hid (w1.heap.size<=w7.heap.size):=B7.o.size;clear hb8 RD X7 R1 S1;obtain⟨g6,hg6⟩:∃g6,g6=w7.heap.size:=zx;rw[<-hg6]at K8 G6⊢;clear hg6;generalize w7.alloc (.cells (Bk.cells (Bk.app s r) L2 V2 H2) 38)=w8 at*;have CY:=zh (fun W=>jg6 r hin W);unfold Rc.val at CY;rw[<-hp]at CY;generalize Rc.bytesE r=be at*;have PL:=zh hbl;have CA:=zh (fun W A2 c2 h2=>jm7 hok p.length c2 A2 p W h2 (by have:=PL.o;omega));rw[<-hd2,<-hae]at CA;have HA:=zh ha;clear hp hbl hd2 hae ha;have HC2:=HC.o;rw[HC2];clear HC2;go_upto_region 5 with(first
   |((with_reducible show zL 27);refine zR (.tmp 3) R8.o ?_)
   |(go_at_call 46;refine(CY.o _).mono ?_;rintro e w9 ⟨A9,c9,rfl,hsl,hb⟩;have SL:=zh hsl;have B9:=zh hb;clear hsl hb CY))
 have S9:=zh (S8.o.on B9.o);go_upto_region 6 with(first
   |((with_reducible show zL 33);refine jdo rfl (.tmp 32) rfl rfl S9.o ?_)
   |(go_at_call 47;refine(CA.o _ _ _ SL.o).mono ?_;rintro e w10 ⟨rfl,hb⟩;have B10:=zh (B9.o.trans (hb.mono B9.o.size));clear hb CA)
   |((with_reducible show zW);refine jcn (d:=d2) rfl (.tmp 10) (.tmp 36) rfl rfl ?_))
 have hb11:zF w10 (w10.alloc (.cells #[.int .i64 (d2.room:Nat),.string (tA d2),.string (tB d2)] 26)):=zE;have B11:=zh (B10.o.trans (hb11.mono B10.o.size));have D11:=zh (DdAt.new w10 d2);obtain⟨g10,hg10⟩:∃g10,g10=w10.heap.size:=zx;rw[<-hg10]at D11⊢;clear hb11 hg10 S9 SL B9 B10;generalize w10.alloc (.cells #[.int .i64 (d2.room:Nat),.string (tA d2),.string (tB d2)] 26)=w11 at*;have BX:=zh (BW.o.trans (B11.o.mono BW.o.size));have Z11:Hid (_=_):=(B11.o.block g4 (zg Z8.o).1).trans Z8.o;have S11:=zh (S8.o.on B11.o);have OK2:=zh hok2;clear hok2;have HA2:=HA.o;rw[HA2];clear HA2;have CS:=zh (fun W=>qSync OK2.o W);rw[<-hd3]at CS;clear hd3;generalize((Dk.opens d2:Nat):Int)=od at*;go_upto_region 9 with(first
   |((with_reducible show zL 43);refine jd7 rfl (.tmp 10) rfl rfl D11.o ?_)
   |(go_at_call 48;refine(CS.o _).mono ?_;rintro e w12 ⟨rfl,hb⟩;have B12:=zh (B11.o.trans (hb.mono B11.o.size));clear hb CS)
   |((with_reducible show zW);refine jcn (d:=d3) rfl (.tmp 12) (.tmp 45) rfl rfl ?_))
 have hb13:zF w12 (w12.alloc (.cells #[.int .i64 (d3.room:Nat),.string (tA d3),.string (tB d3)] 26)):=zE;have B13:=zh (B12.o.trans (hb13.mono B12.o.size));have D13:=zh (DdAt.new w12 d3);have G13:Hid (w8.heap.size<=w12.heap.size):=B12.o.size;obtain⟨g12,hg12⟩:∃g12,g12=w12.heap.size:=zx;rw[<-hg12]at D13 G13⊢;clear hb13 hg12 B12 D11 S11 Z11 BX B11;generalize w12.alloc (.cells #[.int .i64 (d3.room:Nat),.string (tA d3),.string (tB d3)] 26)=w13 at*;have S13:=zh (S8.o.on B13.o);have R13:=zh (R8.o.on B13.o);have L13:=zh ((hrow.on BW.o).on B13.o);have O0:=zh (OwF.none_ (enc:=Bk.rcC) (K:=18) 56 w13 w13.heap.size);have HN:=zh hn;clear hn hrow;have c4:=S13.o.c4;have lg:=S13.o.lt;go_upto_region 11 with(first
   |(at_builtin;refine jb0 Bk.rcC_len Bk.rcC_one Tryz.underlying22 ja0 rfl zv rfl (.tmp 47) (.tmp 49) rfl w13.heap.size _ [] ls rfl O0.o rfl L13.o (by have:=HN.o;simp;unfold maxLen;omega) (by have:=HN.o;simp;omega) zl ?_;intro v1 w14 ho1 hb1 _ _;have O1:=zh ho1;have B14:=zh hb1;clear ho1 hb1))
 have O14:Hid (OwF Bk.rcC 18 56 w14 w13.heap.size v1 ls):=by have h1:=O1.o;rw[List.nil_append]at h1;exact h1
 have R14:=zh (R13.o.on B14.o);have g28:=S8.o.lt;have g48:=(zg Z1.o).1;have N2:Hid (g2<w1.heap.size):=by have h3:=N3.o;have h4:=N4.o;show _<_;omega
 clear c4 lg O1 O0 L13 g48;go_upto_region 12 with(first
   |((with_reducible show zL 52);refine zR (.tmp 3) R14.o ?_)
   |((with_reducible show zB 53);refine jap Tryz.underlying22 ja0 zv zv rfl (.tmp 52) rfl (Rc.cells r) rfl rfl ?_)
   |(at_builtin;refine jaf Bk.rcC_len Bk.rcC_one Tryz.underlying22 ja0 rfl zv rfl (.tmp 51) (.tmp 53) rfl w13.heap.size v1 ls rfl O14.o r rfl (by have:=HN.o;unfold maxLen;omega) (by have:=HN.o;omega) B14.o.size ?_;intro v2 w15 ho hb _ _;obtain⟨A2,c2,rfl⟩:=ho.form;rw[show(ls++[r]).length=ls.length+1 from by simp]at ho⊢;have O15:=zh ho;have B15:=zh (B14.o.trans hb);have S15:=zh (S13.o.on B15.o);have c4:=S15.o.c4;have lg:=S15.o.lt;have f4:=S15.o.frz 4;clear ho hb))
 have X15:=zh (B13.o.trans (B15.o.mono B13.o.size));have K15:=zh (K8.o.on X15.o);have D15:=zh (D13.o.on B15.o);have RD15:=zh (RD8.o.on X15.o);have Z15:Hid (_=_):=(X15.o.block g4 (zg Z8.o).1).trans Z8.o;have BY:=zh (BW.o.trans (X15.o.mono BW.o.size));have W1:Hid (w1.heap.size<=w13.heap.size):=Nat.le_trans B8.o.size B13.o.size;have W8:Hid (w1.heap.size<=w8.heap.size):=B8.o.size;have NR:Hid (∀g,w.heap.size<=g->g<w1.heap.size->¬jfl L2 V2 H2 g):=fun g h1 h2 hx=>by
  rcases je8 NW.o hx with h3|h3
  ·have:=row_lt h h3;omega
  ·omega
 have NO:Hid (∀g,g<w1.heap.size->(Value.slice A2 (ls.length+1) c2).ownBlock≠some g):=fun g h1 e=>by have h2:=(O15.o.lt g e).1;have h3:=W1.o;omega
 have hw:(w15.setCell ⟨g2,4,none⟩ (.slice A2 (ls.length+1) c2))=w15.setCells g2 4 [.slice A2 (ls.length+1) c2]:=rfl;rw[hw];clear hw c4 lg f4;have e16:=jbp g2 [.slice A2 (ls.length+1) c2] 4 w15;have S16:=zh (S15.o.setRows (.slice A2 (ls.length+1) c2));have D16:Hid (DdAt (w15.setCells g2 4 [.slice A2 (ls.length+1) c2]) g12 d3):=⟨(e16.block g12 D15.o.lt (fun e=>by injection e with e;have:=N2.o;have:=W8.o;have:=G13.o;omega)).trans D15.o.row⟩
 have K16:Hid (BkAt (w15.setCells g2 4 [.slice A2 (ls.length+1) c2]) g6 (Bk.app s r) L2 V2 H2):=zh (K15.o.keep (e16.block g6 K15.o.lt (fun e=>by injection e with e;have:=N2.o;have:=G6.o;omega)))
 have Z16:Hid (_=_):=(e16.block g4 (zg Z15.o).1 (fun e=>by injection e with e;have:=N3.o;have:=N4.o;omega)).trans Z15.o
 have RD16:=zh (jd3 RD15.o e16 (NR.o _ G2.o N2.o));have O16:=zh (O15.o.kept e16 (NO.o _ N2.o));have BY16:=zh (BY.o.grown e16 BY.o.size fun k e=>by injection e with e;exact e▸G2.o)
 clear e16 O15 RD15 Z15 K15 D15 S15 BY;generalize w15.setCells g2 4 [.slice A2 (ls.length+1) c2]=w16 at*;go_upto_region 13 with(first
   |((with_reducible show zL 56);refine jd7 rfl (.tmp 12) rfl rfl D16.o ?_)
   |((with_reducible show zW);refine jf2 (d:=d3) rfl (.tmp 57) (.tmp 56) rfl rfl rfl S16.o ?_))
 have e17:=jbp g2 [.int .i64 (d3.room:Nat),.string (tA d3),.string (tB d3)] 1 w16;have S17:=zh (S16.o.setDisk (d3.room:Nat) (tA d3) (tB d3));have K17:Hid (BkAt (w16.setCells g2 1 [.int .i64 (d3.room:Nat),.string (tA d3),.string (tB d3)]) g6 (Bk.app s r) L2 V2 H2):=zh (K16.o.keep (e17.block g6 K16.o.lt (fun e=>by injection e with e;have:=N2.o;have:=G6.o;omega)))
 have Z17:Hid (_=_):=(e17.block g4 (zg Z16.o).1 (fun e=>by injection e with e;have:=N3.o;have:=N4.o;omega)).trans Z16.o
 have RD17:=zh (jd3 RD16.o e17 (NR.o _ G2.o N2.o));have O17:=zh (O16.o.kept e17 (NO.o _ N2.o));have BY17:=zh (BY16.o.grown e17 BY16.o.size fun k e=>by injection e with e;exact e▸G2.o)
 clear e17 O16 RD16 Z16 K16 D16 S16 BY16;generalize w16.setCells g2 1 [.int .i64 (d3.room:Nat),.string (tA d3),.string (tB d3)]=w17 at*;go_upto_region 14 with(first
   |((with_reducible show zL 58);refine jab rfl (.tmp 6) rfl rfl K17.o ?_)
   |((with_reducible show zW);refine jf1 rfl (.tmp 59) (.tmp 58) rfl rfl rfl S17.o RD17.o.one ?_))
 have e18:=jbp g2 (Bk.cells (Bk.app s r) L2 V2 H2).toList 5 w17;have S18:=zh (S17.o.setBook (Bk.app s r) L2 V2 H2);have Z18:Hid (_=_):=(e18.block g4 (zg Z17.o).1 (fun e=>by injection e with e;have:=N3.o;have:=N4.o;omega)).trans Z17.o
 have RD18:=zh (jd3 RD17.o e18 (NR.o _ G2.o N2.o));have O18:=zh (O17.o.kept e18 (NO.o _ N2.o));have BY18:=zh (BY17.o.grown e18 BY17.o.size fun k e=>by injection e with e;exact e▸G2.o)
 clear e18 O17 RD17 Z17 K17 S17 BY17;generalize w17.setCells g2 5 (Bk.cells (Bk.app s r) L2 V2 H2).toList=w18 at*
 go_wp2_with(first
   |((with_reducible show zL 60);refine jbq rfl (.tmp 2) rfl rfl S18.o ?_)
   |((with_reducible show zW);refine jav rfl (.tmp 4) (.tmp 60) rfl rfl rfl Z18.o rfl (Ss.one (l:= .slice A2 (ls.length+1) c2) rfl RD18.o.one) ?_))
 have G4:w.heap.size<=g4:=by have h2:=G2.o;have h3:=N3.o;have h4:=N4.o;omega
 have L4:g4<w1.heap.size:=(zg Z1.o).1;have hg:=ja6 w18 g4 (Ss.cs m (d3.room:Nat) (tA d3) (tB d3) (.slice A2 (ls.length+1) c2) (Bk.cells (Bk.app s r) L2 V2 H2)).toArray;exact bodyPost_ret (v:= .tuple #[.agg (Ss.cs m (d3.room:Nat) (tA d3) (tB d3) (.slice A2 (ls.length+1) c2) (Bk.cells (Bk.app s r) L2 V2 H2)).toArray,zi]) (jel Tryz.results19 _ rfl ⟨setRow_heap _ g4 _ _ _ _ Z18.o⟩) rfl ⟨A2,c2,L2,V2,H2,rfl,(O18.o.kept hg (NO.o _ L4)).sl,jd3 RD18.o hg (NR.o _ G4 L4),BY18.o.grown hg BY18.o.size (fun k e=>by injection e with e;exact e▸G4),⟨jcf NW.o.1 B1.o.size,jcf NW.o.2.1 B1.o.size,jcf NW.o.2.2 B1.o.size⟩,fun b o e=>by have h1:=(O18.o.lt b (by rw[e];rfl)).1;have h2:=W1.o;have h3:=B1.o.size;omega⟩
theorem jl9{d:Dk.St}(h:Dk.Okay d)(p:List Nat):Dk.Okay (Jn.app d p):=by
 unfold Jn.app;split
 ·exact h
 ·exact h.write _
theorem js6{w w':World}{s:Bk.St}{L V H:Value}(h:BkRd w s L V H)(hz:w.heap.size<=w'.heap.size)(hk:∀b,jfl L V H b->w'.heap[b]? =w.heap[b]?):BkRd w' s L V H:=by
 obtain⟨⟨A1,c1,e1,h1⟩,⟨A2,c2,e2,h2⟩,⟨A3,c3,e3,h3⟩⟩:=h;exact⟨⟨A1,c1,e1,h1.keep hz fun b o e hl=>hk b ⟨A1,_,c1,o,.inl e1,e,hl⟩⟩,⟨A2,c2,e2,h2.keep hz fun b o e hl=>hk b ⟨A2,_,c2,o,.inr (.inl e2),e,hl⟩⟩,⟨A3,c3,e3,h3.keep hz fun b o e hl=>hk b ⟨A3,_,c3,o,.inr (.inr e3),e,hl⟩⟩⟩
section
variable{w0 W W':World}{G:Nat->Prop}{p R g:Nat}{m:Int}{Ls:List Rc.R}
theorem SA.lts(h:SA w0 G p m R Ls W):∀i,G i->i<W.heap.size:=by
 obtain⟨_,r,q,b,X,h1,_⟩:=h;exact h1.g
theorem SA.grown(h:SA w0 G p m R Ls W)(hg:W.grownBy W' (some g))(hG:G g)(h0:w0.heap.size<=g):SA w0 G p m R Ls W':=by
 obtain⟨hT,r,q,b,X,h1,h2⟩:=h;have hk:Kept (fun i=>i=g) W W':=Kept.of_grown hg fun k e=>by injection e with e;exact e.symm
 have hb:=h1.below.grown hg h1.below.size fun k e=>by injection e with e;exact e▸h0
 refine⟨hT,r,q,b,X,⟨(hk.block p h1.lt fun e=>h1.pG.1 (e▸hG)).trans h1.row,h1.jr.keep fun i hi hl=>hk.block i hl fun e=>(h1.inX i hi).2.2.2 (e▸hG),fun i hi=>⟨(h1.inX i hi).1,Nat.lt_of_lt_of_le (h1.inX i hi).2.1 hk.size,(h1.inX i hi).2.2⟩,h1.pG,fun i hi=>Nat.lt_of_lt_of_le (h1.g i hi) hk.size,hb⟩,jbh (jlv h2 hk (fun i hi _=> .inl (hi▸hG)) (fun i hi=>hi▸h0)) fun i hi=> .inl hi⟩
end
section
variable{w0 W W':World}{p R g:Nat}{m:Int}{Ls:List Rc.R}{s:Bk.St}{L V H:Value}
end
open Go.RowKit
def sv1:Rc.R:=⟨1,1,0,0,9,⟨#[]⟩,Spc.zero⟩
def sv2:Rc.R:=⟨2,1,0,1,0,⟨#[120]⟩,Spc.zero⟩
theorem js7:Rc.right sv1=true:=by decide
theorem js8:Rc.right sv2=true:=by decide
theorem sv1_chk:Bk.chk (Bk.all 0 []) sv1=0:=by decide
theorem sv2_chk:Bk.chk (Bk.all 0 [sv1]) sv2=0:=by decide
theorem js9:(Rc.bytes sv1).length=6:=by decide+kernel
theorem jta:(Rc.bytes sv2).length=7:=by decide+kernel
theorem sv_com:So.com 0 100 [] sv1=[sv1]/\So.comE 0 100 [] sv1=0:=So.com_fits sv1_chk (by unfold So.Fits;rw[js9];decide)
theorem sv_tor:So.tor 0 100 [sv1] sv2 0=[sv1]/\So.torE 0 100 [sv1] sv2=13:=by
 have h:=So.tor_fits (m:=0) (R:=100) (L:=[sv1]) (r:=sv2) 0 sv2_chk (by unfold So.Fits So.ens;rw[jta];show(Fr.all [Rc.bytes sv1]).length+(7+6)<=100;rw[Fr.all_one,Fr.fr_length,js9];decide);rw[if_neg (show¬So.Kept sv2 0 by unfold So.Kept;rw[jta];decide)]at h;exact h
theorem sv_ep:(Bk.all 0 [sv1]).ep=1:=by decide
theorem sv_till:(Bk.all 0 [sv1]).till=9:=by decide
open Go.Deep Go.Maps
theorem So.torn_is{m:Int}{R:Nat}{L:List Rc.R}{rc:Rc.R}(ht:So.Took m L)(h0:Bk.chk (Bk.all m L) rc=0)(keep:Int):
  Jn.torn (So.disk R L) (Rc.bytes rc) keep=So.disk R (So.tor m R L rc keep)/\Jn.tornE (So.disk R L) (Rc.bytes rc)=So.torE m R L rc/\So.Took m (So.tor m R L rc keep)/\(So.tor m R L rc keep).length<=L.length+1:=by
 have hr:=Bk.chk_right h0;by_cases hf:So.Fits R L rc
 ·have h1:=So.disk_torn (So.took_right ht) hr hf keep
  have h2:=So.tor_fits keep h0 hf;rw[h1.1,h1.2,h2.1,h2.2];by_cases hk:So.Kept rc keep
  ·rw[if_pos hk,if_pos hk];exact⟨rfl,rfl,So.took_snoc ht h0,by rw[zA];exact zl⟩
  ·rw[if_neg hk,if_neg hk];exact⟨rfl,rfl,ht,zv⟩
 ·have h1:=So.disk_torn_full hr hf keep
  have h2:=So.tor_full keep h0 hf;rw[h1.1,h1.2,h2.1,h2.2];exact⟨rfl,rfl,ht,zv⟩
theorem joz{w0 W:World}{G:Nat->Prop}{p R:Nat}{m:Int}{L:List Rc.R}(h:SA w0 G p m R L W)(ht:BT w0){rc:Rc.R}(hr:Rc.In rc)(keep:Int)(hn:L.length+1<=1000):
  Calls Tryz.prog 15 #[.pointer (some ⟨p,0,none⟩),.agg (Rc.cells rc),.int .i64 keep] W (SRes w0 G p m R (So.tor m R L rc keep) (.int .i64 (So.torE m R L rc)) W):=by
 have HN:=zh hn;clear hn;obtain⟨L2,hL2⟩:∃L2,L2=So.tor m R L rc keep:=zx;obtain⟨E2,hE2⟩:∃E2,E2=So.torE m R L rc:=zx;rw[<-hL2,<-hE2];have HC:=zh (And.intro hL2 hE2);clear hL2 hE2;have HR:=zh hr;have HT:=zh ht;have TK:=zh h.took;have HRT:=zh h.right;obtain⟨g,hg⟩:∃g,g=W.heap.size:=zx;have h1:=h.rec rc;rw[<-hg]at h1;have O1:Hid (∀i,G i->(W.alloc (.cells (Rc.cells rc) 56)).heap[i]? =W.heap[i]?):=by
  obtain⟨_,r,q,b,X,h2,_⟩:=h;exact fun i hi=>((Below.refl W.heap.size W).alloc zl _).block i (h2.g i hi)
 have RA:Hid (RcAt (W.alloc (.cells (Rc.cells rc) 56)) g rc):=by rw[hg];exact RcAt.new W rc
 clear h hr ht;obtain⟨W1,hW1⟩:∃W1,W1=W.alloc (.cells (Rc.cells rc) 56):=zx;rw[<-hW1]at h1 O1 RA;obtain⟨_,r,q,b,X,hj,hk⟩:=h1;have J1:=zh hj;have K1:=zh hk;have CF:=zh (jkf hj hk (HT.o.on0 hj.below) rc HR.o);have EQ:Hid (Bk.chk (Bk.all m L) rc=0->Rc.right rc=true):=fun h0=>Bk.chk_right h0;clear hj hk;obtain⟨s,hs⟩:∃s,s=Bk.all m L:=zx;rw[<-hs]at CF K1 EQ;have HS:=zh hs;clear hs;go_enter_defers Tryz.func15,Tryz.ntmps15;go_upto_region 1 with fail
 rw[<-hW1];rw[<-hg];clear hW1 hg;obtain⟨ans,hans⟩:∃ans,ans=Bk.chk s rc:=zx;rw[<-hans]at CF EQ;have AN:=zh hans;clear hans;by_cases h0:ans=0
 ·have HZ:Hid (Bk.chk s rc=0):=AN.o.symm.trans h0
  have RT:=zh (EQ.o h0);have TI:=zh (So.torn_is (R:=R) TK.o (by rw[<-HS.o];exact HZ.o) keep);rw[<-HC.o.1,<-HC.o.2]at TI;subst h0;go_upto_region 4 with(first
   |((with_reducible show zL 11);refine zR (.tmp 4) RA.o ?_)
   |(go_at_call 35;refine CF.o.mono ?_;rintro e w2 ⟨A,n,c,rfl,hs,hb⟩;have J2:=zh (J1.o.on hb);have K2:=zh (jbf K1.o hb);have R2:=zh (RA.o.on hb);have O2:=zh (fun i (hi:G i)=>(hb.block i (J1.o.g i (.inl hi))).trans (O1.o i hi));have S2:=zh hs;clear hb hs CF J1 K1 O1 RA))
  have S3:=zh (S2.o (by trivial));clear S2;have CA:=zh (jTorn_x (keep:=keep) J2.o.jrn J2.o.fresh S3.o (by rw[S3.o.len];have:=Rc.bytes_len RT.o;omega));rw[TI.o.1,TI.o.2.1]at CA;have lq2:=J2.o.lt;have c12:=J2.o.cells.2.2.1;go_wp2_with(go_at_call 39;refine CA.o.mono ?_;rintro e w3 ⟨rfl,hj,hk⟩;have J3:=zh (J2.o.turn hj hk);have O3:=zh (fun i (hi:G i)=>(J2.o.others hk i (.inl hi)).trans (O2.o i hi));clear hj hk CA lq2 c12);have J4:=J3.o;unfold So.disk at J4;rw[<-So.ens_len L2]at J4;have RL:=So.took_right TI.o.2.2.1;have CL:=jha J4 HT.o (So.ens_ok RL) (by rw[So.ens_len];have:=TI.o.2.2.2;have:=HN.o;omega);unfold LdPost at CL;rw[So.recs_ens RL,So.pre_all TI.o.2.2.1]at CL;refine jh5 (by simp[go_sem]) CL ?_;rintro e w9 ⟨rfl,hs9,ho9⟩;exact⟨_,rfl,_,results_tmp rfl _ _ _,rfl,hs9.less (fun i hi=> .inl hi),fun i hi=>(ho9 i (.inl hi)).trans (O3.o i hi)⟩
 ·have h1:(ans !=0)=true:=by simpa using h0
  go_wp2_with(first
   |((with_reducible show zL 11);refine zR (.tmp 4) RA.o ?_)
   |(go_at_call 35;refine CF.o.mono ?_;rintro e w2 ⟨A,n,c,rfl,hs,hb⟩;have J2:=zh (J1.o.on hb);have K2:=zh (jbf K1.o hb);have R2:=zh (RA.o.on hb);have O2:=zh (fun i (hi:G i)=>(hb.block i (J1.o.g i (.inl hi))).trans (O1.o i hi));have S2:=zh hs;clear hb hs CF J1 K1 O1 RA))
  have C:=So.tor_no (R:=R) (L:=L) (m:=m) (r:=rc) keep (by rw[<-HS.o,<-AN.o];exact h0);rw[<-HC.o.1,<-HC.o.2,<-HS.o,<-AN.o]at C;have K4:=K2.o;rw[HS.o]at K4;refine⟨_,results_tmp rfl _ _ _,by rw[C.2];rfl,?_,O2.o⟩;rw[C.1];exact SA.less (F:=G) ⟨TK.o,r,q,b,_,J2.o,K4⟩ (fun i hi=> .inl hi)
theorem sv1_in:Rc.In sv1:=Rc.ok_in (Rc.ok_of js7)
theorem sv2_in:Rc.In sv2:=Rc.ok_in (Rc.ok_of js8)
theorem jo0(W:World)(ht:BT W):Calls Tryz.prog 4 #[] W (BRet (.bool true) W):=by
 have T0:=zh ht;have CN:=zh (jkj W 100 0 ht);have CC:=zh (fun p w (h:SA W noG p 0 (Dk.fits 100) [] w)=>jfw h ht sv1_in);have CT:=zh (fun p w (h:SA W noG p 0 (Dk.fits 100) [sv1] w)=>joz h ht sv2_in 0 (by decide));have e100:Dk.fits 100=100:=rfl;rw[e100]at CN CC CT;rw[sv_com.1,sv_com.2]at CC;rw[sv_tor.1,sv_tor.2]at CT;have CL:=zh (fun p w (h:SA W noG p 0 100 [sv1] w)=>jhc h);have CB:=zh (fun p w (h:SA W noG p 0 100 [sv1] w)=>jd2 h ht (by decide));have hv0:∀w,(Instr.field 59 (.agg (Bk.viewC (Bk.all 0 [sv1]))) 0).run Tryz.prog w= .ok (.int .i64 1) w:=fun w=>by rw[vf0,sv_ep]
 have hv2:∀w,(Instr.field 59 (.agg (Bk.viewC (Bk.all 0 [sv1]))) 2).run Tryz.prog w= .ok (.int .i64 9) w:=fun w=>by rw[vf2,sv_till]
 clear ht e100;generalize Bk.all 0 [sv1]=s at*;go_in;go_upto_region 4 with(first
  |(go_at_call 13;refine CN.o.mono ?_;rintro e w1 ⟨p,rfl,hs⟩;have A0:=zh hs;clear hs)
  |((with_reducible show wpList _ _ _ ({dst:=some 6,op:= .build _ _,type:=_,pos:=_,after:=_,guard:=_}::_) _ _);refine jdk rfl 56 _ rfl (Rc.cells sv1) zk ?_)
  |((with_reducible show wpList _ _ _ ({dst:=some 9,op:= .build _ _,type:=_,pos:=_,after:=_,guard:=_}::_) _ _);refine jdk rfl 56 _ rfl (Rc.cells sv2) zk ?_)
  |(go_at_call 14;refine(CC.o _ _ A0.o).mono ?_;rintro e w2 ⟨rfl,hs,_⟩;have A1:=zh hs;clear hs A0)
  |(go_at_call 15;refine(CT.o _ _ A1.o).mono ?_;rintro e w3 ⟨rfl,hs,_⟩;have A2:=zh hs;clear hs A1))
 clear CN CC CT
 go_wp2_with(first
  |(go_at_call 7;refine(CL.o _ _ A2.o).mono ?_;rintro e w4 ⟨rfl,hb⟩;have A2:=zh (A2.o.on hb);clear hb)
  |(go_at_call 6;refine(CB.o _ _ A2.o).mono ?_;rintro e w5 ⟨q,rfl,hk⟩;have A2:=zh (A2.o.on (jar hk));have K:=zh hk;clear hk)
  |(go_at_call 16;refine(bp_view K.o).mono ?_;rintro e w6 ⟨rfl,hb⟩;have A2:=zh (A2.o.on hb);clear hb K))
 go_ret;exact⟨rfl,A2.o.below⟩
def ji6(g:Nat)(A:Option Addr)(L V H:Value)(i:Nat):Prop:=i=g\/jfl L V H i\/∃o,A=some ⟨i,o,none⟩
structure jc0(w0 W:World)(p:Nat)(m:Int)(R:Nat)(Ls:List Rc.R)(g:Nat)(A:Option Addr)(c:Nat)(L V H:Value):Prop where
 ss:SsAt W g m (R:Nat) (tA (So.disk R Ls)) (tB (So.disk R Ls)) (.slice A Ls.length c) (Bk.all m Ls) L V H
 rd:BkRd W (Bk.all m Ls) L V H
 row:SlF Bk.rcC W A Ls.length c Ls
 st:SA w0 (ji6 g A L V H) p m R Ls W
 ng:w0.heap.size<=g
 gn:¬jfl L V H g
 ga:∀o,A≠some ⟨g,o,none⟩
section
variable{w0 W W':World}{p R g c:Nat}{m:Int}{Ls:List Rc.R}{A:Option Addr}{L V H:Value}
theorem jc0.on(h:jc0 w0 W p m R Ls g A c L V H)(hb:zF W W'):jc0 w0 W' p m R Ls g A c L V H:=⟨h.ss.on hb,h.rd.on hb,h.row.on hb,h.st.on hb,h.ng,h.gn,h.ga⟩
theorem jc0.turn(h:jc0 w0 W p m R Ls g A c L V H){L2:List Rc.R}{x:Value}{e:Ending}{w':World}(hr:SRes w0 (fun i=>ji6 g A L V H i\/(W.heap.size<=i/\i<W'.heap.size)) p m R L2 x W' e w')(hb:zF W W')(hz:W'.heap.size<=w'.heap.size):
  e= .returned x/\SsAt w' g m (R:Nat) (tA (So.disk R Ls)) (tB (So.disk R Ls)) (.slice A Ls.length c) (Bk.all m Ls) L V H/\BkRd w' (Bk.all m Ls) L V H/\SlF Bk.rcC w' A Ls.length c Ls/\SA w0 (ji6 g A L V H) p m R L2 w'/\∀i,W.heap.size<=i->i<W'.heap.size->w'.heap[i]? =W'.heap[i]? :=by
 have h2:=h.on hb;exact⟨hr.1,h2.ss.keep (hr.2.2 g (.inl (.inl rfl))),js6 h2.rd hz fun b hb=>hr.2.2 b (.inl (.inr (.inl hb))),h2.row.keep hz fun b o e _=>hr.2.2 b (.inl (.inr (.inr ⟨o,e⟩))),hr.2.1.less fun i hi=> .inl hi,fun i h1 h3=>hr.2.2 i (.inr ⟨h1,h3⟩)⟩
theorem jc0.more(h:jc0 w0 W p m R Ls g A c L V H)(hb:zF W W'):SA w0 (fun i=>ji6 g A L V H i\/(W.heap.size<=i/\i<W'.heap.size)) p m R Ls W':=h.st.more hb
end
theorem jvx(m:Int)(R:Nat)(L:List Rc.R)(r:Rc.R):(So.com m R L r).length<=L.length+1:=by
 unfold So.com;split
 ·rw[zA];exact zl
 ·omega
theorem SA.okd{w0 W:World}{G:Nat->Prop}{p R:Nat}{m:Int}{L:List Rc.R}(h:SA w0 G p m R L W):Dk.Okay (So.disk R L):=by
 obtain⟨_,r,q,b,X,h1,_⟩:=h;exact h1.jr.dsk.okay
def R13P(m:Int)(R:Nat)(A0:Option Addr)(Ls:List Rc.R)(L0 V0 H0:Value)(L2:List Rc.R)(x:Int)(w:World)(e:Ending)(w':World):Prop:=∃A c L V H,e= .returned (.tuple #[.agg (Ss.cs m (R:Nat) (tA (So.disk R L2)) (tB (So.disk R L2)) (.slice A L2.length c) (Bk.cells (Bk.all m L2) L V H)).toArray,.int .i64 x])/\SlF Bk.rcC w' A L2.length c L2/\BkRd w' (Bk.all m L2) L V H/\zF w w'/\jez w L0 V0 H0 L V H/\(A=A0\/(0<L2.length/\∀b o,A=some ⟨b,o,none⟩->w.heap.size<=b))
theorem zz20{p:Prop}(h:p:=by
 rintro e w' ⟨rfl,h3⟩;exact⟨A,c,L,V,H,rfl,hrow.on h3,h.on h3,h3,⟨.inl rfl,.inl rfl,.inl rfl⟩,.inl rfl⟩):p:=h
theorem jo1(m:Int)(R:Nat)(c:Nat)(A:Option Addr)(ls:List Rc.R)(hd:Dk.Okay (So.disk R ls))(hn:ls.length<=1000)(r:Rc.R)(hin:Rc.In r)(L V H:Value)(w:World)(h:BkRd w (Bk.all m ls) L V H)(hrow:SlF Bk.rcC w A ls.length c ls):Calls Tryz.prog 19 #[.agg (Ss.cs m (R:Nat) (tA (So.disk R ls)) (tB (So.disk R ls)) (.slice A ls.length c) (Bk.cells (Bk.all m ls) L V H)).toArray,.agg (Rc.cells r)] w (R13P m R A ls L V H (So.com m R ls r) (So.comE m R ls r) w):=by
 by_cases hc:Bk.chk (Bk.all m ls) r=0
 ·have hr:=Bk.chk_right hc
  have hb:=(Rc.bytes_yes hr).1.symm;have hl:(Rc.bytes r).length<=1000:=Nat.le_trans (Rc.bytes_len hr) zv;by_cases hf:So.Fits R ls r
  ·obtain⟨e1,e2⟩:=So.com_fits hc hf
   obtain⟨d1,d2⟩:=So.disk_app hr hf;rw[e1,e2];have AS:Bk.all m (ls++[r])=Bk.app (Bk.all m ls) r:=Bk.run_snoc _ _ _;refine(js5 m (So.disk R ls) ls.length c A (Bk.all m ls) (Bk.all_ok m ls) r hin hc hd _ hb hl _ rfl (jl9 hd _) _ d1.symm 0 d2.symm rfl ls hn L V H w h hrow).mono ?_;rintro e w' ⟨A2,c2,L2,V2,H2,rfl,h1,h2,h3,h4,h5⟩;refine⟨A2,c2,L2,V2,H2,?_,?_,?_,h3,h4,.inr ⟨?_,h5⟩⟩
   ·rw[AS,zA];rfl
   ·rw[zA];exact h1
   ·rw[AS];exact h2
   ·rw[zA];show 0<ls.length+1;omega
  ·obtain⟨e1,e2⟩:=So.com_full hc hf
   obtain⟨d1,d2⟩:=So.disk_full hr hf;rw[e1,e2];refine(js4 m (So.disk R ls) ls.length c A (Bk.all m ls) (Bk.all_ok m ls) r hin hc hd _ hb hl _ d1.symm 4 d2.symm (by decide) L V H w h).mono ?_;exact zz20
 ·obtain⟨e1,e2⟩:=So.com_no (R:=R) hc
  rw[e1,e2];refine(joy m (So.disk R ls) ls.length c A (Bk.all m ls) (Bk.all_ok m ls) r hin hc L V H w h).mono ?_;exact zz20
section
variable{w0 w1 W W' wg w':World}{G:Nat->Prop}{p R g c c2:Nat}{m:Int}{Ls L2:List Rc.R}{A A2:Option Addr}{L V H L' V' H':Value}
theorem SA.base(h:SA w1 G p m R Ls W)(hb:zF w0 w1):SA w0 (fun i=>G i\/(w0.heap.size<=i/\i<w1.heap.size)) p m R Ls W:=by
 obtain⟨h0,r,q,b,X,h1,h2⟩:=h;obtain⟨Y,e1,e2,e3,e4⟩:=h2;have hz:=hb.size;refine⟨h0,r,q,b,X,⟨h1.row,h1.jr,fun i hi=>⟨Nat.le_trans hz (h1.inX i hi).1,(h1.inX i hi).2.1,(h1.inX i hi).2.2.1,fun hf=>hf.elim (h1.inX i hi).2.2.2 fun h=>by have:=(h1.inX i hi).1;omega⟩,⟨fun hf=>hf.elim h1.pG.1 fun h=>by have:=h1.pG.2;omega,Nat.le_trans hz h1.pG.2⟩,fun i hi=>hi.elim (h1.g i) fun h=>Nat.lt_of_lt_of_le h.2 h1.below.size,hb.trans (h1.below.mono hz)⟩,Y,e1,fun i hi=>Nat.le_trans hz (e2 i hi),fun i hi=> ?_,hb.trans (e4.mono hz)⟩;rcases hi with(hi|hi)|hi|hi
 ·exact e3 i (.inl hi)
 ·exact⟨fun hy=>by have:=e2 i hy;omega,Nat.lt_of_lt_of_le hi.2 e4.size⟩
 ·exact e3 i (.inr (.inl hi))
 ·exact e3 i (.inr (.inr hi))
theorem jtb(sa:SA w0 (ji6 g A L V H) p m R L2 w')(ng:w0.heap.size<=g)(hgl:g<w'.heap.size)(gn:¬jfl L V H g)(ga:∀o,A≠some ⟨g,o,none⟩)(hb:Below w'.heap.size w' wg)(hrow:SlF Bk.rcC wg A2 L2.length c2 L2)(hrd:BkRd wg (Bk.all m L2) L' V' H')(hn:jez w' L V H L' V' H')(hA:A2=A\/(0<L2.length/\∀b o,A2=some ⟨b,o,none⟩->w'.heap.size<=b))(cs0:Array Value)(hs:wg.heap[g]? =some (.cells cs0 40 (0,0))):
  jc0 w0 (wg.setRow g (Ss.cs m (R:Nat) (tA (So.disk R L2)) (tB (So.disk R L2)) (.slice A2 L2.length c2) (Bk.cells (Bk.all m L2) L' V' H')).toArray) p m R L2 g A2 c2 L' V' H':=by
 have gn2:¬jfl L' V' H' g:=fun hx=>by
  rcases je8 hn hx with h1|h1
  ·exact gn h1
  ·omega
 have ga2:∀o,A2≠some ⟨g,o,none⟩:=fun o e=>by
  rcases hA with h1|⟨_,h1⟩
  ·exact ga o (h1▸e)
  ·have:=h1 g o e;omega
 have hg:=ja6 wg g (Ss.cs m (R:Nat) (tA (So.disk R L2)) (tB (So.disk R L2)) (.slice A2 L2.length c2) (Bk.cells (Bk.all m L2) L' V' H')).toArray;refine⟨⟨setRow_heap wg g _ _ _ _ hs⟩,jd3 hrd hg gn2,hrow.keep hg.size fun b o e hl=> ?_,((sa.more hb).grown hg (.inl (.inl rfl)) ng).less fun i hi=> ?_,ng,gn2,ga2⟩
 ·obtain⟨b',o',e1,e2,_⟩:=hrow.rd hl
  rw[e]at e1;injection e1 with e1
  injection e1 with e1 _
  exact hg.block b zv (fun h=>by injection h with h;exact ga2 o (h▸e))
 ·rcases hi with hi|hi|⟨o,hi⟩
  ·exact .inl (.inl hi)
  ·rcases je8 hn hi with h1|h1
   ·exact .inl (.inr (.inl h1))
   ·exact .inr ⟨h1,row_lt hrd hi⟩
  ·rcases hA with h1|⟨h0,h1⟩
   ·exact .inl (.inr (.inr ⟨o,h1▸hi⟩))
   ·obtain⟨b',o',e1,e2,_⟩:=hrow.rd h0
    rw[hi]at e1;injection e1 with e1
    injection e1 with e1 _
    exact .inr ⟨h1 i o hi,zv⟩
def jkp(w0:World)(g:Nat)(A:Option Addr)(L V H:Value):Prop:=∀i,ji6 g A L V H i->w0.heap.size<=i
theorem jma(h:jkp w0 g A L V H)(hz:w0.heap.size<=w'.heap.size)(hn:jez w' L V H L' V' H')(hA:A2=A\/(0<L2.length/\∀b o,A2=some ⟨b,o,none⟩->w'.heap.size<=b)):jkp w0 g A2 L' V' H':=by
 rintro i (hi|hi|⟨o,hi⟩)
 ·exact h i (.inl hi)
 ·rcases je8 hn hi with h1|h1
  ·exact h i (.inr (.inl h1))
  ·omega
 ·rcases hA with h1|⟨_,h1⟩
  ·exact h i (.inr (.inr ⟨o,h1▸hi⟩))
  ·have:=h1 i o hi;omega
theorem jm8{g7:Nat}(h:jc0 w1 W p m R Ls g A c L V H)(hd:jkp w1 g A L V H)(hb:zF w0 w1)(hg:W.grownBy W' (some g7))(h7:w0.heap.size<=g7/\g7<w1.heap.size):jc0 w0 W' p m R Ls g A c L V H:=by
 have hne:∀i,ji6 g A L V H i->i≠g7:=fun i hi e=>by have:=hd i hi;omega
 have hlt:=h.st.lts;have k:∀i,ji6 g A L V H i->W'.heap[i]? =W.heap[i]? :=fun i hi=>hg.block i (hlt i hi) (fun e=>hne i hi (Option.some.inj e));exact⟨h.ss.keep (k g (.inl rfl)),js6 h.rd hg.size fun b hb=>k b (.inr (.inl hb)),h.row.keep hg.size fun b o e _=>k b (.inr (.inr ⟨o,e⟩)),((h.st.base hb).grown hg (.inr h7) h7.1).less fun i hi=> .inl hi,Nat.le_trans hb.size h.ng,h.gn,h.ga⟩
end
theorem jtc{m:Int}{w:World}{L V H:Value}(h:BkRd w (Bk.new m) L V H):∀b,¬jfl L V H b:=by
 exact zzw