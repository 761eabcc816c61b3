import Derived.Test.YtpehidgjfcfjoaaGreatDoorQz30
set_option maxHeartbeats 6400000
set_option maxRecDepth 100000
set_option linter.unusedSimpArgs false
set_option linter.unusedVariables false
namespace Go.Proofs.YtpehidgjfcfjoaaGreatDoor
open Go.RowKit Go.Deep Go.Maps
theorem SsAt.disk{w:World}{g:Nat}{m R:Int}{A B:ByteArray}{l:Value}{s:Bk.St}{L V H:Value}(h:SsAt w g m R A B l s L V H):w.rangeAt g 1 [.int .i64 R,.string A,.string B]:=fun j v hv=>by
 rw[h.cell]
 match j,hv with
 |0,hv=>exact hv
 |1,hv=>exact hv
 |2,hv=>exact hv
 |j+3,hv=>simp at hv
theorem jdj{ops:Array Oper}{rest:List Oper}{op:Oper}{a:Act}{w:World}{Q:Exit->Act->World->Prop}{g:Nat}{m:Int}{d:Dk.St}{l:Value}{s:Bk.St}{L V H:Value}(hgd:op.guard=none)(x:Operand)(ho:op.op= .load 26 x)(hx:a.eval x= .pointer (some ⟨g,1,none⟩))(hg:SsAt w g m (d.room:Nat) (tA d) (tB d) l s L V H)
  (h:wpList Tryz.prog ops Q rest (a.put op.dst (.agg #[.int .i64 (d.room:Nat),.string (tA d),.string (tB d)])) w):wpList Tryz.prog ops Q (op::rest) a w:=
 wpList_load_mid hgd 26 x ho g 1 hx [.int .i64 (d.room:Nat),.string (tA d),.string (tB d)] _ hg.disk jjn rfl (jic ..) h
theorem jn3(m:Int)(d:Dk.St)(n c:Nat)(A:Option Addr)(s:Bk.St)(ok:Bk.Ok s)(r:Rc.R)(hin:Rc.In r)(hc:Bk.chk s r≠0)(L V H:Value)(w:World)(h:BkRd w s L V H):Calls Tryz.prog 20 #[.agg (Ss.cs m (d.room:Nat) (tA d) (tB d) (.slice A n c) (Bk.cells s L V H)).toArray,.agg (Rc.cells r)] w (fun e w'=>e= .returned (.tuple #[.agg (Ss.cs m (d.room:Nat) (tA d) (tB d) (.slice A n c) (Bk.cells s L V H)).toArray,.int .i64 (Bk.chk s r)])/\Below w.heap.size w w'):=by
 have hz:=jfb;have hzb:=jbo;go_in;go_upto_region 1 with fail
 obtain⟨CS,hCS⟩:∃CS,CS=(Ss.cs m (d.room:Nat) (tA d) (tB d) (.slice A n c) (Bk.cells s L V H)).toArray:=⟨_,rfl⟩;have S2:=SsAt.new w m (d.room:Nat) (tA d) (tB d) (.slice A n c) s L V H;rw[<-hCS]at S2⊢;have hb1:Below w.heap.size w (w.alloc (.cells CS 40)):=(Below.refl _ _).alloc (Nat.le_refl _) _;have E1:(w.alloc (.cells CS 40)).heap.size=w.heap.size+1:=by simp
 generalize w.alloc (.cells CS 40)=wa at*;have R3:=RcAt.new wa r;have hb2:Below wa.heap.size wa (wa.alloc (.cells (Rc.cells r) 60)):=(Below.refl _ _).alloc (Nat.le_refl _) _;have E2:(wa.alloc (.cells (Rc.cells r) 60)).heap.size=wa.heap.size+1:=by simp
 rw[E1]at R3 E2;generalize wa.alloc (.cells (Rc.cells r) 60)=wb at*;have hb3:Below wb.heap.size wb (wb.alloc (.cells Ss.zeros 40)):=(Below.refl _ _).alloc (Nat.le_refl _) _;have Z4:(wb.alloc (.cells Ss.zeros 40)).heap[wb.heap.size]? =some (.cells Ss.zeros 40 (0,0)):=heap_alloc_new wb _;have S3:=(S2.on hb2).on hb3;have R4:=R3.on hb3;have B3:=(hb1.trans (hb2.mono hb1.size)).trans (hb3.mono (hb1.trans (hb2.mono hb1.size)).size);rw[E2]at Z4;subst hCS;generalize wb.alloc (.cells Ss.zeros 40)=w1 at*;obtain⟨g2,hg2⟩:∃g2,g2=w.heap.size:=⟨_,rfl⟩;rw[<-hg2]at S3 R4 Z4⊢;obtain⟨g3,hg3⟩:∃g3,g3=g2+1:=⟨_,rfl⟩;rw[<-hg3]at R4 Z4⊢;obtain⟨g4,hg4⟩:∃g4,g4=g3+1:=⟨_,rfl⟩;rw[<-hg4]at Z4⊢;have G2:Hid (w.heap.size<=g2):=Nat.le_of_eq hg2.symm;have N3:Hid (g2<g3):=by rw[hg3];exact Nat.lt_succ_self _
 have N4:Hid (g3<g4):=by rw[hg4];exact Nat.lt_succ_self _
 have S1:=zh S3;have R1:=zh R4;have Z1:=zh Z4;have B1:=zh B3;have RD1:=zh (h.on B3);have HC:=zh hc;have CP:=zh (jgg s ok r hin L V H w1 RD1.out);clear S2 R3 E1 E2 hb1 hb2 hb3 Z4 S3 R4 B3 hg2 hg3 hg4 hc;clear wb wa;go_upto_region 2 with(first
  |((with_reducible show zL 17);refine jbt rfl (.tmp 16) rfl rfl S1.out ?_)
  |((with_reducible show zL 18);refine zR (.tmp 3) R1.out ?_)
  |(go_at_call 43;(with_reducible refine CP.out.mono ?_);rintro e w7 ⟨L2,V2,H2,rfl,hrd,hb,hnew⟩;have NW:=zh hnew;have RD:=zh hrd;have B7:=zh hb;have X7:=zh (BkAt.zero w7);clear hnew hrd hb CP)
  |((with_reducible show zW);refine jac rfl (.tmp 6) (.tmp 20) rfl rfl rfl X7.out RD.out.one ?_))
 rw[World.setRow_alloc_new];have hb8:Below w7.heap.size w7 (w7.alloc (.cells (Bk.cells (Bk.app s r) L2 V2 H2) 38)):=(Below.refl _ _).alloc (Nat.le_refl _) _;have B8:=zh (B7.out.trans (hb8.mono B7.out.size));have RD8:=zh (RD.out.on hb8);have K8:=zh (BkAt.new w7 (Bk.app s r) L2 V2 H2);have R8:=zh (R1.out.on B8.out);have S8:=zh (S1.out.on B8.out);have Z8:Hid (_=_):=(B8.out.block g4 (Array.getElem?_eq_some_iff.1 Z1.out).1).trans Z1.out;have BW:=zh (B1.out.trans (B8.out.mono B1.out.size));have G6:Hid (w1.heap.size<=w7.heap.size):=B7.out.size;clear hb8 RD X7 R1 S1;obtain⟨g6,hg6⟩:∃g6,g6=w7.heap.size:=⟨_,rfl⟩;rw[<-hg6]at K8 G6⊢;clear hg6;generalize w7.alloc (.cells (Bk.cells (Bk.app s r) L2 V2 H2) 38)=w8 at*;have hcc:(Bk.chk s r !=0)=true:=by simpa using HC.out
 obtain⟨cc,hc0⟩:∃cc,cc=Bk.chk s r:=⟨_,rfl⟩;have HC0:=zh hc0;rw[<-hc0]at hcc⊢;clear hc0
 go_wp2_with(first
  |((with_reducible show zL 24);refine jbj rfl (.tmp 2) rfl rfl S8.out ?_)
  |((with_reducible show zW);refine jas rfl (.tmp 4) (.tmp 24) rfl rfl rfl Z8.out rfl (Ss.one (l:= .slice A n c) rfl RD1.out.one) ?_))
 have hg:=ja2 w8 g4 (Ss.cs m (d.room:Nat) (tA d) (tB d) (.slice A n c) (Bk.cells s L V H)).toArray;exact bodyPost_ret (v:= .tuple #[.agg (Ss.cs m (d.room:Nat) (tA d) (tB d) (.slice A n c) (Bk.cells s L V H)).toArray,.int .i64 cc]) (jd7 Tryz.results20 _ rfl ⟨setRow_heap _ g4 _ _ _ _ Z8.out⟩) rfl ⟨by rw[HC0.out],BW.out.grown hg BW.out.size fun k e=>by injection e with e;have h2:=G2.out;have h3:=N3.out;have h4:=N4.out;omega⟩
theorem jr1(m:Int)(d:Dk.St)(n c:Nat)(A:Option Addr)(s:Bk.St)(ok:Bk.Ok s)(r:Rc.R)(hin:Rc.In r)(hc:Bk.chk s r=0)(hok:Dk.Okay d)(p:List Nat)(hp:p=Rc.bytesL r)(hbl:p.length<=1000)(d2:Dk.St)(hd2:d2=Jn.app d p)(ae:Int)(hae:ae=Jn.appE d p)(ha:ae≠0)(L V H:Value)(w:World)(h:BkRd w s L V H):Calls Tryz.prog 20 #[.agg (Ss.cs m (d.room:Nat) (tA d) (tB d) (.slice A n c) (Bk.cells s L V H)).toArray,.agg (Rc.cells r)] w (fun e w'=>e= .returned (.tuple #[.agg (Ss.cs m (d.room:Nat) (tA d) (tB d) (.slice A n c) (Bk.cells s L V H)).toArray,.int .i64 (ae)])/\Below w.heap.size w w'):=by
 have hz:=jfb;have hzb:=jbo;go_in;go_upto_region 1 with fail
 obtain⟨CS,hCS⟩:∃CS,CS=(Ss.cs m (d.room:Nat) (tA d) (tB d) (.slice A n c) (Bk.cells s L V H)).toArray:=⟨_,rfl⟩;have S2:=SsAt.new w m (d.room:Nat) (tA d) (tB d) (.slice A n c) s L V H;rw[<-hCS]at S2⊢;have hb1:Below w.heap.size w (w.alloc (.cells CS 40)):=(Below.refl _ _).alloc (Nat.le_refl _) _;have E1:(w.alloc (.cells CS 40)).heap.size=w.heap.size+1:=by simp
 generalize w.alloc (.cells CS 40)=wa at*;have R3:=RcAt.new wa r;have hb2:Below wa.heap.size wa (wa.alloc (.cells (Rc.cells r) 60)):=(Below.refl _ _).alloc (Nat.le_refl _) _;have E2:(wa.alloc (.cells (Rc.cells r) 60)).heap.size=wa.heap.size+1:=by simp
 rw[E1]at R3 E2;generalize wa.alloc (.cells (Rc.cells r) 60)=wb at*;have hb3:Below wb.heap.size wb (wb.alloc (.cells Ss.zeros 40)):=(Below.refl _ _).alloc (Nat.le_refl _) _;have Z4:(wb.alloc (.cells Ss.zeros 40)).heap[wb.heap.size]? =some (.cells Ss.zeros 40 (0,0)):=heap_alloc_new wb _;have S3:=(S2.on hb2).on hb3;have R4:=R3.on hb3;have B3:=(hb1.trans (hb2.mono hb1.size)).trans (hb3.mono (hb1.trans (hb2.mono hb1.size)).size);rw[E2]at Z4;subst hCS;generalize wb.alloc (.cells Ss.zeros 40)=w1 at*;obtain⟨g2,hg2⟩:∃g2,g2=w.heap.size:=⟨_,rfl⟩;rw[<-hg2]at S3 R4 Z4⊢;obtain⟨g3,hg3⟩:∃g3,g3=g2+1:=⟨_,rfl⟩;rw[<-hg3]at R4 Z4⊢;obtain⟨g4,hg4⟩:∃g4,g4=g3+1:=⟨_,rfl⟩;rw[<-hg4]at Z4⊢;have G2:Hid (w.heap.size<=g2):=Nat.le_of_eq hg2.symm;have N3:Hid (g2<g3):=by rw[hg3];exact Nat.lt_succ_self _
 have N4:Hid (g3<g4):=by rw[hg4];exact Nat.lt_succ_self _
 have S1:=zh S3;have R1:=zh R4;have Z1:=zh Z4;have B1:=zh B3;have RD1:=zh (h.on B3);have HC:=zh hc;have CP:=zh (jgg s ok r hin L V H w1 RD1.out);clear S2 R3 E1 E2 hb1 hb2 hb3 Z4 S3 R4 B3 hg2 hg3 hg4 hc;clear wb wa;go_upto_region 2 with(first
  |((with_reducible show zL 17);refine jbt rfl (.tmp 16) rfl rfl S1.out ?_)
  |((with_reducible show zL 18);refine zR (.tmp 3) R1.out ?_)
  |(go_at_call 43;(with_reducible refine CP.out.mono ?_);rintro e w7 ⟨L2,V2,H2,rfl,hrd,hb,hnew⟩;have NW:=zh hnew;have RD:=zh hrd;have B7:=zh hb;have X7:=zh (BkAt.zero w7);clear hnew hrd hb CP)
  |((with_reducible show zW);refine jac rfl (.tmp 6) (.tmp 20) rfl rfl rfl X7.out RD.out.one ?_))
 rw[World.setRow_alloc_new];have hb8:Below w7.heap.size w7 (w7.alloc (.cells (Bk.cells (Bk.app s r) L2 V2 H2) 38)):=(Below.refl _ _).alloc (Nat.le_refl _) _;have B8:=zh (B7.out.trans (hb8.mono B7.out.size));have RD8:=zh (RD.out.on hb8);have K8:=zh (BkAt.new w7 (Bk.app s r) L2 V2 H2);have R8:=zh (R1.out.on B8.out);have S8:=zh (S1.out.on B8.out);have Z8:Hid (_=_):=(B8.out.block g4 (Array.getElem?_eq_some_iff.1 Z1.out).1).trans Z1.out;have BW:=zh (B1.out.trans (B8.out.mono B1.out.size));have G6:Hid (w1.heap.size<=w7.heap.size):=B7.out.size;clear hb8 RD X7 R1 S1;obtain⟨g6,hg6⟩:∃g6,g6=w7.heap.size:=⟨_,rfl⟩;rw[<-hg6]at K8 G6⊢;clear hg6;generalize w7.alloc (.cells (Bk.cells (Bk.app s r) L2 V2 H2) 38)=w8 at*;have CY:=zh (fun W=>jg0 r hin W);unfold Rc.val at CY;rw[<-hp]at CY;generalize Rc.bytesE r=be at*;have PL:=zh hbl;have CA:=zh (fun W A2 c2 h2=>jl4 hok p.length c2 A2 p W h2 (by have:=PL.out;omega));rw[<-hd2,<-hae]at CA;have HA:=zh ha;clear hp hbl hd2 hae ha;have HC2:=HC.out;rw[HC2];clear HC2;go_upto_region 5 with(first
  |((with_reducible show zL 27);refine zR (.tmp 3) R8.out ?_)
  |(go_at_call 44;(with_reducible refine(CY.out _).mono ?_);rintro e w9 ⟨A9,c9,rfl,hsl,hb⟩;have SL:=zh hsl;have B9:=zh hb;clear hsl hb CY))
 have S9:=zh (S8.out.on B9.out);go_upto_region 6 with(first
  |((with_reducible show zL 33);refine jdj rfl (.tmp 32) rfl rfl S9.out ?_)
  |(go_at_call 45;(with_reducible refine(CA.out _ _ _ SL.out).mono ?_);rintro e w10 ⟨rfl,hb⟩;have B10:=zh (B9.out.trans (hb.mono B9.out.size));clear hb CA)
  |((with_reducible show zW);refine jck (d:=d2) rfl (.tmp 10) (.tmp 36) rfl rfl ?_))
 have hb11:Below w10.heap.size w10 (w10.alloc (.cells #[.int .i64 (d2.room:Nat),.string (tA d2),.string (tB d2)] 26)):=(Below.refl _ _).alloc (Nat.le_refl _) _;have B11:=zh (B10.out.trans (hb11.mono B10.out.size));have D11:=zh (DdAt.new w10 d2);obtain⟨g10,hg10⟩:∃g10,g10=w10.heap.size:=⟨_,rfl⟩;rw[<-hg10]at D11⊢;clear hb11 hg10 S9 SL B9 B10;generalize w10.alloc (.cells #[.int .i64 (d2.room:Nat),.string (tA d2),.string (tB d2)] 26)=w11 at*;have BX:=zh (BW.out.trans (B11.out.mono BW.out.size));have Z11:Hid (_=_):=(B11.out.block g4 (Array.getElem?_eq_some_iff.1 Z8.out).1).trans Z8.out;have S11:=zh (S8.out.on B11.out);have hcc:(ae !=0)=true:=by simpa using HA.out
 go_wp2_with(first
  |((with_reducible show zL 40);refine jbj rfl (.tmp 2) rfl rfl S11.out ?_)
  |((with_reducible show zW);refine jas rfl (.tmp 4) (.tmp 40) rfl rfl rfl Z11.out rfl (Ss.one (l:= .slice A n c) rfl RD1.out.one) ?_))
 have hg:=ja2 w11 g4 (Ss.cs m (d.room:Nat) (tA d) (tB d) (.slice A n c) (Bk.cells s L V H)).toArray;exact bodyPost_ret (v:= .tuple #[.agg (Ss.cs m (d.room:Nat) (tA d) (tB d) (.slice A n c) (Bk.cells s L V H)).toArray,.int .i64 ae]) (jd7 Tryz.results20 _ rfl ⟨setRow_heap _ g4 _ _ _ _ Z11.out⟩) rfl ⟨rfl,BX.out.grown hg BX.out.size fun k e=>by injection e with e;have h2:=G2.out;have h3:=N3.out;have h4:=N4.out;omega⟩
theorem jr2(m:Int)(d:Dk.St)(n c:Nat)(A:Option Addr)(s:Bk.St)(ok:Bk.Ok s)(r:Rc.R)(hin:Rc.In r)(hc:Bk.chk s r=0)(hok:Dk.Okay d)(p:List Nat)(hp:p=Rc.bytesL r)(hbl:p.length<=1000)(d2:Dk.St)(hd2:d2=Jn.app d p)(hok2:Dk.Okay d2)(d3:Dk.St)(hd3:d3=Dk.sync d2)(ae:Int)(hae:ae=Jn.appE d p)(ha:ae=0)(ls:List Rc.R)(hn:ls.length<=1000)(L V H:Value)(w:World)(h:BkRd w s L V H)(hrow:SlF Bk.rcC w A n c ls):Calls Tryz.prog 20 #[.agg (Ss.cs m (d.room:Nat) (tA d) (tB d) (.slice A n c) (Bk.cells s L V H)).toArray,.agg (Rc.cells r)] w (fun e w'=>∃A2 c2 L2 V2 H2,e= .returned (.tuple #[.agg (Ss.cs m (d3.room:Nat) (tA d3) (tB d3) (.slice A2 (ls.length+1) c2) (Bk.cells (Bk.app s r) L2 V2 H2)).toArray,.int .i64 0])/\SlF Bk.rcC w' A2 (ls.length+1) c2 (ls++[r])/\BkRd w' (Bk.app s r) L2 V2 H2/\Below w.heap.size w w'/\jel w L V H L2 V2 H2/\∀b o,A2=some ⟨b,o,none⟩->w.heap.size<=b):=by
 have hz:=jfb;have hzb:=jbo;go_in;go_upto_region 1 with fail
 obtain⟨CS,hCS⟩:∃CS,CS=(Ss.cs m (d.room:Nat) (tA d) (tB d) (.slice A n c) (Bk.cells s L V H)).toArray:=⟨_,rfl⟩;have S2:=SsAt.new w m (d.room:Nat) (tA d) (tB d) (.slice A n c) s L V H;rw[<-hCS]at S2⊢;have hb1:Below w.heap.size w (w.alloc (.cells CS 40)):=(Below.refl _ _).alloc (Nat.le_refl _) _;have E1:(w.alloc (.cells CS 40)).heap.size=w.heap.size+1:=by simp
 generalize w.alloc (.cells CS 40)=wa at*;have R3:=RcAt.new wa r;have hb2:Below wa.heap.size wa (wa.alloc (.cells (Rc.cells r) 60)):=(Below.refl _ _).alloc (Nat.le_refl _) _;have E2:(wa.alloc (.cells (Rc.cells r) 60)).heap.size=wa.heap.size+1:=by simp
 rw[E1]at R3 E2;generalize wa.alloc (.cells (Rc.cells r) 60)=wb at*;have hb3:Below wb.heap.size wb (wb.alloc (.cells Ss.zeros 40)):=(Below.refl _ _).alloc (Nat.le_refl _) _;have Z4:(wb.alloc (.cells Ss.zeros 40)).heap[wb.heap.size]? =some (.cells Ss.zeros 40 (0,0)):=heap_alloc_new wb _;have S3:=(S2.on hb2).on hb3;have R4:=R3.on hb3;have B3:=(hb1.trans (hb2.mono hb1.size)).trans (hb3.mono (hb1.trans (hb2.mono hb1.size)).size);rw[E2]at Z4;subst hCS;generalize wb.alloc (.cells Ss.zeros 40)=w1 at*;obtain⟨g2,hg2⟩:∃g2,g2=w.heap.size:=⟨_,rfl⟩;rw[<-hg2]at S3 R4 Z4⊢;obtain⟨g3,hg3⟩:∃g3,g3=g2+1:=⟨_,rfl⟩;rw[<-hg3]at R4 Z4⊢;obtain⟨g4,hg4⟩:∃g4,g4=g3+1:=⟨_,rfl⟩;rw[<-hg4]at Z4⊢;have G2:Hid (w.heap.size<=g2):=Nat.le_of_eq hg2.symm;have N3:Hid (g2<g3):=by rw[hg3];exact Nat.lt_succ_self _
 have N4:Hid (g3<g4):=by rw[hg4];exact Nat.lt_succ_self _
 have S1:=zh S3;have R1:=zh R4;have Z1:=zh Z4;have B1:=zh B3;have RD1:=zh (h.on B3);have HC:=zh hc;have CP:=zh (jgg s ok r hin L V H w1 RD1.out);clear S2 R3 E1 E2 hb1 hb2 hb3 Z4 S3 R4 B3 hg2 hg3 hg4 hc;clear wb wa;go_upto_region 2 with(first
   |((with_reducible show zL 17);refine jbt rfl (.tmp 16) rfl rfl S1.out ?_)
   |((with_reducible show zL 18);refine zR (.tmp 3) R1.out ?_)
   |(go_at_call 43;(with_reducible refine CP.out.mono ?_);rintro e w7 ⟨L2,V2,H2,rfl,hrd,hb,hnew⟩;have NW:=zh hnew;have RD:=zh hrd;have B7:=zh hb;have X7:=zh (BkAt.zero w7);clear hnew hrd hb CP)
   |((with_reducible show zW);refine jac rfl (.tmp 6) (.tmp 20) rfl rfl rfl X7.out RD.out.one ?_))
 rw[World.setRow_alloc_new];have hb8:Below w7.heap.size w7 (w7.alloc (.cells (Bk.cells (Bk.app s r) L2 V2 H2) 38)):=(Below.refl _ _).alloc (Nat.le_refl _) _;have B8:=zh (B7.out.trans (hb8.mono B7.out.size));have RD8:=zh (RD.out.on hb8);have K8:=zh (BkAt.new w7 (Bk.app s r) L2 V2 H2);have R8:=zh (R1.out.on B8.out);have S8:=zh (S1.out.on B8.out);have Z8:Hid (_=_):=(B8.out.block g4 (Array.getElem?_eq_some_iff.1 Z1.out).1).trans Z1.out;have BW:=zh (B1.out.trans (B8.out.mono B1.out.size));have G6:Hid (w1.heap.size<=w7.heap.size):=B7.out.size;clear hb8 RD X7 R1 S1;obtain⟨g6,hg6⟩:∃g6,g6=w7.heap.size:=⟨_,rfl⟩;rw[<-hg6]at K8 G6⊢;clear hg6;generalize w7.alloc (.cells (Bk.cells (Bk.app s r) L2 V2 H2) 38)=w8 at*;have CY:=zh (fun W=>jg0 r hin W);unfold Rc.val at CY;rw[<-hp]at CY;generalize Rc.bytesE r=be at*;have PL:=zh hbl;have CA:=zh (fun W A2 c2 h2=>jl4 hok p.length c2 A2 p W h2 (by have:=PL.out;omega));rw[<-hd2,<-hae]at CA;have HA:=zh ha;clear hp hbl hd2 hae ha;have HC2:=HC.out;rw[HC2];clear HC2;go_upto_region 5 with(first
   |((with_reducible show zL 27);refine zR (.tmp 3) R8.out ?_)
   |(go_at_call 44;(with_reducible refine(CY.out _).mono ?_);rintro e w9 ⟨A9,c9,rfl,hsl,hb⟩;have SL:=zh hsl;have B9:=zh hb;clear hsl hb CY))
 have S9:=zh (S8.out.on B9.out);go_upto_region 6 with(first
   |((with_reducible show zL 33);refine jdj rfl (.tmp 32) rfl rfl S9.out ?_)
   |(go_at_call 45;(with_reducible refine(CA.out _ _ _ SL.out).mono ?_);rintro e w10 ⟨rfl,hb⟩;have B10:=zh (B9.out.trans (hb.mono B9.out.size));clear hb CA)
   |((with_reducible show zW);refine jck (d:=d2) rfl (.tmp 10) (.tmp 36) rfl rfl ?_))
 have hb11:Below w10.heap.size w10 (w10.alloc (.cells #[.int .i64 (d2.room:Nat),.string (tA d2),.string (tB d2)] 26)):=(Below.refl _ _).alloc (Nat.le_refl _) _;have B11:=zh (B10.out.trans (hb11.mono B10.out.size));have D11:=zh (DdAt.new w10 d2);obtain⟨g10,hg10⟩:∃g10,g10=w10.heap.size:=⟨_,rfl⟩;rw[<-hg10]at D11⊢;clear hb11 hg10 S9 SL B9 B10;generalize w10.alloc (.cells #[.int .i64 (d2.room:Nat),.string (tA d2),.string (tB d2)] 26)=w11 at*;have BX:=zh (BW.out.trans (B11.out.mono BW.out.size));have Z11:Hid (_=_):=(B11.out.block g4 (Array.getElem?_eq_some_iff.1 Z8.out).1).trans Z8.out;have S11:=zh (S8.out.on B11.out);have OK2:=zh hok2;clear hok2;have HA2:=HA.out;rw[HA2];clear HA2;have CS:=zh (fun W=>qSync OK2.out W);rw[<-hd3]at CS;clear hd3;generalize((Dk.opens d2:Nat):Int)=od at*;go_upto_region 9 with(first
   |((with_reducible show zL 43);refine jd2 rfl (.tmp 10) rfl rfl D11.out ?_)
   |(go_at_call 46;(with_reducible refine(CS.out _).mono ?_);rintro e w12 ⟨rfl,hb⟩;have B12:=zh (B11.out.trans (hb.mono B11.out.size));clear hb CS)
   |((with_reducible show zW);refine jck (d:=d3) rfl (.tmp 12) (.tmp 45) rfl rfl ?_))
 have hb13:Below w12.heap.size w12 (w12.alloc (.cells #[.int .i64 (d3.room:Nat),.string (tA d3),.string (tB d3)] 26)):=(Below.refl _ _).alloc (Nat.le_refl _) _;have B13:=zh (B12.out.trans (hb13.mono B12.out.size));have D13:=zh (DdAt.new w12 d3);have G13:Hid (w8.heap.size<=w12.heap.size):=B12.out.size;obtain⟨g12,hg12⟩:∃g12,g12=w12.heap.size:=⟨_,rfl⟩;rw[<-hg12]at D13 G13⊢;clear hb13 hg12 B12 D11 S11 Z11 BX B11;generalize w12.alloc (.cells #[.int .i64 (d3.room:Nat),.string (tA d3),.string (tB d3)] 26)=w13 at*;have S13:=zh (S8.out.on B13.out);have R13:=zh (R8.out.on B13.out);have L13:=zh ((hrow.on BW.out).on B13.out);have O0:=zh (OwF.none_ (enc:=Bk.rcC) (K:=18) 60 w13 w13.heap.size);have HN:=zh hn;clear hn hrow;have c4:=S13.out.c4;have lg:=S13.out.lt;go_upto_region 11 with(first
   |(at_builtin;refine jcv Bk.rcC_len Bk.rcC_one Tryz.underlying22 jbp rfl zv rfl (.tmp 47) (.tmp 49) rfl w13.heap.size _ [] ls rfl O0.out rfl L13.out (by have:=HN.out;simp;unfold maxLen;omega) (by have:=HN.out;simp;omega) (Nat.le_refl _) ?_;intro v1 w14 ho1 hb1 _ _;have O1:=zh ho1;have B14:=zh hb1;clear ho1 hb1))
 have O14:Hid (OwF Bk.rcC 18 60 w14 w13.heap.size v1 ls):=by have h1:=O1.out;rw[List.nil_append]at h1;exact h1
 have R14:=zh (R13.out.on B14.out);have g28:=S8.out.lt;have g48:=(Array.getElem?_eq_some_iff.1 Z1.out).1;have N2:Hid (g2<w1.heap.size):=by have h3:=N3.out;have h4:=N4.out;show _<_;omega
 clear c4 lg O1 O0 L13 g48;go_upto_region 12 with(first
   |((with_reducible show zL 52);refine zR (.tmp 3) R14.out ?_)
   |((with_reducible show zB 53);refine jbn Tryz.underlying22 jbp zv zv rfl (.tmp 52) rfl (Rc.cells r) rfl rfl ?_)
   |(at_builtin;refine jai Bk.rcC_len Bk.rcC_one Tryz.underlying22 jbp rfl zv rfl (.tmp 51) (.tmp 53) rfl w13.heap.size v1 ls rfl O14.out r rfl (by have:=HN.out;unfold maxLen;omega) (by have:=HN.out;omega) B14.out.size ?_;intro v2 w15 ho hb _ _;obtain⟨A2,c2,rfl⟩:=ho.form;rw[show(ls++[r]).length=ls.length+1 from by simp]at ho⊢;have O15:=zh ho;have B15:=zh (B14.out.trans hb);have S15:=zh (S13.out.on B15.out);have c4:=S15.out.c4;have lg:=S15.out.lt;have f4:=S15.out.frz 4;clear ho hb))
 have X15:=zh (B13.out.trans (B15.out.mono B13.out.size));have K15:=zh (K8.out.on X15.out);have D15:=zh (D13.out.on B15.out);have RD15:=zh (RD8.out.on X15.out);have Z15:Hid (_=_):=(X15.out.block g4 (Array.getElem?_eq_some_iff.1 Z8.out).1).trans Z8.out;have BY:=zh (BW.out.trans (X15.out.mono BW.out.size));have W1:Hid (w1.heap.size<=w13.heap.size):=Nat.le_trans B8.out.size B13.out.size;have W8:Hid (w1.heap.size<=w8.heap.size):=B8.out.size;have NR:Hid (∀g,w.heap.size<=g->g<w1.heap.size->¬je6 L2 V2 H2 g):=fun g h1 h2 hx=>by
  rcases jen NW.out hx with h3|h3
  ·have:=row_lt h h3;omega
  ·omega
 have NO:Hid (∀g,g<w1.heap.size->(Value.slice A2 (ls.length+1) c2).ownBlock≠some g):=fun g h1 e=>by have h2:=(O15.out.lt g e).1;have h3:=W1.out;omega
 have hw:(w15.setCell ⟨g2,4,none⟩ (.slice A2 (ls.length+1) c2))=w15.setCells g2 4 [.slice A2 (ls.length+1) c2]:=rfl;rw[hw];clear hw c4 lg f4;have e16:=jbi g2 [.slice A2 (ls.length+1) c2] 4 w15;have S16:=zh (S15.out.setRows (.slice A2 (ls.length+1) c2));have D16:Hid (DdAt (w15.setCells g2 4 [.slice A2 (ls.length+1) c2]) g12 d3):=⟨(e16.block g12 D15.out.lt (fun e=>by injection e with e;have:=N2.out;have:=W8.out;have:=G13.out;omega)).trans D15.out.row⟩
 have K16:Hid (BkAt (w15.setCells g2 4 [.slice A2 (ls.length+1) c2]) g6 (Bk.app s r) L2 V2 H2):=zh (K15.out.keep (e16.block g6 K15.out.lt (fun e=>by injection e with e;have:=N2.out;have:=G6.out;omega)))
 have Z16:Hid (_=_):=(e16.block g4 (Array.getElem?_eq_some_iff.1 Z15.out).1 (fun e=>by injection e with e;have:=N3.out;have:=N4.out;omega)).trans Z15.out
 have RD16:=zh (jdq RD15.out e16 (NR.out _ G2.out N2.out));have O16:=zh (O15.out.kept e16 (NO.out _ N2.out));have BY16:=zh (BY.out.grown e16 BY.out.size fun k e=>by injection e with e;exact e▸G2.out)
 clear e16 O15 RD15 Z15 K15 D15 S15 BY;generalize w15.setCells g2 4 [.slice A2 (ls.length+1) c2]=w16 at*;go_upto_region 13 with(first
   |((with_reducible show zL 56);refine jd2 rfl (.tmp 12) rfl rfl D16.out ?_)
   |((with_reducible show zW);refine jfv (d:=d3) rfl (.tmp 57) (.tmp 56) rfl rfl rfl S16.out ?_))
 have e17:=jbi g2 [.int .i64 (d3.room:Nat),.string (tA d3),.string (tB d3)] 1 w16;have S17:=zh (S16.out.setDisk (d3.room:Nat) (tA d3) (tB d3));have K17:Hid (BkAt (w16.setCells g2 1 [.int .i64 (d3.room:Nat),.string (tA d3),.string (tB d3)]) g6 (Bk.app s r) L2 V2 H2):=zh (K16.out.keep (e17.block g6 K16.out.lt (fun e=>by injection e with e;have:=N2.out;have:=G6.out;omega)))
 have Z17:Hid (_=_):=(e17.block g4 (Array.getElem?_eq_some_iff.1 Z16.out).1 (fun e=>by injection e with e;have:=N3.out;have:=N4.out;omega)).trans Z16.out
 have RD17:=zh (jdq RD16.out e17 (NR.out _ G2.out N2.out));have O17:=zh (O16.out.kept e17 (NO.out _ N2.out));have BY17:=zh (BY16.out.grown e17 BY16.out.size fun k e=>by injection e with e;exact e▸G2.out)
 clear e17 O16 RD16 Z16 K16 D16 S16 BY16;generalize w16.setCells g2 1 [.int .i64 (d3.room:Nat),.string (tA d3),.string (tB d3)]=w17 at*;go_upto_region 14 with(first
   |((with_reducible show zL 58);refine jab rfl (.tmp 6) rfl rfl K17.out ?_)
   |((with_reducible show zW);refine jfu rfl (.tmp 59) (.tmp 58) rfl rfl rfl S17.out RD17.out.one ?_))
 have e18:=jbi g2 (Bk.cells (Bk.app s r) L2 V2 H2).toList 5 w17;have S18:=zh (S17.out.setBook (Bk.app s r) L2 V2 H2);have Z18:Hid (_=_):=(e18.block g4 (Array.getElem?_eq_some_iff.1 Z17.out).1 (fun e=>by injection e with e;have:=N3.out;have:=N4.out;omega)).trans Z17.out
 have RD18:=zh (jdq RD17.out e18 (NR.out _ G2.out N2.out));have O18:=zh (O17.out.kept e18 (NO.out _ N2.out));have BY18:=zh (BY17.out.grown e18 BY17.out.size fun k e=>by injection e with e;exact e▸G2.out)
 clear e18 O17 RD17 Z17 K17 S17 BY17;generalize w17.setCells g2 5 (Bk.cells (Bk.app s r) L2 V2 H2).toList=w18 at*
 go_wp2_with(first
   |((with_reducible show zL 60);refine jbj rfl (.tmp 2) rfl rfl S18.out ?_)
   |((with_reducible show zW);refine jas rfl (.tmp 4) (.tmp 60) rfl rfl rfl Z18.out rfl (Ss.one (l:= .slice A2 (ls.length+1) c2) rfl RD18.out.one) ?_))
 have G4:w.heap.size<=g4:=by have h2:=G2.out;have h3:=N3.out;have h4:=N4.out;omega
 have L4:g4<w1.heap.size:=(Array.getElem?_eq_some_iff.1 Z1.out).1;have hg:=ja2 w18 g4 (Ss.cs m (d3.room:Nat) (tA d3) (tB d3) (.slice A2 (ls.length+1) c2) (Bk.cells (Bk.app s r) L2 V2 H2)).toArray;exact bodyPost_ret (v:= .tuple #[.agg (Ss.cs m (d3.room:Nat) (tA d3) (tB d3) (.slice A2 (ls.length+1) c2) (Bk.cells (Bk.app s r) L2 V2 H2)).toArray,.int .i64 0]) (jd7 Tryz.results20 _ rfl ⟨setRow_heap _ g4 _ _ _ _ Z18.out⟩) rfl ⟨A2,c2,L2,V2,H2,rfl,(O18.out.kept hg (NO.out _ L4)).sl,jdq RD18.out hg (NR.out _ G4 L4),BY18.out.grown hg BY18.out.size (fun k e=>by injection e with e;exact e▸G4),⟨jcd NW.out.1 B1.out.size,jcd NW.out.2.1 B1.out.size,jcd NW.out.2.2 B1.out.size⟩,fun b o e=>by have h1:=(O18.out.lt b (by rw[e];rfl)).1;have h2:=W1.out;have h3:=B1.out.size;omega⟩
theorem jll{d:Dk.St}(h:Dk.Okay d)(p:List Nat):Dk.Okay (Jn.app d p):=by
 unfold Jn.app;split
 ·exact h
 ·exact h.write _
theorem jr3{w w':World}{s:Bk.St}{L V H:Value}(h:BkRd w s L V H)(hz:w.heap.size<=w'.heap.size)(hk:∀b,je6 L V H b->w'.heap[b]? =w.heap[b]?):BkRd w' s L V H:=by
 obtain⟨⟨A1,c1,e1,h1⟩,⟨A2,c2,e2,h2⟩,⟨A3,c3,e3,h3⟩⟩:=h;exact⟨⟨A1,c1,e1,h1.keep hz fun b o e hl=>hk b ⟨A1,_,c1,o,.inl e1,e,hl⟩⟩,⟨A2,c2,e2,h2.keep hz fun b o e hl=>hk b ⟨A2,_,c2,o,.inr (.inl e2),e,hl⟩⟩,⟨A3,c3,e3,h3.keep hz fun b o e hl=>hk b ⟨A3,_,c3,o,.inr (.inr e3),e,hl⟩⟩⟩
section
variable{w0 W W':World}{G:Nat->Prop}{p R g:Nat}{m:Int}{Ls:List Rc.R}
theorem SA.lts(h:SA w0 G p m R Ls W):∀i,G i->i<W.heap.size:=by
 obtain⟨_,r,q,b,X,h1,_⟩:=h;exact h1.g
theorem SA.grown(h:SA w0 G p m R Ls W)(hg:W.grownBy W' (some g))(hG:G g)(h0:w0.heap.size<=g):SA w0 G p m R Ls W':=by
 obtain⟨hT,r,q,b,X,h1,h2⟩:=h;have hk:Kept (fun i=>i=g) W W':=Kept.of_grown hg fun k e=>by injection e with e;exact e.symm
 have hb:=h1.below.grown hg h1.below.size fun k e=>by injection e with e;exact e▸h0
 refine⟨hT,r,q,b,X,⟨(hk.block p h1.lt fun e=>h1.pG.1 (e▸hG)).trans h1.row,h1.jr.keep fun i hi hl=>hk.block i hl fun e=>(h1.inX i hi).2.2.2 (e▸hG),fun i hi=>⟨(h1.inX i hi).1,Nat.lt_of_lt_of_le (h1.inX i hi).2.1 hk.size,(h1.inX i hi).2.2⟩,h1.pG,fun i hi=>Nat.lt_of_lt_of_le (h1.g i hi) hk.size,hb⟩,jb7 (jld h2 hk (fun i hi _=> .inl (hi▸hG)) (fun i hi=>hi▸h0)) fun i hi=> .inl hi⟩
end
section
variable{w0 W W':World}{p R g:Nat}{m:Int}{Ls:List Rc.R}{s:Bk.St}{L V H:Value}
end
end Go.Proofs.YtpehidgjfcfjoaaGreatDoor
namespace Go.Proofs.YtpehidgjfcfjoaaGreatDoor
open Go.RowKit
def sv1:Rc.R:=⟨1,1,0,0,9,⟨#[]⟩,Spc.zero⟩
def sv2:Rc.R:=⟨2,1,0,1,0,⟨#[120]⟩,Spc.zero⟩
theorem jr4:Rc.right sv1=true:=by decide
theorem jr5:Rc.right sv2=true:=by decide
theorem sv1_chk:Bk.chk (Bk.all 0 []) sv1=0:=by decide
theorem sv2_chk:Bk.chk (Bk.all 0 [sv1]) sv2=0:=by decide
theorem jr6:(Rc.bytes sv1).length=6:=by decide+kernel
theorem jr7:(Rc.bytes sv2).length=7:=by decide+kernel
theorem sv_com:So.com 0 100 [] sv1=[sv1]/\So.comE 0 100 [] sv1=0:=So.com_fits sv1_chk (by unfold So.Fits;rw[jr6];decide)
theorem sv_tor:So.tor 0 100 [sv1] sv2 0=[sv1]/\So.torE 0 100 [sv1] sv2=13:=by
 have h:=So.tor_fits (m:=0) (R:=100) (L:=[sv1]) (r:=sv2) 0 sv2_chk (by unfold So.Fits So.ens;rw[jr7];show(Fr.all [Rc.bytes sv1]).length+(7+6)<=100;rw[Fr.all_one,Fr.fr_length,jr6];decide);rw[if_neg (show¬So.Kept sv2 0 by unfold So.Kept;rw[jr7];decide)]at h;exact h
theorem sv_ep:(Bk.all 0 [sv1]).ep=1:=by decide
theorem sv_till:(Bk.all 0 [sv1]).till=9:=by decide
open Go.Deep Go.Maps
theorem So.torn_is{m:Int}{R:Nat}{L:List Rc.R}{rc:Rc.R}(ht:So.Took m L)(h0:Bk.chk (Bk.all m L) rc=0)(keep:Int):
  Jn.torn (So.disk R L) (Rc.bytes rc) keep=So.disk R (So.tor m R L rc keep)/\Jn.tornE (So.disk R L) (Rc.bytes rc)=So.torE m R L rc/\So.Took m (So.tor m R L rc keep)/\(So.tor m R L rc keep).length<=L.length+1:=by
 have hr:=Bk.chk_right h0;by_cases hf:So.Fits R L rc
 ·have h1:=So.disk_torn (So.took_right ht) hr hf keep
  have h2:=So.tor_fits keep h0 hf;rw[h1.1,h1.2,h2.1,h2.2];by_cases hk:So.Kept rc keep
  ·rw[if_pos hk,if_pos hk];exact⟨rfl,rfl,So.took_snoc ht h0,by rw[List.length_append];exact Nat.le_refl _⟩
  ·rw[if_neg hk,if_neg hk];exact⟨rfl,rfl,ht,zv⟩
 ·have h1:=So.disk_torn_full hr hf keep
  have h2:=So.tor_full keep h0 hf;rw[h1.1,h1.2,h2.1,h2.2];exact⟨rfl,rfl,ht,zv⟩
theorem jn4{w0 W:World}{G:Nat->Prop}{p R:Nat}{m:Int}{L:List Rc.R}(h:SA w0 G p m R L W)(ht:BT w0){rc:Rc.R}(hr:Rc.In rc)(keep:Int)(hn:L.length+1<=1000):
  Calls Tryz.prog 15 #[.pointer (some ⟨p,0,none⟩),.agg (Rc.cells rc),.int .i64 keep] W (SRes w0 G p m R (So.tor m R L rc keep) (.int .i64 (So.torE m R L rc)) W):=by
 have HN:=zh hn;clear hn;obtain⟨L2,hL2⟩:∃L2,L2=So.tor m R L rc keep:=⟨_,rfl⟩;obtain⟨E2,hE2⟩:∃E2,E2=So.torE m R L rc:=⟨_,rfl⟩;rw[<-hL2,<-hE2];have HC:=zh (And.intro hL2 hE2);clear hL2 hE2;have HR:=zh hr;have HT:=zh ht;have TK:=zh h.took;have HRT:=zh h.right;obtain⟨g,hg⟩:∃g,g=W.heap.size:=⟨_,rfl⟩;have h1:=h.rec rc;rw[<-hg]at h1;have O1:Hid (∀i,G i->(W.alloc (.cells (Rc.cells rc) 60)).heap[i]? =W.heap[i]?):=by
  obtain⟨_,r,q,b,X,h2,_⟩:=h;exact fun i hi=>((Below.refl W.heap.size W).alloc (Nat.le_refl _) _).block i (h2.g i hi)
 have RA:Hid (RcAt (W.alloc (.cells (Rc.cells rc) 60)) g rc):=by rw[hg];exact RcAt.new W rc
 clear h hr ht;obtain⟨W1,hW1⟩:∃W1,W1=W.alloc (.cells (Rc.cells rc) 60):=⟨_,rfl⟩;rw[<-hW1]at h1 O1 RA;obtain⟨_,r,q,b,X,hj,hk⟩:=h1;have J1:=zh hj;have K1:=zh hk;have CF:=zh (jjw hj hk (HT.out.on0 hj.below) rc HR.out);have EQ:Hid (Bk.chk (Bk.all m L) rc=0->Rc.right rc=true):=fun h0=>Bk.chk_right h0;clear hj hk;obtain⟨s,hs⟩:∃s,s=Bk.all m L:=⟨_,rfl⟩;rw[<-hs]at CF K1 EQ;have HS:=zh hs;clear hs;go_enter_defers Tryz.func15,Tryz.ntmps15;go_upto_region 1 with fail
 rw[<-hW1];rw[<-hg];clear hW1 hg;obtain⟨ans,hans⟩:∃ans,ans=Bk.chk s rc:=⟨_,rfl⟩;rw[<-hans]at CF EQ;have AN:=zh hans;clear hans;by_cases h0:ans=0
 ·have HZ:Hid (Bk.chk s rc=0):=AN.out.symm.trans h0
  have RT:=zh (EQ.out h0);have TI:=zh (So.torn_is (R:=R) TK.out (by rw[<-HS.out];exact HZ.out) keep);rw[<-HC.out.1,<-HC.out.2]at TI;subst h0;go_upto_region 4 with(first
   |((with_reducible show zL 11);refine zR (.tmp 4) RA.out ?_)
   |(go_at_call 33;(with_reducible refine CF.out.mono ?_);rintro e w2 ⟨A,n,c,rfl,hs,hb⟩;have J2:=zh (J1.out.on hb);have K2:=zh (jb6 K1.out hb);have R2:=zh (RA.out.on hb);have O2:=zh (fun i (hi:G i)=>(hb.block i (J1.out.g i (.inl hi))).trans (O1.out i hi));have S2:=zh hs;clear hb hs CF J1 K1 O1 RA))
  have S3:=zh (S2.out (by trivial));clear S2;have CA:=zh (jTorn_x (keep:=keep) J2.out.jrn J2.out.fresh S3.out (by rw[S3.out.len];have:=Rc.bytes_len RT.out;omega));rw[TI.out.1,TI.out.2.1]at CA;have lq2:=J2.out.lt;have c12:=J2.out.cells.2.2.1;go_wp2_with(go_at_call 36;(with_reducible refine CA.out.mono ?_);rintro e w3 ⟨rfl,hj,hk⟩;have J3:=zh (J2.out.turn hj hk);have O3:=zh (fun i (hi:G i)=>(J2.out.others hk i (.inl hi)).trans (O2.out i hi));clear hj hk CA lq2 c12);have J4:=J3.out;unfold So.disk at J4;rw[<-So.ens_len L2]at J4;have RL:=So.took_right TI.out.2.2.1;have CL:=jg4 J4 HT.out (So.ens_ok RL) (by rw[So.ens_len];have:=TI.out.2.2.2;have:=HN.out;omega);unfold LdPost at CL;rw[So.recs_ens RL,So.pre_all TI.out.2.2.1]at CL;refine jhv (by simp[go_sem]) CL ?_;rintro e w9 ⟨rfl,hs9,ho9⟩;exact⟨_,rfl,_,results_tmp rfl _ _ _,rfl,hs9.less (fun i hi=> .inl hi),fun i hi=>(ho9 i (.inl hi)).trans (O3.out i hi)⟩
 ·have h1:(ans !=0)=true:=by simpa using h0
  go_wp2_with(first
   |((with_reducible show zL 11);refine zR (.tmp 4) RA.out ?_)
   |(go_at_call 33;(with_reducible refine CF.out.mono ?_);rintro e w2 ⟨A,n,c,rfl,hs,hb⟩;have J2:=zh (J1.out.on hb);have K2:=zh (jb6 K1.out hb);have R2:=zh (RA.out.on hb);have O2:=zh (fun i (hi:G i)=>(hb.block i (J1.out.g i (.inl hi))).trans (O1.out i hi));have S2:=zh hs;clear hb hs CF J1 K1 O1 RA))
  have C:=So.tor_no (R:=R) (L:=L) (m:=m) (r:=rc) keep (by rw[<-HS.out,<-AN.out];exact h0);rw[<-HC.out.1,<-HC.out.2,<-HS.out,<-AN.out]at C;have K4:=K2.out;rw[HS.out]at K4;refine⟨_,results_tmp rfl _ _ _,by rw[C.2];rfl,?_,O2.out⟩;rw[C.1];exact SA.less (F:=G) ⟨TK.out,r,q,b,_,J2.out,K4⟩ (fun i hi=> .inl hi)
theorem So.opened_is{d:Dk.St}(hb:Jn.Byt d):Jn.opened d=Jn.Js d.room (Jn.ents d).length (Jn.ents d):=by
 obtain⟨h1,h2,h3,_,_⟩:=Jn.opened_l d hb;unfold Jn.Js;rw[List.take_length,<-h1];rw[<-h1]at h2;generalize Jn.opened d=x at*
 cases x
 simp only at h2 h3;subst h2 h3;rfl
noncomputable def So.of(m:Int)(bs:List Nat):List Rc.R:=So.pre (Bk.new m) (So.recs (Fr.scan bs).1)
def noG:Nat->Prop:=fun _=>False
theorem jg5(W:World){A:Option Addr}{n c:Nat}{bs:List Nat}(hs:Sl W A n c bs)(room margin:Int)(ht:BT W)(hf:bs.length<=Dk.fits room)(hn:(Fr.scan bs).1.length<=1000):Calls Tryz.prog 7 #[.slice A n c,.int .i64 room,.int .i64 margin] W (fun e w'=>∃p,e= .returned (.tuple #[.pointer (some ⟨p,0,none⟩),.int .i64 (((Fr.scan bs).1.length:Int) -((So.of margin bs).length:Nat)),.int .i64 0])/\SA W noG p margin (Dk.fits room) (So.of margin bs) w'):=by
 unfold So.of;have S0:=zh hs;have HT:=zh ht;have HB:=zh hs.rd.1;have CN:=zh (dNew_at W room (Below.refl _ _));clear hs ht;have e1:Dk.swap (Dk.new room) bs=⟨Dk.fits room,bs.length,bs⟩/\Dk.swapE (Dk.new room) bs=0:=by
  unfold Dk.swap Dk.swapE;rw[if_pos (show bs.length<=(Dk.new room).room from hf),if_pos (show bs.length<=(Dk.new room).room from hf)];exact⟨rfl,rfl⟩
 have E1:=zh e1;have HN:=zh hn;have OD:=zh (So.opened_is (d:=⟨Dk.fits room,bs.length,bs⟩) HB.out);have SG:=zh (Jn.scan_gives bs HB.out);clear e1 hf hn;obtain⟨ps,hps⟩:∃ps,ps=(Fr.scan bs).1:=⟨_,rfl⟩;rw[<-hps]at HN SG⊢;have e2:Jn.ents ⟨Dk.fits room,bs.length,bs⟩=ps:=hps.symm;rw[e2]at OD;clear e2 hps;go_in;go_upto_region 2 with(go_at_call 22;(with_reducible refine CN.out.mono ?_);rintro e w1 ⟨r,rfl,hr,hd1,hb1,_⟩;have D1:=zh hd1;have B1:=zh hb1;clear hr hd1 hb1 CN)
 have CS:=zh (jto w1 B1.out D1.out (S0.out.on B1.out));rw[E1.out.1,E1.out.2]at CS;go_upto_region 5 with(go_at_call 23;(with_reducible refine CS.out.mono ?_);rintro e w2 ⟨rfl,hd2,hb2⟩;have D2:=zh hd2;have B2:=zh hb2;clear hd2 hb2 CS)
 have CO:=zh (jOpen_x w2 (X:=fun i=>W.heap.size<=i) (D2.out.toX fun i hi _=>hi) (fun i hi=>Nat.le_trans B2.out.size hi) HB.out);rw[OD.out]at CO;obtain⟨cl,hcl⟩:∃cl:Int,cl=((((⟨Dk.fits room,bs.length,bs⟩:Dk.St).l.length:Nat):Int) -(Jn.cutN ⟨Dk.fits room,bs.length,bs⟩:Nat)):=⟨_,rfl⟩;rw[<-hcl]at CO;clear hcl;obtain⟨q,hq⟩:∃q,q=w2.heap.size:=⟨_,rfl⟩;rw[<-hq]at CO;clear hq;clear OD;go_upto_region 7 with(go_at_call 24;(with_reducible refine CO.out.mono ?_);rintro e w3 ⟨rfl,hj3,hk3⟩;have J3:=zh hj3;have B3:=zh (B2.out.trans (hk3.below B2.out.size fun i hi=>hi));have Z3:=zh hk3.size;clear hj3 hk3 CO)
 have hb4:Below w3.heap.size w3 (w3.alloc (.cells #[.pointer (some ⟨r,0,none⟩),.pointer (some ⟨q,0,none⟩),.pointer none,.int .i64 margin] 73)):=(Below.refl _ _).alloc (Nat.le_refl _) _;have J4:Hid (StJ W noG w3.heap.size margin (Jn.Js (Dk.fits room) ps.length ps) (.pointer none) r q (fun i=>W.heap.size<=i/\i<w3.heap.size) (w3.alloc (.cells #[.pointer (some ⟨r,0,none⟩),.pointer (some ⟨q,0,none⟩),.pointer none,.int .i64 margin] 73))):=
  ⟨heap_alloc_new w3 _,(J3.out.more fun i hi hl=>⟨hi,hl⟩).below hb4,fun i hi=>⟨hi.1,Nat.lt_of_lt_of_le hi.2 hb4.size,Nat.ne_of_lt hi.2,fun hf=>hf⟩,⟨fun hf=>hf,B3.out.size⟩,fun i hi=>hi.elim,B3.out.trans (hb4.mono B3.out.size)⟩
 have CL:=zh (jg4 J4.out HT.out SG.out.1 HN.out).1;clear hb4 J3 D2 D1;obtain⟨p,hp⟩:∃p,p=w3.heap.size:=⟨_,rfl⟩;rw[<-hp]at CL⊢;clear hp J4;generalize w3.alloc (.cells #[.pointer (some ⟨r,0,none⟩),.pointer (some ⟨q,0,none⟩),.pointer none,.int .i64 margin] 73)=w4 at*;go_wp2_with(go_at_call 25;(with_reducible refine CL.out.mono ?_);rintro e w5 ⟨rfl,hs5,_⟩;have A5:=zh hs5;clear hs5 CL);go_ret3;exact⟨p,rfl,A5.out⟩
theorem jj0(W:World)(room margin:Int)(ht:BT W):Calls Tryz.prog 13 #[.int .i64 room,.int .i64 margin] W (fun e w'=>∃p,e= .returned (.pointer (some ⟨p,0,none⟩))/\SA W noG p margin (Dk.fits room) [] w'):=by
 have C:=zh (jg5 W (Sl.none_ W) room margin ht (Nat.zero_le _) (by rw[Fr.scan_nil];exact Nat.zero_le _));have e:So.of margin []=[]:=by unfold So.of;rw[Fr.scan_nil];rfl
 rw[e,Fr.scan_nil]at C;clear ht e;go_in;go_wp2_with(go_at_call 7;(with_reducible refine C.out.mono ?_);rintro e w1 ⟨p,rfl,hs⟩;have A1:=zh hs;clear hs);go_ret;exact⟨p,rfl,A1.out⟩
theorem jr8{w0 W:World}{G:Nat->Prop}{p R:Nat}{m:Int}{L:List Rc.R}(h:SA w0 G p m R L W):Calls Tryz.prog 16 #[.pointer (some ⟨p,0,none⟩)] W (je9 W (.int .i64 (L.length:Nat))):=by
 have HR:=h.right;obtain⟨_,r,q,b,X,h1,_⟩:=h;have lq:=h1.lt;have cc:=h1.cells.2.2.1;have C:=zh (juh h1.jr.ask);have e0:(Fr.scan (So.disk R L).l).1=So.ens L:=Jn.js_ents (So.ens_ok HR);rw[e0,So.ens_len]at C;clear h1 HR;go_in;go_wp2_with(go_at_call 37;(with_reducible refine C.out.mono ?_);rintro e w1 ⟨rfl,hb⟩);go_ret;exact⟨rfl,hb⟩
theorem jlm{w0 W:World}{G:Nat->Prop}{p R:Nat}{m:Int}{L:List Rc.R}(h:SA w0 G p m R L W):Calls Tryz.prog 6 #[.pointer (some ⟨p,0,none⟩)] W (jes (Fr.all (So.ens L)) W):=by
 have HR:=h.right;obtain⟨_,r,q,b,X,h1,_⟩:=h;have lq:=h1.lt;have cc:=h1.cells.2.1;have C:=zh (jmb W h1.jr.dsk);clear h1 HR;go_in;go_wp2_with(go_at_call 21;(with_reducible refine C.out.mono ?_);rintro e w1 ⟨A,c,rfl,ho,hb⟩);go_ret;exact⟨A,c,rfl,ho,hb⟩
theorem jbv{w0 W:World}{G:Nat->Prop}{p R:Nat}{m:Int}{L:List Rc.R}(h:SA w0 G p m R L W)(hn:L.length<=1000):Calls Tryz.prog 8 #[.pointer (some ⟨p,0,none⟩)] W (js4 Bk.rcC L W):=by
 have HRT:=zh h.right;have HN:=zh hn;obtain⟨_,r,q,b,X,h1,_⟩:=h;have lq:=h1.lt;have c1:=h1.cells.2.2.1;have CA:=zh (jmc h1.jr.ask);have e0:(Fr.scan (So.disk R L).l).1=So.ens L:=Jn.js_ents (So.ens_ok HRT.out);rw[e0]at CA;unfold JAllF at CA;unfold js4;rw[So.ens_len]at CA;clear h1 e0 hn;obtain⟨own,hown⟩:∃own:Value,own= .slice none 0 0:=⟨_,rfl⟩;obtain⟨n,hnn⟩:∃n,n=L.length:=⟨_,rfl⟩;have NL:=zh hnn;rw[<-hnn]at CA HN⊢;clear hnn;have OWN:=zh hown;go_in;go_upto_region 5 with(go_at_call 26;(with_reducible refine CA.out.mono ?_);rintro e w3 ⟨A3,c3,rfl,ho3,hb3⟩;have OF3:=zh ho3;have B3:=zh hb3;clear ho3 hb3)
 clear lq c1 CA;have S3:=zh (jdy (by rw[So.ens_len];exact NL.out) OF3.out);have Z3:=zh B3.out.size;have hcap:=S3.out.cap;have hmax:=S3.out.max;unfold maxLen at hmax;have hn2:(n:Int)<=1000:=by have:=HN.out;omega
 rw[<-OWN.out];clear hown;go_loopw [3,16] (fun v i wr=>∃j:Nat,j<=n/\i= .int .i64 j/\OwF Bk.rcC 18 60 wr w3.heap.size v (L.take j)/\Below w3.heap.size w3 wr) (fun _ i _=>n -(intOf i).toNat)
 case atStart=>exact⟨0,Nat.zero_le _,rfl,by rw[OWN.out];exact OwF.none_ _ _ _,Below.refl _ _⟩
 case round=>
  obtain⟨j,hj,rfl,ho4,hb4⟩:=hrel;have O4:=zh ho4;have B4:=zh hb4;have S4:=zh (S3.out.on hb4);clear ho4 hb4;have i1:(0:Int)<=(j:Int):=by omega
  by_cases hlt:j<n
  ·have HLT:Hid (j<L.length):=by show _<_;have:=NL.out;omega
   obtain⟨b3,o3,hA3,hb3,hc3⟩:=S4.out.rd (by rw[So.ens_len];have:=HLT.out;omega);obtain⟨A4,n4,c4,hcell,hs4⟩:=hc3 j (by rw[So.ens_len];exact HLT.out);have hx:(So.ens L).getD j []=Rc.bytes (L[j]'HLT.out):=by rw[List.getD_eq_getElem?_getD,List.getElem?_eq_getElem (by rw[So.ens_len];exact HLT.out)];unfold So.ens;rw[List.getElem_map];rfl
   have TK:L.take (j+1)=L.take j++[L[j]'HLT.out]:=List.take_succ_eq_append_getElem HLT.out;have RT:=zh (HRT.out _ (List.getElem_mem HLT.out));rw[hx]at hs4;generalize L[j]'HLT.out=rc at*;have hn4:n4<=1000:=by have:=hs4.len;have:=Rc.bytes_len RT.out;omega
   have CR:=zh (jjz wr A4 n4 c4 _ hs4 hn4);rw[(Rc.rd_back RT.out).1,(Rc.rd_back RT.out).2]at CR;have TK:=zh TK;clear hx hc3 hs4 hn4;subst hA3;have q1:((j:Nat):Int)<(n:Nat):=by omega
   go_upto_region 8 with(first
   |(go_at_call 27;(with_reducible refine CR.out.mono ?_);rintro e w4 ⟨rfl,hb5⟩;have O5:=zh (O4.out.below hb5);have B5:=zh (B4.out.trans (hb5.mono B4.out.size));clear hb5 CR)
   |((with_reducible show zW);refine jaa rfl (.tmp 6) (.tmp 23) rfl w4.heap.size rc Rc.none_ rfl rfl ⟨heap_alloc_new w4 _⟩ ?_))
   rw[World.setRow_alloc_new];have hb6:Below w4.heap.size w4 (w4.alloc (.cells (Rc.cells rc) 60)):=(Below.refl _ _).alloc (Nat.le_refl _) _;have RA:=zh (RcAt.new w4 rc);have O6:=zh (O5.out.below hb6);have B6:=zh (B5.out.trans (hb6.mono B5.out.size));clear hb6 O5 B5;obtain⟨g,hg⟩:∃g,g=w4.heap.size:=⟨_,rfl⟩;rw[<-hg]at RA⊢;clear hg;generalize w4.alloc (.cells (Rc.cells rc) 60)=w6 at*;clear hcell hb3
   go_wp2_with(first
   |((with_reducible show zL 26);refine zR (.tmp 6) RA.out ?_)
   |((with_reducible show zB 27);refine jbn Tryz.underlying22 jbp zv zv rfl (.tmp 26) rfl (Rc.cells rc) rfl rfl ?_)
   |(at_builtin;refine jai Bk.rcC_len Bk.rcC_one Tryz.underlying22 jbp rfl zv rfl (.tmp 25) (.tmp 27) rfl w3.heap.size _ _ rfl O6.out rc rfl (by have:=HN.out;have:=HLT.out;have:=NL.out;rw[List.length_take];unfold maxLen;omega) (by have:=HN.out;have:=HLT.out;have:=NL.out;rw[List.length_take];omega) B6.out.size ?_;intro v9 w9 ho9 hb9 hg9 hv9;have O9:=zh ho9;have B9:=zh (B6.out.trans hb9);clear ho9 hb9 hg9 hv9))
   exact⟨⟨j+1,zv,by go_num,by rw[TK.out];exact O9.out,B9.out⟩,by simp[intOf];omega⟩
  ·have q1:((n:Nat):Int)<=(j:Nat):=by omega
   have e:L.take j=L:=List.take_of_length_le (by have:=NL.out;omega);rw[e]at O4;obtain⟨A9,c9,rfl⟩:=O4.out.form;clear e;go_wp2;go_ret;have hn9:=NL.out;subst hn9;exact⟨A9,c9,rfl,O4.out.sl,B3.out.trans (B4.out.mono Z3.out),fun bb oo e=>Nat.le_trans Z3.out (O4.out.lt bb (by rw[e];rfl)).1⟩
theorem jfg{w0 W:World}{G:Nat->Prop}{p R:Nat}{m:Int}{L:List Rc.R}(h:SA w0 G p m R L W)(ht:BT w0)(hn:L.length<=1000):Calls Tryz.prog 12 #[.pointer (some ⟨p,0,none⟩)] W (fun e w'=>∃q',e= .returned (.pointer (some ⟨q',0,none⟩))/\BP W (fun _=>False) q' (Bk.all m L) w'):=by
 have CR:=zh (jbv (h.on (Below.refl W.heap.size W).drew) hn);have HN:=zh hn;have HT:=zh ht;have HIN:Hid (∀r∈L,Rc.In r):=fun r hr=>Rc.ok_in (Rc.ok_of (h.right r hr));obtain⟨_,r,q,b,X,h1,_⟩:=h;have J0:=zh h1;clear h1 hn ht;go_in;go_upto_region 3 with fail
 refine wp_region_held_drew (S:=fun V=>StJ w0 G p m (So.disk R L) (.pointer (some ⟨b,0,none⟩)) r q X V) zk (J0.out.on (Below.refl _ _).drew) (fun hS=> ?_);refine tY 0 hS ?_;refine tY 1 hS ?_;refine tY 2 hS ?_;refine tZ 3 rfl (by intro W hW;have lq:=hW.lt;have c3:=hW.cells.2.2.2.2;go_simp;(try with_reducible rfl)) hS ?_;refine tY 4 hS ?_;simp only[Act.put,zT,zO,zS];refine rO 5 (fun K hK=> ?_);go_simp
 with_reducible refine CR.out.mono ?_
 rintro e w4 ⟨A4,c4,rfl,hs4,hb,_⟩;have S4:=zh hs4;have B4:=zh hb;have CA:=zh (jig m A4 L.length c4 L HIN.out w4 hs4 (by have:=HN.out;omega) (HT.out.on0 (hS.on hb).below));clear hs4;replace hS:=hS.on hb;clear hb;refine hK.out _ _ hS (fun _=> ?_);clear hK K;try simp only[Act.put,zT,zO,zS]
 refine rO 6 (fun K hK=> ?_);go_simp
 with_reducible refine CA.out.mono ?_
 intro e w5 hp;obtain⟨q5,rfl,hb5⟩:=jlc hp;have K5:=zh hb5;have hb:=jbg hb5;have B5:=zh (B4.out.trans (hb.mono B4.out.size));clear hb5 hp;replace hS:=hS.on hb;clear hb;refine hK.out _ _ hS (fun _=> ?_);clear hK K;refine tY 7 hS ?_;refine tY 8 hS ?_;refine tY 9 hS ?_;refine tY 10 hS ?_;refine tY 11 hS ?_;simp only[Act.put,zT,zO,zS];refine wpAnyH_done zk ?_ _;clear hS;go_wp2;go_ret;exact⟨q5,rfl,jrk K5.out ((Below.refl W.heap.size W).drew.trans B4.out) (fun i hi=>hi.elim)⟩
theorem sv1_in:Rc.In sv1:=Rc.ok_in (Rc.ok_of jr4)
theorem sv2_in:Rc.In sv2:=Rc.ok_in (Rc.ok_of jr5)
theorem jn5(W:World)(ht:BT W):Calls Tryz.prog 4 #[] W (BRet (.bool true) W):=by
 have T0:=zh ht;have CN:=zh (jj0 W 100 0 ht);have CC:=zh (fun p w (h:SA W noG p 0 (Dk.fits 100) [] w)=>jfp h ht sv1_in);have CT:=zh (fun p w (h:SA W noG p 0 (Dk.fits 100) [sv1] w)=>jn4 h ht sv2_in 0 (by decide));have e100:Dk.fits 100=100:=rfl;rw[e100]at CN CC CT;rw[sv_com.1,sv_com.2]at CC;rw[sv_tor.1,sv_tor.2]at CT;have CL:=zh (fun p w (h:SA W noG p 0 100 [sv1] w)=>jr8 h);have CB:=zh (fun p w (h:SA W noG p 0 100 [sv1] w)=>jfg h ht (by decide));have hv0:∀w,(Instr.field 64 (.agg (Bk.viewC (Bk.all 0 [sv1]))) 0).run Tryz.prog w= .ok (.int .i64 1) w:=fun w=>by rw[vf0,sv_ep]
 have hv2:∀w,(Instr.field 64 (.agg (Bk.viewC (Bk.all 0 [sv1]))) 2).run Tryz.prog w= .ok (.int .i64 9) w:=fun w=>by rw[vf2,sv_till]
 clear ht e100;generalize Bk.all 0 [sv1]=s at*;go_in;go_upto_region 4 with(first
  |(go_at_call 13;(with_reducible refine CN.out.mono ?_);rintro e w1 ⟨p,rfl,hs⟩;have A0:=zh hs;clear hs)
  |((with_reducible show wpList _ _ _ ({dst:=some 6,op:= .build _ _,type:=_,pos:=_,after:=_,guard:=_}::_) _ _);refine jdh rfl 60 _ rfl (Rc.cells sv1) zk ?_)
  |((with_reducible show wpList _ _ _ ({dst:=some 9,op:= .build _ _,type:=_,pos:=_,after:=_,guard:=_}::_) _ _);refine jdh rfl 60 _ rfl (Rc.cells sv2) zk ?_)
  |(go_at_call 14;(with_reducible refine(CC.out _ _ A0.out).mono ?_);rintro e w2 ⟨rfl,hs,_⟩;have A1:=zh hs;clear hs A0)
  |(go_at_call 15;(with_reducible refine(CT.out _ _ A1.out).mono ?_);rintro e w3 ⟨rfl,hs,_⟩;have A2:=zh hs;clear hs A1))
 clear CN CC CT
 go_wp2_with(first
  |(go_at_call 16;(with_reducible refine(CL.out _ _ A2.out).mono ?_);rintro e w4 ⟨rfl,hb⟩;have A2:=zh (A2.out.on hb);clear hb)
  |(go_at_call 12;(with_reducible refine(CB.out _ _ A2.out).mono ?_);rintro e w5 ⟨q,rfl,hk⟩;have A2:=zh (A2.out.on (jbg hk));have K:=zh hk;clear hk)
  |(go_at_call 17;(with_reducible refine(bp_view K.out).mono ?_);rintro e w6 ⟨rfl,hb⟩;have A2:=zh (A2.out.on hb);clear hb K))
 go_ret;exact⟨rfl,A2.out.below⟩
def jil(g:Nat)(A:Option Addr)(L V H:Value)(i:Nat):Prop:=i=g\/je6 L V H i\/∃o,A=some ⟨i,o,none⟩
structure jcx(w0 W:World)(p:Nat)(m:Int)(R:Nat)(Ls:List Rc.R)(g:Nat)(A:Option Addr)(c:Nat)(L V H:Value):Prop where
 ss:SsAt W g m (R:Nat) (tA (So.disk R Ls)) (tB (So.disk R Ls)) (.slice A Ls.length c) (Bk.all m Ls) L V H
 rd:BkRd W (Bk.all m Ls) L V H
 row:SlF Bk.rcC W A Ls.length c Ls
 st:SA w0 (jil g A L V H) p m R Ls W
 ng:w0.heap.size<=g
 gn:¬je6 L V H g
 ga:∀o,A≠some ⟨g,o,none⟩
section
variable{w0 W W':World}{p R g c:Nat}{m:Int}{Ls:List Rc.R}{A:Option Addr}{L V H:Value}
theorem jcx.on(h:jcx w0 W p m R Ls g A c L V H)(hb:Below W.heap.size W W'):jcx w0 W' p m R Ls g A c L V H:=⟨h.ss.on hb,h.rd.on hb,h.row.on hb,h.st.on hb,h.ng,h.gn,h.ga⟩
theorem jcx.turn(h:jcx w0 W p m R Ls g A c L V H){L2:List Rc.R}{x:Value}{e:Ending}{w':World}(hr:SRes w0 (fun i=>jil g A L V H i\/(W.heap.size<=i/\i<W'.heap.size)) p m R L2 x W' e w')(hb:Below W.heap.size W W')(hz:W'.heap.size<=w'.heap.size):
  e= .returned x/\SsAt w' g m (R:Nat) (tA (So.disk R Ls)) (tB (So.disk R Ls)) (.slice A Ls.length c) (Bk.all m Ls) L V H/\BkRd w' (Bk.all m Ls) L V H/\SlF Bk.rcC w' A Ls.length c Ls/\SA w0 (jil g A L V H) p m R L2 w'/\∀i,W.heap.size<=i->i<W'.heap.size->w'.heap[i]? =W'.heap[i]? :=by
 have h2:=h.on hb;exact⟨hr.1,h2.ss.keep (hr.2.2 g (.inl (.inl rfl))),jr3 h2.rd hz fun b hb=>hr.2.2 b (.inl (.inr (.inl hb))),h2.row.keep hz fun b o e _=>hr.2.2 b (.inl (.inr (.inr ⟨o,e⟩))),hr.2.1.less fun i hi=> .inl hi,fun i h1 h3=>hr.2.2 i (.inr ⟨h1,h3⟩)⟩
theorem jcx.more(h:jcx w0 W p m R Ls g A c L V H)(hb:Below W.heap.size W W'):SA w0 (fun i=>jil g A L V H i\/(W.heap.size<=i/\i<W'.heap.size)) p m R Ls W':=h.st.more hb
end
theorem ju1(m:Int)(R:Nat)(L:List Rc.R)(r:Rc.R):(So.com m R L r).length<=L.length+1:=by
 unfold So.com;split
 ·rw[List.length_append];exact Nat.le_refl _
 ·omega
theorem SA.okd{w0 W:World}{G:Nat->Prop}{p R:Nat}{m:Int}{L:List Rc.R}(h:SA w0 G p m R L W):Dk.Okay (So.disk R L):=by
 obtain⟨_,r,q,b,X,h1,_⟩:=h;exact h1.jr.dsk.okay
def R13P(m:Int)(R:Nat)(A0:Option Addr)(Ls:List Rc.R)(L0 V0 H0:Value)(L2:List Rc.R)(x:Int)(w:World)(e:Ending)(w':World):Prop:=∃A c L V H,e= .returned (.tuple #[.agg (Ss.cs m (R:Nat) (tA (So.disk R L2)) (tB (So.disk R L2)) (.slice A L2.length c) (Bk.cells (Bk.all m L2) L V H)).toArray,.int .i64 x])/\SlF Bk.rcC w' A L2.length c L2/\BkRd w' (Bk.all m L2) L V H/\Below w.heap.size w w'/\jel w L0 V0 H0 L V H/\(A=A0\/(0<L2.length/\∀b o,A=some ⟨b,o,none⟩->w.heap.size<=b))
theorem zz29{p:Prop}(h:p:=by
 rintro e w' ⟨rfl,h3⟩;exact⟨A,c,L,V,H,rfl,hrow.on h3,h.on h3,h3,⟨.inl rfl,.inl rfl,.inl rfl⟩,.inl rfl⟩):p:=h
theorem jn6(m:Int)(R:Nat)(c:Nat)(A:Option Addr)(ls:List Rc.R)(hd:Dk.Okay (So.disk R ls))(hn:ls.length<=1000)(r:Rc.R)(hin:Rc.In r)(L V H:Value)(w:World)(h:BkRd w (Bk.all m ls) L V H)(hrow:SlF Bk.rcC w A ls.length c ls):Calls Tryz.prog 20 #[.agg (Ss.cs m (R:Nat) (tA (So.disk R ls)) (tB (So.disk R ls)) (.slice A ls.length c) (Bk.cells (Bk.all m ls) L V H)).toArray,.agg (Rc.cells r)] w (R13P m R A ls L V H (So.com m R ls r) (So.comE m R ls r) w):=by
 by_cases hc:Bk.chk (Bk.all m ls) r=0
 ·have hr:=Bk.chk_right hc
  have hb:=(Rc.bytes_yes hr).1.symm;have hl:(Rc.bytes r).length<=1000:=Nat.le_trans (Rc.bytes_len hr) zv;by_cases hf:So.Fits R ls r
  ·obtain⟨e1,e2⟩:=So.com_fits hc hf
   obtain⟨d1,d2⟩:=So.disk_app hr hf;rw[e1,e2];have AS:Bk.all m (ls++[r])=Bk.app (Bk.all m ls) r:=Bk.run_snoc _ _ _;refine(jr2 m (So.disk R ls) ls.length c A (Bk.all m ls) (Bk.all_ok m ls) r hin hc hd _ hb hl _ rfl (jll hd _) _ d1.symm 0 d2.symm rfl ls hn L V H w h hrow).mono ?_;rintro e w' ⟨A2,c2,L2,V2,H2,rfl,h1,h2,h3,h4,h5⟩;refine⟨A2,c2,L2,V2,H2,?_,?_,?_,h3,h4,.inr ⟨?_,h5⟩⟩
   ·rw[AS,List.length_append];rfl
   ·rw[List.length_append];exact h1
   ·rw[AS];exact h2
   ·rw[List.length_append];show 0<ls.length+1;omega
  ·obtain⟨e1,e2⟩:=So.com_full hc hf
   obtain⟨d1,d2⟩:=So.disk_full hr hf;rw[e1,e2];refine(jr1 m (So.disk R ls) ls.length c A (Bk.all m ls) (Bk.all_ok m ls) r hin hc hd _ hb hl _ d1.symm 4 d2.symm (by decide) L V H w h).mono ?_;exact zz29
 ·obtain⟨e1,e2⟩:=So.com_no (R:=R) hc
  rw[e1,e2];refine(jn3 m (So.disk R ls) ls.length c A (Bk.all m ls) (Bk.all_ok m ls) r hin hc L V H w h).mono ?_;exact zz29
section
variable{w0 w1 W W' wg w':World}{G:Nat->Prop}{p R g c c2:Nat}{m:Int}{Ls L2:List Rc.R}{A A2:Option Addr}{L V H L' V' H':Value}
theorem SA.base(h:SA w1 G p m R Ls W)(hb:Below w0.heap.size w0 w1):SA w0 (fun i=>G i\/(w0.heap.size<=i/\i<w1.heap.size)) p m R Ls W:=by
 obtain⟨h0,r,q,b,X,h1,h2⟩:=h;obtain⟨Y,e1,e2,e3,e4⟩:=h2;have hz:=hb.size;refine⟨h0,r,q,b,X,⟨h1.row,h1.jr,fun i hi=>⟨Nat.le_trans hz (h1.inX i hi).1,(h1.inX i hi).2.1,(h1.inX i hi).2.2.1,fun hf=>hf.elim (h1.inX i hi).2.2.2 fun h=>by have:=(h1.inX i hi).1;omega⟩,⟨fun hf=>hf.elim h1.pG.1 fun h=>by have:=h1.pG.2;omega,Nat.le_trans hz h1.pG.2⟩,fun i hi=>hi.elim (h1.g i) fun h=>Nat.lt_of_lt_of_le h.2 h1.below.size,hb.trans (h1.below.mono hz)⟩,Y,e1,fun i hi=>Nat.le_trans hz (e2 i hi),fun i hi=> ?_,hb.trans (e4.mono hz)⟩;rcases hi with(hi|hi)|hi|hi
 ·exact e3 i (.inl hi)
 ·exact⟨fun hy=>by have:=e2 i hy;omega,Nat.lt_of_lt_of_le hi.2 e4.size⟩
 ·exact e3 i (.inr (.inl hi))
 ·exact e3 i (.inr (.inr hi))
theorem jr9(sa:SA w0 (jil g A L V H) p m R L2 w')(ng:w0.heap.size<=g)(hgl:g<w'.heap.size)(gn:¬je6 L V H g)(ga:∀o,A≠some ⟨g,o,none⟩)(hb:Below w'.heap.size w' wg)(hrow:SlF Bk.rcC wg A2 L2.length c2 L2)(hrd:BkRd wg (Bk.all m L2) L' V' H')(hn:jel w' L V H L' V' H')(hA:A2=A\/(0<L2.length/\∀b o,A2=some ⟨b,o,none⟩->w'.heap.size<=b))(cs0:Array Value)(hs:wg.heap[g]? =some (.cells cs0 40 (0,0))):
  jcx w0 (wg.setRow g (Ss.cs m (R:Nat) (tA (So.disk R L2)) (tB (So.disk R L2)) (.slice A2 L2.length c2) (Bk.cells (Bk.all m L2) L' V' H')).toArray) p m R L2 g A2 c2 L' V' H':=by
 have gn2:¬je6 L' V' H' g:=fun hx=>by
  rcases jen hn hx with h1|h1
  ·exact gn h1
  ·omega
 have ga2:∀o,A2≠some ⟨g,o,none⟩:=fun o e=>by
  rcases hA with h1|⟨_,h1⟩
  ·exact ga o (h1▸e)
  ·have:=h1 g o e;omega
 have hg:=ja2 wg g (Ss.cs m (R:Nat) (tA (So.disk R L2)) (tB (So.disk R L2)) (.slice A2 L2.length c2) (Bk.cells (Bk.all m L2) L' V' H')).toArray;refine⟨⟨setRow_heap wg g _ _ _ _ hs⟩,jdq hrd hg gn2,hrow.keep hg.size fun b o e hl=> ?_,((sa.more hb).grown hg (.inl (.inl rfl)) ng).less fun i hi=> ?_,ng,gn2,ga2⟩
 ·obtain⟨b',o',e1,e2,_⟩:=hrow.rd hl
  rw[e]at e1;injection e1 with e1
  injection e1 with e1 _
  exact hg.block b zv (fun h=>by injection h with h;exact ga2 o (h▸e))
 ·rcases hi with hi|hi|⟨o,hi⟩
  ·exact .inl (.inl hi)
  ·rcases jen hn hi with h1|h1
   ·exact .inl (.inr (.inl h1))
   ·exact .inr ⟨h1,row_lt hrd hi⟩
  ·rcases hA with h1|⟨h0,h1⟩
   ·exact .inl (.inr (.inr ⟨o,h1▸hi⟩))
   ·obtain⟨b',o',e1,e2,_⟩:=hrow.rd h0
    rw[hi]at e1;injection e1 with e1
    injection e1 with e1 _
    exact .inr ⟨h1 i o hi,zv⟩
def jj1(w0:World)(g:Nat)(A:Option Addr)(L V H:Value):Prop:=∀i,jil g A L V H i->w0.heap.size<=i
theorem jln(h:jj1 w0 g A L V H)(hz:w0.heap.size<=w'.heap.size)(hn:jel w' L V H L' V' H')(hA:A2=A\/(0<L2.length/\∀b o,A2=some ⟨b,o,none⟩->w'.heap.size<=b)):jj1 w0 g A2 L' V' H':=by
 rintro i (hi|hi|⟨o,hi⟩)
 ·exact h i (.inl hi)
 ·rcases jen hn hi with h1|h1
  ·exact h i (.inr (.inl h1))
  ·omega
 ·rcases hA with h1|⟨_,h1⟩
  ·exact h i (.inr (.inr ⟨o,h1▸hi⟩))
  ·have:=h1 i o hi;omega
theorem jmj{g7:Nat}(h:jcx w1 W p m R Ls g A c L V H)(hd:jj1 w1 g A L V H)(hb:Below w0.heap.size w0 w1)(hg:W.grownBy W' (some g7))(h7:w0.heap.size<=g7/\g7<w1.heap.size):jcx w0 W' p m R Ls g A c L V H:=by
 have hne:∀i,jil g A L V H i->i≠g7:=fun i hi e=>by have:=hd i hi;omega
 have hlt:=h.st.lts;have k:∀i,jil g A L V H i->W'.heap[i]? =W.heap[i]? :=fun i hi=>hg.block i (hlt i hi) (fun e=>hne i hi (Option.some.inj e));exact⟨h.ss.keep (k g (.inl rfl)),jr3 h.rd hg.size fun b hb=>k b (.inr (.inl hb)),h.row.keep hg.size fun b o e _=>k b (.inr (.inr ⟨o,e⟩)),((h.st.base hb).grown hg (.inr h7) h7.1).less fun i hi=> .inl hi,Nat.le_trans hb.size h.ng,h.gn,h.ga⟩
end
theorem jsa{m:Int}{w:World}{L V H:Value}(h:BkRd w (Bk.new m) L V H):∀b,¬je6 L V H b:=by
 exact zzx
end Go.Proofs.YtpehidgjfcfjoaaGreatDoor
