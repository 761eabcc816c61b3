import Derived.Test.YtkinlcfhojjalaaGreatDoorQz20
import Derived.Deep.CutBlock
set_option maxHeartbeats 6400000
set_option maxRecDepth 100000
set_option linter.all false
namespace Go.Proofs.YtkinlcfhojjalaaGreatDoor
open Go.RowKit
def spc(s:Spc.Sp):Array Value:=((.int .i64 1)::(.int .i64 1048576)::(.bool false)::(.int .i64 1)::(.int .i64 16)::(.bool false)::(zi)::(.int .i64 (IntKind.i64.wrap (16 -s.d)))::(.bool false)::(.int .i64 (if s.u=0 then 1 else 0))::(.int .i64 s.d)::(.bool false)::(zi)::(.int .i64 (if s.u<s.d then 1 else 2))::(.bool false)::(.int .i64 (if s.g=0 then 1 else 0))::(.int .i64 (if s.g=0 then 100 else 0))::(.bool false)::(.int .i64 (slo s.g s.a))::(.int .i64 (shi s.g s.a))::(.bool (sno s.g s.a))::(.int .i64 (slo s.g s.b))::(.int .i64 (shi s.g s.b))::(.bool (sno s.g s.b))::(.int .i64 (slo s.g s.c))::(.int .i64 (shi s.g s.c))::(.bool (sno s.g s.c))::(.int .i64 1)::(.int .i64 1048576)::(.bool false)::(zi)::(.int .i64 1048576)::(.bool false)::(.int .i64 1)::(.int .i64 1048576)::(.bool false)::[]).toArray
structure StAt(w:World)(g:Nat)(l0 h0 l1 h1:Int)(n1:Bool)(l2 h2:Int)(n2:Bool)(l3 h3:Int)(n3:Bool):Prop where
 q0:w.cell? ⟨g,0,none⟩=some (.int .i64 l0)
 q1:w.cell? ⟨g,1,none⟩=some (.int .i64 h0)
 q2:w.cell? ⟨g,2,none⟩=some (.bool false)
 q3:w.cell? ⟨g,3,none⟩=some (.int .i64 l1)
 q4:w.cell? ⟨g,4,none⟩=some (.int .i64 h1)
 q5:w.cell? ⟨g,5,none⟩=some (.bool n1)
 q6:w.cell? ⟨g,6,none⟩=some (.int .i64 l2)
 q7:w.cell? ⟨g,7,none⟩=some (.int .i64 h2)
 q8:w.cell? ⟨g,8,none⟩=some (.bool n2)
 q9:w.cell? ⟨g,9,none⟩=some (.int .i64 l3)
 q10:w.cell? ⟨g,10,none⟩=some (.int .i64 h3)
 q11:w.cell? ⟨g,11,none⟩=some (.bool n3)
theorem jdh{w:World}{g:Nat}{l0 h0 l1 h1 l2 h2 l3 h3:Int}{n1 n2 n3:Bool}{t:TypeId}{fr:Nat×Nat}(h:w.heap[g]? =some (.cells #[.int .i64 l0,.int .i64 h0,.bool false,.int .i64 l1,.int .i64 h1,.bool n1,.int .i64 l2,.int .i64 h2,.bool n2,.int .i64 l3,.int .i64 h3,.bool n3] t fr)):StAt w g l0 h0 l1 h1 n1 l2 h2 n2 l3 h3 n3:=by
 constructor<;>(rw[cell_of_row w g _ _ _ _ h];rfl)
structure SpS(w:World)(b0 b1 b2:Nat)(s:Spc.Sp)(T:Array Value)(W:World):Prop where
 below:zF w W
 box:W.heap[b0]? =some (.cells (Spc.cells s) 33 (0,0))
 st:W.heap[b2]? =some (.cells T 320 (0,0))
 res:∃cs,W.heap[b1]? =some (.cells cs 297 (0,0))/\cs.size=36
theorem SpS.on{w W W':World}{b0 b1 b2:Nat}{s:Spc.Sp}{T:Array Value}(h:SpS w b0 b1 b2 s T W)(hb:zF W W'):SpS w b0 b1 b2 s T W':=by
 obtain⟨cs,hr,hz⟩:=h.res;exact⟨h.below.trans (hb.mono h.below.size),(hb.block b0 (zg h.box).1).trans h.box,(hb.block b2 (zg h.st).1).trans h.st,cs,(hb.block b1 (zg hr).1).trans hr,hz⟩
theorem SpS.set{w W:World}{b0 b1 b2:Nat}{s:Spc.Sp}{T:Array Value}(h:SpS w b0 b1 b2 s T W)(h0:b0≠b1)(h2:b2≠b1)(hw:w.heap.size<=b1)(C:Array Value)(hC:C.size=36):SpS w b0 b1 b2 s T (W.setRow b1 C)/\(W.setRow b1 C).heap[b1]? =some (.cells C 297 (0,0)):=by
 obtain⟨cs,hr,hz⟩:=h.res;have hh:=setRow_heap W b1 cs C _ _ hr;exact⟨⟨below_setRow h.below hw C,(setRow_other W b1 b0 C h0).trans h.box,(setRow_other W b1 b2 C h2).trans h.st,C,hh,hC⟩,hh⟩
theorem jrs(s:Spc.Sp)(w:World):Calls Tryz.prog 264 #[Spc.val s] w (APos w (.agg (spc s))):=by
 have HV:Hid (Spc.val s= .agg #[.int .i64 s.v,.int .i64 s.d,.int .i64 s.u,.int .i64 s.n,.int .i64 s.g,.int .i64 s.a,.int .i64 s.b,.int .i64 s.c,.int .i64 s.e,.int .i64 s.w,.int .i64 s.x,.int .i64 s.k]):=rfl;have CT:Hid (∀W,Calls Tryz.prog 285 #[Spc.val s] W (APos W (.agg (stc s)))):=fun W=>jit s W;have CL:Hid (∀W,Calls Tryz.prog 286 #[Spc.val s] W (APos W (.int .i64 (if s.u=0 then 1 else 0)))):=fun W=>jrr s W;have CA:Hid (∀W,Calls Tryz.prog 287 #[Spc.val s] W (APos W (.int .i64 (if s.u<s.d then 1 else 2)))):=fun W=>ju5 s W;have HQ:Hid (spc s=((.int .i64 1)::(.int .i64 1048576)::(.bool false)::(.int .i64 1)::(.int .i64 16)::(.bool false)::(zi)::(.int .i64 (IntKind.i64.wrap (16 -s.d)))::(.bool false)::(.int .i64 (if s.u=0 then 1 else 0))::(.int .i64 s.d)::(.bool false)::(zi)::(.int .i64 (if s.u<s.d then 1 else 2))::(.bool false)::(.int .i64 (if s.g=0 then 1 else 0))::(.int .i64 (if s.g=0 then 100 else 0))::(.bool false)::(.int .i64 (slo s.g s.a))::(.int .i64 (shi s.g s.a))::(.bool (sno s.g s.a))::(.int .i64 (slo s.g s.b))::(.int .i64 (shi s.g s.b))::(.bool (sno s.g s.b))::(.int .i64 (slo s.g s.c))::(.int .i64 (shi s.g s.c))::(.bool (sno s.g s.c))::(.int .i64 1)::(.int .i64 1048576)::(.bool false)::(zi)::(.int .i64 1048576)::(.bool false)::(.int .i64 1)::(.int .i64 1048576)::(.bool false)::[]).toArray):=rfl;unfold stc at CT;obtain⟨l0,hl0⟩:∃l0:Int,l0=(if s.g=0 then 1 else 0):=zx;rw[<-hl0]at CT HQ;clear hl0;obtain⟨h0,hh0⟩:∃h0:Int,h0=(if s.g=0 then 100 else 0):=zx;rw[<-hh0]at CT HQ;clear hh0;obtain⟨l1,hl1⟩:∃l1:Int,l1=(slo s.g s.a):=zx;rw[<-hl1]at CT HQ;clear hl1;obtain⟨h1,hh1⟩:∃h1:Int,h1=(shi s.g s.a):=zx;rw[<-hh1]at CT HQ;clear hh1;obtain⟨n1,hn1⟩:∃n1:Bool,n1=(sno s.g s.a):=zx;rw[<-hn1]at CT HQ;clear hn1;obtain⟨l2,hl2⟩:∃l2:Int,l2=(slo s.g s.b):=zx;rw[<-hl2]at CT HQ;clear hl2;obtain⟨h2,hh2⟩:∃h2:Int,h2=(shi s.g s.b):=zx;rw[<-hh2]at CT HQ;clear hh2;obtain⟨n2,hn2⟩:∃n2:Bool,n2=(sno s.g s.b):=zx;rw[<-hn2]at CT HQ;clear hn2;obtain⟨l3,hl3⟩:∃l3:Int,l3=(slo s.g s.c):=zx;rw[<-hl3]at CT HQ;clear hl3;obtain⟨h3,hh3⟩:∃h3:Int,h3=(shi s.g s.c):=zx;rw[<-hh3]at CT HQ;clear hh3;obtain⟨n3,hn3⟩:∃n3:Bool,n3=(sno s.g s.c):=zx;rw[<-hn3]at CT HQ;clear hn3;obtain⟨le,hle⟩:∃le:Int,le=(if s.u=0 then 1 else 0):=zx;rw[<-hle]at CL HQ;obtain⟨la,hla⟩:∃la:Int,la=(if s.u<s.d then 1 else 2):=zx;rw[<-hla]at CA HQ;clear hle hla;rw[HQ.o];rw[HV.o]at CT CL CA⊢;have K1:=zh (heap_alloc_new w (.cells (Spc.cells s) 33));have B1:=zh ((Below.refl w.heap.size w).alloc zl (.cells (Spc.cells s) 33));have hz:(w.alloc (.cells (Spc.cells s) 33)).heap.size=w.heap.size+1:=by simp
 obtain⟨b0,hb0⟩:∃b0,b0=w.heap.size:=zx;obtain⟨b1,hb1⟩:∃b1,b1=b0+1:=zx;rw[<-hb0,<-hb1]at hz;rw[<-hb0]at K1;have HB0:=zh hb0;have HB1:=zh hb1;have HZ:=zh hz;clear hb0 hb1 hz HQ HV;go_in;go_wp2_with fail;rw[<-HB0.o,<-HB1.o];have EQ: #[.int .i64 s.v,.int .i64 s.d,.int .i64 s.u,.int .i64 s.n,.int .i64 s.g,.int .i64 s.a,.int .i64 s.b,.int .i64 s.c,.int .i64 s.e,.int .i64 s.w,.int .i64 s.x,.int .i64 s.k]=Spc.cells s:=rfl;rw[EQ];generalize w.alloc (.cells (Spc.cells s) 33)=w1 at*;have K2:=zh (heap_alloc_new w1 (.cells ((zi)::(zi)::(.bool false)::(zi)::(zi)::(.bool false)::(zi)::(zi)::(.bool false)::(zi)::(zi)::(.bool false)::(zi)::(zi)::(.bool false)::(zi)::(zi)::(.bool false)::(zi)::(zi)::(.bool false)::(zi)::(zi)::(.bool false)::(zi)::(zi)::(.bool false)::(zi)::(zi)::(.bool false)::(zi)::(zi)::(.bool false)::(zi)::(zi)::(.bool false)::[]).toArray 297));have B2:=zh ((Below.refl w1.heap.size w1).alloc zl (.cells ((zi)::(zi)::(.bool false)::(zi)::(zi)::(.bool false)::(zi)::(zi)::(.bool false)::(zi)::(zi)::(.bool false)::(zi)::(zi)::(.bool false)::(zi)::(zi)::(.bool false)::(zi)::(zi)::(.bool false)::(zi)::(zi)::(.bool false)::(zi)::(zi)::(.bool false)::(zi)::(zi)::(.bool false)::(zi)::(zi)::(.bool false)::(zi)::(zi)::(.bool false)::[]).toArray 297));rw[HZ.o]at K2;generalize w1.alloc (.cells ((zi)::(zi)::(.bool false)::(zi)::(zi)::(.bool false)::(zi)::(zi)::(.bool false)::(zi)::(zi)::(.bool false)::(zi)::(zi)::(.bool false)::(zi)::(zi)::(.bool false)::(zi)::(zi)::(.bool false)::(zi)::(zi)::(.bool false)::(zi)::(zi)::(.bool false)::(zi)::(zi)::(.bool false)::(zi)::(zi)::(.bool false)::(zi)::(zi)::(.bool false)::[]).toArray 297)=w2 at*;rw[<-EQ];refine(CT.o w2).mono ?_;rintro e w3 ⟨rfl,hb3⟩;have L0:=(zg K1.o).1;have L1:=(zg K2.o).1;have k1:=(hb3.block b0 (Nat.lt_of_lt_of_le L0 B2.o.size)).trans ((B2.o.block b0 L0).trans K1.o);have k2:=(hb3.block b1 L1).trans K2.o;have b3:=B1.o.trans ((B2.o.mono B1.o.size).trans (hb3.mono (Nat.le_trans B1.o.size B2.o.size)));have hz3:b1<w3.heap.size:=(zg k2).1;have K3:=zh k1;have K4:=zh k2;have B3:=zh b3;have Z3:=zh hz3;clear K1 K2 B1 B2 hb3 L0 L1 k1 k2 b3 hz3 HZ CT EQ;have X4:Hid (SpS w b0 b1 w3.heap.size s #[.int .i64 l0,.int .i64 h0,.bool false,.int .i64 l1,.int .i64 h1,.bool n1,.int .i64 l2,.int .i64 h2,.bool n2,.int .i64 l3,.int .i64 h3,.bool n3] (w3.alloc (.cells #[.int .i64 l0,.int .i64 h0,.bool false,.int .i64 l1,.int .i64 h1,.bool n1,.int .i64 l2,.int .i64 h2,.bool n2,.int .i64 l3,.int .i64 h3,.bool n3] 320))):=by
  have hb4:=(Below.refl w3.heap.size w3).alloc zl (.cells #[.int .i64 l0,.int .i64 h0,.bool false,.int .i64 l1,.int .i64 h1,.bool n1,.int .i64 l2,.int .i64 h2,.bool n2,.int .i64 l3,.int .i64 h3,.bool n3] 320);exact⟨B3.o.trans (hb4.mono B3.o.size),(hb4.block b0 (zg K3.o).1).trans K3.o,heap_alloc_new w3 _,_,(hb4.block b1 Z3.o).trans K4.o,rfl⟩
 obtain⟨b2,hb2⟩:∃b2,b2=w3.heap.size:=zx;rw[<-hb2]at X4;have HB2:=zh hb2;clear hb2 K3 K4 B3;obtain⟨f0,f1,f2,f3,f4,f5,f6,f7,f8,f9,f10,f11⟩:=jae X4.o.box;go_upto_region 2 with fail
 rw[<-HB2.o];generalize w3.alloc (.cells #[.int .i64 l0,.int .i64 h0,.bool false,.int .i64 l1,.int .i64 h1,.bool n1,.int .i64 l2,.int .i64 h2,.bool n2,.int .i64 l3,.int .i64 h3,.bool n3] 320)=w4 at*;clear f0 f1 f2 f3 f4 f5 f6 f7 f8 f9 f10 f11;refine wp_region_held_drew (S:=fun W=>SpS w b0 b1 b2 s #[.int .i64 l0,.int .i64 h0,.bool false,.int .i64 l1,.int .i64 h1,.bool n1,.int .i64 l2,.int .i64 h2,.bool n2,.int .i64 l3,.int .i64 h3,.bool n3] W) zk (X4.o.on zD.drew) (fun hS=> ?_);refine tY 0 hS ?_;refine tY 1 hS ?_;refine tY 2 hS ?_;refine tZ 3 rfl (by intro W hW;obtain⟨f0,f1,f2,f3,f4,f5,f6,f7,f8,f9,f10,f11⟩:=jae hW.box;obtain⟨q0,q1,q2,q3,q4,q5,q6,q7,q8,q9,q10,q11⟩:=jdh hW.st;go_simp;(try with_reducible rfl)) hS ?_;refine tY 4 hS ?_;refine tY 5 hS ?_;simp only[Act.put,zT,zO,zS];refine tZ 6 rfl (by intro W hW;obtain⟨f0,f1,f2,f3,f4,f5,f6,f7,f8,f9,f10,f11⟩:=jae hW.box;obtain⟨q0,q1,q2,q3,q4,q5,q6,q7,q8,q9,q10,q11⟩:=jdh hW.st;go_simp;(try with_reducible rfl)) hS ?_;refine tY 8 hS ?_;refine tZ 9 rfl (by intro W hW;obtain⟨f0,f1,f2,f3,f4,f5,f6,f7,f8,f9,f10,f11⟩:=jae hW.box;obtain⟨q0,q1,q2,q3,q4,q5,q6,q7,q8,q9,q10,q11⟩:=jdh hW.st;go_simp;(try with_reducible rfl)) hS ?_;refine tZ 11 rfl (by intro W hW;obtain⟨f0,f1,f2,f3,f4,f5,f6,f7,f8,f9,f10,f11⟩:=jae hW.box;obtain⟨q0,q1,q2,q3,q4,q5,q6,q7,q8,q9,q10,q11⟩:=jdh hW.st;go_simp;(try with_reducible rfl)) hS ?_;refine tY 14 hS ?_;refine tZ 15 rfl (by intro W hW;obtain⟨f0,f1,f2,f3,f4,f5,f6,f7,f8,f9,f10,f11⟩:=jae hW.box;obtain⟨q0,q1,q2,q3,q4,q5,q6,q7,q8,q9,q10,q11⟩:=jdh hW.st;go_simp;(try with_reducible rfl)) hS ?_;simp only[Act.put,zT,zO,zS];refine tY 16 hS ?_;refine tZ 17 rfl (by intro W hW;obtain⟨f0,f1,f2,f3,f4,f5,f6,f7,f8,f9,f10,f11⟩:=jae hW.box;obtain⟨q0,q1,q2,q3,q4,q5,q6,q7,q8,q9,q10,q11⟩:=jdh hW.st;go_simp;(try with_reducible rfl)) hS ?_;refine tY 18 hS ?_;refine tZ 19 rfl (by intro W hW;obtain⟨f0,f1,f2,f3,f4,f5,f6,f7,f8,f9,f10,f11⟩:=jae hW.box;obtain⟨q0,q1,q2,q3,q4,q5,q6,q7,q8,q9,q10,q11⟩:=jdh hW.st;go_simp;(try with_reducible rfl)) hS ?_;refine tY 20 hS ?_;refine tZ 21 rfl (by intro W hW;obtain⟨f0,f1,f2,f3,f4,f5,f6,f7,f8,f9,f10,f11⟩:=jae hW.box;obtain⟨q0,q1,q2,q3,q4,q5,q6,q7,q8,q9,q10,q11⟩:=jdh hW.st;go_simp;(try with_reducible rfl)) hS ?_;simp only[Act.put,zT,zO,zS];refine tY 22 hS ?_;refine tY 23 hS ?_;refine tY 24 hS ?_;simp only[Act.put,zT,zO,zS];refine rO 7 (fun K hK=> ?_);go_simp
 refine(CL.o _).mono ?_
 rintro e W ⟨rfl,hW⟩;have hS2:=hS.on hW;clear hS hW;have hS:=hS2;clear hS2;refine hK.out _ _ hS (fun _=> ?_);clear hK K;refine tY 10 hS ?_;simp only[Act.put,zT,zO,zS];refine rO 12 (fun K hK=> ?_);go_simp
 refine(CA.o _).mono ?_
 rintro e W ⟨rfl,hW⟩;have hS2:=hS.on hW;clear hS hW;have hS:=hS2;clear hS2;refine hK.out _ _ hS (fun _=> ?_);clear hK K;refine tY 13 hS ?_;refine tY 25 hS ?_;simp only[Act.put,zT,zO,zS];refine rO 26 (fun K hK=> ?_);obtain⟨cs,hcs,hcz⟩:=hS.res;refine wp_store_row (cells:=((.int .i64 1)::(.int .i64 1048576)::(.bool false)::(.int .i64 1)::(.int .i64 16)::(.bool false)::(zi)::(.int .i64 (IntKind.i64.wrap (16 -s.d)))::(.bool false)::(.int .i64 le)::(.int .i64 s.d)::(.bool false)::(zi)::(.int .i64 la)::(.bool false)::(.int .i64 l0)::(.int .i64 h0)::(.bool false)::(.int .i64 l1)::(.int .i64 h1)::(.bool n1)::(.int .i64 l2)::(.int .i64 h2)::(.bool n2)::(.int .i64 l3)::(.int .i64 h3)::(.bool n3)::(.int .i64 1)::(.int .i64 1048576)::(.bool false)::(zi)::(.int .i64 1048576)::(.bool false)::(.int .i64 1)::(.int .i64 1048576)::(.bool false)::[]).toArray) 297 (.tmp 2) (.tmp 31) rfl b1 rfl rfl 297 cs hcs zk (by rw[hcz];rfl) (by simp[Value.oneCell']) ?_;obtain⟨hS2,hR⟩:=hS.set (by have:=HB1.o;omega) (by have:=HB2.o;have:=Z3.o;omega) (by have:=HB0.o;have:=HB1.o;omega) ((.int .i64 1)::(.int .i64 1048576)::(.bool false)::(.int .i64 1)::(.int .i64 16)::(.bool false)::(zi)::(.int .i64 (IntKind.i64.wrap (16 -s.d)))::(.bool false)::(.int .i64 le)::(.int .i64 s.d)::(.bool false)::(zi)::(.int .i64 la)::(.bool false)::(.int .i64 l0)::(.int .i64 h0)::(.bool false)::(.int .i64 l1)::(.int .i64 h1)::(.bool n1)::(.int .i64 l2)::(.int .i64 h2)::(.bool n2)::(.int .i64 l3)::(.int .i64 h3)::(.bool n3)::(.int .i64 1)::(.int .i64 1048576)::(.bool false)::(zi)::(.int .i64 1048576)::(.bool false)::(.int .i64 1)::(.int .i64 1048576)::(.bool false)::[]).toArray rfl;have HR:=zh hR;clear hS hR hcs hcz;have hS:=hS2;clear hS2;refine hK.out _ _ hS (fun _=> ?_);clear hK K;try simp only[Act.put,zT,zO,zS]
 refine wpAnyH_done zk ?_ _;go_wp2_with fail;exact bodyPost_ret (results_cell_row Tryz.results264 _ _ b1 _ _ _ _ rfl HR.o Tryz.underlying297 rfl zk) rfl ⟨rfl,hS.below⟩
namespace Spc
def ok(s:Sp):Nat->Bool
 |0=>inn s.v 1 1048576
 |1=>inn s.d 1 16
 |2=>inn s.u 0 (16 -s.d)
 |3=> !(!inn s.n 0 s.d|| (decide (s.n=0)&&decide (s.u=0)))
 |4=> !(!inn s.g 0 2|| (decide (s.g=2)&&decide (s.u<s.d)))
 |5=>st s 0
 |6=>st s 1
 |7=>st s 2
 |8=>st s 3
 |9=>inn s.w 1 1048576
 |10=>inn s.x 0 1048576
 |11=>inn s.k 1 1048576
 |_=>true
theorem chk_first{s:Sp}{j:Nat}(hj:j<12)(h:∀m,m<j->ok s m=true)(hb:ok s j=false):chk s=j+1:=by
 rcases j with _|_|_|_|_|_|_|_|_|_|_|_|j
 ·have hc:inn s.v 1 1048576=false:=hb
  unfold chk;simp only[hc,Bool.not_true,Bool.not_false,if_true,if_false,Bool.false_eq_true,reduceIte]
 ·have h0:inn s.v 1 1048576=true:=h 0 zv
  have hc:inn s.d 1 16=false:=hb;unfold chk;simp only[h0,hc,Bool.not_true,Bool.not_false,if_true,if_false,Bool.false_eq_true,reduceIte]
 ·have h0:inn s.v 1 1048576=true:=h 0 zv
  have h1:inn s.d 1 16=true:=h 1 zv;have hc:inn s.u 0 (16 -s.d)=false:=hb;unfold chk;simp only[h0,h1,hc,Bool.not_true,Bool.not_false,if_true,if_false,Bool.false_eq_true,reduceIte]
 ·have h0:inn s.v 1 1048576=true:=h 0 zv
  have h1:inn s.d 1 16=true:=h 1 zv;have h2:inn s.u 0 (16 -s.d)=true:=h 2 zv;have hc:(!inn s.n 0 s.d|| (decide (s.n=0)&&decide (s.u=0)))=true:=by simpa only[ok,Bool.not_eq_false']using hb
  unfold chk;simp only[h0,h1,h2,hc,Bool.not_true,Bool.not_false,if_true,if_false,Bool.false_eq_true,reduceIte]
 ·have h0:inn s.v 1 1048576=true:=h 0 zv
  have h1:inn s.d 1 16=true:=h 1 zv;have h2:inn s.u 0 (16 -s.d)=true:=h 2 zv;have h3:(!inn s.n 0 s.d|| (decide (s.n=0)&&decide (s.u=0)))=false:=by simpa only[ok,Bool.not_eq_true']using h 3 zv
  have hc:(!inn s.g 0 2|| (decide (s.g=2)&&decide (s.u<s.d)))=true:=by simpa only[ok,Bool.not_eq_false']using hb
  unfold chk;simp only[h0,h1,h2,h3,hc,Bool.not_true,Bool.not_false,if_true,if_false,Bool.false_eq_true,reduceIte]
 ·have h0:inn s.v 1 1048576=true:=h 0 zv
  have h1:inn s.d 1 16=true:=h 1 zv;have h2:inn s.u 0 (16 -s.d)=true:=h 2 zv;have h3:(!inn s.n 0 s.d|| (decide (s.n=0)&&decide (s.u=0)))=false:=by simpa only[ok,Bool.not_eq_true']using h 3 zv
  have h4:(!inn s.g 0 2|| (decide (s.g=2)&&decide (s.u<s.d)))=false:=by simpa only[ok,Bool.not_eq_true']using h 4 zv
  have hc:st s 0=false:=hb;unfold chk;simp only[h0,h1,h2,h3,h4,hc,Bool.not_true,Bool.not_false,if_true,if_false,Bool.false_eq_true,reduceIte]
 ·have h0:inn s.v 1 1048576=true:=h 0 zv
  have h1:inn s.d 1 16=true:=h 1 zv;have h2:inn s.u 0 (16 -s.d)=true:=h 2 zv;have h3:(!inn s.n 0 s.d|| (decide (s.n=0)&&decide (s.u=0)))=false:=by simpa only[ok,Bool.not_eq_true']using h 3 zv
  have h4:(!inn s.g 0 2|| (decide (s.g=2)&&decide (s.u<s.d)))=false:=by simpa only[ok,Bool.not_eq_true']using h 4 zv
  have h5:st s 0=true:=h 5 zv;have hc:st s 1=false:=hb;unfold chk;simp only[h0,h1,h2,h3,h4,h5,hc,Bool.not_true,Bool.not_false,if_true,if_false,Bool.false_eq_true,reduceIte]
 ·have h0:inn s.v 1 1048576=true:=h 0 zv
  have h1:inn s.d 1 16=true:=h 1 zv;have h2:inn s.u 0 (16 -s.d)=true:=h 2 zv;have h3:(!inn s.n 0 s.d|| (decide (s.n=0)&&decide (s.u=0)))=false:=by simpa only[ok,Bool.not_eq_true']using h 3 zv
  have h4:(!inn s.g 0 2|| (decide (s.g=2)&&decide (s.u<s.d)))=false:=by simpa only[ok,Bool.not_eq_true']using h 4 zv
  have h5:st s 0=true:=h 5 zv;have h6:st s 1=true:=h 6 zv;have hc:st s 2=false:=hb;unfold chk;simp only[h0,h1,h2,h3,h4,h5,h6,hc,Bool.not_true,Bool.not_false,if_true,if_false,Bool.false_eq_true,reduceIte]
 ·have h0:inn s.v 1 1048576=true:=h 0 zv
  have h1:inn s.d 1 16=true:=h 1 zv;have h2:inn s.u 0 (16 -s.d)=true:=h 2 zv;have h3:(!inn s.n 0 s.d|| (decide (s.n=0)&&decide (s.u=0)))=false:=by simpa only[ok,Bool.not_eq_true']using h 3 zv
  have h4:(!inn s.g 0 2|| (decide (s.g=2)&&decide (s.u<s.d)))=false:=by simpa only[ok,Bool.not_eq_true']using h 4 zv
  have h5:st s 0=true:=h 5 zv;have h6:st s 1=true:=h 6 zv;have h7:st s 2=true:=h 7 zv;have hc:st s 3=false:=hb;unfold chk;simp only[h0,h1,h2,h3,h4,h5,h6,h7,hc,Bool.not_true,Bool.not_false,if_true,if_false,Bool.false_eq_true,reduceIte]
 ·have h0:inn s.v 1 1048576=true:=h 0 zv
  have h1:inn s.d 1 16=true:=h 1 zv;have h2:inn s.u 0 (16 -s.d)=true:=h 2 zv;have h3:(!inn s.n 0 s.d|| (decide (s.n=0)&&decide (s.u=0)))=false:=by simpa only[ok,Bool.not_eq_true']using h 3 zv
  have h4:(!inn s.g 0 2|| (decide (s.g=2)&&decide (s.u<s.d)))=false:=by simpa only[ok,Bool.not_eq_true']using h 4 zv
  have h5:st s 0=true:=h 5 zv;have h6:st s 1=true:=h 6 zv;have h7:st s 2=true:=h 7 zv;have h8:st s 3=true:=h 8 zv;have hc:inn s.w 1 1048576=false:=hb;unfold chk;simp only[h0,h1,h2,h3,h4,h5,h6,h7,h8,hc,Bool.not_true,Bool.not_false,if_true,if_false,Bool.false_eq_true,reduceIte]
 ·have h0:inn s.v 1 1048576=true:=h 0 zv
  have h1:inn s.d 1 16=true:=h 1 zv;have h2:inn s.u 0 (16 -s.d)=true:=h 2 zv;have h3:(!inn s.n 0 s.d|| (decide (s.n=0)&&decide (s.u=0)))=false:=by simpa only[ok,Bool.not_eq_true']using h 3 zv
  have h4:(!inn s.g 0 2|| (decide (s.g=2)&&decide (s.u<s.d)))=false:=by simpa only[ok,Bool.not_eq_true']using h 4 zv
  have h5:st s 0=true:=h 5 zv;have h6:st s 1=true:=h 6 zv;have h7:st s 2=true:=h 7 zv;have h8:st s 3=true:=h 8 zv;have h9:inn s.w 1 1048576=true:=h 9 zv;have hc:inn s.x 0 1048576=false:=hb;unfold chk;simp only[h0,h1,h2,h3,h4,h5,h6,h7,h8,h9,hc,Bool.not_true,Bool.not_false,if_true,if_false,Bool.false_eq_true,reduceIte]
 ·have h0:inn s.v 1 1048576=true:=h 0 zv
  have h1:inn s.d 1 16=true:=h 1 zv;have h2:inn s.u 0 (16 -s.d)=true:=h 2 zv;have h3:(!inn s.n 0 s.d|| (decide (s.n=0)&&decide (s.u=0)))=false:=by simpa only[ok,Bool.not_eq_true']using h 3 zv
  have h4:(!inn s.g 0 2|| (decide (s.g=2)&&decide (s.u<s.d)))=false:=by simpa only[ok,Bool.not_eq_true']using h 4 zv
  have h5:st s 0=true:=h 5 zv;have h6:st s 1=true:=h 6 zv;have h7:st s 2=true:=h 7 zv;have h8:st s 3=true:=h 8 zv;have h9:inn s.w 1 1048576=true:=h 9 zv;have h10:inn s.x 0 1048576=true:=h 10 zv;have hc:inn s.k 1 1048576=false:=hb;unfold chk;simp only[h0,h1,h2,h3,h4,h5,h6,h7,h8,h9,h10,hc,Bool.not_true,Bool.not_false,if_true,if_false,Bool.false_eq_true,reduceIte]
 ·omega
theorem chk_none{s:Sp}(h:∀m,m<12->ok s m=true):chk s=0:=by
 have h0:inn s.v 1 1048576=true:=h 0 zv;have h1:inn s.d 1 16=true:=h 1 zv;have h2:inn s.u 0 (16 -s.d)=true:=h 2 zv;have h3:(!inn s.n 0 s.d|| (decide (s.n=0)&&decide (s.u=0)))=false:=by simpa only[ok,Bool.not_eq_true']using h 3 zv
 have h4:(!inn s.g 0 2|| (decide (s.g=2)&&decide (s.u<s.d)))=false:=by simpa only[ok,Bool.not_eq_true']using h 4 zv
 have h5:st s 0=true:=h 5 zv;have h6:st s 1=true:=h 6 zv;have h7:st s 2=true:=h 7 zv;have h8:st s 3=true:=h 8 zv;have h9:inn s.w 1 1048576=true:=h 9 zv;have h10:inn s.x 0 1048576=true:=h 10 zv;have h11:inn s.k 1 1048576=true:=h 11 zv;unfold chk;simp only[h0,h1,h2,h3,h4,h5,h6,h7,h8,h9,h10,h11,Bool.not_true,Bool.not_false,if_true,if_false,Bool.false_eq_true,reduceIte]
end Spc
theorem jfi(lo hi n:Int):hasB lo hi false n=Spc.inn n lo hi:=by unfold hasB Spc.inn;simp
theorem jdy{lo hi n:Int}{no:Bool}:hasB lo hi no n=true↔(lo<=n/\n<=hi)\/(no=true/\n=0):=by unfold hasB;simp
theorem spc_at(s:Spc.Sp)(hin:Spc.In s)(j:Nat)(hj:j<12)(h:∀m,m<j->Spc.ok s m=true):
  ∃lo hi no,(spc s)[3*j]? =some (.int .i64 lo)/\(spc s)[3*j+1]? =some (.int .i64 hi)/\(spc s)[3*j+2]? =some (.bool no)/\hasB lo hi no ((Spc.flds s).getD j 0)=Spc.ok s j:=by
 rcases j with _|_|_|_|_|_|_|_|_|_|_|_|j
 ·exact⟨_,_,_,rfl,rfl,rfl,jfi _ _ _⟩
 ·exact⟨_,_,_,rfl,rfl,rfl,jfi _ _ _⟩
 ·have h1:=Spc.inn_iff.1 (show Spc.inn s.d 1 16=true from h 1 zv)
  refine⟨_,_,_,rfl,rfl,rfl,?_⟩;rw[IntWalk.i64_in (16 -s.d) zv];exact jfi _ _ _
 ·have h1:=Spc.inn_iff.1 (show Spc.inn s.d 1 16=true from h 1 zv)
  have h2:=Spc.inn_iff.1 (show Spc.inn s.u 0 (16 -s.d)=true from h 2 zv);refine⟨_,_,_,rfl,rfl,rfl,?_⟩;show hasB _ s.d false s.n= !(!Spc.inn s.n 0 s.d|| (decide (s.n=0)&&decide (s.u=0)));rw[Bool.eq_iff_iff,jdy];simp[Spc.inn];by_cases hu:s.u=0
  ·rw[if_pos hu];omega
  ·rw[if_neg hu];omega
 ·refine⟨_,_,_,rfl,rfl,rfl,?_⟩
  show hasB 0 _ false s.g= !(!Spc.inn s.g 0 2|| (decide (s.g=2)&&decide (s.u<s.d)));rw[Bool.eq_iff_iff,jdy];simp[Spc.inn];by_cases hu:s.u<s.d
  ·rw[if_pos hu];omega
  ·rw[if_neg hu];omega
 ·refine⟨_,_,_,rfl,rfl,rfl,?_⟩
  show hasB _ _ false s.a=Spc.st s 0;rw[Bool.eq_iff_iff,jdy];unfold Spc.st;by_cases hg:s.g=0
  ·rw[if_pos hg,if_pos hg,if_neg zv,if_pos rfl,Spc.inn_iff];simp
  ·rw[if_neg hg,if_neg hg,if_pos hg]
   show _↔decide (s.a=0)=true;simp;omega
 ·have hp:s.g=0->s.a≠0->1<=s.a/\s.a<=100:=by
   intro hg ha;have hq:Spc.st s 0=true:=h 5 zv;unfold Spc.st at hq;rw[if_neg zv]at hq;rw[if_pos rfl]at hq;exact Spc.inn_iff.1 hq
  refine⟨_,_,_,rfl,rfl,rfl,?_⟩;show hasB (slo s.g s.a) (shi s.g s.a) (sno s.g s.a) s.b=Spc.st s 1;rw[Bool.eq_iff_iff,jdy];unfold Spc.st slo shi sno;by_cases hg:s.g=0
  ·rw[if_neg (show¬s.g≠0 by omega),if_neg (show¬(1:Nat)=0 by omega)]
   by_cases ha:s.a=0
   ·rw[if_neg (show¬(s.g=0/\s.a≠0)by omega),if_neg (show¬(s.g=0/\s.a≠0)by omega)]
    show _↔(decide (s.b=0)|| (decide (0<s.a)&&Spc.inn s.b (s.a+1) 100))=true;simp[Spc.inn,ha];omega
   ·have hb:=hp hg ha
    have hw:wrap64 (s.a+1)=s.a+1:=IntWalk.wrap64_in _ zv;rw[if_pos (show s.g=0/\s.a≠0 from⟨hg,ha⟩),if_pos (show s.g=0/\s.a≠0 from⟨hg,ha⟩),hw];show _↔(decide (s.b=0)|| (decide (0<s.a)&&Spc.inn s.b (s.a+1) 100))=true;simp[Spc.inn,ha,hg];omega
  ·rw[if_pos hg,if_neg (show¬(s.g=0/\s.a≠0)by omega),if_neg (show¬(s.g=0/\s.a≠0)by omega)]
   show _↔decide (s.b=0)=true;simp[hg];omega
 ·have hp:s.g=0->s.b≠0->1<=s.b/\s.b<=100:=by
   intro hg ha;have hq:Spc.st s 1=true:=h 6 zv;unfold Spc.st at hq;rw[if_neg zv]at hq;have hq:(decide (s.b=0)|| (decide (0<s.a)&&Spc.inn s.b (s.a+1) 100))=true:=hq;simp[Spc.inn,ha]at hq;omega
  refine⟨_,_,_,rfl,rfl,rfl,?_⟩;show hasB (slo s.g s.b) (shi s.g s.b) (sno s.g s.b) s.c=Spc.st s 2;rw[Bool.eq_iff_iff,jdy];unfold Spc.st slo shi sno;by_cases hg:s.g=0
  ·rw[if_neg (show¬s.g≠0 by omega),if_neg (show¬(2:Nat)=0 by omega)]
   by_cases ha:s.b=0
   ·rw[if_neg (show¬(s.g=0/\s.b≠0)by omega),if_neg (show¬(s.g=0/\s.b≠0)by omega)]
    show _↔(decide (s.c=0)|| (decide (0<s.b)&&Spc.inn s.c (s.b+1) 100))=true;simp[Spc.inn,ha];omega
   ·have hb:=hp hg ha
    have hw:wrap64 (s.b+1)=s.b+1:=IntWalk.wrap64_in _ zv;rw[if_pos (show s.g=0/\s.b≠0 from⟨hg,ha⟩),if_pos (show s.g=0/\s.b≠0 from⟨hg,ha⟩),hw];show _↔(decide (s.c=0)|| (decide (0<s.b)&&Spc.inn s.c (s.b+1) 100))=true;simp[Spc.inn,ha,hg];omega
  ·rw[if_pos hg,if_neg (show¬(s.g=0/\s.b≠0)by omega),if_neg (show¬(s.g=0/\s.b≠0)by omega)]
   show _↔decide (s.c=0)=true;simp[hg];omega
 ·have hp:s.g=0->s.c≠0->1<=s.c/\s.c<=100:=by
   intro hg ha;have hq:Spc.st s 2=true:=h 7 zv;unfold Spc.st at hq;rw[if_neg zv]at hq;have hq:(decide (s.c=0)|| (decide (0<s.b)&&Spc.inn s.c (s.b+1) 100))=true:=hq;simp[Spc.inn,ha]at hq;omega
  refine⟨_,_,_,rfl,rfl,rfl,?_⟩;show hasB (slo s.g s.c) (shi s.g s.c) (sno s.g s.c) s.e=Spc.st s 3;rw[Bool.eq_iff_iff,jdy];unfold Spc.st slo shi sno;by_cases hg:s.g=0
  ·rw[if_neg (show¬s.g≠0 by omega),if_neg (show¬(3:Nat)=0 by omega)]
   by_cases ha:s.c=0
   ·rw[if_neg (show¬(s.g=0/\s.c≠0)by omega),if_neg (show¬(s.g=0/\s.c≠0)by omega)]
    show _↔(decide (s.e=0)|| (decide (0<s.c)&&Spc.inn s.e (s.c+1) 100))=true;simp[Spc.inn,ha];omega
   ·have hb:=hp hg ha
    have hw:wrap64 (s.c+1)=s.c+1:=IntWalk.wrap64_in _ zv;rw[if_pos (show s.g=0/\s.c≠0 from⟨hg,ha⟩),if_pos (show s.g=0/\s.c≠0 from⟨hg,ha⟩),hw];show _↔(decide (s.e=0)|| (decide (0<s.c)&&Spc.inn s.e (s.c+1) 100))=true;simp[Spc.inn,ha,hg];omega
  ·rw[if_pos hg,if_neg (show¬(s.g=0/\s.c≠0)by omega),if_neg (show¬(s.g=0/\s.c≠0)by omega)]
   show _↔decide (s.e=0)=true;simp[hg];omega
 ·exact⟨_,_,_,rfl,rfl,rfl,jfi _ _ _⟩
 ·exact⟨_,_,_,rfl,rfl,rfl,jfi _ _ _⟩
 ·exact⟨_,_,_,rfl,rfl,rfl,jfi _ _ _⟩
 ·omega
def ptrs(g:Nat):Array Value:=#[.pointer (some ⟨g,0,none⟩),.pointer (some ⟨g,1,none⟩),.pointer (some ⟨g,2,none⟩),.pointer (some ⟨g,3,none⟩),.pointer (some ⟨g,4,none⟩),.pointer (some ⟨g,5,none⟩),.pointer (some ⟨g,6,none⟩),.pointer (some ⟨g,7,none⟩),.pointer (some ⟨g,8,none⟩),.pointer (some ⟨g,9,none⟩),.pointer (some ⟨g,10,none⟩),.pointer (some ⟨g,11,none⟩)]
theorem jeg(g:Nat)(w:World):Calls Tryz.prog 152 #[.pointer (some ⟨g,0,none⟩)] w fun e w'=>e= .returned (.agg (ptrs g))/\zF w w':=by
 go_in;go_wp2_with fail;go_region;go_wp2_with fail;exact bodyPost_ret (v:= .agg (ptrs g)) (by simp[results,Tryz.results152,ptrs,go_sem]) rfl ⟨rfl,((Below.refl w.heap.size w).alloc zl _).drew⟩
theorem ptrs_at(g j:Nat)(hj:j<12):(ptrs g)[j]? =some (.pointer (some ⟨g,j,none⟩)):=by
 rcases j with _|_|_|_|_|_|_|_|_|_|_|_|j<;>first|rfl|omega
theorem arr_ptr:Tryz.prog.underlying 202=some (.array 12 161):=by kernel_rfl
theorem jiu(g j:Nat)(hj:j<12)(W:World):(Instr.index 202 (.agg (ptrs g)) (.int .i64 (j:Nat))).run Tryz.prog W= .ok (.pointer (some ⟨g,j,none⟩)) W:=by
 have h1:(0:Int)<=(j:Nat)/\((j:Nat):Int)<((12:Nat):Int):=by omega
 have hp:=ptrs_at g j hj;simp[Instr.index,run_underlying arr_ptr,asIntOf,part,isAgg,run_underlying Tryz.underlying161,h1,hp,go_sem];intro h;omega
theorem sp_at{w:World}{g:Nat}{s:Spc.Sp}(h:SpAt w g s){j:Nat}(hj:j<12):w.cell? ⟨g,j,none⟩=some (.int .i64 ((Spc.flds s).getD j 0)):=by
 rcases j with _|_|_|_|_|_|_|_|_|_|_|_|j
 ·exact h.f0
 ·exact h.f1
 ·exact h.f2
 ·exact h.f3
 ·exact h.f4
 ·exact h.f5
 ·exact h.f6
 ·exact h.f7
 ·exact h.f8
 ·exact h.f9
 ·exact h.f10
 ·exact h.f11
 ·omega
theorem ju6(s:Spc.Sp):(spc s).size=36:=rfl
theorem jj9(s:Spc.Sp):(spc s).all (·.oneCell')=true:=by unfold spc;simp[Value.oneCell']
structure CkS(w:World)(g gm:Nat)(s:Spc.Sp)(W:World):Prop where
 below:zF w W
 box:W.heap[g]? =some (.cells (Spc.cells s) 33 (0,0))
 may:W.heap[gm]? =some (.cells (spc s) 297 (0,0))
theorem CkS.on{w W W':World}{g gm:Nat}{s:Spc.Sp}(h:CkS w g gm s W)(hb:zF W W'):CkS w g gm s W':=
 ⟨h.below.trans (hb.mono h.below.size),(hb.block g (zg h.box).1).trans h.box,(hb.block gm (zg h.may).1).trans h.may⟩
theorem jrt(s:Spc.Sp)(hin:Spc.In s)(w:World):Calls Tryz.prog 243 #[Spc.val s] w (jcu s w):=by
 have HV:Hid (Spc.val s= .agg #[.int .i64 s.v,.int .i64 s.d,.int .i64 s.u,.int .i64 s.n,.int .i64 s.g,.int .i64 s.a,.int .i64 s.b,.int .i64 s.c,.int .i64 s.e,.int .i64 s.w,.int .i64 s.x,.int .i64 s.k]):=rfl;have CP:Hid (∀W,Calls Tryz.prog 264 #[Spc.val s] W (APos W (.agg (spc s)))):=fun W=>jrs s W;have CN:Hid (∀g W,Calls Tryz.prog 152 #[.pointer (some ⟨g,0,none⟩)] W fun e w'=>e= .returned (.agg (ptrs g))/\zF W w'):=jeg;have CH:Hid (∀lo hi no n W,Calls Tryz.prog 265 #[.agg #[.int .i64 lo,.int .i64 hi,.bool no],.int .i64 n] W (APos W (.bool (hasB lo hi no n)))):=has_any;have SA:Hid (∀j,j<12->(∀m,m<j->Spc.ok s m=true)->∃lo hi no,(spc s)[3*j]? =some (.int .i64 lo)/\(spc s)[3*j+1]? =some (.int .i64 hi)/\(spc s)[3*j+2]? =some (.bool no)/\hasB lo hi no ((Spc.flds s).getD j 0)=Spc.ok s j):=spc_at s hin;rw[HV.o]at CP⊢;have K1:=zh (heap_alloc_new w (.cells (Spc.cells s) 33));have B1:=zh ((Below.refl w.heap.size w).alloc zl (.cells (Spc.cells s) 33));obtain⟨f0,f1,f2,f3,f4,f5,f6,f7,f8,f9,f10,f11⟩:=jae K1.o;obtain⟨g,hg⟩:∃g,g=w.heap.size:=zx;rw[<-hg]at K1;have HG:=zh hg;clear hg hin;have EQ:Hid (#[.int .i64 s.v,.int .i64 s.d,.int .i64 s.u,.int .i64 s.n,.int .i64 s.g,.int .i64 s.a,.int .i64 s.b,.int .i64 s.c,.int .i64 s.e,.int .i64 s.w,.int .i64 s.x,.int .i64 s.k]=Spc.cells s):=rfl;rw[<-EQ.o]at f0 f1 f2 f3 f4 f5 f6 f7 f8 f9 f10 f11;go_in;go_wp2_with fail;clear f0 f1 f2 f3 f4 f5 f6 f7 f8 f9 f10 f11;rw[<-HG.o,EQ.o];generalize w.alloc (.cells (Spc.cells s) 33)=w1 at*;rw[<-EQ.o];refine(CP.o w1).mono ?_;rintro e w2 ⟨rfl,hb2⟩;have hst:=run_storeAt_new (P:=Tryz.prog) w2 297 ((zi)::(zi)::(.bool false)::(zi)::(zi)::(.bool false)::(zi)::(zi)::(.bool false)::(zi)::(zi)::(.bool false)::(zi)::(zi)::(.bool false)::(zi)::(zi)::(.bool false)::(zi)::(zi)::(.bool false)::(zi)::(zi)::(.bool false)::(zi)::(zi)::(.bool false)::(zi)::(zi)::(.bool false)::(zi)::(zi)::(.bool false)::(zi)::(zi)::(.bool false)::[]).toArray (spc s) zk rfl (jj9 s);have hst2:=run_storeCells_new (P:=Tryz.prog) w2 297 ((zi)::(zi)::(.bool false)::(zi)::(zi)::(.bool false)::(zi)::(zi)::(.bool false)::(zi)::(zi)::(.bool false)::(zi)::(zi)::(.bool false)::(zi)::(zi)::(.bool false)::(zi)::(zi)::(.bool false)::(zi)::(zi)::(.bool false)::(zi)::(zi)::(.bool false)::(zi)::(zi)::(.bool false)::(zi)::(zi)::(.bool false)::(zi)::(zi)::(.bool false)::[]).toArray (spc s) zk rfl (jj9 s);have hsz:=ju6 s;go_wp2_with fail;clear hst hst2 hsz;obtain⟨gm,hgm⟩:∃gm,gm=w2.heap.size:=zx;have P3:Hid (CkS w g gm s (w2.alloc (.cells (spc s) 297))):=by
  have hb3:=(Below.refl w2.heap.size w2).alloc zl (.cells (spc s) 297);have hk:=heap_alloc_new w2 (.cells (spc s) 297);rw[<-hgm]at hk;have L1:=(zg K1.o).1;have B12:=B1.o.trans (hb2.mono B1.o.size);exact⟨B12.trans (hb3.mono B12.size),(hb3.block g (Nat.lt_of_lt_of_le L1 hb2.size)).trans ((hb2.block g L1).trans K1.o),hk⟩
 rw[<-hgm];clear hgm hb2 K1 B1 CP;generalize w2.alloc (.cells (spc s) 297)=w3 at*;refine(CN.o g w3).mono ?_;rintro e w4 ⟨rfl,hb4⟩;have P4:=zh (P3.o.on hb4);clear hb4 P3 CN;go_wp2_with fail;go_loopw [10] (fun i wr=>∃(j:Nat),j<=12/\i= .int .i64 (j:Nat)/\CkS w g gm s wr/\∀m,m<j->Spc.ok s m=true) (fun i _=>12 -(intOf i).toNat)
 case atStart=>exact⟨0,zv,rfl,P4.o,fun m hm=>absurd hm zv⟩
 case round=>
  obtain⟨j,hj,rfl,hp,hok⟩:=hrel;have P:=zh hp;have OKS:=zh hok;clear hp hok P4;by_cases hlt:j<12
  ·have hpj:=fun W=>jiu g j hlt W
   obtain⟨lo,hi,no,e1,e2,e3,e4⟩:=SA.o j hlt OKS.o;obtain⟨x,hx⟩:∃x,x=(Spc.flds s).getD j 0:=zx;rw[<-hx]at e4;have CB:=zh (fun W=>CH.o lo hi no x W);rw[e4]at CB;have X1:Hid (∀W,CkS w g gm s W->W.cell? ⟨g,j,none⟩=some (.int .i64 x)/\W.cell? ⟨gm,j*3,none⟩=some (.int .i64 lo)/\W.cell? ⟨gm,j*3+1,none⟩=some (.int .i64 hi)/\W.cell? ⟨gm,j*3+2,none⟩=some (.bool no)):=fun W hW=>
    ⟨by rw[hx];exact sp_at (jae hW.box) hlt,by rw[cell_of_row W gm _ _ _ _ hW.may,Nat.mul_comm];exact e1,by rw[cell_of_row W gm _ _ _ _ hW.may,Nat.mul_comm];exact e2,by rw[cell_of_row W gm _ _ _ _ hW.may,Nat.mul_comm];exact e3⟩
   have i1:(0:Int)<=(j:Int):=by omega
   have i2:(j:Int)<12:=by omega
   clear e1 e2 e3 e4 hx SA CH
   cases hB:Spc.ok s j with
   |true=>
    rw[hB]at CB;have OK2:Hid (∀m,m<j+1->Spc.ok s m=true):=fun m hm=>by
     rcases Nat.lt_or_ge m j with h|h
     ·exact OKS.o m h
     ·rw[show m=j by omega];exact hB
    clear hB;go_upto_region 5 with fail
    refine wp_region_held_drew (S:=fun W=>CkS w g gm s W) zk (P.o.on zD.drew) (fun hS=> ?_);refine tY 0 hS ?_;refine tY 1 hS ?_;refine tZ 2 rfl (by intro W hW;obtain⟨x1,x2,x3,x4⟩:=X1.o W hW;go_simp;(try with_reducible rfl)) hS ?_;refine tY 3 hS ?_;refine tY 4 hS ?_;refine tZ 5 rfl (by intro W hW;obtain⟨x1,x2,x3,x4⟩:=X1.o W hW;go_simp;(try with_reducible rfl)) hS ?_;simp only[Act.put,zT,zO,zS];refine rO 6 (fun K hK=> ?_);go_simp
    refine(CB.o _).mono ?_
    rintro e W ⟨rfl,hW⟩;have hS2:=hS.on hW;clear hS hW;have hS:=hS2;clear hS2;refine hK.out _ _ hS (fun _=> ?_);clear hK K;refine tY 7 hS ?_;simp only[Act.put,zT,zO,zS];refine wpAnyH_done zk ?_ _;have PX:=zh hS;clear hS;go_wp2_with fail;exact⟨⟨j+1,zv,by go_num,PX.o,OK2.o⟩,by simp[intOf];omega⟩
   |false=>
    rw[hB]at CB;have HC:=zh (Spc.chk_first hlt OKS.o hB);clear hB;go_upto_region 5 with fail
    refine wp_region_held_drew (S:=fun W=>CkS w g gm s W) zk (P.o.on zD.drew) (fun hS=> ?_);refine tY 0 hS ?_;refine tY 1 hS ?_;refine tZ 2 rfl (by intro W hW;obtain⟨x1,x2,x3,x4⟩:=X1.o W hW;go_simp;(try with_reducible rfl)) hS ?_;refine tY 3 hS ?_;refine tY 4 hS ?_;refine tZ 5 rfl (by intro W hW;obtain⟨x1,x2,x3,x4⟩:=X1.o W hW;go_simp;(try with_reducible rfl)) hS ?_;simp only[Act.put,zT,zO,zS];refine rO 6 (fun K hK=> ?_);go_simp
    refine(CB.o _).mono ?_
    rintro e W ⟨rfl,hW⟩;have hS2:=hS.on hW;clear hS hW;have hS:=hS2;clear hS2;refine hK.out _ _ hS (fun _=> ?_);clear hK K;refine tY 7 hS ?_;simp only[Act.put,zT,zO,zS];refine wpAnyH_done zk ?_ _;have PX:=zh hS;clear hS;go_wp2;go_ret2;exact jcu.mk HC.o zv rfl PX.o.below
  ·obtain rfl:j=12:=by omega
   have HC:=zh (Spc.chk_none OKS.o);go_wp2;go_ret2;exact jcu.mk HC.o rfl rfl P.o.below
open Go.Maps
namespace Rc
def nameB(k:Int):ByteArray:=
 if k=1 then⟨#[108,101,97,100]⟩else if k=2 then⟨#[112,117,98,108,105,115,104]⟩else if k=3 then⟨#[98,101,103,105,110]⟩else if k=4 then⟨#[109,111,118,101]⟩
 else if k=5 then⟨#[105,110,116,101,110,116]⟩else if k=6 then⟨#[97,99,107]⟩else if k=7 then⟨#[115,116,101,112]⟩else⟨#[]⟩
end Rc
theorem jc7{w w':World}{q:Nat}{o:Obj}(h:w.heap[q]? =some o)(hb:zF w w'):w'.heap[q]? =some o:=(hb.block q (zg h).1).trans h
theorem jru(w:World):(zeroValue 208).run Tryz.prog w= .ok (.agg #[.string ⟨#[]⟩,.nilFunc,.nilFunc,.nilFunc,.nilFunc,.nilFunc]) w:=by kernel_rfl
abbrev RM:=MapV.ofInt Tryz.underlying3 Tryz.underlying210 _ jru
def ja3(B:Nat)(w W:World):Prop:=∀i,B<=i->i<w.heap.size->W.heap[i]? =w.heap[i]?
theorem ja3.of{w W:World}(B:Nat)(h:zF w W):ja3 B w W:=fun i _ hi=>h.block i hi
theorem ja3.set{B q:Nat}{w W:World}(h:ja3 B w W)(hq:q<B\/w.heap.size<=q)(cs:Array Value):ja3 B w (W.setRow q cs):=fun i h1 h2=>by
 rw[setRow_other W q i cs zv];exact h i h1 h2
def FnV{T:Type}(B:Nat)(w0:World)(v:Value)(a:T->Value)(ok:T->Prop)(p:T->Bool):Prop:=
 ∃g cap,v= .func (.func g) #[] cap/\(∀args w,(callFunc g args).run Tryz.prog w= .ok (.enter g args) w)/\∀W x,ok x->ja3 B w0 W->Calls Tryz.prog g (#[a x]++cap) W (APos W (.bool (p x)))
theorem FnV.on{T:Type}{B:Nat}{w0 w1:World}{v:Value}{a:T->Value}{ok:T->Prop}{p:T->Bool}(h:FnV B w0 v a ok p)(hb:ja3 B w0 w1)(hs:w0.heap.size<=w1.heap.size):FnV B w1 v a ok p:=by
 obtain⟨g,cap,e,eg,hc⟩:=h;exact⟨g,cap,e,eg,fun W x hx hW=>hc W x hx (fun i h1 h2=>(hW i h1 zv).trans (hb i h1 h2))⟩
theorem kfn_any(lo hi n:Int)(a b:Nat)(w:World)(ha:w.heap[a]? =some (.cells #[.int .i64 lo] 3 (0,0)))(hb:w.heap[b]? =some (.cells #[.int .i64 hi] 3 (0,0))):
  Calls Tryz.prog 242 #[.int .i64 n,.pointer (some ⟨a,0,none⟩),.pointer (some ⟨b,0,none⟩)] w (APos w (.bool (Spc.inn n lo hi))):=by
 have ca:w.cell? ⟨a,0,none⟩=some (.int .i64 lo):=by rw[cell_of_row w a 0 _ _ _ ha];rfl
 have cb:w.cell? ⟨b,0,none⟩=some (.int .i64 hi):=by rw[cell_of_row w b 0 _ _ _ hb];rfl
 clear ha hb;have HI:Hid (Spc.inn n lo hi=(decide (lo<=n)&&decide (n<=hi))):=rfl;have B:=zh (Below.refl w.heap.size w);by_cases h1:lo<=n
 ·by_cases h2:n<=hi
  ·have e:Spc.inn n lo hi=true:=Spc.inn_iff.2 ⟨h1,h2⟩
   rw[e];clear HI e;go_in;go_wp2;go_ret;exact⟨rfl,B.o⟩
  ·have e:Spc.inn n lo hi=false:=by rw[HI.o,Bool.and_eq_false_iff,decide_eq_false_iff_not,decide_eq_false_iff_not];exact .inr h2
   rw[e];clear HI e;go_in;go_wp2;go_ret;exact⟨rfl,B.o⟩
 ·have e:Spc.inn n lo hi=false:=by rw[HI.o,Bool.and_eq_false_iff,decide_eq_false_iff_not,decide_eq_false_iff_not];exact .inl h1
  rw[e];clear HI e;go_in;go_wp2;go_ret;exact⟨rfl,B.o⟩
def jdi(w:World)(m:Nat)(v:Value)(lo hi:Int):Prop:=
 ∃a b,v= .func (.func 242) #[] #[.pointer (some ⟨a,0,none⟩),.pointer (some ⟨b,0,none⟩)]/\w.heap[a]? =some (.cells #[.int .i64 lo] 3 (0,0))/\w.heap[b]? =some (.cells #[.int .i64 hi] 3 (0,0))/\m<a/\m<b
theorem jdi.on{w w':World}{m:Nat}{v:Value}{lo hi:Int}(h:jdi w m v lo hi)(hb:zF w w'):jdi w' m v lo hi:=by
 obtain⟨a,b,e,ha,hbb,h1,h2⟩:=h;exact⟨a,b,e,jc7 ha hb,jc7 hbb hb,h1,h2⟩
theorem jdi.turned{w w':World}{m:Nat}{v:Value}{lo hi:Int}(h:jdi w m v lo hi)(hb:w.mapTurned w' m):jdi w' m v lo hi:=by
 obtain⟨a,b,e,ha,hbb,h1,h2⟩:=h;have G:=hb.grown;refine⟨a,b,e,?_,?_,h1,h2⟩
 ·rw[G.block a (zg ha).1 (fun e=>by injection e;omega)];exact ha
 ·rw[G.block b (zg hbb).1 (fun e=>by injection e;omega)];exact hbb
theorem jdi.fn{w:World}{m B:Nat}(hB:B<=m){v:Value}{lo hi:Int}(h:jdi w m v lo hi):FnV B w v (fun n:Int=> .int .i64 n) Spc.i64 (fun n=>Spc.inn n lo hi):=by
 obtain⟨a,b,e,ha,hbb,h1,h2⟩:=h;exact⟨_,_,e,fun _ _=>rfl,fun W n _ hW=>kfn_any lo hi n a b W ((hW a zv (zg ha).1).trans ha) ((hW b zv (zg hbb).1).trans hbb)⟩
theorem jrv(lo hi:Int)(m:Nat)(w:World)(hm:m<w.heap.size):Calls Tryz.prog 196 #[.int .i64 lo,.int .i64 hi] w fun e w'=>∃a b,e= .returned (.func (.func 242) #[] #[.pointer (some ⟨a,0,none⟩),.pointer (some ⟨b,0,none⟩)])/\jdi w' m (.func (.func 242) #[] #[.pointer (some ⟨a,0,none⟩),.pointer (some ⟨b,0,none⟩)]) lo hi/\zF w w':=by
 have hmf:∀(fn:Fn) (first cap:Array Value) (w:World),(Instr.makeFunc fn first cap).run Tryz.prog w= .ok (.func fn first cap) w:=fun _ _ _ _=>rfl;have B1:=zh ((Below.refl w.heap.size w).alloc zl (.cells #[.int .i64 lo] 3));have R1:=zh (heap_alloc_new w (.cells #[.int .i64 lo] 3));have S1:Hid ((w.alloc (.cells #[.int .i64 lo] 3)).heap.size=w.heap.size+1):=by show _=_;exact World.size_alloc _ _
 have B2:=zh (B1.o.alloc (by have:=B1.o.size;omega) (.cells #[.int .i64 hi] 3));have R2:=zh (heap_alloc_new (w.alloc (.cells #[.int .i64 lo] 3)) (.cells #[.int .i64 hi] 3));have R3:=zh (jc7 R1.o (zD.alloc zl (.cells #[.int .i64 hi] 3)));have HM:=zh hm;clear hm;go_in;go_wp2;go_ret;refine⟨_,_,rfl,⟨_,_,rfl,?_,?_,?_,?_⟩,B2.o⟩
 ·exact R3.o
 ·have:=R2.o;rw[S1.o]at this;exact this
 ·have:=HM.o;omega
 ·have:=HM.o;omega
theorem joa(n:Int)(w:World):Calls Tryz.prog 199 #[.int .i64 n] w (APos w (.bool (decide (n=0)))):=by
 have B:=zh (Below.refl w.heap.size w);have E:Hid (decide (n=0)=(n==0)):=by show _=_;rw[Bool.eq_iff_iff];simp
 rw[E.o];go_in;go_wp2;go_ret;exact⟨rfl,B.o⟩
theorem job(t:ByteArray)(w:World):Calls Tryz.prog 197 #[.string t] w (APos w (.bool (decide (t.size=0)))):=by
 have B:=zh (Below.refl w.heap.size w);have he:=jfe t;generalize decide (t.size=0)=b at*;go_in;go_wp2;go_ret;exact⟨rfl,B.o⟩
theorem zz38{p:Prop}(h:p:=by
 rw[E];clear E h0;go_in;go_wp2;go_ret;exact⟨rfl,B.o⟩):p:=h
theorem jlr(t:ByteArray)(ht:t.size<=maxLen)(w:World):Calls Tryz.prog 200 #[.string t] w (APos w (.bool (decide (1<=t.size)&&decide (t.size<=64)))):=by
 have B:=zh (Below.refl w.heap.size w);have he:=jfe t;have hz:=jgo ht;by_cases h0:t.size=0
 ·have E:(decide (1<=t.size)&&decide (t.size<=64))=false:=by rw[Bool.and_eq_false_iff];left;rw[decide_eq_false_iff_not];omega
  rw[decide_eq_true h0]at he;exact zz38
 ·rw[decide_eq_false h0]at he
  by_cases h1:(t.size:Int)<=64
  ·have E:(decide (1<=t.size)&&decide (t.size<=64))=true:=by rw[Bool.and_eq_true,decide_eq_true_eq,decide_eq_true_eq];omega
   exact zz38
  ·have E:(decide (1<=t.size)&&decide (t.size<=64))=false:=by rw[Bool.and_eq_false_iff];right;rw[decide_eq_false_iff_not];omega
   exact zz38
theorem zz39{p:Prop}(h:p:=by
 rw[e];clear HI e;go_in;go_wp2;go_ret;exact⟨rfl,B.o⟩):p:=h
theorem jka(n:Int)(w:World):Calls Tryz.prog 155 #[.int .i64 n] w (APos w (.bool (Spc.inn n 1 1099511627776))):=by
 have B:=zh (Below.refl w.heap.size w);have HI:Hid (Spc.inn n 1 1099511627776=(decide (1<=n)&&decide (n<=1099511627776))):=rfl;by_cases h1:1<=n
 ·by_cases h2:n<=1099511627776
  ·have e:Spc.inn n 1 1099511627776=true:=Spc.inn_iff.2 ⟨h1,h2⟩
   exact zz39
  ·have e:Spc.inn n 1 1099511627776=false:=by rw[HI.o,Bool.and_eq_false_iff,decide_eq_false_iff_not,decide_eq_false_iff_not];exact .inr h2
   exact zz39
 ·have e:Spc.inn n 1 1099511627776=false:=by rw[HI.o,Bool.and_eq_false_iff,decide_eq_false_iff_not,decide_eq_false_iff_not];exact .inl h1
  exact zz39
def Rc.zsp(s:Spc.Sp):Bool:=decide (Spc.flds s=Spc.flds Spc.zero)
theorem ju7(s:Spc.Sp):Rc.zsp s=Spc.same s Spc.zero:=by
 unfold Rc.zsp;rw[Bool.eq_iff_iff,decide_eq_true_eq,Spc.same_iff];exact⟨Spc.flds_inj,fun h=>by rw[h]⟩
theorem joc(s:Spc.Sp)(w:World):Calls Tryz.prog 198 #[Spc.val s] w (APos w (.bool (Rc.zsp s))):=by
 have B1:=zh (((Below.refl w.heap.size w).alloc zl (.cells (Spc.cells s) 33)));have B2:=zh (B1.o.alloc (by have:=B1.o.size;omega) (.cells (Spc.cells Spc.zero) 33));have K1:=heap_alloc_new w (.cells (Spc.cells s) 33);have K2:=heap_alloc_new (w.alloc (.cells (Spc.cells s) 33)) (.cells (Spc.cells Spc.zero) 33);have K3:=jc7 K1 ((Below.refl _ (w.alloc (.cells (Spc.cells s) 33))).alloc zl (.cells (Spc.cells Spc.zero) 33));have SZ:=World.size_alloc w (.cells (Spc.cells s) 33);rw[SZ]at K2;obtain⟨f0,f1,f2,f3,f4,f5,f6,f7,f8,f9,f10,f11⟩:=jae K3;obtain⟨e0,e1,e2,e3,e4,e5,e6,e7,e8,e9,e10,e11⟩:=jae K2;have he:=spec_eq s Spc.zero;rw[<-ju7]at he;generalize Rc.zsp s=b at*;clear K1 K2 K3 SZ;unfold Spc.val Spc.cells Spc.zero at*;go_in;go_wp2;go_ret;exact⟨rfl,B2.o⟩
theorem jls(s:Spc.Sp)(hin:Spc.In s)(w:World):Calls Tryz.prog 201 #[Spc.val s] w (APos w (.bool (decide (Spc.chk s=0)))):=by
 have B1:=zh (((Below.refl w.heap.size w).alloc zl (.cells (Spc.cells s) 33)));obtain⟨f0,f1,f2,f3,f4,f5,f6,f7,f8,f9,f10,f11⟩:=jae (heap_alloc_new w (.cells (Spc.cells s) 33));have CK:=zh (fun W=>jrt s hin W);have E:Hid (decide (Spc.chk s=0)=(Spc.chkE s==0)):=by
  show _=_;unfold Spc.chkE;rw[Bool.eq_iff_iff];by_cases h:Spc.chk s=0<;>simp[h]
 rw[E.o];clear E;clear hin;unfold jcu at CK;generalize Spc.chkE s=x at*;generalize((Spc.chk s:Nat):Int)=y at*;unfold Spc.val at*;unfold Spc.cells at*;go_in;go_wp2_with(go_at_call 243;refine(CK.o _).mono ?_;rintro e w1 ⟨rfl,hb⟩;have B2:=zh (B1.o.trans (hb.mono B1.o.size));clear hb);go_ret;exact⟨rfl,B2.o⟩
