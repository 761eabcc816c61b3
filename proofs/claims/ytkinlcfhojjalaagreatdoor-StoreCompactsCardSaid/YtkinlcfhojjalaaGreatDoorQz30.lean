import Derived.Test.YtkinlcfhojjalaaGreatDoorQz29
set_option maxHeartbeats 6400000
set_option maxRecDepth 100000
set_option linter.all false
namespace Go.Proofs.YtkinlcfhojjalaaGreatDoor
open Go.RowKit
def jvo(w:World)(e:Ending)(w':World):Prop:=∃r,e= .returned (.agg (Rc.cells r))/\Rc.In r/\zF w w'
structure NxAt(w0 W:World)(n g:Nat)(s:Bk.St)(L V H:Value)(r o:Rc.R):Prop where
 bk:BkAt W n s L V H
 rc:RcAt W (n+1) r
 res:RcAt W (n+1+1) Rc.none_
 o:RcAt W g o
 rd:BkRd w0 s L V H
 below:zF w0 W
 nb:w0.heap.size<=n
 ng:n+1+1<g
theorem NxAt.set{w0 W:World}{n g:Nat}{s:Bk.St}{L V H:Value}{r o:Rc.R}(h:NxAt w0 W n g s L V H r o)(o':Rc.R)(k:Nat)(v:Value)(he:(Rc.cells o).setIfInBounds k v=Rc.cells o'):NxAt w0 (W.setCell ⟨g,k,none⟩ v) n g s L V H r o':=by
 have h1:=h.ng;have h2:=h.nb;exact⟨h.bk.keep (Below.heap_setCell _ _ _ _ (by show n≠g;omega)),⟨(Below.heap_setCell _ _ _ _ (by show n+1≠g;omega)).trans h.rc.row⟩,⟨(Below.heap_setCell _ _ _ _ (by show n+1+1≠g;omega)).trans h.res.row⟩,⟨by rw[<-he];exact heap_setCell_same W g k _ _ _ h.o.row⟩,h.rd,h.below.setCell (by show w0.heap.size<=g;omega) _,h.nb,h.ng⟩
theorem NxAt.on{w0 W W':World}{n g:Nat}{s:Bk.St}{L V H:Value}{r o:Rc.R}(h:NxAt w0 W n g s L V H r o)(hb:zF W W'):NxAt w0 W' n g s L V H r o:=
 ⟨h.bk.on hb,h.rc.on hb,h.res.on hb,h.o.on hb,h.rd,h.below.trans (hb.mono h.below.size),h.nb,h.ng⟩
theorem jb2{p e:Int}(hp:0<=p/\p<=5):0<=Ph.next p e/\Ph.next p e<=5:=by
 by_cases h:Ph.to_ p e= -1
 ·rw[(Ph.next_no h).1];exact hp
 ·rw[Ph.next_to h]
  exact zz17
theorem jga(x:Int):Spc.i64 (wrap64 x):=by unfold Spc.i64 wrap64;omega
theorem jaj{fn:Func}{p:Tmp}(h:fn.results= #[.cell p 56])(tmps:Array Value)(w:World)(g:Nat)(r:Rc.R)(hp:tmps.getD p undef= .pointer (some ⟨g,0,none⟩))(hg:RcAt w g r):
 (results fn tmps).run Tryz.prog w= .ok (.agg (Rc.cells r)) w:=results_cell_row (P:=Tryz.prog) h tmps w g 56 (Rc.cells r) (0,0) _ hp hg.row jag rfl (jak r)
theorem zzk{p:Prop}(h:p:=by
 have N2:=zh hN;have IN2:Hid (Rc.In ({q with epoch:=s.ep})):=⟨fun x hx=>(by simp only[Rc.nums,List.mem_cons,List.not_mem_nil,or_false]at hx;rcases hx with rfl|rfl|rfl|rfl|rfl<;>first|exact IEP.o|fail|exact ING.o.nums _ (by simp[Rc.nums])),ING.o.text,ING.o.sp⟩
 clear hN;obtain⟨rr,hrr⟩:∃rr:Rc.R,rr={q with epoch:=s.ep}:=zx
 rw[<-hrr]at N2 IN2;clear hrr
 go_wp2_with(first
  |((with_reducible show zL 150);refine zR (.tmp 5) N2.o.o ?_)
  |((with_reducible show zW);refine jaa rfl (.tmp 4) (.tmp 150) rfl (n+1+1) rr Rc.none_ rfl rfl N2.o.res ?_))
 exact bodyPost_ret (jaj Tryz.results18 _ _ (n+1+1) rr rfl ⟨setRow_heap _ (n+1+1) _ _ _ _ N2.o.res.row⟩) rfl ⟨rr,rfl,IN2.o,below_setRow N2.o.below (by have:=N2.o.nb;omega) _⟩):p:=h
theorem jl5(s:Bk.St)(ok:Bk.Ok s)(r:Rc.R)(hin:Rc.In r)(L V H:Value)(w:World)(h:BkRd w s L V H):Calls Tryz.prog 18 #[.agg (Bk.cells s L V H),.agg (Rc.cells r)] w (jvo w):=by
 have CG:=zh (fun W=>joo W r hin);obtain⟨W,hW⟩:∃W,W=((w.alloc (.cells (Bk.cells s L V H) 38)).alloc (.cells (Rc.cells r) 56)).alloc (.cells #[zi,zi,zi,zi,zi,.string ⟨#[]⟩,zi,zi,zi,zi,zi,zi,zi,zi,zi,zi,zi,zi] 56):=zx;obtain⟨r1,r2,r3,hb,hs⟩:=jaq hW;have RD:=zh h;go_in;go_upto_region 1 with fail
 rw[<-hW];clear hW;obtain⟨n,hn⟩:∃n,n=w.heap.size:=zx;rw[<-hn]at r1 r2 r3⊢;have NB:=zh (Nat.le_of_eq hn.symm);have X1:Hid (BkAt W n s L V H):=⟨r1⟩;have X2:Hid (RcAt W (n+1) r):=⟨r2⟩;have X3:Hid (RcAt W (n+1+1) Rc.none_):=⟨r3⟩;have B:=zh hb;clear hn r1 r2 r3 hs hb h;go_upto_region 2 with(first
  |((with_reducible show zL 11);refine zR (.tmp 3) X2.o ?_)
  |(go_at_call 42;refine(CG.o _).mono ?_;rintro e w2 ⟨rfl,hb⟩;have X1:=zh (X1.o.on hb);have X2:=zh (X2.o.on hb);have X3:=zh (X3.o.on hb);have B:=zh (B.o.trans (hb.mono B.o.size));clear hb)
  |((with_reducible show zW);refine jaa rfl (.tmp 5) (.tmp 12) rfl w2.heap.size (Rc.good r) Rc.none_ rfl rfl ⟨heap_alloc_new w2 _⟩ ?_))
 rw[World.setRow_alloc_new];have hb:zF w2 (w2.alloc (.cells (Rc.cells (Rc.good r)) 56)):=zE;have hX:NxAt w (w2.alloc (.cells (Rc.cells (Rc.good r)) 56)) n w2.heap.size s L V H r (Rc.good r):=⟨X1.o.on hb,X2.o.on hb,X3.o.on hb,RcAt.new _ _,RD.o,B.o.trans (hb.mono B.o.size),NB.o,X3.o.cs.lt⟩;generalize w2.alloc (.cells (Rc.cells (Rc.good r)) 56)=w3 at*;generalize w2.heap.size=g at*;have hG:=Rc.ok_of (Rc.good_right r);have hRK:=Rc.good_right r;have hgi:=Rc.ok_in hG;generalize Rc.good r=q at*;have N0:=zh hX;have OKG:=zh hG;have RTG:=zh hRK;have ING:=zh hgi;have OKS:=zh ok;have hk:=hG.kind;clear hX hG hRK hgi ok hb X1 X2 X3 B RD CG NB;have b3:=N0.o.bk.cs.c3;have o1:=N0.o.o.cs.c1;have of:=frozen_of_row w3 g 1 _ _ N0.o.o.row;go_upto_region 3 with fail
 have N1:=zh (N0.o.set {q with epoch:=s.ep} 1 (.int .i64 s.ep) rfl)
 clear b3 o1 of N0;generalize w3.setCell ⟨g,1,none⟩ (.int .i64 s.ep)=w4 at*;have hk7:q.kind=1\/q.kind=2\/q.kind=3\/q.kind=4\/q.kind=5\/q.kind=6\/q.kind=7:=by omega
 have IEP:Hid (Spc.i64 s.ep):=by have:=OKS.o.ep;unfold Spc.i64;show _/\_;omega
 clear hk;rcases hk7 with hk|hk|hk|hk|hk|hk|hk
 ·have how:=OKS.o.who
  have IW:Hid (Spc.i64 s.who):=by unfold Spc.i64;show _/\_;omega
  obtain⟨x1,hx1⟩:∃x,wrap64 (q.n+s.till)=x:=⟨_,rfl⟩;obtain⟨x2,hx2⟩:∃x,wrap64 (x1+60)=x:=⟨_,rfl⟩;obtain⟨x3,hx3⟩:∃x,wrap64 (s.ep+1)=x:=⟨_,rfl⟩;obtain⟨y1,hy1⟩:∃x,wrap64 (s.till -1)=x:=⟨_,rfl⟩;obtain⟨y2,hy2⟩:∃x,wrap64 (y1 -q.seq)=x:=⟨_,rfl⟩;have IX1:Hid (Spc.i64 x1):=zh (by rw[<-hx1];exact jga _);have IX2:Hid (Spc.i64 x2):=zh (by rw[<-hx2];exact jga _);have IX3:Hid (Spc.i64 x3):=zh (by rw[<-hx3];exact jga _);have IMX:Hid (Spc.i64 (max y2 0)):=zh (by have h:=jga (y1 -q.seq);rw[hy2]at h;unfold Spc.i64 at h⊢;omega);have lt1:n+1<w4.heap.size:=N1.o.rc.cs.lt;have lt2:g<w4.heap.size:=N1.o.o.cs.lt;have ne1:n+1≠g:=by have:=N1.o.ng;omega
  have ne2:¬(g=n+1):=by omega
  have ne3:n≠g:=by have:=N1.o.ng;omega
  have ne4:¬(g=n):=by omega
  have hr1:wrap64 (r.n.tmod 3)=r.n.tmod 3:=IntWalk.wrap64_in _ (by have h1:=Int.tmod_lt_of_pos r.n (b:=3) zv;have h2:=Int.lt_tmod_of_pos r.n (b:=3) zv;omega);have b3:=N1.o.bk.cs.c3;have b4:=N1.o.bk.cs.c4;have b5:=N1.o.bk.cs.c5;have c3:=N1.o.rc.cs.c3;have o0:=N1.o.o.cs.c0;have o1:=N1.o.o.cs.c1;have o2:=N1.o.o.cs.c2;have o3:=N1.o.o.cs.c3;have o4:=N1.o.o.cs.c4;rw[show({q with epoch:=s.ep}:Rc.R).kind=q.kind from rfl,hk]at o0
  have of:=fun i=>frozen_of_row w4 g i _ _ N1.o.o.row;clear how;by_cases h3:r.n.tmod 3=0
  ·go_upto_region 28 with fail
   have hN:NxAt w (((w4.setCell ⟨g,3,none⟩ (.int .i64 x1)).setCell ⟨g,1,none⟩ (.int .i64 x3)).setCell ⟨g,3,none⟩ (.int .i64 x2)) n g s L V H r ({q with epoch:=x3,n:=x2}):=(((N1.o.set ({q with epoch:=s.ep,n:=x1}) 3 (.int .i64 x1) rfl).set ({q with epoch:=x3,n:=x1}) 1 (.int .i64 x3) rfl).set ({q with epoch:=x3,n:=x2}) 3 (.int .i64 x2) rfl)
   generalize(((w4.setCell ⟨g,3,none⟩ (.int .i64 x1)).setCell ⟨g,1,none⟩ (.int .i64 x3)).setCell ⟨g,3,none⟩ (.int .i64 x2))=w5 at hN⊢;have N2:=zh hN;have IN2:Hid (Rc.In ({q with epoch:=x3,n:=x2})):=⟨fun x hx=>(by simp only[Rc.nums,List.mem_cons,List.not_mem_nil,or_false]at hx;rcases hx with rfl|rfl|rfl|rfl|rfl<;>first|exact IEP.o|exact IX1.o|exact IX2.o|exact IX3.o|exact ING.o.nums _ (by simp[Rc.nums])),ING.o.text,ING.o.sp⟩
   clear hN;obtain⟨rr,hrr⟩:∃rr:Rc.R,rr={q with epoch:=x3,n:=x2}:=zx
   rw[<-hrr]at N2 IN2;clear hrr
   go_wp2_with(first
    |((with_reducible show zL 150);refine zR (.tmp 5) N2.o.o ?_)
    |((with_reducible show zW);refine jaa rfl (.tmp 4) (.tmp 150) rfl (n+1+1) rr Rc.none_ rfl rfl N2.o.res ?_))
   exact bodyPost_ret (jaj Tryz.results18 _ _ (n+1+1) rr rfl ⟨setRow_heap _ (n+1+1) _ _ _ _ N2.o.res.row⟩) rfl ⟨rr,rfl,IN2.o,below_setRow N2.o.below (by have:=N2.o.nb;omega) _⟩
  ·have hb3:(r.n.tmod 3==0)=false:=by simpa using h3
   by_cases h0:s.ep=0
   ·rw[h0]at b3
    have h31:x3=1:=by rw[<-hx3,h0,IntWalk.wrap64_in _ ⟨zv,zv⟩];rfl
    subst h31;go_upto_region 28 with fail
    have hN:NxAt w (((w4.setCell ⟨g,3,none⟩ (.int .i64 x1)).setCell ⟨g,1,none⟩ (.int .i64 1)).setCell ⟨g,3,none⟩ (.int .i64 x2)) n g s L V H r ({q with epoch:=1,n:=x2}):=(((N1.o.set ({q with epoch:=s.ep,n:=x1}) 3 (.int .i64 x1) rfl).set ({q with epoch:=1,n:=x1}) 1 (.int .i64 1) rfl).set ({q with epoch:=1,n:=x2}) 3 (.int .i64 x2) rfl)
    generalize(((w4.setCell ⟨g,3,none⟩ (.int .i64 x1)).setCell ⟨g,1,none⟩ (.int .i64 1)).setCell ⟨g,3,none⟩ (.int .i64 x2))=w5 at hN⊢;have N2:=zh hN;have IN2:Hid (Rc.In ({q with epoch:=1,n:=x2})):=⟨fun x hx=>(by simp only[Rc.nums,List.mem_cons,List.not_mem_nil,or_false]at hx;rcases hx with rfl|rfl|rfl|rfl|rfl<;>first|exact IEP.o|exact IX1.o|exact IX2.o|exact IX3.o|exact ING.o.nums _ (by simp[Rc.nums])),ING.o.text,ING.o.sp⟩
    clear hN;obtain⟨rr,hrr⟩:∃rr:Rc.R,rr={q with epoch:=1,n:=x2}:=zx
    rw[<-hrr]at N2 IN2;clear hrr
    go_wp2_with(first
     |((with_reducible show zL 150);refine zR (.tmp 5) N2.o.o ?_)
     |((with_reducible show zW);refine jaa rfl (.tmp 4) (.tmp 150) rfl (n+1+1) rr Rc.none_ rfl rfl N2.o.res ?_))
    exact bodyPost_ret (jaj Tryz.results18 _ _ (n+1+1) rr rfl ⟨setRow_heap _ (n+1+1) _ _ _ _ N2.o.res.row⟩) rfl ⟨rr,rfl,IN2.o,below_setRow N2.o.below (by have:=N2.o.nb;omega) _⟩
   ·have hb0:(s.ep==0)=false:=by simpa using h0
    go_upto_region 28 with fail
    have hN:NxAt w (((w4.setCell ⟨g,3,none⟩ (.int .i64 x1)).setCell ⟨g,2,none⟩ (.int .i64 s.who)).setCell ⟨g,3,none⟩ (.int .i64 (max y2 0))) n g s L V H r ({q with epoch:=s.ep,who:=s.who,n:=max y2 0}):=(((N1.o.set ({q with epoch:=s.ep,n:=x1}) 3 (.int .i64 x1) rfl).set ({q with epoch:=s.ep,n:=x1,who:=s.who}) 2 (.int .i64 s.who) rfl).set ({q with epoch:=s.ep,who:=s.who,n:=max y2 0}) 3 (.int .i64 (max y2 0)) rfl)
    generalize(((w4.setCell ⟨g,3,none⟩ (.int .i64 x1)).setCell ⟨g,2,none⟩ (.int .i64 s.who)).setCell ⟨g,3,none⟩ (.int .i64 (max y2 0)))=w5 at hN⊢;have N2:=zh hN;have IN2:Hid (Rc.In ({q with epoch:=s.ep,who:=s.who,n:=max y2 0})):=⟨fun x hx=>(by simp only[Rc.nums,List.mem_cons,List.not_mem_nil,or_false]at hx;rcases hx with rfl|rfl|rfl|rfl|rfl<;>first|exact IEP.o|exact IMX.o|exact IW.o|exact ING.o.nums _ (by simp[Rc.nums])),ING.o.text,ING.o.sp⟩
    clear hN;obtain⟨rr,hrr⟩:∃rr:Rc.R,rr={q with epoch:=s.ep,who:=s.who,n:=max y2 0}:=zx
    rw[<-hrr]at N2 IN2;clear hrr
    go_wp2_with(first
     |((with_reducible show zL 150);refine zR (.tmp 5) N2.o.o ?_)
     |((with_reducible show zW);refine jaa rfl (.tmp 4) (.tmp 150) rfl (n+1+1) rr Rc.none_ rfl rfl N2.o.res ?_))
    exact bodyPost_ret (jaj Tryz.results18 _ _ (n+1+1) rr rfl ⟨setRow_heap _ (n+1+1) _ _ _ _ N2.o.res.row⟩) rfl ⟨rr,rfl,IN2.o,below_setRow N2.o.below (by have:=N2.o.nb;omega) _⟩
 ·have o0:=N1.o.o.cs.c0
  rw[show({q with epoch:=s.ep}:Rc.R).kind=q.kind from rfl,hk]at o0
  have of:=fun i=>frozen_of_row w4 g i _ _ N1.o.o.row;go_upto_region 28 with fail
  have hN:NxAt w w4 n g s L V H r ({q with epoch:=s.ep}):=N1.o
  skip
  exact zzk
 ·obtain⟨A,cv,hv,hsv⟩:=N1.o.rd.v
  have c0:=N1.o.o.cs.c0;rw[show({q with epoch:=s.ep}:Rc.R).kind=q.kind from rfl,hk]at c0
  have b2:=N1.o.bk.cs.c2;rw[hv]at b2;obtain⟨m,hm⟩:∃m,m=s.vs.length:=zx;rw[<-hm]at b2 hv hsv;have HV:=zh hv;have HSV:=zh hsv;have HM:=zh hm;have hm64:=OKS.o.vl;rw[<-hm]at hm64;by_cases h0:m=0
  ·have hz0:¬((0:Int)<(m:Int)):=by omega
   have o0:=c0;clear c0 h0 hv hsv hm hm64;go_upto_region 28 with fail
   have hN:=N1.o;exact zzk
  ·have hmp:(0:Int)<(m:Int):=by omega
   have o0:=c0;go_upto_region 13 with fail
   clear b2 o0 c0 hv hsv hm;obtain⟨k,hk1,hk2⟩:=mod_at r.n m zv zv;have HL:Hid (IntKind.u64.wrap (m:Int)=(m:Int)):=by show _=_;rw[IntKind.wrap_u64];omega
   obtain⟨y,hy⟩:∃y,IntKind.u64.wrap r.n=y:=⟨_,rfl⟩;rw[hy]at hk1;have HU:=zh hy;obtain⟨z,hz⟩:∃z,y.tmod (m:Int)=z:=⟨_,rfl⟩;rw[hz]at hk1;have HT:=zh hz;have HW:Hid (IntKind.i64.wrap z=(k:Int)):=by show _=_;rw[<-hk1,IntKind.wrap_i64];unfold wrap64;omega
   have HM0:Hid (¬(m=0)):=by show¬_;omega
   have HKM:Hid ((k:Int)<(m:Int)):=by show _<_;omega
   obtain⟨x,hx⟩:∃x,s.vs[k]? =some x:=⟨_,List.getElem?_eq_getElem (by have:=HM.o;omega)⟩;obtain⟨b,o,rfl,hb1,hb2⟩:=HSV.o.at_ Bk.vnC_len hx;have IXV:Hid (Spc.i64 x.n):=by have:=OKS.o.vs x (List.mem_of_getElem? hx);unfold Spc.i64;show _/\_;omega
   have CX:Hid (∀W,(∃o',NxAt w W n g s L V H r o')->W.cell? ⟨b,o+k*2,none⟩=some (.int .i64 x.n)/\b<W.heap.size):=fun W hW=>by
    obtain⟨o9,hW⟩:=hW;obtain⟨b',o',e',h1,h2⟩:=(HSV.o.on hW.below).at_ Bk.vnC_len hx;injection e' with e';injection e' with e1 e2;subst e1 e2
    exact⟨h2 0 _ rfl,h1⟩
   clear hy hz hk1 hk2 hx hb1 hb2 h0;refine wp_region_held_drew (S:=fun W=>∃o',NxAt w W n g s L V H r o') zk ⟨_,N1.o.on (Below.refl w4.heap.size w4).drew⟩ (fun hS=> ?_);refine tY 0 hS ?_;refine tZ 1 rfl (by intro W hW;obtain⟨o9,hW⟩:=hW;have b2:=hW.bk.cs.c2;rw[HV.o]at b2;have fl:=hW.bk.cs.lt;go_simp;(try with_reducible rfl)) hS ?_;refine tY 2 hS ?_;refine tZ 3 rfl (by intro W hW;obtain⟨o9,hW⟩:=hW;have c3:=hW.rc.cs.c3;go_simp;(try with_reducible rfl)) hS ?_;refine tZ 4 rfl (by intro W hW;have hu:=HU.o;go_simp;(try with_reducible rfl)) hS ?_;refine tY 5 hS ?_;simp only[Act.put,zT,zO,zS];refine tZ 6 rfl (by intro W hW;obtain⟨o9,hW⟩:=hW;have b2:=hW.bk.cs.c2;rw[HV.o]at b2;have fl:=hW.bk.cs.lt;go_simp;(try with_reducible rfl)) hS ?_;refine tY 7 hS ?_;refine tZ 8 rfl (by intro W hW;have hl:=HL.o;go_simp;(try with_reducible rfl)) hS ?_;refine tZ 9 rfl (by intro W hW;have ht:=HT.o;have hm0:=HM0.o;go_simp;(try with_reducible rfl)) hS ?_;refine tZ 10 rfl (by intro W hW;have hw:=HW.o;go_simp;(try with_reducible rfl)) hS ?_;refine tZ 11 rfl (by intro W hW;have hk:=HKM.o;go_simp;(try with_reducible rfl)) hS ?_;simp only[Act.put,zT,zO,zS];refine tY 12 hS ?_;refine tZ 13 rfl (by intro W hW;obtain⟨d0,d1⟩:=CX.o W hW;go_simp;(try with_reducible rfl)) hS ?_;refine tY 14 hS ?_;refine tY 15 hS ?_;simp only[Act.put,zT,zO,zS];refine rO 16 (fun K hK=> ?_);have o6:=N1.o.o.cs.c6;have fz:=fun i=>frozen_of_row w4 g i _ _ N1.o.o.row;have lt2:=N1.o.o.cs.lt;go_simp;have NN:=zh ((N1.o.set ({q with epoch:=s.ep,sp:={q.sp with v:=x.n}}) 6 (.int .i64 x.n) rfl).on (Below.refl _ (w4.setCell ⟨g,6,none⟩ (.int .i64 x.n))).drew)
   have hS2:∃o',NxAt w (w4.setCell ⟨g,6,none⟩ (.int .i64 x.n)).drew n g s L V H r o':=⟨_,NN.o⟩;clear hS o6 fz lt2;have hS:=hS2;clear hS2;refine hK.out _ _ hS (fun _=> ?_);clear hK K;try simp only[Act.put,zT,zO,zS]
   refine wpAnyH_done zk ?_ _;have hN:=NN.o;clear hS NN;generalize(w4.setCell ⟨g,6,none⟩ (.int .i64 x.n)).drew=w5 at hN⊢;have o0:=hN.o.cs.c0;rw[show({q with epoch:=s.ep,sp:={q.sp with v:=x.n}}:Rc.R).kind=q.kind from rfl,hk]at o0
   go_upto_region 28 with fail
   have N2:=zh hN;have IN2:Hid (Rc.In ({q with epoch:=s.ep,sp:={q.sp with v:=x.n}})):=⟨fun y hy=>(by simp only[Rc.nums,List.mem_cons,List.not_mem_nil,or_false]at hy;rcases hy with rfl|rfl|rfl|rfl|rfl<;>first|exact IEP.o|exact ING.o.nums _ (by simp[Rc.nums])),ING.o.text,fun y hy=>(by simp only[Spc.flds,List.mem_cons,List.not_mem_nil,or_false]at hy;rcases hy with rfl|rfl|rfl|rfl|rfl|rfl|rfl|rfl|rfl|rfl|rfl|rfl<;>first|exact IXV.o|exact ING.o.sp _ (by simp[Spc.flds]))⟩
   clear hN;obtain⟨rr,hrr⟩:∃rr:Rc.R,rr={q with epoch:=s.ep,sp:={q.sp with v:=x.n}}:=zx
   rw[<-hrr]at N2 IN2;clear hrr
   go_wp2_with(first
    |((with_reducible show zL 150);refine zR (.tmp 5) N2.o.o ?_)
    |((with_reducible show zW);refine jaa rfl (.tmp 4) (.tmp 150) rfl (n+1+1) rr Rc.none_ rfl rfl N2.o.res ?_))
   exact bodyPost_ret (jaj Tryz.results18 _ _ (n+1+1) rr rfl ⟨setRow_heap _ (n+1+1) _ _ _ _ N2.o.res.row⟩) rfl ⟨rr,rfl,IN2.o,below_setRow N2.o.below (by have:=N2.o.nb;omega) _⟩
 ·have lt1:n+1<w4.heap.size:=N1.o.rc.cs.lt
  have lt2:g<w4.heap.size:=N1.o.o.cs.lt;have ne1:n+1≠g:=by have:=N1.o.ng;omega
  have ne2:¬(g=n+1):=by omega
  have hu:IntKind.u64.wrap r.n=r.n%18446744073709551616:=IntKind.wrap_u64 r.n;have hy:=Int.emod_nonneg r.n (b:=18446744073709551616) zv;generalize r.n%18446744073709551616=y at hu hy;have ht:y.tmod 7=y%7:=Int.tmod_eq_emod_of_nonneg hy;have hz0:=Int.emod_nonneg y (b:=7) zv;have hz1:=Int.emod_lt_of_pos y (b:=7) zv;generalize y%7=z at ht hz0 hz1;have b8:=N1.o.bk.cs.c8;have c3:=N1.o.rc.cs.c3;have o0:=N1.o.o.cs.c0;have o3:=N1.o.o.cs.c3;have o5:=N1.o.o.cs.c5;rw[show({q with epoch:=s.ep}:Rc.R).kind=q.kind from rfl,hk]at o0
  have of:=fun i=>frozen_of_row w4 g i _ _ N1.o.o.row;have hz:z=0\/z=1\/z=2\/z=3\/z=4\/z=5\/z=6:=by omega
  clear hz0 hz1 hy;rcases hz with rfl|rfl|rfl|rfl|rfl|rfl|rfl
  ·have CO:=zh (fun W=>jb8 ⟨#[112,97,117,115,101]⟩ W)
   obtain⟨ev,hev⟩:∃e,Ph.of ⟨#[112,97,117,115,101]⟩=e:=⟨_,rfl⟩;rw[hev]at CO;obtain⟨v,hv⟩:∃v,Ph.next s.ph ev=v:=⟨_,rfl⟩;have CN:=zh (fun W=>jbk s.ph ev W);rw[hv]at CN;have hvb:=jb2 (e:=ev) OKS.o.ph;rw[hv]at hvb;have IMX:Hid (Spc.i64 (max v 1)):=by unfold Spc.i64;show _/\_;omega
   generalize Ph.isWord ⟨#[112,97,117,115,101]⟩=wb at CO;generalize Ph.did s.ph ev=db at CN;clear hev hv hvb;go_upto_region 17 with fail
   have hN:NxAt w ((w4.setCell ⟨g,5,none⟩ (.string ⟨#[112,97,117,115,101]⟩)).alloc (.cells #[.string ⟨#[112,97,117,115,101]⟩,.string ⟨#[114,101,115,117,109,101]⟩,.string ⟨#[104,101,97,108,116,104]⟩,.string ⟨#[100,101,97,100,108,105,110,101]⟩,.string ⟨#[97,98,111,114,116]⟩,.string ⟨#[100,111,110,101]⟩,.string ⟨#[98,97,99,107]⟩] 9)) n g s L V H r ({q with epoch:=s.ep,text:=⟨#[112,97,117,115,101]⟩}):=(N1.o.set ({q with epoch:=s.ep,text:=⟨#[112,97,117,115,101]⟩}) 5 (.string ⟨#[112,97,117,115,101]⟩) rfl).on zE
   generalize(w4.setCell ⟨g,5,none⟩ (.string ⟨#[112,97,117,115,101]⟩)).alloc (.cells #[.string ⟨#[112,97,117,115,101]⟩,.string ⟨#[114,101,115,117,109,101]⟩,.string ⟨#[104,101,97,108,116,104]⟩,.string ⟨#[100,101,97,100,108,105,110,101]⟩,.string ⟨#[97,98,111,114,116]⟩,.string ⟨#[100,111,110,101]⟩,.string ⟨#[98,97,99,107]⟩] 9)=w5 at hN⊢;clear b8 c3 o0 o3 o5 of lt1 lt2;have NA:=zh hN;clear hN N1;have o5:=NA.o.o.cs.c5;go_upto_region 18 with(go_at_call 43;refine(CO.o _).mono ?_;rintro e w6 ⟨rfl,hb⟩;have NB:=zh (NA.o.on hb);clear hb o5)
   have b8:=NB.o.bk.cs.c8;have o3:=NB.o.o.cs.c3;have o0:=NB.o.o.cs.c0;rw[show({q with epoch:=s.ep,text:=⟨#[112,97,117,115,101]⟩}:Rc.R).kind=q.kind from rfl,hk]at o0
   have of:=fun i=>frozen_of_row w6 g i _ _ NB.o.o.row;go_upto_region 28 with(go_at_call 44;refine(CN.o _).mono ?_;rintro e w7 ⟨rfl,rfl⟩)
   have hN:NxAt w (w7.setCell ⟨g,3,none⟩ (.int .i64 (max v 1))) n g s L V H r ({q with epoch:=s.ep,text:=⟨#[112,97,117,115,101]⟩,n:=max v 1}):=NB.o.set ({q with epoch:=s.ep,text:=⟨#[112,97,117,115,101]⟩,n:=max v 1}) 3 (.int .i64 (max v 1)) rfl
   generalize w7.setCell ⟨g,3,none⟩ (.int .i64 (max v 1))=w8 at hN⊢;have N2:=zh hN;have IN2:Hid (Rc.In ({q with epoch:=s.ep,text:=⟨#[112,97,117,115,101]⟩,n:=max v 1})):=⟨fun x hx=>(by simp only[Rc.nums,List.mem_cons,List.not_mem_nil,or_false]at hx;rcases hx with rfl|rfl|rfl|rfl|rfl<;>first|exact IEP.o|exact IMX.o|exact ING.o.nums _ (by simp[Rc.nums])),(show(⟨#[112,97,117,115,101]⟩:ByteArray).size<=maxLen by decide),ING.o.sp⟩
   clear hN;obtain⟨rr,hrr⟩:∃rr:Rc.R,rr={q with epoch:=s.ep,text:=⟨#[112,97,117,115,101]⟩,n:=max v 1}:=zx
   rw[<-hrr]at N2 IN2;clear hrr
   go_wp2_with(first
    |((with_reducible show zL 150);refine zR (.tmp 5) N2.o.o ?_)
    |((with_reducible show zW);refine jaa rfl (.tmp 4) (.tmp 150) rfl (n+1+1) rr Rc.none_ rfl rfl N2.o.res ?_))
   exact bodyPost_ret (jaj Tryz.results18 _ _ (n+1+1) rr rfl ⟨setRow_heap _ (n+1+1) _ _ _ _ N2.o.res.row⟩) rfl ⟨rr,rfl,IN2.o,below_setRow N2.o.below (by have:=N2.o.nb;omega) _⟩
  ·have CO:=zh (fun W=>jb8 ⟨#[114,101,115,117,109,101]⟩ W)
   obtain⟨ev,hev⟩:∃e,Ph.of ⟨#[114,101,115,117,109,101]⟩=e:=⟨_,rfl⟩;rw[hev]at CO;obtain⟨v,hv⟩:∃v,Ph.next s.ph ev=v:=⟨_,rfl⟩;have CN:=zh (fun W=>jbk s.ph ev W);rw[hv]at CN;have hvb:=jb2 (e:=ev) OKS.o.ph;rw[hv]at hvb;have IMX:Hid (Spc.i64 (max v 1)):=by unfold Spc.i64;show _/\_;omega
   generalize Ph.isWord ⟨#[114,101,115,117,109,101]⟩=wb at CO;generalize Ph.did s.ph ev=db at CN;clear hev hv hvb;go_upto_region 17 with fail
   have hN:NxAt w ((w4.setCell ⟨g,5,none⟩ (.string ⟨#[114,101,115,117,109,101]⟩)).alloc (.cells #[.string ⟨#[112,97,117,115,101]⟩,.string ⟨#[114,101,115,117,109,101]⟩,.string ⟨#[104,101,97,108,116,104]⟩,.string ⟨#[100,101,97,100,108,105,110,101]⟩,.string ⟨#[97,98,111,114,116]⟩,.string ⟨#[100,111,110,101]⟩,.string ⟨#[98,97,99,107]⟩] 9)) n g s L V H r ({q with epoch:=s.ep,text:=⟨#[114,101,115,117,109,101]⟩}):=(N1.o.set ({q with epoch:=s.ep,text:=⟨#[114,101,115,117,109,101]⟩}) 5 (.string ⟨#[114,101,115,117,109,101]⟩) rfl).on zE
   generalize(w4.setCell ⟨g,5,none⟩ (.string ⟨#[114,101,115,117,109,101]⟩)).alloc (.cells #[.string ⟨#[112,97,117,115,101]⟩,.string ⟨#[114,101,115,117,109,101]⟩,.string ⟨#[104,101,97,108,116,104]⟩,.string ⟨#[100,101,97,100,108,105,110,101]⟩,.string ⟨#[97,98,111,114,116]⟩,.string ⟨#[100,111,110,101]⟩,.string ⟨#[98,97,99,107]⟩] 9)=w5 at hN⊢;clear b8 c3 o0 o3 o5 of lt1 lt2;have NA:=zh hN;clear hN N1;have o5:=NA.o.o.cs.c5;go_upto_region 18 with(go_at_call 43;refine(CO.o _).mono ?_;rintro e w6 ⟨rfl,hb⟩;have NB:=zh (NA.o.on hb);clear hb o5)
   have b8:=NB.o.bk.cs.c8;have o3:=NB.o.o.cs.c3;have o0:=NB.o.o.cs.c0;rw[show({q with epoch:=s.ep,text:=⟨#[114,101,115,117,109,101]⟩}:Rc.R).kind=q.kind from rfl,hk]at o0
   have of:=fun i=>frozen_of_row w6 g i _ _ NB.o.o.row;go_upto_region 28 with(go_at_call 44;refine(CN.o _).mono ?_;rintro e w7 ⟨rfl,rfl⟩)
   have hN:NxAt w (w7.setCell ⟨g,3,none⟩ (.int .i64 (max v 1))) n g s L V H r ({q with epoch:=s.ep,text:=⟨#[114,101,115,117,109,101]⟩,n:=max v 1}):=NB.o.set ({q with epoch:=s.ep,text:=⟨#[114,101,115,117,109,101]⟩,n:=max v 1}) 3 (.int .i64 (max v 1)) rfl
   generalize w7.setCell ⟨g,3,none⟩ (.int .i64 (max v 1))=w8 at hN⊢;have N2:=zh hN;have IN2:Hid (Rc.In ({q with epoch:=s.ep,text:=⟨#[114,101,115,117,109,101]⟩,n:=max v 1})):=⟨fun x hx=>(by simp only[Rc.nums,List.mem_cons,List.not_mem_nil,or_false]at hx;rcases hx with rfl|rfl|rfl|rfl|rfl<;>first|exact IEP.o|exact IMX.o|exact ING.o.nums _ (by simp[Rc.nums])),(show(⟨#[114,101,115,117,109,101]⟩:ByteArray).size<=maxLen by decide),ING.o.sp⟩
   clear hN;obtain⟨rr,hrr⟩:∃rr:Rc.R,rr={q with epoch:=s.ep,text:=⟨#[114,101,115,117,109,101]⟩,n:=max v 1}:=zx
   rw[<-hrr]at N2 IN2;clear hrr
   go_wp2_with(first
    |((with_reducible show zL 150);refine zR (.tmp 5) N2.o.o ?_)
    |((with_reducible show zW);refine jaa rfl (.tmp 4) (.tmp 150) rfl (n+1+1) rr Rc.none_ rfl rfl N2.o.res ?_))
   exact bodyPost_ret (jaj Tryz.results18 _ _ (n+1+1) rr rfl ⟨setRow_heap _ (n+1+1) _ _ _ _ N2.o.res.row⟩) rfl ⟨rr,rfl,IN2.o,below_setRow N2.o.below (by have:=N2.o.nb;omega) _⟩
  ·have CO:=zh (fun W=>jb8 ⟨#[104,101,97,108,116,104]⟩ W)
   obtain⟨ev,hev⟩:∃e,Ph.of ⟨#[104,101,97,108,116,104]⟩=e:=⟨_,rfl⟩;rw[hev]at CO;obtain⟨v,hv⟩:∃v,Ph.next s.ph ev=v:=⟨_,rfl⟩;have CN:=zh (fun W=>jbk s.ph ev W);rw[hv]at CN;have hvb:=jb2 (e:=ev) OKS.o.ph;rw[hv]at hvb;have IMX:Hid (Spc.i64 (max v 1)):=by unfold Spc.i64;show _/\_;omega
   generalize Ph.isWord ⟨#[104,101,97,108,116,104]⟩=wb at CO;generalize Ph.did s.ph ev=db at CN;clear hev hv hvb;go_upto_region 17 with fail
   have hN:NxAt w ((w4.setCell ⟨g,5,none⟩ (.string ⟨#[104,101,97,108,116,104]⟩)).alloc (.cells #[.string ⟨#[112,97,117,115,101]⟩,.string ⟨#[114,101,115,117,109,101]⟩,.string ⟨#[104,101,97,108,116,104]⟩,.string ⟨#[100,101,97,100,108,105,110,101]⟩,.string ⟨#[97,98,111,114,116]⟩,.string ⟨#[100,111,110,101]⟩,.string ⟨#[98,97,99,107]⟩] 9)) n g s L V H r ({q with epoch:=s.ep,text:=⟨#[104,101,97,108,116,104]⟩}):=(N1.o.set ({q with epoch:=s.ep,text:=⟨#[104,101,97,108,116,104]⟩}) 5 (.string ⟨#[104,101,97,108,116,104]⟩) rfl).on zE
   generalize(w4.setCell ⟨g,5,none⟩ (.string ⟨#[104,101,97,108,116,104]⟩)).alloc (.cells #[.string ⟨#[112,97,117,115,101]⟩,.string ⟨#[114,101,115,117,109,101]⟩,.string ⟨#[104,101,97,108,116,104]⟩,.string ⟨#[100,101,97,100,108,105,110,101]⟩,.string ⟨#[97,98,111,114,116]⟩,.string ⟨#[100,111,110,101]⟩,.string ⟨#[98,97,99,107]⟩] 9)=w5 at hN⊢;clear b8 c3 o0 o3 o5 of lt1 lt2;have NA:=zh hN;clear hN N1;have o5:=NA.o.o.cs.c5;go_upto_region 18 with(go_at_call 43;refine(CO.o _).mono ?_;rintro e w6 ⟨rfl,hb⟩;have NB:=zh (NA.o.on hb);clear hb o5)
   have b8:=NB.o.bk.cs.c8;have o3:=NB.o.o.cs.c3;have o0:=NB.o.o.cs.c0;rw[show({q with epoch:=s.ep,text:=⟨#[104,101,97,108,116,104]⟩}:Rc.R).kind=q.kind from rfl,hk]at o0
   have of:=fun i=>frozen_of_row w6 g i _ _ NB.o.o.row;go_upto_region 28 with(go_at_call 44;refine(CN.o _).mono ?_;rintro e w7 ⟨rfl,rfl⟩)
   have hN:NxAt w (w7.setCell ⟨g,3,none⟩ (.int .i64 (max v 1))) n g s L V H r ({q with epoch:=s.ep,text:=⟨#[104,101,97,108,116,104]⟩,n:=max v 1}):=NB.o.set ({q with epoch:=s.ep,text:=⟨#[104,101,97,108,116,104]⟩,n:=max v 1}) 3 (.int .i64 (max v 1)) rfl
   generalize w7.setCell ⟨g,3,none⟩ (.int .i64 (max v 1))=w8 at hN⊢;have N2:=zh hN;have IN2:Hid (Rc.In ({q with epoch:=s.ep,text:=⟨#[104,101,97,108,116,104]⟩,n:=max v 1})):=⟨fun x hx=>(by simp only[Rc.nums,List.mem_cons,List.not_mem_nil,or_false]at hx;rcases hx with rfl|rfl|rfl|rfl|rfl<;>first|exact IEP.o|exact IMX.o|exact ING.o.nums _ (by simp[Rc.nums])),(show(⟨#[104,101,97,108,116,104]⟩:ByteArray).size<=maxLen by decide),ING.o.sp⟩
   clear hN;obtain⟨rr,hrr⟩:∃rr:Rc.R,rr={q with epoch:=s.ep,text:=⟨#[104,101,97,108,116,104]⟩,n:=max v 1}:=zx
   rw[<-hrr]at N2 IN2;clear hrr
   go_wp2_with(first
    |((with_reducible show zL 150);refine zR (.tmp 5) N2.o.o ?_)
    |((with_reducible show zW);refine jaa rfl (.tmp 4) (.tmp 150) rfl (n+1+1) rr Rc.none_ rfl rfl N2.o.res ?_))
   exact bodyPost_ret (jaj Tryz.results18 _ _ (n+1+1) rr rfl ⟨setRow_heap _ (n+1+1) _ _ _ _ N2.o.res.row⟩) rfl ⟨rr,rfl,IN2.o,below_setRow N2.o.below (by have:=N2.o.nb;omega) _⟩
  ·have CO:=zh (fun W=>jb8 ⟨#[100,101,97,100,108,105,110,101]⟩ W)
   obtain⟨ev,hev⟩:∃e,Ph.of ⟨#[100,101,97,100,108,105,110,101]⟩=e:=⟨_,rfl⟩;rw[hev]at CO;obtain⟨v,hv⟩:∃v,Ph.next s.ph ev=v:=⟨_,rfl⟩;have CN:=zh (fun W=>jbk s.ph ev W);rw[hv]at CN;have hvb:=jb2 (e:=ev) OKS.o.ph;rw[hv]at hvb;have IMX:Hid (Spc.i64 (max v 1)):=by unfold Spc.i64;show _/\_;omega
   generalize Ph.isWord ⟨#[100,101,97,100,108,105,110,101]⟩=wb at CO;generalize Ph.did s.ph ev=db at CN;clear hev hv hvb;go_upto_region 17 with fail
   have hN:NxAt w ((w4.setCell ⟨g,5,none⟩ (.string ⟨#[100,101,97,100,108,105,110,101]⟩)).alloc (.cells #[.string ⟨#[112,97,117,115,101]⟩,.string ⟨#[114,101,115,117,109,101]⟩,.string ⟨#[104,101,97,108,116,104]⟩,.string ⟨#[100,101,97,100,108,105,110,101]⟩,.string ⟨#[97,98,111,114,116]⟩,.string ⟨#[100,111,110,101]⟩,.string ⟨#[98,97,99,107]⟩] 9)) n g s L V H r ({q with epoch:=s.ep,text:=⟨#[100,101,97,100,108,105,110,101]⟩}):=(N1.o.set ({q with epoch:=s.ep,text:=⟨#[100,101,97,100,108,105,110,101]⟩}) 5 (.string ⟨#[100,101,97,100,108,105,110,101]⟩) rfl).on zE
   generalize(w4.setCell ⟨g,5,none⟩ (.string ⟨#[100,101,97,100,108,105,110,101]⟩)).alloc (.cells #[.string ⟨#[112,97,117,115,101]⟩,.string ⟨#[114,101,115,117,109,101]⟩,.string ⟨#[104,101,97,108,116,104]⟩,.string ⟨#[100,101,97,100,108,105,110,101]⟩,.string ⟨#[97,98,111,114,116]⟩,.string ⟨#[100,111,110,101]⟩,.string ⟨#[98,97,99,107]⟩] 9)=w5 at hN⊢;clear b8 c3 o0 o3 o5 of lt1 lt2;have NA:=zh hN;clear hN N1;have o5:=NA.o.o.cs.c5;go_upto_region 18 with(go_at_call 43;refine(CO.o _).mono ?_;rintro e w6 ⟨rfl,hb⟩;have NB:=zh (NA.o.on hb);clear hb o5)
   have b8:=NB.o.bk.cs.c8;have o3:=NB.o.o.cs.c3;have o0:=NB.o.o.cs.c0;rw[show({q with epoch:=s.ep,text:=⟨#[100,101,97,100,108,105,110,101]⟩}:Rc.R).kind=q.kind from rfl,hk]at o0
   have of:=fun i=>frozen_of_row w6 g i _ _ NB.o.o.row;go_upto_region 28 with(go_at_call 44;refine(CN.o _).mono ?_;rintro e w7 ⟨rfl,rfl⟩)
   have hN:NxAt w (w7.setCell ⟨g,3,none⟩ (.int .i64 (max v 1))) n g s L V H r ({q with epoch:=s.ep,text:=⟨#[100,101,97,100,108,105,110,101]⟩,n:=max v 1}):=NB.o.set ({q with epoch:=s.ep,text:=⟨#[100,101,97,100,108,105,110,101]⟩,n:=max v 1}) 3 (.int .i64 (max v 1)) rfl
   generalize w7.setCell ⟨g,3,none⟩ (.int .i64 (max v 1))=w8 at hN⊢;have N2:=zh hN;have IN2:Hid (Rc.In ({q with epoch:=s.ep,text:=⟨#[100,101,97,100,108,105,110,101]⟩,n:=max v 1})):=⟨fun x hx=>(by simp only[Rc.nums,List.mem_cons,List.not_mem_nil,or_false]at hx;rcases hx with rfl|rfl|rfl|rfl|rfl<;>first|exact IEP.o|exact IMX.o|exact ING.o.nums _ (by simp[Rc.nums])),(show(⟨#[100,101,97,100,108,105,110,101]⟩:ByteArray).size<=maxLen by decide),ING.o.sp⟩
   clear hN;obtain⟨rr,hrr⟩:∃rr:Rc.R,rr={q with epoch:=s.ep,text:=⟨#[100,101,97,100,108,105,110,101]⟩,n:=max v 1}:=zx
   rw[<-hrr]at N2 IN2;clear hrr
   go_wp2_with(first
    |((with_reducible show zL 150);refine zR (.tmp 5) N2.o.o ?_)
    |((with_reducible show zW);refine jaa rfl (.tmp 4) (.tmp 150) rfl (n+1+1) rr Rc.none_ rfl rfl N2.o.res ?_))
   exact bodyPost_ret (jaj Tryz.results18 _ _ (n+1+1) rr rfl ⟨setRow_heap _ (n+1+1) _ _ _ _ N2.o.res.row⟩) rfl ⟨rr,rfl,IN2.o,below_setRow N2.o.below (by have:=N2.o.nb;omega) _⟩
  ·have CO:=zh (fun W=>jb8 ⟨#[97,98,111,114,116]⟩ W)
   obtain⟨ev,hev⟩:∃e,Ph.of ⟨#[97,98,111,114,116]⟩=e:=⟨_,rfl⟩;rw[hev]at CO;obtain⟨v,hv⟩:∃v,Ph.next s.ph ev=v:=⟨_,rfl⟩;have CN:=zh (fun W=>jbk s.ph ev W);rw[hv]at CN;have hvb:=jb2 (e:=ev) OKS.o.ph;rw[hv]at hvb;have IMX:Hid (Spc.i64 (max v 1)):=by unfold Spc.i64;show _/\_;omega
   generalize Ph.isWord ⟨#[97,98,111,114,116]⟩=wb at CO;generalize Ph.did s.ph ev=db at CN;clear hev hv hvb;go_upto_region 17 with fail
   have hN:NxAt w ((w4.setCell ⟨g,5,none⟩ (.string ⟨#[97,98,111,114,116]⟩)).alloc (.cells #[.string ⟨#[112,97,117,115,101]⟩,.string ⟨#[114,101,115,117,109,101]⟩,.string ⟨#[104,101,97,108,116,104]⟩,.string ⟨#[100,101,97,100,108,105,110,101]⟩,.string ⟨#[97,98,111,114,116]⟩,.string ⟨#[100,111,110,101]⟩,.string ⟨#[98,97,99,107]⟩] 9)) n g s L V H r ({q with epoch:=s.ep,text:=⟨#[97,98,111,114,116]⟩}):=(N1.o.set ({q with epoch:=s.ep,text:=⟨#[97,98,111,114,116]⟩}) 5 (.string ⟨#[97,98,111,114,116]⟩) rfl).on zE
   generalize(w4.setCell ⟨g,5,none⟩ (.string ⟨#[97,98,111,114,116]⟩)).alloc (.cells #[.string ⟨#[112,97,117,115,101]⟩,.string ⟨#[114,101,115,117,109,101]⟩,.string ⟨#[104,101,97,108,116,104]⟩,.string ⟨#[100,101,97,100,108,105,110,101]⟩,.string ⟨#[97,98,111,114,116]⟩,.string ⟨#[100,111,110,101]⟩,.string ⟨#[98,97,99,107]⟩] 9)=w5 at hN⊢;clear b8 c3 o0 o3 o5 of lt1 lt2;have NA:=zh hN;clear hN N1;have o5:=NA.o.o.cs.c5;go_upto_region 18 with(go_at_call 43;refine(CO.o _).mono ?_;rintro e w6 ⟨rfl,hb⟩;have NB:=zh (NA.o.on hb);clear hb o5)
   have b8:=NB.o.bk.cs.c8;have o3:=NB.o.o.cs.c3;have o0:=NB.o.o.cs.c0;rw[show({q with epoch:=s.ep,text:=⟨#[97,98,111,114,116]⟩}:Rc.R).kind=q.kind from rfl,hk]at o0
   have of:=fun i=>frozen_of_row w6 g i _ _ NB.o.o.row;go_upto_region 28 with(go_at_call 44;refine(CN.o _).mono ?_;rintro e w7 ⟨rfl,rfl⟩)
   have hN:NxAt w (w7.setCell ⟨g,3,none⟩ (.int .i64 (max v 1))) n g s L V H r ({q with epoch:=s.ep,text:=⟨#[97,98,111,114,116]⟩,n:=max v 1}):=NB.o.set ({q with epoch:=s.ep,text:=⟨#[97,98,111,114,116]⟩,n:=max v 1}) 3 (.int .i64 (max v 1)) rfl
   generalize w7.setCell ⟨g,3,none⟩ (.int .i64 (max v 1))=w8 at hN⊢;have N2:=zh hN;have IN2:Hid (Rc.In ({q with epoch:=s.ep,text:=⟨#[97,98,111,114,116]⟩,n:=max v 1})):=⟨fun x hx=>(by simp only[Rc.nums,List.mem_cons,List.not_mem_nil,or_false]at hx;rcases hx with rfl|rfl|rfl|rfl|rfl<;>first|exact IEP.o|exact IMX.o|exact ING.o.nums _ (by simp[Rc.nums])),(show(⟨#[97,98,111,114,116]⟩:ByteArray).size<=maxLen by decide),ING.o.sp⟩
   clear hN;obtain⟨rr,hrr⟩:∃rr:Rc.R,rr={q with epoch:=s.ep,text:=⟨#[97,98,111,114,116]⟩,n:=max v 1}:=zx
   rw[<-hrr]at N2 IN2;clear hrr
   go_wp2_with(first
    |((with_reducible show zL 150);refine zR (.tmp 5) N2.o.o ?_)
    |((with_reducible show zW);refine jaa rfl (.tmp 4) (.tmp 150) rfl (n+1+1) rr Rc.none_ rfl rfl N2.o.res ?_))
   exact bodyPost_ret (jaj Tryz.results18 _ _ (n+1+1) rr rfl ⟨setRow_heap _ (n+1+1) _ _ _ _ N2.o.res.row⟩) rfl ⟨rr,rfl,IN2.o,below_setRow N2.o.below (by have:=N2.o.nb;omega) _⟩
  ·have CO:=zh (fun W=>jb8 ⟨#[100,111,110,101]⟩ W)
   obtain⟨ev,hev⟩:∃e,Ph.of ⟨#[100,111,110,101]⟩=e:=⟨_,rfl⟩;rw[hev]at CO;obtain⟨v,hv⟩:∃v,Ph.next s.ph ev=v:=⟨_,rfl⟩;have CN:=zh (fun W=>jbk s.ph ev W);rw[hv]at CN;have hvb:=jb2 (e:=ev) OKS.o.ph;rw[hv]at hvb;have IMX:Hid (Spc.i64 (max v 1)):=by unfold Spc.i64;show _/\_;omega
   generalize Ph.isWord ⟨#[100,111,110,101]⟩=wb at CO;generalize Ph.did s.ph ev=db at CN;clear hev hv hvb;go_upto_region 17 with fail
   have hN:NxAt w ((w4.setCell ⟨g,5,none⟩ (.string ⟨#[100,111,110,101]⟩)).alloc (.cells #[.string ⟨#[112,97,117,115,101]⟩,.string ⟨#[114,101,115,117,109,101]⟩,.string ⟨#[104,101,97,108,116,104]⟩,.string ⟨#[100,101,97,100,108,105,110,101]⟩,.string ⟨#[97,98,111,114,116]⟩,.string ⟨#[100,111,110,101]⟩,.string ⟨#[98,97,99,107]⟩] 9)) n g s L V H r ({q with epoch:=s.ep,text:=⟨#[100,111,110,101]⟩}):=(N1.o.set ({q with epoch:=s.ep,text:=⟨#[100,111,110,101]⟩}) 5 (.string ⟨#[100,111,110,101]⟩) rfl).on zE
   generalize(w4.setCell ⟨g,5,none⟩ (.string ⟨#[100,111,110,101]⟩)).alloc (.cells #[.string ⟨#[112,97,117,115,101]⟩,.string ⟨#[114,101,115,117,109,101]⟩,.string ⟨#[104,101,97,108,116,104]⟩,.string ⟨#[100,101,97,100,108,105,110,101]⟩,.string ⟨#[97,98,111,114,116]⟩,.string ⟨#[100,111,110,101]⟩,.string ⟨#[98,97,99,107]⟩] 9)=w5 at hN⊢;clear b8 c3 o0 o3 o5 of lt1 lt2;have NA:=zh hN;clear hN N1;have o5:=NA.o.o.cs.c5;go_upto_region 18 with(go_at_call 43;refine(CO.o _).mono ?_;rintro e w6 ⟨rfl,hb⟩;have NB:=zh (NA.o.on hb);clear hb o5)
   have b8:=NB.o.bk.cs.c8;have o3:=NB.o.o.cs.c3;have o0:=NB.o.o.cs.c0;rw[show({q with epoch:=s.ep,text:=⟨#[100,111,110,101]⟩}:Rc.R).kind=q.kind from rfl,hk]at o0
   have of:=fun i=>frozen_of_row w6 g i _ _ NB.o.o.row;go_upto_region 28 with(go_at_call 44;refine(CN.o _).mono ?_;rintro e w7 ⟨rfl,rfl⟩)
   have hN:NxAt w (w7.setCell ⟨g,3,none⟩ (.int .i64 (max v 1))) n g s L V H r ({q with epoch:=s.ep,text:=⟨#[100,111,110,101]⟩,n:=max v 1}):=NB.o.set ({q with epoch:=s.ep,text:=⟨#[100,111,110,101]⟩,n:=max v 1}) 3 (.int .i64 (max v 1)) rfl
   generalize w7.setCell ⟨g,3,none⟩ (.int .i64 (max v 1))=w8 at hN⊢;have N2:=zh hN;have IN2:Hid (Rc.In ({q with epoch:=s.ep,text:=⟨#[100,111,110,101]⟩,n:=max v 1})):=⟨fun x hx=>(by simp only[Rc.nums,List.mem_cons,List.not_mem_nil,or_false]at hx;rcases hx with rfl|rfl|rfl|rfl|rfl<;>first|exact IEP.o|exact IMX.o|exact ING.o.nums _ (by simp[Rc.nums])),(show(⟨#[100,111,110,101]⟩:ByteArray).size<=maxLen by decide),ING.o.sp⟩
   clear hN;obtain⟨rr,hrr⟩:∃rr:Rc.R,rr={q with epoch:=s.ep,text:=⟨#[100,111,110,101]⟩,n:=max v 1}:=zx
   rw[<-hrr]at N2 IN2;clear hrr
   go_wp2_with(first
    |((with_reducible show zL 150);refine zR (.tmp 5) N2.o.o ?_)
    |((with_reducible show zW);refine jaa rfl (.tmp 4) (.tmp 150) rfl (n+1+1) rr Rc.none_ rfl rfl N2.o.res ?_))
   exact bodyPost_ret (jaj Tryz.results18 _ _ (n+1+1) rr rfl ⟨setRow_heap _ (n+1+1) _ _ _ _ N2.o.res.row⟩) rfl ⟨rr,rfl,IN2.o,below_setRow N2.o.below (by have:=N2.o.nb;omega) _⟩
  ·have CO:=zh (fun W=>jb8 ⟨#[98,97,99,107]⟩ W)
   obtain⟨ev,hev⟩:∃e,Ph.of ⟨#[98,97,99,107]⟩=e:=⟨_,rfl⟩;rw[hev]at CO;obtain⟨v,hv⟩:∃v,Ph.next s.ph ev=v:=⟨_,rfl⟩;have CN:=zh (fun W=>jbk s.ph ev W);rw[hv]at CN;have hvb:=jb2 (e:=ev) OKS.o.ph;rw[hv]at hvb;have IMX:Hid (Spc.i64 (max v 1)):=by unfold Spc.i64;show _/\_;omega
   generalize Ph.isWord ⟨#[98,97,99,107]⟩=wb at CO;generalize Ph.did s.ph ev=db at CN;clear hev hv hvb;go_upto_region 17 with fail
   have hN:NxAt w ((w4.setCell ⟨g,5,none⟩ (.string ⟨#[98,97,99,107]⟩)).alloc (.cells #[.string ⟨#[112,97,117,115,101]⟩,.string ⟨#[114,101,115,117,109,101]⟩,.string ⟨#[104,101,97,108,116,104]⟩,.string ⟨#[100,101,97,100,108,105,110,101]⟩,.string ⟨#[97,98,111,114,116]⟩,.string ⟨#[100,111,110,101]⟩,.string ⟨#[98,97,99,107]⟩] 9)) n g s L V H r ({q with epoch:=s.ep,text:=⟨#[98,97,99,107]⟩}):=(N1.o.set ({q with epoch:=s.ep,text:=⟨#[98,97,99,107]⟩}) 5 (.string ⟨#[98,97,99,107]⟩) rfl).on zE
   generalize(w4.setCell ⟨g,5,none⟩ (.string ⟨#[98,97,99,107]⟩)).alloc (.cells #[.string ⟨#[112,97,117,115,101]⟩,.string ⟨#[114,101,115,117,109,101]⟩,.string ⟨#[104,101,97,108,116,104]⟩,.string ⟨#[100,101,97,100,108,105,110,101]⟩,.string ⟨#[97,98,111,114,116]⟩,.string ⟨#[100,111,110,101]⟩,.string ⟨#[98,97,99,107]⟩] 9)=w5 at hN⊢;clear b8 c3 o0 o3 o5 of lt1 lt2;have NA:=zh hN;clear hN N1;have o5:=NA.o.o.cs.c5;go_upto_region 18 with(go_at_call 43;refine(CO.o _).mono ?_;rintro e w6 ⟨rfl,hb⟩;have NB:=zh (NA.o.on hb);clear hb o5)
   have b8:=NB.o.bk.cs.c8;have o3:=NB.o.o.cs.c3;have o0:=NB.o.o.cs.c0;rw[show({q with epoch:=s.ep,text:=⟨#[98,97,99,107]⟩}:Rc.R).kind=q.kind from rfl,hk]at o0
   have of:=fun i=>frozen_of_row w6 g i _ _ NB.o.o.row;go_upto_region 28 with(go_at_call 44;refine(CN.o _).mono ?_;rintro e w7 ⟨rfl,rfl⟩)
   have hN:NxAt w (w7.setCell ⟨g,3,none⟩ (.int .i64 (max v 1))) n g s L V H r ({q with epoch:=s.ep,text:=⟨#[98,97,99,107]⟩,n:=max v 1}):=NB.o.set ({q with epoch:=s.ep,text:=⟨#[98,97,99,107]⟩,n:=max v 1}) 3 (.int .i64 (max v 1)) rfl
   generalize w7.setCell ⟨g,3,none⟩ (.int .i64 (max v 1))=w8 at hN⊢;have N2:=zh hN;have IN2:Hid (Rc.In ({q with epoch:=s.ep,text:=⟨#[98,97,99,107]⟩,n:=max v 1})):=⟨fun x hx=>(by simp only[Rc.nums,List.mem_cons,List.not_mem_nil,or_false]at hx;rcases hx with rfl|rfl|rfl|rfl|rfl<;>first|exact IEP.o|exact IMX.o|exact ING.o.nums _ (by simp[Rc.nums])),(show(⟨#[98,97,99,107]⟩:ByteArray).size<=maxLen by decide),ING.o.sp⟩
   clear hN;obtain⟨rr,hrr⟩:∃rr:Rc.R,rr={q with epoch:=s.ep,text:=⟨#[98,97,99,107]⟩,n:=max v 1}:=zx
   rw[<-hrr]at N2 IN2;clear hrr
   go_wp2_with(first
    |((with_reducible show zL 150);refine zR (.tmp 5) N2.o.o ?_)
    |((with_reducible show zW);refine jaa rfl (.tmp 4) (.tmp 150) rfl (n+1+1) rr Rc.none_ rfl rfl N2.o.res ?_))
   exact bodyPost_ret (jaj Tryz.results18 _ _ (n+1+1) rr rfl ⟨setRow_heap _ (n+1+1) _ _ _ _ N2.o.res.row⟩) rfl ⟨rr,rfl,IN2.o,below_setRow N2.o.below (by have:=N2.o.nb;omega) _⟩
 ·have hst:=OKS.o.seq
  have hfr:=OKS.o.from_;have hsv:=OKS.o.spv;have IMX:Hid (Spc.i64 (s.seq+1)):=by unfold Spc.i64;show _/\_;omega
  have INV:Hid (Spc.i64 0/\Spc.i64 s.sp.v/\Spc.i64 s.from_):=by unfold Spc.i64;show(_/\_)/\(_/\_)/\_/\_;omega
  have hw1:wrap64 (s.seq+1)=s.seq+1:=IntWalk.wrap64_in _ ⟨zv,zv⟩;have lt1:n+1<w4.heap.size:=N1.o.rc.cs.lt;have lt2:g<w4.heap.size:=N1.o.o.cs.lt;have ne1:n+1≠g:=by have:=N1.o.ng;omega
  have ne2:¬(g=n+1):=by omega
  have hu:IntKind.u64.wrap r.n=r.n%18446744073709551616:=IntKind.wrap_u64 r.n;have hy:=Int.emod_nonneg r.n (b:=18446744073709551616) zv;generalize r.n%18446744073709551616=y at hu hy;have ht:y.tmod 3=y%3:=Int.tmod_eq_emod_of_nonneg hy;have hz0:=Int.emod_nonneg y (b:=3) zv;have hz1:=Int.emod_lt_of_pos y (b:=3) zv;generalize y%3=z at ht hz0 hz1;have b7:=N1.o.bk.cs.c7;have b12:=N1.o.bk.cs.c12;have b13:=N1.o.bk.cs.c13;have c3:=N1.o.rc.cs.c3;have o0:=N1.o.o.cs.c0;have o3:=N1.o.o.cs.c3;have o4:=N1.o.o.cs.c4;rw[show({q with epoch:=s.ep}:Rc.R).kind=q.kind from rfl,hk]at o0
  have of:=fun i=>frozen_of_row w4 g i _ _ N1.o.o.row;clear hst hfr hsv;have hz:z=0\/z=1\/z=2:=by omega
  clear hz0 hz1 hy;rcases hz with rfl|rfl|rfl
  ·go_upto_region 28 with fail
   have hN:NxAt w (((w4.setCell ⟨g,4,none⟩ (.int .i64 (s.seq+1))).setCell ⟨g,3,none⟩ (zi)).alloc (.cells #[zi,.int .i64 s.sp.v,.int .i64 s.from_] 3)) n g s L V H r ({q with epoch:=s.ep,seq:=(s.seq+1),n:=0}):=(((N1.o.set ({q with epoch:=s.ep,seq:=(s.seq+1)}) 4 (.int .i64 (s.seq+1)) rfl).set ({q with epoch:=s.ep,seq:=(s.seq+1),n:=0}) 3 (zi) rfl).on (zD.alloc zl (.cells #[zi,.int .i64 s.sp.v,.int .i64 s.from_] 3)))
   generalize(((w4.setCell ⟨g,4,none⟩ (.int .i64 (s.seq+1))).setCell ⟨g,3,none⟩ (zi)).alloc (.cells #[zi,.int .i64 s.sp.v,.int .i64 s.from_] 3))=w5 at hN⊢;have N2:=zh hN;have IN2:Hid (Rc.In ({q with epoch:=s.ep,seq:=(s.seq+1),n:=0})):=⟨fun x hx=>(by simp only[Rc.nums,List.mem_cons,List.not_mem_nil,or_false]at hx;rcases hx with rfl|rfl|rfl|rfl|rfl<;>first|exact IEP.o|exact IMX.o|exact INV.o.1|exact INV.o.2.1|exact INV.o.2.2|exact ING.o.nums _ (by simp[Rc.nums])),ING.o.text,ING.o.sp⟩
   clear hN;obtain⟨rr,hrr⟩:∃rr:Rc.R,rr={q with epoch:=s.ep,seq:=(s.seq+1),n:=0}:=zx
   rw[<-hrr]at N2 IN2;clear hrr
   go_wp2_with(first
    |((with_reducible show zL 150);refine zR (.tmp 5) N2.o.o ?_)
    |((with_reducible show zW);refine jaa rfl (.tmp 4) (.tmp 150) rfl (n+1+1) rr Rc.none_ rfl rfl N2.o.res ?_))
   exact bodyPost_ret (jaj Tryz.results18 _ _ (n+1+1) rr rfl ⟨setRow_heap _ (n+1+1) _ _ _ _ N2.o.res.row⟩) rfl ⟨rr,rfl,IN2.o,below_setRow N2.o.below (by have:=N2.o.nb;omega) _⟩
  ·go_upto_region 28 with fail
   have hN:NxAt w (((w4.setCell ⟨g,4,none⟩ (.int .i64 (s.seq+1))).setCell ⟨g,3,none⟩ (.int .i64 s.sp.v)).alloc (.cells #[zi,.int .i64 s.sp.v,.int .i64 s.from_] 3)) n g s L V H r ({q with epoch:=s.ep,seq:=(s.seq+1),n:=s.sp.v}):=(((N1.o.set ({q with epoch:=s.ep,seq:=(s.seq+1)}) 4 (.int .i64 (s.seq+1)) rfl).set ({q with epoch:=s.ep,seq:=(s.seq+1),n:=s.sp.v}) 3 (.int .i64 s.sp.v) rfl).on (zD.alloc zl (.cells #[zi,.int .i64 s.sp.v,.int .i64 s.from_] 3)))
   generalize(((w4.setCell ⟨g,4,none⟩ (.int .i64 (s.seq+1))).setCell ⟨g,3,none⟩ (.int .i64 s.sp.v)).alloc (.cells #[zi,.int .i64 s.sp.v,.int .i64 s.from_] 3))=w5 at hN⊢;have N2:=zh hN;have IN2:Hid (Rc.In ({q with epoch:=s.ep,seq:=(s.seq+1),n:=s.sp.v})):=⟨fun x hx=>(by simp only[Rc.nums,List.mem_cons,List.not_mem_nil,or_false]at hx;rcases hx with rfl|rfl|rfl|rfl|rfl<;>first|exact IEP.o|exact IMX.o|exact INV.o.1|exact INV.o.2.1|exact INV.o.2.2|exact ING.o.nums _ (by simp[Rc.nums])),ING.o.text,ING.o.sp⟩
   clear hN;obtain⟨rr,hrr⟩:∃rr:Rc.R,rr={q with epoch:=s.ep,seq:=(s.seq+1),n:=s.sp.v}:=zx
   rw[<-hrr]at N2 IN2;clear hrr
   go_wp2_with(first
    |((with_reducible show zL 150);refine zR (.tmp 5) N2.o.o ?_)
    |((with_reducible show zW);refine jaa rfl (.tmp 4) (.tmp 150) rfl (n+1+1) rr Rc.none_ rfl rfl N2.o.res ?_))
   exact bodyPost_ret (jaj Tryz.results18 _ _ (n+1+1) rr rfl ⟨setRow_heap _ (n+1+1) _ _ _ _ N2.o.res.row⟩) rfl ⟨rr,rfl,IN2.o,below_setRow N2.o.below (by have:=N2.o.nb;omega) _⟩
  ·go_upto_region 28 with fail
   have hN:NxAt w (((w4.setCell ⟨g,4,none⟩ (.int .i64 (s.seq+1))).setCell ⟨g,3,none⟩ (.int .i64 s.from_)).alloc (.cells #[zi,.int .i64 s.sp.v,.int .i64 s.from_] 3)) n g s L V H r ({q with epoch:=s.ep,seq:=(s.seq+1),n:=s.from_}):=(((N1.o.set ({q with epoch:=s.ep,seq:=(s.seq+1)}) 4 (.int .i64 (s.seq+1)) rfl).set ({q with epoch:=s.ep,seq:=(s.seq+1),n:=s.from_}) 3 (.int .i64 s.from_) rfl).on (zD.alloc zl (.cells #[zi,.int .i64 s.sp.v,.int .i64 s.from_] 3)))
   generalize(((w4.setCell ⟨g,4,none⟩ (.int .i64 (s.seq+1))).setCell ⟨g,3,none⟩ (.int .i64 s.from_)).alloc (.cells #[zi,.int .i64 s.sp.v,.int .i64 s.from_] 3))=w5 at hN⊢;have N2:=zh hN;have IN2:Hid (Rc.In ({q with epoch:=s.ep,seq:=(s.seq+1),n:=s.from_})):=⟨fun x hx=>(by simp only[Rc.nums,List.mem_cons,List.not_mem_nil,or_false]at hx;rcases hx with rfl|rfl|rfl|rfl|rfl<;>first|exact IEP.o|exact IMX.o|exact INV.o.1|exact INV.o.2.1|exact INV.o.2.2|exact ING.o.nums _ (by simp[Rc.nums])),ING.o.text,ING.o.sp⟩
   clear hN;obtain⟨rr,hrr⟩:∃rr:Rc.R,rr={q with epoch:=s.ep,seq:=(s.seq+1),n:=s.from_}:=zx
   rw[<-hrr]at N2 IN2;clear hrr
   go_wp2_with(first
    |((with_reducible show zL 150);refine zR (.tmp 5) N2.o.o ?_)
    |((with_reducible show zW);refine jaa rfl (.tmp 4) (.tmp 150) rfl (n+1+1) rr Rc.none_ rfl rfl N2.o.res ?_))
   exact bodyPost_ret (jaj Tryz.results18 _ _ (n+1+1) rr rfl ⟨setRow_heap _ (n+1+1) _ _ _ _ N2.o.res.row⟩) rfl ⟨rr,rfl,IN2.o,below_setRow N2.o.below (by have:=N2.o.nb;omega) _⟩
 ·have hq6:=Rc.right6 hk RTG.o
  obtain⟨k,hkk⟩:=Int.eq_ofNat_of_zero_le hq6.1.1;have k16:k<16:=by omega
  have i16:(k:Int)<16:=by omega
  have hus:=OKS.o.us k;have hsq:=OKS.o.seq;have o0:=N1.o.o.cs.c0;have o2:=N1.o.o.cs.c2;have o4:=N1.o.o.cs.c4;rw[show({q with epoch:=s.ep}:Rc.R).kind=q.kind from rfl,hk]at o0
  have of:=fun i=>frozen_of_row w4 g i _ _ N1.o.o.row;rw[show({q with epoch:=s.ep}:Rc.R).who=q.who from rfl,hkk]at o2
  obtain⟨u0,u1,u2⟩:=N1.o.bk.unit k16;have IMX:Hid (Spc.i64 (max (s.us k).q 1)):=by unfold Spc.i64;show _/\_;omega
  clear hq6 u0 u2 hsq hus;go_upto_region 28 with fail
  have hN:NxAt w (w4.setCell ⟨g,4,none⟩ (.int .i64 (max (s.us k).q 1))) n g s L V H r ({q with epoch:=s.ep,seq:=max (s.us k).q 1}):=(N1.o.set ({q with epoch:=s.ep,seq:=max (s.us k).q 1}) 4 (.int .i64 (max (s.us k).q 1)) rfl)
  generalize(w4.setCell ⟨g,4,none⟩ (.int .i64 (max (s.us k).q 1)))=w5 at hN⊢;have N2:=zh hN;have IN2:Hid (Rc.In ({q with epoch:=s.ep,seq:=max (s.us k).q 1})):=⟨fun x hx=>(by simp only[Rc.nums,List.mem_cons,List.not_mem_nil,or_false]at hx;rcases hx with rfl|rfl|rfl|rfl|rfl<;>first|exact IEP.o|exact IMX.o|exact ING.o.nums _ (by simp[Rc.nums])),ING.o.text,ING.o.sp⟩
  clear hN;obtain⟨rr,hrr⟩:∃rr:Rc.R,rr={q with epoch:=s.ep,seq:=max (s.us k).q 1}:=zx
  rw[<-hrr]at N2 IN2;clear hrr
  go_wp2_with(first
   |((with_reducible show zL 150);refine zR (.tmp 5) N2.o.o ?_)
   |((with_reducible show zW);refine jaa rfl (.tmp 4) (.tmp 150) rfl (n+1+1) rr Rc.none_ rfl rfl N2.o.res ?_))
  exact bodyPost_ret (jaj Tryz.results18 _ _ (n+1+1) rr rfl ⟨setRow_heap _ (n+1+1) _ _ _ _ N2.o.res.row⟩) rfl ⟨rr,rfl,IN2.o,below_setRow N2.o.below (by have:=N2.o.nb;omega) _⟩
 ·have hst:=OKS.o.step
  have IMX:Hid (Spc.i64 (min (s.step+1) 4)):=by unfold Spc.i64;show _/\_;omega
  have hw1:wrap64 (s.step+1)=s.step+1:=IntWalk.wrap64_in _ ⟨zv,zv⟩;have lt1:n+1<w4.heap.size:=N1.o.rc.cs.lt;have lt2:g<w4.heap.size:=N1.o.o.cs.lt;have ne1:n+1≠g:=by have:=N1.o.ng;omega
  have ne2:¬(g=n+1):=by omega
  have hu:IntKind.u64.wrap r.n=r.n%18446744073709551616:=IntKind.wrap_u64 r.n;have hy:=Int.emod_nonneg r.n (b:=18446744073709551616) zv;generalize r.n%18446744073709551616=y at hu hy;have ht:y.tmod 2=y%2:=Int.tmod_eq_emod_of_nonneg hy;have hz0:=Int.emod_nonneg y (b:=2) zv;have hz1:=Int.emod_lt_of_pos y (b:=2) zv;generalize y%2=z at ht hz0 hz1;have b9:=N1.o.bk.cs.c9;have c3:=N1.o.rc.cs.c3;have o0:=N1.o.o.cs.c0;have o2:=N1.o.o.cs.c2;have o5:=N1.o.o.cs.c5;rw[show({q with epoch:=s.ep}:Rc.R).kind=q.kind from rfl,hk]at o0
  have of:=fun i=>frozen_of_row w4 g i _ _ N1.o.o.row;clear hst;have hz:z=0\/z=1:=by omega
  clear hz0 hz1 hy;rcases hz with rfl|rfl
  ·go_upto_region 28 with fail
   have hN:NxAt w (((w4.setCell ⟨g,2,none⟩ (.int .i64 (min (s.step+1) 4))).setCell ⟨g,5,none⟩ (.string ⟨#[112,97,115,115,101,100]⟩)).alloc (.cells #[.string ⟨#[112,97,115,115,101,100]⟩,.string ⟨#[112,114,111,109,111,116,101]⟩] 9)) n g s L V H r ({q with epoch:=s.ep,who:=(min (s.step+1) 4),text:=⟨#[112,97,115,115,101,100]⟩}):=(((N1.o.set ({q with epoch:=s.ep,who:=(min (s.step+1) 4)}) 2 (.int .i64 (min (s.step+1) 4)) rfl).set ({q with epoch:=s.ep,who:=(min (s.step+1) 4),text:=⟨#[112,97,115,115,101,100]⟩}) 5 (.string ⟨#[112,97,115,115,101,100]⟩) rfl).on (zD.alloc zl (.cells #[.string ⟨#[112,97,115,115,101,100]⟩,.string ⟨#[112,114,111,109,111,116,101]⟩] 9)))
   generalize(((w4.setCell ⟨g,2,none⟩ (.int .i64 (min (s.step+1) 4))).setCell ⟨g,5,none⟩ (.string ⟨#[112,97,115,115,101,100]⟩)).alloc (.cells #[.string ⟨#[112,97,115,115,101,100]⟩,.string ⟨#[112,114,111,109,111,116,101]⟩] 9))=w5 at hN⊢;have N2:=zh hN;have IN2:Hid (Rc.In ({q with epoch:=s.ep,who:=(min (s.step+1) 4),text:=⟨#[112,97,115,115,101,100]⟩})):=⟨fun x hx=>(by simp only[Rc.nums,List.mem_cons,List.not_mem_nil,or_false]at hx;rcases hx with rfl|rfl|rfl|rfl|rfl<;>first|exact IEP.o|exact IMX.o|exact ING.o.nums _ (by simp[Rc.nums])),(show(⟨#[112,97,115,115,101,100]⟩:ByteArray).size<=maxLen by decide),ING.o.sp⟩
   clear hN;obtain⟨rr,hrr⟩:∃rr:Rc.R,rr={q with epoch:=s.ep,who:=(min (s.step+1) 4),text:=⟨#[112,97,115,115,101,100]⟩}:=zx
   rw[<-hrr]at N2 IN2;clear hrr
   go_wp2_with(first
    |((with_reducible show zL 150);refine zR (.tmp 5) N2.o.o ?_)
    |((with_reducible show zW);refine jaa rfl (.tmp 4) (.tmp 150) rfl (n+1+1) rr Rc.none_ rfl rfl N2.o.res ?_))
   exact bodyPost_ret (jaj Tryz.results18 _ _ (n+1+1) rr rfl ⟨setRow_heap _ (n+1+1) _ _ _ _ N2.o.res.row⟩) rfl ⟨rr,rfl,IN2.o,below_setRow N2.o.below (by have:=N2.o.nb;omega) _⟩
  ·go_upto_region 28 with fail
   have hN:NxAt w (((w4.setCell ⟨g,2,none⟩ (.int .i64 (min (s.step+1) 4))).setCell ⟨g,5,none⟩ (.string ⟨#[112,114,111,109,111,116,101]⟩)).alloc (.cells #[.string ⟨#[112,97,115,115,101,100]⟩,.string ⟨#[112,114,111,109,111,116,101]⟩] 9)) n g s L V H r ({q with epoch:=s.ep,who:=(min (s.step+1) 4),text:=⟨#[112,114,111,109,111,116,101]⟩}):=(((N1.o.set ({q with epoch:=s.ep,who:=(min (s.step+1) 4)}) 2 (.int .i64 (min (s.step+1) 4)) rfl).set ({q with epoch:=s.ep,who:=(min (s.step+1) 4),text:=⟨#[112,114,111,109,111,116,101]⟩}) 5 (.string ⟨#[112,114,111,109,111,116,101]⟩) rfl).on (zD.alloc zl (.cells #[.string ⟨#[112,97,115,115,101,100]⟩,.string ⟨#[112,114,111,109,111,116,101]⟩] 9)))
   generalize(((w4.setCell ⟨g,2,none⟩ (.int .i64 (min (s.step+1) 4))).setCell ⟨g,5,none⟩ (.string ⟨#[112,114,111,109,111,116,101]⟩)).alloc (.cells #[.string ⟨#[112,97,115,115,101,100]⟩,.string ⟨#[112,114,111,109,111,116,101]⟩] 9))=w5 at hN⊢;have N2:=zh hN;have IN2:Hid (Rc.In ({q with epoch:=s.ep,who:=(min (s.step+1) 4),text:=⟨#[112,114,111,109,111,116,101]⟩})):=⟨fun x hx=>(by simp only[Rc.nums,List.mem_cons,List.not_mem_nil,or_false]at hx;rcases hx with rfl|rfl|rfl|rfl|rfl<;>first|exact IEP.o|exact IMX.o|exact ING.o.nums _ (by simp[Rc.nums])),(show(⟨#[112,114,111,109,111,116,101]⟩:ByteArray).size<=maxLen by decide),ING.o.sp⟩
   clear hN;obtain⟨rr,hrr⟩:∃rr:Rc.R,rr={q with epoch:=s.ep,who:=(min (s.step+1) 4),text:=⟨#[112,114,111,109,111,116,101]⟩}:=zx
   rw[<-hrr]at N2 IN2;clear hrr
   go_wp2_with(first
    |((with_reducible show zL 150);refine zR (.tmp 5) N2.o.o ?_)
    |((with_reducible show zW);refine jaa rfl (.tmp 4) (.tmp 150) rfl (n+1+1) rr Rc.none_ rfl rfl N2.o.res ?_))
   exact bodyPost_ret (jaj Tryz.results18 _ _ (n+1+1) rr rfl ⟨setRow_heap _ (n+1+1) _ _ _ _ N2.o.res.row⟩) rfl ⟨rr,rfl,IN2.o,below_setRow N2.o.below (by have:=N2.o.nb;omega) _⟩