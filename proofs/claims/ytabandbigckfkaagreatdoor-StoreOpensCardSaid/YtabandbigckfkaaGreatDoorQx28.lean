import Derived.Test.YtabandbigckfkaaGreatDoorQx27
set_option maxHeartbeats 6400000
set_option maxRecDepth 100000
set_option linter.unusedSimpArgs false
set_option linter.unusedVariables false
namespace Go.Proofs.YtabandbigckfkaaGreatDoor
open Go.RowKit Go.Deep Go.Maps
theorem sls_own{W:World}{B x c:Nat}{A:Option Addr}{ls:List (List Nat)}(hx:x=ls.length)(h:OwnS W B (.slice A x c) ls):SlS W A x c ls:=by
 obtain⟨A',c',e,h2⟩:=h.sls;injection e with e1 e2 e3
 subst e1 e2 e3;exact h2
structure OfAt(w0 W:World)(g:Nat)(m:Int)(d:Dk.St)(v:Value)(ls:List Rc.R)(s:Bk.St)(L V H:Value):Prop where
 ss:SsAt W g m (d.room:Nat) (tA d) (tB d) v s L V H
 rd:BkRd W s L V H
 row:OwF Bk.rcC 18 45 W w0.heap.size v ls
 far:∀k,v.ownBlock=some k→k≠g∧¬jfs L V H k
 below:Below w0.heap.size w0 W
 ng:w0.heap.size≤g
 gn:¬jfs L V H g
 low:∀b,jfs L V H b→w0.heap.size≤b
section
variable{w0 W W':World}{g:Nat}{m:Int}{d:Dk.St}{v:Value}{ls:List Rc.R}{s:Bk.St}{L V H:Value}
theorem OfAt.on(h:OfAt w0 W g m d v ls s L V H)(hb:Below W.heap.size W W'):OfAt w0 W' g m d v ls s L V H:=⟨h.ss.on hb,h.rd.on hb,h.row.below hb,h.far,h.below.trans (hb.mono h.below.size),h.ng,h.gn,h.low⟩
theorem OfAt.turn(h:OfAt w0 W g m d v ls s L V H)(hb:Below W.heap.size W W'){n:Nat}{vs:List Value}{d2:Dk.St}{s2:Bk.St}{L2 V2 H2:Value}(hr:BkRd W' s2 L2 V2 H2)(hn:jfp W L V H L2 V2 H2)(hss:SsAt (W'.setCells g n vs) g m (d2.room:Nat) (tA d2) (tB d2) v s2 L2 V2 H2):OfAt w0 (W'.setCells g n vs) g m d2 v ls s2 L2 V2 H2:=by
 have hg:=jbd g vs n W';have h2:=h.on hb;have gn:¬jfs L2 V2 H2 g:=fun hx=>by
  rcases jft hn hx with h1|h1
  ·exact h.gn h1
  ·have:=h.ss.lt;omega
 refine⟨hss,jcq hr hg gn,h2.row.kept hg (fun e=>(h.far _ e).1 rfl),fun k hk=>⟨(h.far k hk).1,fun hx=> ?_⟩,h2.below.grown hg h2.below.size fun k e=>by injection e with e;exact e▸h.ng,h.ng,gn,fun b hb2=>(jft hn hb2).elim (h.low b) fun h3=>Nat.le_trans h.below.size h3⟩
 rcases jft hn hx with h1|h1
 ·exact(h.far k hk).2 h1
 ·have:=(h.row.lt k hk).2;omega
theorem jrc(W:World)(L V H:Value):jfp W L V H L V H:=⟨.inl rfl,.inl rfl,.inl rfl⟩
theorem OfAt.push(h:OfAt w0 W g m d v ls s L V H){v2:Value}{l2:List Rc.R}(ho:OwF Bk.rcC 18 45 W' w0.heap.size v2 l2)(hb:Below w0.heap.size W W')(hg:W.grownBy W' v.ownBlock)(hv:v2.ownBlock=v.ownBlock∨∃k,v2.ownBlock=some k∧W.heap.size≤k):OfAt w0 (W'.setCells g 4 [v2]) g m d v2 l2 s L V H:=by
 have hgs:=jbd g [v2] 4 W';have hrd:BkRd W' s L V H:=by
  cases hk:v.ownBlock with
  |none=>rw[hk]at hg;exact h.rd.on ((Below.refl W.heap.size W).grown hg (Nat.le_refl _) fun k e=>by cases e)
  |some k=>rw[hk]at hg;exact jcq h.rd hg (h.far k hk).2
 have hss:SsAt W' g m (d.room:Nat) (tA d) (tB d) v s L V H:=h.ss.keep (hg.block g h.ss.lt fun e=>(h.far g e.symm).1 rfl);have hfar:∀k,v2.ownBlock=some k→k≠g∧¬jfs L V H k:=fun k hk=>by
  rcases hv with e|⟨k2,e,hk2⟩
  ·exact h.far k (e▸hk)
  ·rw[e]at hk
   injection hk with hk
   subst hk;exact⟨fun e=>by have:=h.ss.lt;omega,fun hx=>by have:=row_lt h.rd hx;omega⟩
 exact⟨hss.setRows v2,jcq hrd hgs h.gn,ho.kept hgs (fun e=>(hfar _ e).1 rfl),hfar,(h.below.trans hb).grown hgs (h.below.trans hb).size fun k e=>by injection e with e;exact e▸h.ng,h.ng,h.gn,h.low⟩
end
theorem je0{w:World}{m:Int}{L V H:Value}(h:BkRd w (Bk.new m) L V H):∀b,¬jfs L V H b:=by
 rintro b ⟨A,n,c,o,he,hA,hn⟩;obtain⟨⟨A1,c1,e1,_⟩,⟨A2,c2,e2,_⟩,⟨A3,c3,e3,_⟩⟩:=h;rcases he with e|e|e
 ·rw[e1]at e;injection e with _ e _;have:(Bk.tl (Bk.new m)).length=0:=rfl;omega
 ·rw[e2]at e;injection e with _ e _;have:(Bk.new m).vs.length=0:=rfl;omega
 ·rw[e3]at e;injection e with _ e _;have:(Bk.new m).h.length=0:=rfl;omega
theorem jha{a:Act}{oi:Oper}(t:TypeId)(parts:Array (Nat×Operand))(ho:oi.op= .build t parts)(cells:Array Value)(hf:Tryz.prog.built t (parts.map fun(i,x)=>(i,a.eval x)).toList=some cells){W:World}:(execOp a.eval oi).run Tryz.prog W= .ok (.value (.agg cells)) W:=by
 unfold execOp;simp only[ho,Sem.run_bind,run_build W t _ cells hf,Result.andThen_ok];rfl
theorem jrd{ps:List (List Nat)}{j:Nat}(h:j<ps.length):(So.recs ps).take (j+1)=(So.recs ps).take j++[Rc.rdV (ps[j])]:=by
 have hl:(So.recs ps).length=ps.length:=by unfold So.recs;exact List.length_map ..
 rw[List.take_succ_eq_append_getElem (by omega)];unfold So.recs;rw[List.getElem_map]
def OfPost(m:Int)(d:Dk.St)(ls:List Rc.R)(x:Int)(w:World)(e:Ending)(w':World):Prop:=∃A c L V H,e= .returned (.tuple #[.agg (Ss.cs m (d.room:Nat) (tA d) (tB d) (.slice A ls.length c) (Bk.cells (Bk.all m ls) L V H)).toArray,.int .i64 x])∧SlF Bk.rcC w' A ls.length c ls∧BkRd w' (Bk.all m ls) L V H∧Below w.heap.size w w'∧(∀b o,A=some ⟨b,o,none⟩→w.heap.size≤b)∧∀b,jfs L V H b→w.heap.size≤b
theorem jl5{w w5 W:World}{g g4:Nat}{m:Int}{D:Dk.St}{v:Value}{ls:List Rc.R}{L V H:Value}{x:Int}(h:OfAt w5 W g m D v ls (Bk.all m ls) L V H)(hb:Below w.heap.size w w5)(h4:w.heap.size≤g4)(h5:g4<w5.heap.size):
  OfPost m D ls x w (.returned (.tuple #[.agg (Ss.cs m (D.room:Nat) (tA D) (tB D) v (Bk.cells (Bk.all m ls) L V H)).toArray,.int .i64 x])) (W.setRow g4 (Ss.cs m (D.room:Nat) (tA D) (tB D) v (Bk.cells (Bk.all m ls) L V H)).toArray):=by
 have hr:=h.row;obtain⟨A,c,rfl⟩:=hr.form;have hg:=jal W g4 (Ss.cs m (D.room:Nat) (tA D) (tB D) (.slice A ls.length c) (Bk.cells (Bk.all m ls) L V H)).toArray;refine⟨A,c,L,V,H,rfl,(hr.kept hg fun e=> ?_).sl,jcq h.rd hg fun hx=> ?_,(hb.trans (h.below.mono hb.size)).grown hg (hb.trans (h.below.mono hb.size)).size fun k e=>by injection e with e;exact e▸h4,fun b o e=>Nat.le_trans hb.size (hr.lt b (by rw[e];rfl)).1,fun b hx=>Nat.le_trans hb.size (h.low b hx)⟩
 ·have:=(hr.lt g4 e).1;omega
 ·have:=h.low _ hx;omega
theorem jre(d:Dk.St)(hok:Dk.Okay d)(hby:Jn.Byt d)(hn:(Jn.ents d).length≤1000)(m:Int)(w:World):Calls Tryz.prog 49 #[.agg #[.int .i64 (d.room:Nat),.string (tA d),.string (tB d)],.int .i64 m] w (OfPost m (So.disk d.room (So.pre (Bk.new m) (So.recs (Jn.ents d)))) (So.pre (Bk.new m) (So.recs (Jn.ents d))) (((Jn.ents d).length:Int) -((So.pre (Bk.new m) (So.recs (Jn.ents d))).length:Nat)) w):=by
 have hz:=jhs;have hzb:=jbq;have OL:=zh (Jn.opened_l d hby);have OI:=zh (So.opened_is hby);have OK1:=zh (Jn.okay_opened hok hby);have BY1:Hid (Jn.Byt (Jn.opened d)):=hby.opened;have CO:=zh (fun W=>jqOpen hok hby W);have CA:=zh (fun W=>jqAll OK1.out BY1.out W);rw[OL.out.2.2.2.1]at CA;obtain⟨cl,hcl⟩:∃cl:Int,cl=((d.l.length:Nat) -(Jn.cutN d:Nat)):=⟨_,rfl⟩;rw[←hcl]at CO;obtain⟨ps,hps⟩:∃ps,ps=Jn.ents d:=⟨_,rfl⟩;rw[←hps]at OL OI CA hn⊢;obtain⟨d1,hd1⟩:∃d1,d1=Jn.opened d:=⟨_,rfl⟩;rw[←hd1]at OI CO CA OK1;have HN:=zh hn;have HOK:=zh OL.out.2.2.2.2;clear hcl hps hd1 hok hby hn OL BY1;have CN:=zh (fun W=>jn0 m W);have SWJ:Hid (∀j,j≤ps.length→Jn.swap d1 (ps.take j)=Jn.Js d.room j (ps.take j)∧Jn.swapE d1 (ps.take j)=0):=by
  intro j hj;have h1:=Jn.js_swap (R:=d.room) (k:=ps.length) (ps:=ps) (qs:=ps.take j) (fun x hx=>HOK.out x (List.mem_of_mem_take hx)) (by have h2:=OK1.out.2.1;rw[OI.out]at h2;exact Nat.le_trans (Fr.all_take_le ps j) h2);rw[List.length_take,Nat.min_eq_left hj,←OI.out]at h1;exact h1
 go_enter Tryz.func49,Tryz.ntmps49;go_upto_region 1 with fail
 have D2:=zh (DdAt.new w d);obtain⟨g2,hg2⟩:∃g2,g2=w.heap.size:=⟨_,rfl⟩;have hbA:Below w.heap.size w (w.alloc (.cells #[.int .i64 (d.room:Nat),.string (tA d),.string (tB d)] 27)):=(Below.refl _ _).alloc (Nat.le_refl _) _;have E4:(w.alloc (.cells #[.int .i64 (d.room:Nat),.string (tA d),.string (tB d)] 27)).heap.size=g2+1:=by rw[hg2];simp
 rw[←hg2]at D2⊢;generalize w.alloc (.cells #[.int .i64 (d.room:Nat),.string (tA d),.string (tB d)] 27)=wa at*;have hbB:Below wa.heap.size wa (wa.alloc (.cells Ss.zeros 42)):=(Below.refl _ _).alloc (Nat.le_refl _) _;have Z4:Hid ((wa.alloc (.cells Ss.zeros 42)).heap[wa.heap.size]? =some (.cells Ss.zeros 42 (0,0))):=heap_alloc_new wa _;have D3:=zh (D2.out.on hbB);have B3:=zh (hbA.trans (hbB.mono hbA.size));have G4:Hid (w.heap.size≤wa.heap.size):=hbA.size;generalize wa.alloc (.cells Ss.zeros 42)=wb at*;rw[E4]at Z4 G4;clear E4;generalize g2+1=g4 at*;clear hbA hbB D2 hg2;go_upto_region 2 with(first
   |((with_reducible show zL 18);refine jbv rfl (.tmp 2) rfl rfl D3.out ?_)
   |(go_at_call 99;(with_reducible refine(CO.out _).mono ?_);rintro e w1 ⟨rfl,hb⟩;have B1:=zh (B3.out.trans (hb.mono B3.out.size));have Z41:Hid (w1.heap[g4]? =some (.cells Ss.zeros 42 (0,0))):=(hb.block g4 (Array.getElem?_eq_some_iff.1 Z4.out).1).trans Z4.out;clear hb D3 CO)
   |((with_reducible show zW);refine jb9 (d:=d1) rfl (.tmp 6) (.tmp 20) rfl rfl ?_))
 have hb6:Below w1.heap.size w1 (w1.alloc (.cells #[.int .i64 (d1.room:Nat),.string (tA d1),.string (tB d1)] 27)):=(Below.refl _ _).alloc (Nat.le_refl _) _;have D6:=zh (DdAt.new w1 d1);have B6:=zh (B1.out.trans (hb6.mono B1.out.size));have Z46:Hid ((w1.alloc (.cells #[.int .i64 (d1.room:Nat),.string (tA d1),.string (tB d1)] 27)).heap[g4]? =some (.cells Ss.zeros 42 (0,0))):=(hb6.block g4 (Array.getElem?_eq_some_iff.1 Z41.out).1).trans Z41.out;obtain⟨g6,hg6⟩:∃g6,g6=w1.heap.size:=⟨_,rfl⟩;rw[←hg6]at D6⊢;clear hb6 hg6 B1 Z41 B3 Z4;generalize w1.alloc (.cells #[.int .i64 (d1.room:Nat),.string (tA d1),.string (tB d1)] 27)=w2 at*;go_upto_region 3 with(first
   |((with_reducible show zL 22);refine jbv rfl (.tmp 6) rfl rfl D6.out ?_)
   |(go_at_call 100;(with_reducible refine(CA.out _).mono ?_);rintro e w5 ⟨A8,c8,rfl,ho,hb⟩;have SP:=zh (sls_own rfl ho);have D7:=zh (D6.out.on hb);have B7:=zh (B6.out.trans (hb.mono B6.out.size));have Z47:Hid (w5.heap[g4]? =some (.cells Ss.zeros 42 (0,0))):=(hb.block g4 (Array.getElem?_eq_some_iff.1 Z46.out).1).trans Z46.out;clear ho hb D6 B6 Z46 CA))
 go_cut [9] (fun s9 wx=>∃g L V H,s9= .pointer (some ⟨g,0,none⟩)∧OfAt w5 wx g m d1 (.slice none 0 0) [] (Bk.new m) L V H)
 case first=>
  refine wp_region_held_drew (S:=fun V=>Below w5.heap.size w5 V) (by kernel_rfl) (Below.refl w5.heap.size w5).drew (fun hS=> ?_);refine tY 0 hS ?_;refine tZ 1 (v:= .agg #[.int .i64 (d1.room:Nat),.string (tA d1),.string (tB d1)]) rfl (fun W hW=>jpv (.tmp 6) rfl g6 d1 rfl (D7.out.on hW)) hS ?_;refine tY 2 hS ?_;simp only[Act.put,zT,zO,zS];refine jh4 3 5 rfl rfl (by kernel_rfl) rfl rfl (fun K hK=> ?_) (fun K hK=> ?_)
  ·go_simp
   with_reducible refine(CN.out _).mono ?_
   rintro e w6 ⟨L,V,H,rfl,hrd,hb⟩;have RD:=zh hrd;have hS2:=hS.trans (hb.mono hS.size);clear hS hb hrd;have hS:=hS2;clear hS2;refine hK.out _ _ hS (fun _=> ?_);clear hK K;refine tZ 4 (v:= .agg (Ss.cs m (d1.room:Nat) (tA d1) (tB d1) (.slice none 0 0) (Bk.cells (Bk.new m) L V H)).toArray) rfl (fun W hW=>jha 42 _ rfl _ (by kernel_rfl)) hS ?_;simp only[Act.put,zT,zO,zS];refine rO 5 (fun K hK=> ?_);go_simp;obtain⟨g9,hg9⟩:∃g9,g9=w6.heap.size:=⟨_,rfl⟩;have hb:Below w6.heap.size w6 (w6.alloc (.cells Ss.zeros 42)):=(Below.refl _ _).alloc (Nat.le_refl _) _;have hZ:((w6.alloc (.cells Ss.zeros 42))).heap[g9]? =some (.cells Ss.zeros 42 (0,0)):=by rw[hg9];exact heap_alloc_new _ _
   have NG:Hid (w5.heap.size≤g9):=by rw[hg9];exact hS.size
   have hS2:=hS.trans (hb.mono hS.size);replace RD:=zh (RD.out.on hb);rw[←hg9];clear hS hb hg9;have hS:=hS2;clear hS2;generalize(w6.alloc (.cells Ss.zeros 42))=w7 at*;refine hK.out _ _ hS (fun _=> ?_);clear hK K;try simp only[Act.put,zT,zO,zS]
   refine rO 6 (fun K hK=> ?_);refine wp_store_row 42 (.tmp 9) (.tmp 28) rfl g9 (Ss.cs m (d1.room:Nat) (tA d1) (tB d1) (.slice none 0 0) (Bk.cells (Bk.new m) L V H)).toArray rfl rfl 42 _ hZ (jdy ..) rfl (Ss.one rfl RD.out.one) ?_;have hof:OfAt w5 (w7.setRow g9 (Ss.cs m (d1.room:Nat) (tA d1) (tB d1) (.slice none 0 0) (Bk.cells (Bk.new m) L V H)).toArray) g9 m d1 (.slice none 0 0) [] (Bk.new m) L V H:=⟨⟨setRow_heap _ g9 _ _ _ _ hZ⟩,jcq RD.out (jal _ _ _) (je0 RD.out _),OwF.none_ _ _ _,fun k hk=>(by cases hk),hS.grown (jal _ _ _) hS.size (fun k e=>by injection e with e;exact e▸NG.out),NG.out,je0 RD.out _,fun b hb=>(je0 RD.out b hb).elim⟩
   have OF:=zh hof;have hS2:=hS.grown (jal w7 g9 (Ss.cs m (d1.room:Nat) (tA d1) (tB d1) (.slice none 0 0) (Bk.cells (Bk.new m) L V H)).toArray) hS.size (fun k e=>by injection e with e;exact e▸NG.out)
   clear hS hof;have hS:=hS2;clear hS2;refine hK.out _ _ hS (fun _=> ?_);clear hK K;try simp only[Act.put,zT,zO,zS]
   refine wpAnyH_done (by kernel_rfl) ?_ _;go_wp2_with fail;go_meet
   case rel=>exact⟨_,_,_,_,rfl,OF.out⟩
  ·go_simp
   obtain⟨g9,hg9⟩:∃g9,g9=w5.heap.size:=⟨_,rfl⟩;have hb:Below w5.drew.heap.size w5.drew (w5.alloc (.cells Ss.zeros 42)).drew:=(Below.refl _ _).alloc (Nat.le_refl _) _;have hZ:((w5.alloc (.cells Ss.zeros 42)).drew).heap[g9]? =some (.cells Ss.zeros 42 (0,0)):=by rw[hg9];exact heap_alloc_new _ _
   have NG:Hid (w5.heap.size≤g9):=by rw[hg9];exact hS.size
   have hS2:=hS.trans (hb.mono hS.size);rw[←hg9];clear hS hb hg9;have hS:=hS2;clear hS2;generalize(w5.alloc (.cells Ss.zeros 42)).drew=w7 at*;refine hK.out _ _ hS (fun _=> ?_);clear hK K;try simp only[Act.put,zT,zO,zS]
   refine rO 3 (fun K hK=> ?_);go_simp
   with_reducible refine(CN.out _).mono ?_
   rintro e w6 ⟨L,V,H,rfl,hrd,hb⟩;have RD:=zh hrd;have hS2:=hS.trans (hb.mono hS.size);have hZ2:=(hb.block g9 (Array.getElem?_eq_some_iff.1 hZ).1).trans hZ;clear hZ;have hZ:=hZ2;clear hZ2;clear hS hb hrd;have hS:=hS2;clear hS2;refine hK.out _ _ hS (fun _=> ?_);clear hK K;refine tZ 4 (v:= .agg (Ss.cs m (d1.room:Nat) (tA d1) (tB d1) (.slice none 0 0) (Bk.cells (Bk.new m) L V H)).toArray) rfl (fun W hW=>jha 42 _ rfl _ (by kernel_rfl)) hS ?_;simp only[Act.put,zT,zO,zS];refine rO 6 (fun K hK=> ?_);refine wp_store_row 42 (.tmp 9) (.tmp 28) rfl g9 (Ss.cs m (d1.room:Nat) (tA d1) (tB d1) (.slice none 0 0) (Bk.cells (Bk.new m) L V H)).toArray rfl rfl 42 _ hZ (jdy ..) rfl (Ss.one rfl RD.out.one) ?_;have hof:OfAt w5 (w6.setRow g9 (Ss.cs m (d1.room:Nat) (tA d1) (tB d1) (.slice none 0 0) (Bk.cells (Bk.new m) L V H)).toArray) g9 m d1 (.slice none 0 0) [] (Bk.new m) L V H:=⟨⟨setRow_heap _ g9 _ _ _ _ hZ⟩,jcq RD.out (jal _ _ _) (je0 RD.out _),OwF.none_ _ _ _,fun k hk=>(by cases hk),hS.grown (jal _ _ _) hS.size (fun k e=>by injection e with e;exact e▸NG.out),NG.out,je0 RD.out _,fun b hb=>(je0 RD.out b hb).elim⟩
   have OF:=zh hof;have hS2:=hS.grown (jal w6 g9 (Ss.cs m (d1.room:Nat) (tA d1) (tB d1) (.slice none 0 0) (Bk.cells (Bk.new m) L V H)).toArray) hS.size (fun k e=>by injection e with e;exact e▸NG.out)
   clear hS hof;have hS:=hS2;clear hS2;refine hK.out _ _ hS (fun _=> ?_);clear hK K;try simp only[Act.put,zT,zO,zS]
   refine wpAnyH_done (by kernel_rfl) ?_ _;go_wp2_with fail;go_meet
   case rel=>exact⟨_,_,_,_,rfl,OF.out⟩
 case rest=>
  obtain⟨g,L,V,H,rfl,hof⟩:=hcut;have O3:=zh hof;clear hof CN;have hcap:=SP.out.cap;have hmax:=SP.out.max;unfold maxLen at hmax;have hn2:ps.length≤1000:=HN.out;obtain⟨n,hnn⟩:∃n,n=ps.length:=⟨_,rfl⟩;rw[←hnn]at SP hcap hn2⊢;have NL:=zh hnn;clear hnn;go_wp2_with fail;go_loopw [10] (fun i wr=>∃(j:Nat) (v L V H:Value),j≤n∧i= .int .i64 j∧Bk.cnt (Bk.new m) ((So.recs ps).take j)=j∧OfAt w5 wr g m d1 v ((So.recs ps).take j) (Bk.run (Bk.new m) ((So.recs ps).take j)) L V H) (fun i _=>n -(intOf i).toNat)
  case atStart=>exact⟨0,_,L,V,H,Nat.zero_le _,rfl,rfl,O3.out⟩
  case round=>
   clear O3;obtain⟨j,v,L,V,H,hj,rfl,hcn,hof⟩:=hrel;have OA:=zh hof;have CN:=zh hcn;clear hof hcn;have i1:(0:Int)≤(j:Int):=by omega
   by_cases hlt:j<n
   ·have HLT:Hid (j<ps.length):=by show _<_;have:=NL.out;omega
    have S4:=SP.out.on OA.out.below;obtain⟨b3,o3,hA3,hb3,hc3⟩:=S4.rd (by have:=NL.out;omega);obtain⟨A4,n4,c4,hcell,hs4⟩:=hc3 j HLT.out;have LO:=zh (So.load_on HLT.out CN.out);have PR:Hid (Bk.chk (Bk.run (Bk.new m) ((So.recs ps).take j)) (Rc.rdV (ps[j]'HLT.out))≠0→_):=fun h0=>So.load_at (Nat.le_of_lt HLT.out) CN.out (fun _=>h0);have hx:ps.getD j []=ps[j]'HLT.out:=by rw[List.getD_eq_getElem?_getD,List.getElem?_eq_getElem HLT.out];rfl
    have TK:(So.recs ps).take (j+1)=(So.recs ps).take j++[Rc.rdV (ps[j]'HLT.out)]:=jrd HLT.out;have hok4:=HOK.out _ (List.getElem_mem HLT.out);rw[hx]at hs4;generalize ps[j]'HLT.out=x at*;have hn4:n4≤1000:=by have:=hs4.len;have:=hok4.2.1;omega
    have CR:=zh (jnh wr A4 n4 c4 x hs4 hn4);have HR:Hid (Rc.In (Rc.rdV x)):=Rc.rd_in x;have EQ:Hid (Bk.chk (Bk.run (Bk.new m) ((So.recs ps).take j)) (Rc.rdV x)=0→Rc.rdE x=0):=fun h0=>(So.rd_right (Bk.chk_right h0)).1;have SWP:=zh (SWJ.out j (Nat.le_of_lt HLT.out));have TK:=zh TK;have LL:Hid (((So.recs ps).take j).length≤1000):=by show _≤_;rw[List.length_take];have:=NL.out;omega
    generalize Rc.rdV x=rc at*;generalize Rc.rdE x=er at*;have SOK:Hid (Bk.Ok (Bk.run (Bk.new m) ((So.recs ps).take j))):=Bk.run_ok _ (Bk.new_ok m);obtain⟨ls,hls⟩:∃ls,ls=(So.recs ps).take j:=⟨_,rfl⟩;rw[←hls]at OA LO PR EQ TK LL SOK CN;have HL:=zh hls;clear hls;obtain⟨s,hs⟩:∃s,s=Bk.run (Bk.new m) ls:=⟨_,rfl⟩;rw[←hs]at OA LO PR EQ SOK;have HS:=zh hs;clear hs hx hc3 hs4 hn4 hok4 S4;subst hA3;have q1:((j:Nat):Int)<(n:Nat):=by omega
    go_upto_region 8 with(first
   |(go_at_call 101;(with_reducible refine CR.out.mono ?_);rintro e w4 ⟨rfl,hb4⟩;have O4:=zh (OA.out.on hb4);clear hb4 CR OA)
   |((with_reducible show zW);refine jah rfl (.tmp 11) (.tmp 41) rfl w4.heap.size rc Rc.none_ rfl rfl ⟨heap_alloc_new w4 _⟩ ?_))
    rw[World.setRow_alloc_new];have hb5:Below w4.heap.size w4 (w4.alloc (.cells (Rc.cells rc) 45)):=(Below.refl _ _).alloc (Nat.le_refl _) _;have RA:=zh (RcAt.new w4 rc);have LTG:=O4.out.ss.lt;have O5:=zh (O4.out.on hb5);clear hb5 O4;obtain⟨g11,hg11⟩:∃g11,g11=w4.heap.size:=⟨_,rfl⟩;have NE:Hid (g11≠g):=by rw[hg11];exact Nat.ne_of_gt LTG
    rw[←hg11]at RA⊢;clear hg11 LTG;generalize w4.alloc (.cells (Rc.cells rc) 45)=w6 at*;clear hcell hb3;have CP:=zh (joa s SOK.out rc HR.out L V H w6 O5.out.rd);go_upto_region 9 with(first
   |((with_reducible show zL 45);refine jf9 rfl (.tmp 44) rfl rfl O5.out.ss ?_)
   |((with_reducible show zL 46);refine zR (.tmp 11) RA.out ?_)
   |(go_at_call 37;(with_reducible refine CP.out.mono ?_);rintro e w7 ⟨L2,V2,H2,rfl,hrd,hb,hnew⟩;have NW:=zh hnew;have RD:=zh hrd;have B7:=zh hb;have X7:=zh (BkAt.zero w7);clear hnew hrd hb CP)
   |((with_reducible show zW);refine jac rfl (.tmp 13) (.tmp 48) rfl rfl rfl X7.out RD.out.one ?_))
    rw[World.setRow_alloc_new];have hb8:Below w7.heap.size w7 (w7.alloc (.cells (Bk.cells (Bk.app s rc) L2 V2 H2) 40)):=(Below.refl _ _).alloc (Nat.le_refl _) _;have B8:=zh (B7.out.trans (hb8.mono B7.out.size));have RD8:=zh (RD.out.on hb8);have K8:=zh (BkAt.new w7 (Bk.app s rc) L2 V2 H2);have RA8:=zh (RA.out.on B8.out);clear hb8 B7 RD X7 RA;obtain⟨g13,hg13⟩:∃g13,g13=w7.heap.size:=⟨_,rfl⟩;rw[←hg13]at K8⊢;clear hg13;generalize w7.alloc (.cells (Bk.cells (Bk.app s rc) L2 V2 H2) 40)=w8 at*;by_cases hz:Bk.chk s rc=0
    ·have he:er=0:=EQ.out hz
     subst he;have L1:=zh (LO.out.2 hz);rw[hz];go_upto_region 14 with(first
   |((with_reducible show zL 71);refine jaa rfl (.tmp 13) rfl rfl K8.out ?_)
   |((with_reducible show zW);refine je9 rfl (.tmp 72) (.tmp 71) rfl rfl rfl (O5.out.on B8.out).ss RD8.out.one ?_))
     have O9:=zh (O5.out.turn B8.out RD8.out NW.out ((O5.out.on B8.out).ss.setBook (Bk.app s rc) L2 V2 H2));have RA9:Hid (RcAt (w8.setCells g 5 (Bk.cells (Bk.app s rc) L2 V2 H2).toList) g11 rc):=⟨((jbd g (Bk.cells (Bk.app s rc) L2 V2 H2).toList 5 w8).block g11 RA8.out.cs.lt (fun e=>by injection e with e;exact NE.out e)).trans RA8.out.row⟩
     generalize w8.setCells g 5 (Bk.cells (Bk.app s rc) L2 V2 H2).toList=w9 at*;have c4:=O9.out.ss.c4;have lg:=O9.out.ss.lt
     go_wp2_with(first
   |((with_reducible show zL 75);refine zR (.tmp 11) RA9.out ?_)
   |((with_reducible show zB 76);refine jb0 Tryz.underlying28 jbr (by omega) (by omega) rfl (.tmp 75) rfl (Rc.cells rc) rfl rfl ?_)
   |(at_builtin;refine jai Bk.rcC_len Bk.rcC_one Tryz.underlying28 jbr rfl (by omega) rfl (.tmp 74) (.tmp 76) rfl w5.heap.size v ls rfl O9.out.row rc rfl (by have:=LL.out;unfold maxLen;omega) (by have:=LL.out;omega) O9.out.below.size ?_;intro v9 w10 ho9 hb9 hg9 hv9;obtain⟨A9,c9,rfl⟩:=ho9.form;generalize(ls++[rc]).length=n9 at*;have O10:=zh (O9.out.push ho9 hb9 hg9 hv9);have hs10:=O9.out.ss.keep (hg9.block g O9.out.ss.lt fun e=>(O9.out.far g e.symm).1 rfl);have c4':=hs10.c4;have lg':=hs10.lt;have f4:=hs10.frz 4;clear ho9 hb9 hg9 hv9 hs10 c4 lg))
     exact⟨⟨j+1,.slice A9 n9 c9,L2,V2,H2,by omega,by go_num,L1.out,by rw[LO.out.1,TK.out];exact O10.out⟩,by simp[intOf];omega⟩
    ·have PRE:=zh (PR.out hz)
     have hz2:(Bk.chk s rc !=0)=true:=by simpa using hz
     generalize Bk.chk s rc=cc at*;go_cut [55] (fun s55 wx=>s55= .bool true∧wx=w8)
     case first=>
      by_cases he:er=0
      ·subst he
       go_wp2_with fail;go_meet
       case rel=>exact⟨rfl,rfl⟩
      ·have he2:(er !=0)=true:=by simpa using he
       go_wp2_with fail;go_meet
       case rel=>exact⟨rfl,rfl⟩
     case rest=>
      obtain⟨rfl,hwc⟩:=hcut;have hwc2:=hwc.symm;subst hwc2;clear hwc;have D8:=zh (D7.out.on (O5.out.on B8.out).below);have S8:=zh (SP.out.on (O5.out.on B8.out).below);have CW:Hid (∀V,Below w8.heap.size w8 V→Calls Tryz.prog 53 #[.agg #[.int .i64 (d1.room:Nat),.string (tA d1),.string (tB d1)],.slice (some ⟨b3,o3,none⟩) j c8] V (jf2 (Jn.Js d.room j (ps.take j)) 0 V)):=fun V hV=>by have h:=jqSwap (d:=d1) j c8 _ (ps.take j) V ((S8.out.on hV).take (k:=j) (by omega)) (by rw[List.length_take];have:=HN.out;omega) (fun y hy=>Nat.le_trans (HOK.out y (List.mem_of_mem_take hy)).2.1 (by omega));rwa [SWP.out.1,SWP.out.2]at h
      go_upto_region 10 with fail
      go_cut [15] (fun s15 wy=>∃g15,s15= .pointer (some ⟨g15,0,none⟩)∧DdAt wy g15 (Jn.Js d.room j (ps.take j))∧Below w8.heap.size w8 wy)
      case first=>
       refine wp_region_held_drew (S:=fun V=>Below w8.heap.size w8 V) (by kernel_rfl) (Below.refl w8.heap.size w8).drew (fun hS=> ?_);refine tZ 0 (v:= .agg #[.int .i64 (d1.room:Nat),.string (tA d1),.string (tB d1)]) rfl (fun W hW=>jpv (.tmp 6) rfl g6 d1 rfl (D8.out.on hW)) hS ?_;refine tY 1 hS ?_;refine tY 2 hS ?_;refine tZ 3 rfl (by intro W hW;have jc:j≤c8:=(by omega);go_simp;(try with_reducible rfl)) hS ?_;simp only[Act.put,zT,zO,zS];refine jh4 4 8 rfl rfl (by kernel_rfl) rfl rfl (fun K hK=> ?_) (fun K hK=> ?_)
       ·go_simp
        with_reducible refine(CW.out _ hS).mono ?_
        rintro e w9 ⟨rfl,hb⟩;replace hS:=hS.trans (hb.mono hS.size);clear hb;refine hK.out _ _ hS (fun _=> ?_);clear hK K;refine tY 5 hS ?_;refine tY 6 hS ?_;refine tY 7 hS ?_;simp only[Act.put,zT,zO,zS];refine rO 8 (fun K hK=> ?_);go_simp;obtain⟨g15,hg15⟩:∃g15,g15=w9.heap.size:=⟨_,rfl⟩;have hb:Below w9.heap.size w9 (w9.alloc (.cells #[.int .i64 0,.string ⟨#[]⟩,.string ⟨#[]⟩] 27)):=(Below.refl _ _).alloc (Nat.le_refl _) _;have hZ:((w9.alloc (.cells #[.int .i64 0,.string ⟨#[]⟩,.string ⟨#[]⟩] 27))).heap[g15]? =some (.cells #[.int .i64 0,.string ⟨#[]⟩,.string ⟨#[]⟩] 27 (0,0)):=by rw[hg15];exact heap_alloc_new _ _
        have NG:Hid (w8.heap.size≤g15):=by rw[hg15];exact hS.size
        have hS2:=hS.trans (hb.mono hS.size);rw[←hg15];clear hS hb hg15;have hS:=hS2;clear hS2;generalize(w9.alloc (.cells #[.int .i64 0,.string ⟨#[]⟩,.string ⟨#[]⟩] 27))=wy at*;refine hK.out _ _ hS (fun _=> ?_);clear hK K;try simp only[Act.put,zT,zO,zS]
        refine rO 9 (fun K hK=> ?_);refine wp_store_row 27 (.tmp 15) (.tmp 62) rfl g15 #[.int .i64 ((Jn.Js d.room j (ps.take j)).room:Nat),.string (tA (Jn.Js d.room j (ps.take j))),.string (tB (Jn.Js d.room j (ps.take j)))] rfl rfl 27 _ hZ (jew ..) rfl (by simp[Value.oneCell']) ?_;have D15:Hid (DdAt (wy.setRow g15 #[.int .i64 ((Jn.Js d.room j (ps.take j)).room:Nat),.string (tA (Jn.Js d.room j (ps.take j))),.string (tB (Jn.Js d.room j (ps.take j)))]) g15 (Jn.Js d.room j (ps.take j))):=⟨setRow_heap _ g15 _ _ _ _ hZ⟩;have hS2:=hS.grown (jal wy g15 #[.int .i64 ((Jn.Js d.room j (ps.take j)).room:Nat),.string (tA (Jn.Js d.room j (ps.take j))),.string (tB (Jn.Js d.room j (ps.take j)))]) hS.size (fun k e=>by injection e with e;exact e▸NG.out)
        clear hS;have hS:=hS2;clear hS2;refine hK.out _ _ hS (fun _=> ?_);clear hK K;refine tY 10 hS ?_;simp only[Act.put,zT,zO,zS];refine wpAnyH_done (by kernel_rfl) ?_ _;go_wp2_with fail;go_meet
        case rel=>exact⟨_,rfl,D15.out,hS⟩
       ·go_simp
        obtain⟨g15,hg15⟩:∃g15,g15=w8.heap.size:=⟨_,rfl⟩;have hb:Below w8.drew.heap.size w8.drew (w8.alloc (.cells #[.int .i64 0,.string ⟨#[]⟩,.string ⟨#[]⟩] 27)).drew:=(Below.refl _ _).alloc (Nat.le_refl _) _;have hZ:((w8.alloc (.cells #[.int .i64 0,.string ⟨#[]⟩,.string ⟨#[]⟩] 27)).drew).heap[g15]? =some (.cells #[.int .i64 0,.string ⟨#[]⟩,.string ⟨#[]⟩] 27 (0,0)):=by rw[hg15];exact heap_alloc_new _ _
        have NG:Hid (w8.heap.size≤g15):=by rw[hg15];exact hS.size
        have hS2:=hS.trans (hb.mono hS.size);rw[←hg15];clear hS hb hg15;have hS:=hS2;clear hS2;generalize(w8.alloc (.cells #[.int .i64 0,.string ⟨#[]⟩,.string ⟨#[]⟩] 27)).drew=wy at*;refine hK.out _ _ hS (fun _=> ?_);clear hK K;try simp only[Act.put,zT,zO,zS]
        refine rO 4 (fun K hK=> ?_);go_simp
        with_reducible refine(CW.out _ hS).mono ?_
        rintro e w9 ⟨rfl,hb⟩;have hS2:=hS.trans (hb.mono hS.size);have hZ2:=(hb.block g15 (Array.getElem?_eq_some_iff.1 hZ).1).trans hZ;clear hZ;have hZ:=hZ2;clear hZ2;clear hS hb;have hS:=hS2;clear hS2;refine hK.out _ _ hS (fun _=> ?_);clear hK K;refine tY 5 hS ?_;refine tY 6 hS ?_;refine tY 7 hS ?_;simp only[Act.put,zT,zO,zS];refine rO 9 (fun K hK=> ?_);refine wp_store_row 27 (.tmp 15) (.tmp 62) rfl g15 #[.int .i64 ((Jn.Js d.room j (ps.take j)).room:Nat),.string (tA (Jn.Js d.room j (ps.take j))),.string (tB (Jn.Js d.room j (ps.take j)))] rfl rfl 27 _ hZ (jew ..) rfl (by simp[Value.oneCell']) ?_;have D15:Hid (DdAt (w9.setRow g15 #[.int .i64 ((Jn.Js d.room j (ps.take j)).room:Nat),.string (tA (Jn.Js d.room j (ps.take j))),.string (tB (Jn.Js d.room j (ps.take j)))]) g15 (Jn.Js d.room j (ps.take j))):=⟨setRow_heap _ g15 _ _ _ _ hZ⟩;have hS2:=hS.grown (jal w9 g15 #[.int .i64 ((Jn.Js d.room j (ps.take j)).room:Nat),.string (tA (Jn.Js d.room j (ps.take j))),.string (tB (Jn.Js d.room j (ps.take j)))]) hS.size (fun k e=>by injection e with e;exact e▸NG.out)
        clear hS;have hS:=hS2;clear hS2;refine hK.out _ _ hS (fun _=> ?_);clear hK K;refine tY 10 hS ?_;simp only[Act.put,zT,zO,zS];refine wpAnyH_done (by kernel_rfl) ?_ _;go_wp2_with fail;go_meet
        case rel=>exact⟨_,rfl,D15.out,hS⟩
      case rest=>
       obtain⟨g15,rfl,hd15,hb15⟩:=hcut;have D15:=zh hd15;have OB:=zh (O5.out.on (B8.out.trans (hb15.mono B8.out.size)));clear hd15 hb15 CW;go_upto_region 12 with(first
   |((with_reducible show zL 64);refine jbv rfl (.tmp 15) rfl rfl D15.out ?_)
   |((with_reducible show zW);refine jfa (d:=(Jn.Js d.room j (ps.take j))) rfl (.tmp 65) (.tmp 64) rfl rfl rfl OB.out.ss ?_))
       have OC:=zh (OB.out.turn (d2:=(Jn.Js d.room j (ps.take j))) (Below.refl _ _) OB.out.rd (jrc _ _ _ _) (OB.out.ss.setDisk _ _ _));generalize World.setCells _ g 1 _=wz at*;have hv1:v.oneCell'=true:=by obtain⟨Av,cv,hv⟩:=OC.out.row.form;rw[hv];rfl
       have Z4w:wz.heap[g4]? =some (.cells Ss.zeros 42 (0,0)):=(OC.out.below.block g4 (Array.getElem?_eq_some_iff.1 Z47.out).1).trans Z47.out
       go_wp2_with(first
   |((with_reducible show zL 66);refine jcl rfl (.tmp 9) rfl rfl OC.out.ss ?_)
   |((with_reducible show zW);refine jbc rfl (.tmp 4) (.tmp 66) rfl rfl rfl Z4w rfl (Ss.one hv1 OC.out.rd.one) ?_))
       have e:So.disk d.room ls=(Jn.Js d.room j (ps.take j)):=by unfold So.disk;rw[PRE.out.2.1,PRE.out.2.2]
       have PR1:=PRE.out.1;have PR2:=PRE.out.2.1;have hs9:=HS.out;subst hs9;refine bodyPost_ret (v:= .tuple #[_,.int .i64 ((n:Int) -(j:Nat))]) (jga Tryz.results49 _ rfl ⟨setRow_heap _ g4 _ _ _ _ Z4w⟩) rfl ?_;rw[←NL.out,PR1,PR2,e];exact jl5 OC.out B7.out G4.out (Array.getElem?_eq_some_iff.1 Z47.out).1
   ·have ej:j=n:=by omega
    have q1:((n:Nat):Int)≤(j:Nat):=by omega
    have PRE:=zh (So.load_at (m:=m) (ps:=ps) (j:=j) (by have:=NL.out;omega) CN.out (fun hx=>absurd hx (by have:=NL.out;omega)));have EJ:Hid (ps.take j=ps∧j=ps.length):=⟨List.take_of_length_le (by have:=NL.out;omega),by have:=NL.out;omega⟩;clear ej;have OC:=OA;have hv1:v.oneCell'=true:=by obtain⟨Av,cv,hv⟩:=OC.out.row.form;rw[hv];rfl
    have Z4w:wr.heap[g4]? =some (.cells Ss.zeros 42 (0,0)):=(OC.out.below.block g4 (Array.getElem?_eq_some_iff.1 Z47.out).1).trans Z47.out
    go_wp2_with(first
   |((with_reducible show zL 79);refine jcl rfl (.tmp 9) rfl rfl OC.out.ss ?_)
   |((with_reducible show zW);refine jbc rfl (.tmp 4) (.tmp 79) rfl rfl rfl Z4w rfl (Ss.one hv1 OC.out.rd.one) ?_))
    have PR:=PRE.out;rw[EJ.out.1]at PR;have e:So.disk d.room (So.pre (Bk.new m) (So.recs ps))=d1:=by unfold So.disk;rw[PR.1,PR.2.1,PR.2.2,OI.out,EJ.out.2]
    refine bodyPost_ret (v:= .tuple #[_,.int .i64 0]) (jga Tryz.results49 _ rfl ⟨setRow_heap _ g4 _ _ _ _ Z4w⟩) rfl ?_;rw[e,PR.1,PR.2.1,EJ.out.2,Int.sub_self];have OD:=OC.out;rw[←EJ.out.2];exact jl5 OD B7.out G4.out (Array.getElem?_eq_some_iff.1 Z47.out).1
theorem jgj{fn:Func}{p u1 u2:Tmp}{w:World}{g:Nat}{cs:Array Value}(h:fn.results= #[.cell p 42,.tmp u1,.tmp u2])(tmps:Array Value)(hp:tmps.getD p undef= .pointer (some ⟨g,0,none⟩))(hg:w.heap[g]? =some (.cells cs 42 (0,0)))(hi:(Tryz.prog.info? 42).map (·.size)=some cs.size):
  (results fn tmps).run Tryz.prog w= .ok (.tuple #[.agg cs,tmps.getD u1 undef,tmps.getD u2 undef]) w:=by
 have hp':tmps[p]?.getD undef= .pointer (some ⟨g,0,none⟩):=by simpa using hp
 have:=run_loadVar_row (P:=Tryz.prog) w g 42 42 cs (0,0) _ hg jej rfl hi;simp[results,h,hp',asAddr,this,Result.andThen,Sem.run_bind]
theorem jh1:(Tryz.prog.info? 42).map (·.size)=some Ss.zeros.size:=by kernel_rfl
theorem jrf:Ss.zeros.all (·.oneCell')=true:=by simp[Ss.zeros,Ss.cs,Bk.zeros,Value.oneCell']
def jtw(m:Int)(D:Dk.St)(ls:List Rc.R)(x:Int)(w:World)(e:Ending)(w':World):Prop:=∃A c L V H,e= .returned (.tuple #[.agg (Ss.cs m (D.room:Nat) (tA D) (tB D) (.slice A ls.length c) (Bk.cells (Bk.all m ls) L V H)).toArray,.int .i64 x,.int .i64 0])∧SlF Bk.rcC w' A ls.length c ls∧BkRd w' (Bk.all m ls) L V H∧Below w.heap.size w w'
theorem fits_le(n:Int):Dk.fits n≤1048576:=by unfold Dk.fits;omega
theorem jje(room margin:Int)(bs:List Nat)(w:World)(hf:¬bs.length≤Dk.fits room):Calls Tryz.prog 28 #[.string (txt bs),.int .i64 room,.int .i64 margin] w (fun e w'=>e= .returned (.tuple #[.agg Ss.zeros,.int .i64 0,.int .i64 4])∧Below w.heap.size w w'):=by
 have e1:Dk.swap (Dk.new room) bs=Dk.new room∧Dk.swapE (Dk.new room) bs=4:=by
  unfold Dk.swap Dk.swapE;rw[if_neg (show¬bs.length≤(Dk.new room).room from hf),if_neg (show¬bs.length≤(Dk.new room).room from hf)];exact⟨rfl,rfl⟩
 obtain⟨d1,hd1⟩:∃d1,d1=Dk.new room:=⟨_,rfl⟩;rw[←hd1]at e1;have CS:Hid (∀W,Calls Tryz.prog 69 #[.agg #[.int .i64 (Dk.fits room:Nat),.string ⟨#[]⟩,.string ⟨#[]⟩],.string (txt bs)] W (jf2 d1 4 W)):=fun W=>by have h:=qSwap (d:=Dk.new room) bs W;rw[←hd1,e1.1,e1.2,hd1]at h;rw[hd1];exact h
 clear e1 hd1 hf;have hz:=jhs;have CN:=zh (fun W=>jlf room W);go_enter Tryz.func28,Tryz.ntmps28;go_upto_region 1 with fail
 obtain⟨g6,hg6⟩:∃g6,g6=w.heap.size:=⟨_,rfl⟩;have Z6:Hid ((w.alloc (.cells Ss.zeros 42)).heap[g6]? =some (.cells Ss.zeros 42 (0,0))):=by rw[hg6];exact heap_alloc_new w _
 have B1:Hid (Below w.heap.size w (w.alloc (.cells Ss.zeros 42))):=(Below.refl _ _).alloc (Nat.le_refl _) _;have G6:Hid (w.heap.size≤g6):=Nat.le_of_eq hg6.symm;rw[←hg6];clear hg6;generalize w.alloc (.cells Ss.zeros 42)=w1 at*;go_upto_region 3 with(first
   |(go_at_call 46;(with_reducible refine(CN.out _).mono ?_);rintro e w2 ⟨rfl,hb⟩;have Z6:Hid (w2.heap[g6]? =some (.cells Ss.zeros 42 (0,0))):=(hb.block g6 (Array.getElem?_eq_some_iff.1 Z6.out).1).trans Z6.out;have B1:=zh (B1.out.trans (hb.mono B1.out.size));clear hb)
   |(go_at_call 69;(with_reducible refine(CS.out _).mono ?_);rintro e w3 ⟨rfl,hb⟩;have Z6:Hid (w3.heap[g6]? =some (.cells Ss.zeros 42 (0,0))):=(hb.block g6 (Array.getElem?_eq_some_iff.1 Z6.out).1).trans Z6.out;have B1:=zh (B1.out.trans (hb.mono B1.out.size));clear hb)
   |((with_reducible show zW);refine jb9 (d:=d1) rfl (.tmp 9) (.tmp 18) rfl rfl ?_))
 have hb:Below w3.heap.size w3 (w3.alloc (.cells #[.int .i64 (d1.room:Nat),.string (tA d1),.string (tB d1)] 27)):=(Below.refl _ _).alloc (Nat.le_refl _) _;have D9:=zh (DdAt.new w3 d1);obtain⟨g9,hg9⟩:∃g9,g9=w3.heap.size:=⟨_,rfl⟩;rw[←hg9]at D9⊢;clear hg9;generalize w3.alloc (.cells #[.int .i64 (d1.room:Nat),.string (tA d1),.string (tB d1)] 27)=w4 at*;have Z6:Hid (w4.heap[g6]? =some (.cells Ss.zeros 42 (0,0))):=(hb.block g6 (Array.getElem?_eq_some_iff.1 Z6.out).1).trans Z6.out;have B1:=zh (B1.out.trans (hb.mono B1.out.size));clear hb
 go_wp2_with(first
   |((with_reducible show wpList _ _ _ ({dst:=some 22,op:= .build _ _,type:=_,pos:=_,after:=_,guard:=_}::_) _ _);refine jc5 rfl 42 _ rfl Ss.zeros (by kernel_rfl) ?_)
   |((with_reducible show zW);refine wpList_store_row rfl 42 (.tmp 6) (.tmp 22) rfl g6 Ss.zeros rfl rfl 42 _ Z6.out jh1 rfl jrf ?_))
 exact bodyPost_ret (v:= .tuple #[.agg Ss.zeros,.int .i64 0,.int .i64 4]) (jgj Tryz.results28 _ rfl (setRow_heap _ g6 _ _ _ _ Z6.out) jh1) rfl ⟨rfl,B1.out.grown (jal _ _ _) B1.out.size fun k e=>by injection e with e;exact e▸G6.out⟩
theorem jjf(room margin:Int)(bs:List Nat)(w:World)(hf:bs.length≤Dk.fits room)(hb':∀x∈bs,x<256)(hn:(Fr.scan bs).1.length≤1000):Calls Tryz.prog 28 #[.string (txt bs),.int .i64 room,.int .i64 margin] w (jtw margin (So.disk (Dk.fits room) (So.of margin bs)) (So.of margin bs) (((Fr.scan bs).1.length:Int) -((So.of margin bs).length:Nat)) w):=by
 have e1:Dk.swap (Dk.new room) bs=⟨Dk.fits room,bs.length,bs⟩∧Dk.swapE (Dk.new room) bs=0:=by
  unfold Dk.swap Dk.swapE;rw[if_pos (show bs.length≤(Dk.new room).room from hf),if_pos (show bs.length≤(Dk.new room).room from hf)];exact⟨rfl,rfl⟩
 have CF:=zh (fun W=>jre ⟨Dk.fits room,bs.length,bs⟩ ⟨Nat.le_refl _,hf,fits_le room⟩ hb' hn margin W);obtain⟨x,hx⟩:∃x:Int,x=((Jn.ents ⟨Dk.fits room,bs.length,bs⟩).length:Int) -((So.pre (Bk.new margin) (So.recs (Jn.ents ⟨Dk.fits room,bs.length,bs⟩))).length:Nat):=⟨_,rfl⟩;rw[←hx]at CF;have EX:Hid (x=((Fr.scan bs).1.length:Int) -((So.of margin bs).length:Nat)):=hx;clear hx;obtain⟨ls,hls⟩:∃ls,ls=So.pre (Bk.new margin) (So.recs (Jn.ents ⟨Dk.fits room,bs.length,bs⟩)):=⟨_,rfl⟩;rw[←hls]at CF;have EL:Hid (ls=So.of margin bs):=hls;clear hls;obtain⟨d1,hd1⟩:∃d1:Dk.St,d1=⟨Dk.fits room,bs.length,bs⟩:=⟨_,rfl⟩;rw[←hd1]at e1 CF;have ER:Hid (d1.room=Dk.fits room):=by show _=_;rw[hd1]
 have CS:Hid (∀W,Calls Tryz.prog 69 #[.agg #[.int .i64 (Dk.fits room:Nat),.string ⟨#[]⟩,.string ⟨#[]⟩],.string (txt bs)] W (jf2 d1 0 W)):=fun W=>by have h:=qSwap (d:=Dk.new room) bs W;rw[e1.1,e1.2]at h;exact h
 clear e1 hd1 hf hn hb';have hz:=jhs;have CN:=zh (fun W=>jlf room W);go_enter Tryz.func28,Tryz.ntmps28;go_upto_region 1 with fail
 obtain⟨g6,hg6⟩:∃g6,g6=w.heap.size:=⟨_,rfl⟩;have Z6:Hid ((w.alloc (.cells Ss.zeros 42)).heap[g6]? =some (.cells Ss.zeros 42 (0,0))):=by rw[hg6];exact heap_alloc_new w _
 have B1:Hid (Below w.heap.size w (w.alloc (.cells Ss.zeros 42))):=(Below.refl _ _).alloc (Nat.le_refl _) _;have G6:Hid (w.heap.size≤g6):=Nat.le_of_eq hg6.symm;rw[←hg6];clear hg6;generalize w.alloc (.cells Ss.zeros 42)=w1 at*;go_upto_region 4 with(first
   |(go_at_call 46;(with_reducible refine(CN.out _).mono ?_);rintro e w2 ⟨rfl,hb⟩;have Z6:Hid (w2.heap[g6]? =some (.cells Ss.zeros 42 (0,0))):=(hb.block g6 (Array.getElem?_eq_some_iff.1 Z6.out).1).trans Z6.out;have B1:=zh (B1.out.trans (hb.mono B1.out.size));clear hb)
   |(go_at_call 69;(with_reducible refine(CS.out _).mono ?_);rintro e w3 ⟨rfl,hb⟩;have Z6:Hid (w3.heap[g6]? =some (.cells Ss.zeros 42 (0,0))):=(hb.block g6 (Array.getElem?_eq_some_iff.1 Z6.out).1).trans Z6.out;have B1:=zh (B1.out.trans (hb.mono B1.out.size));clear hb)
   |((with_reducible show zW);refine jb9 (d:=d1) rfl (.tmp 9) (.tmp 18) rfl rfl ?_))
 have hb:Below w3.heap.size w3 (w3.alloc (.cells #[.int .i64 (d1.room:Nat),.string (tA d1),.string (tB d1)] 27)):=(Below.refl _ _).alloc (Nat.le_refl _) _;have D9:=zh (DdAt.new w3 d1);obtain⟨g9,hg9⟩:∃g9,g9=w3.heap.size:=⟨_,rfl⟩;rw[←hg9]at D9⊢;clear hg9;generalize w3.alloc (.cells #[.int .i64 (d1.room:Nat),.string (tA d1),.string (tB d1)] 27)=w4 at*;have Z6:Hid (w4.heap[g6]? =some (.cells Ss.zeros 42 (0,0))):=(hb.block g6 (Array.getElem?_eq_some_iff.1 Z6.out).1).trans Z6.out;have B1:=zh (B1.out.trans (hb.mono B1.out.size));clear hb;have LT6:Hid (g6<w4.heap.size):=(Array.getElem?_eq_some_iff.1 Z6.out).1;obtain⟨DD,hDD⟩:∃DD,DD=So.disk d1.room ls:=⟨_,rfl⟩;rw[←hDD]at CF;have EDD:=zh hDD;clear hDD;go_upto_region 5 with(first
   |((with_reducible show zL 25);refine jbv rfl (.tmp 9) rfl rfl D9.out ?_)
   |(go_at_call 49;(with_reducible refine(CF.out _).mono ?_);rintro e w5 hp;obtain⟨A2,c2,L,V,H,rfl,hsl,hrd,hb,hfa,hro⟩:=hp;have FA5:=zh hfa;have RO5:=zh hro;clear hfa hro;have SL5:=zh hsl;have RD5:=zh hrd;have Z6:Hid (w5.heap[g6]? =some (.cells Ss.zeros 42 (0,0))):=(hb.block g6 (Array.getElem?_eq_some_iff.1 Z6.out).1).trans Z6.out;have B1:=zh (B1.out.trans (hb.mono B1.out.size));clear hb;clear hsl hrd CF)
   |((with_reducible show zW);refine jbc rfl (.tmp 11) (.tmp 28) rfl rfl rfl (heap_alloc_new w5 (.cells Ss.zeros 42)) rfl (Ss.one (l:= .slice A2 ls.length c2) rfl RD5.out.one) ?_))
 rw[World.setRow_alloc_new];have SS:=zh (SsAt.new w5 margin (DD.room:Nat) (tA DD) (tB DD) (.slice A2 ls.length c2) (Bk.all margin ls) L V H);have hb:Below w5.heap.size w5 (w5.alloc (.cells (Ss.cs margin (DD.room:Nat) (tA DD) (tB DD) (.slice A2 ls.length c2) (Bk.cells (Bk.all margin ls) L V H)).toArray 42)):=(Below.refl _ _).alloc (Nat.le_refl _) _;have SL6:=zh (SL5.out.on hb);have RD6:=zh (RD5.out.on hb);obtain⟨g11,hg11⟩:∃g11,g11=w5.heap.size:=⟨_,rfl⟩;rw[←hg11]at SS⊢;clear hg11;generalize w5.alloc (.cells (Ss.cs margin (DD.room:Nat) (tA DD) (tB DD) (.slice A2 ls.length c2) (Bk.cells (Bk.all margin ls) L V H)).toArray 42)=w6 at*;have Z6:Hid (w6.heap[g6]? =some (.cells Ss.zeros 42 (0,0))):=(hb.block g6 (Array.getElem?_eq_some_iff.1 Z6.out).1).trans Z6.out;have B1:=zh (B1.out.trans (hb.mono B1.out.size));clear hb
 go_wp2_with(first
   |((with_reducible show zL 30);refine jcl rfl (.tmp 11) rfl rfl SS.out ?_)
   |((with_reducible show zW);refine jbc rfl (.tmp 6) (.tmp 30) rfl rfl rfl Z6.out rfl (Ss.one (l:= .slice A2 ls.length c2) rfl RD6.out.one) ?_))
 have hg:=jal w6 g6 (Ss.cs margin (DD.room:Nat) (tA DD) (tB DD) (.slice A2 ls.length c2) (Bk.cells (Bk.all margin ls) L V H)).toArray;refine bodyPost_ret (v:= .tuple #[_,.int .i64 x,.int .i64 0]) (jgj Tryz.results28 _ rfl (setRow_heap _ g6 _ _ _ _ Z6.out) (jdy ..)) rfl ?_;rw[←EX.out,←EL.out,←ER.out,←EDD.out];exact⟨A2,c2,L,V,H,rfl,SL6.out.keep hg.size (fun b o e hl=>hg.block b (by obtain⟨b2,o2,e2,hlt,_⟩:=SL6.out.rd hl;rw[e]at e2;injection e2 with e2;injection e2 with e2 _;omega) (fun e2=>by injection e2 with e2;have:=FA5.out b o e;have:=LT6.out;omega)),jcq RD6.out hg (fun hx=>by have:=RO5.out _ hx;have:=LT6.out;omega),B1.out.grown hg B1.out.size fun k e=>by injection e with e;exact e▸G6.out⟩
theorem jjg{w0 W:World}{G:Nat→Prop}{p R:Nat}{m:Int}{L:List Rc.R}(h:SA w0 G p m R L W):Calls Tryz.prog 35 #[.pointer (some ⟨p,0,none⟩)] W (jdu W (.int .i64 (L.length:Nat))):=by
 have HR:=h.right;obtain⟨_,r,q,b,X,h1,_⟩:=h;have lq:=h1.lt;have cc:=h1.cells.2.2.1;have C:=zh (jtb h1.jr.ask);have e0:(Fr.scan (So.disk R L).l).1=So.ens L:=Jn.js_ents (So.ens_ok HR);rw[e0,So.ens_len]at C;clear h1 HR;go_enter Tryz.func35,Tryz.ntmps35;go_wp2_with(go_at_call 78;(with_reducible refine C.out.mono ?_);rintro e w1 ⟨rfl,hb⟩);go_ret;exact⟨rfl,hb⟩
theorem jni{w0 W:World}{G:Nat→Prop}{p R:Nat}{m:Int}{L:List Rc.R}(h:SA w0 G p m R L W):Calls Tryz.prog 36 #[.pointer (some ⟨p,0,none⟩)] W (jdu W (.int .i64 ((R -(Fr.all (So.ens L)).length:Nat)))):=by
 have HR:=h.right;obtain⟨_,r,q,b,X,h1,_⟩:=h;have lq:=h1.lt;have cc:=h1.cells.2.2.1;have C:=zh (jpy h1.jr.ask);clear h1 HR;go_enter Tryz.func36,Tryz.ntmps36;go_wp2_with(go_at_call 79;(with_reducible refine C.out.mono ?_);rintro e w1 ⟨rfl,hb⟩);go_ret;exact⟨rfl,hb⟩
theorem jky{w0 W:World}{G:Nat→Prop}{p R:Nat}{m:Int}{L:List Rc.R}(h:SA w0 G p m R L W):Calls Tryz.prog 21 #[.pointer (some ⟨p,0,none⟩)] W (jef (Fr.all (So.ens L)) W):=by
 have HR:=h.right;obtain⟨_,r,q,b,X,h1,_⟩:=h;have lq:=h1.lt;have cc:=h1.cells.2.1;have C:=zh (jlu W h1.jr.dsk);clear h1 HR;go_enter Tryz.func21,Tryz.ntmps21;go_wp2_with(go_at_call 59;(with_reducible refine C.out.mono ?_);rintro e w1 ⟨A,c,rfl,ho,hb⟩);go_ret;exact⟨A,c,rfl,ho,hb⟩
theorem jen{w0 W:World}{G:Nat→Prop}{p R:Nat}{m:Int}{L:List Rc.R}(h:SA w0 G p m R L W)(hn:L.length≤1000):Calls Tryz.prog 30 #[.pointer (some ⟨p,0,none⟩)] W (jog Bk.rcC L W):=by
 have HRT:=zh h.right;have HN:=zh hn;obtain⟨_,r,q,b,X,h1,_⟩:=h;have lq:=h1.lt;have c1:=h1.cells.2.2.1;have CA:=zh (jlv h1.jr.ask);have e0:(Fr.scan (So.disk R L).l).1=So.ens L:=Jn.js_ents (So.ens_ok HRT.out);rw[e0]at CA;unfold JAllF at CA;unfold jog;rw[So.ens_len]at CA;clear h1 e0 hn;obtain⟨own,hown⟩:∃own:Value,own= .slice none 0 0:=⟨_,rfl⟩;obtain⟨n,hnn⟩:∃n,n=L.length:=⟨_,rfl⟩;have NL:=zh hnn;rw[←hnn]at CA HN⊢;clear hnn;have OWN:=zh hown;go_enter Tryz.func30,Tryz.ntmps30;go_upto_region 5 with(go_at_call 70;(with_reducible refine CA.out.mono ?_);rintro e w3 ⟨A3,c3,rfl,ho3,hb3⟩;have OF3:=zh ho3;have B3:=zh hb3;clear ho3 hb3)
 clear lq c1 CA;have S3:=zh (jdm (by rw[So.ens_len];exact NL.out) OF3.out);have Z3:=zh B3.out.size;have hcap:=S3.out.cap;have hmax:=S3.out.max;unfold maxLen at hmax;have hn2:(n:Int)≤1000:=by have:=HN.out;omega
 rw[←OWN.out];clear hown;go_loopw [3,16] (fun v i wr=>∃j:Nat,j≤n∧i= .int .i64 j∧OwF Bk.rcC 18 45 wr w3.heap.size v (L.take j)∧Below w3.heap.size w3 wr) (fun _ i _=>n -(intOf i).toNat)
 case atStart=>exact⟨0,Nat.zero_le _,rfl,by rw[OWN.out];exact OwF.none_ _ _ _,Below.refl _ _⟩
 case round=>
  obtain⟨j,hj,rfl,ho4,hb4⟩:=hrel;have O4:=zh ho4;have B4:=zh hb4;have S4:=zh (S3.out.on hb4);clear ho4 hb4;have i1:(0:Int)≤(j:Int):=by omega
  by_cases hlt:j<n
  ·have HLT:Hid (j<L.length):=by show _<_;have:=NL.out;omega
   obtain⟨b3,o3,hA3,hb3,hc3⟩:=S4.out.rd (by rw[So.ens_len];have:=HLT.out;omega);obtain⟨A4,n4,c4,hcell,hs4⟩:=hc3 j (by rw[So.ens_len];exact HLT.out);have hx:(So.ens L).getD j []=Rc.bytes (L[j]'HLT.out):=by rw[List.getD_eq_getElem?_getD,List.getElem?_eq_getElem (by rw[So.ens_len];exact HLT.out)];unfold So.ens;rw[List.getElem_map];rfl
   have TK:L.take (j+1)=L.take j++[L[j]'HLT.out]:=List.take_succ_eq_append_getElem HLT.out;have RT:=zh (HRT.out _ (List.getElem_mem HLT.out));rw[hx]at hs4;generalize L[j]'HLT.out=rc at*;have hn4:n4≤1000:=by have:=hs4.len;have:=Rc.bytes_len RT.out;omega
   have CR:=zh (jjd wr A4 n4 c4 _ hs4 hn4);rw[(Rc.rd_back RT.out).1,(Rc.rd_back RT.out).2]at CR;have TK:=zh TK;clear hx hc3 hs4 hn4;subst hA3;have q1:((j:Nat):Int)<(n:Nat):=by omega
   go_upto_region 8 with(first
   |(go_at_call 71;(with_reducible refine CR.out.mono ?_);rintro e w4 ⟨rfl,hb5⟩;have O5:=zh (O4.out.below hb5);have B5:=zh (B4.out.trans (hb5.mono B4.out.size));clear hb5 CR)
   |((with_reducible show zW);refine jah rfl (.tmp 6) (.tmp 23) rfl w4.heap.size rc Rc.none_ rfl rfl ⟨heap_alloc_new w4 _⟩ ?_))
   rw[World.setRow_alloc_new];have hb6:Below w4.heap.size w4 (w4.alloc (.cells (Rc.cells rc) 45)):=(Below.refl _ _).alloc (Nat.le_refl _) _;have RA:=zh (RcAt.new w4 rc);have O6:=zh (O5.out.below hb6);have B6:=zh (B5.out.trans (hb6.mono B5.out.size));clear hb6 O5 B5;obtain⟨g,hg⟩:∃g,g=w4.heap.size:=⟨_,rfl⟩;rw[←hg]at RA⊢;clear hg;generalize w4.alloc (.cells (Rc.cells rc) 45)=w6 at*;clear hcell hb3
   go_wp2_with(first
   |((with_reducible show zL 26);refine zR (.tmp 6) RA.out ?_)
   |((with_reducible show zB 27);refine jb0 Tryz.underlying28 jbr (by omega) (by omega) rfl (.tmp 26) rfl (Rc.cells rc) rfl rfl ?_)
   |(at_builtin;refine jai Bk.rcC_len Bk.rcC_one Tryz.underlying28 jbr rfl (by omega) rfl (.tmp 25) (.tmp 27) rfl w3.heap.size _ _ rfl O6.out rc rfl (by have:=HN.out;have:=HLT.out;have:=NL.out;rw[List.length_take];unfold maxLen;omega) (by have:=HN.out;have:=HLT.out;have:=NL.out;rw[List.length_take];omega) B6.out.size ?_;intro v9 w9 ho9 hb9 hg9 hv9;have O9:=zh ho9;have B9:=zh (B6.out.trans hb9);clear ho9 hb9 hg9 hv9))
   exact⟨⟨j+1,by omega,by go_num,by rw[TK.out];exact O9.out,B9.out⟩,by simp[intOf];omega⟩
  ·have q1:((n:Nat):Int)≤(j:Nat):=by omega
   have e:L.take j=L:=List.take_of_length_le (by have:=NL.out;omega);rw[e]at O4;obtain⟨A9,c9,rfl⟩:=O4.out.form;clear e;go_wp2_with fail;go_ret;have hn9:=NL.out;subst hn9;exact⟨A9,c9,rfl,O4.out.sl,B3.out.trans (B4.out.mono Z3.out),fun bb oo e=>Nat.le_trans Z3.out (O4.out.lt bb (by rw[e];rfl)).1⟩
theorem jnj{w0 W:World}{G:Nat→Prop}{p R:Nat}{m:Int}{L:List Rc.R}(h:SA w0 G p m R L W)(ht:BT w0)(hn:L.length≤1000):Calls Tryz.prog 27 #[.pointer (some ⟨p,0,none⟩)] W (fun e w'=>∃q',e= .returned (.pointer (some ⟨q',0,none⟩))∧BP W (fun _=>False) q' (Bk.all m L) w'):=by
 have CR:=zh (jen (h.on (Below.refl W.heap.size W).drew) hn);have HN:=zh hn;have HT:=zh ht;have HIN:Hid (∀r∈L,Rc.In r):=fun r hr=>Rc.ok_in (Rc.ok_of (h.right r hr));obtain⟨_,r,q,b,X,h1,_⟩:=h;have J0:=zh h1;clear h1 hn ht;go_enter Tryz.func27,Tryz.ntmps27;go_upto_region 3 with fail
 refine wp_region_held_drew (S:=fun V=>StJ w0 G p m (So.disk R L) (.pointer (some ⟨b,0,none⟩)) r q X V) (by kernel_rfl) (J0.out.on (Below.refl _ _).drew) (fun hS=> ?_);refine tY 0 hS ?_;refine tY 1 hS ?_;refine tY 2 hS ?_;refine tZ 3 rfl (by intro W hW;have lq:=hW.lt;have c3:=hW.cells.2.2.2.2;go_simp;(try with_reducible rfl)) hS ?_;refine tY 4 hS ?_;simp only[Act.put,zT,zO,zS];refine rO 5 (fun K hK=> ?_);go_simp
 with_reducible refine CR.out.mono ?_
 rintro e w4 ⟨A4,c4,rfl,hs4,hb,_⟩;have S4:=zh hs4;have B4:=zh hb;have CA:=zh (jti m A4 L.length c4 L HIN.out w4 hs4 (by have:=HN.out;omega) (HT.out.on0 (hS.on hb).below));clear hs4;replace hS:=hS.on hb;clear hb;refine hK.out _ _ hS (fun _=> ?_);clear hK K;try simp only[Act.put,zT,zO,zS]
 refine rO 6 (fun K hK=> ?_);go_simp
 with_reducible refine CA.out.mono ?_
 intro e w5 hp;obtain⟨q5,rfl,hb5⟩:=bp_made hp;have K5:=zh hb5;have hb:=jb4 hb5;have B5:=zh (B4.out.trans (hb.mono B4.out.size));clear hb5 hp;replace hS:=hS.on hb;clear hb;refine hK.out _ _ hS (fun _=> ?_);clear hK K;refine tY 7 hS ?_;refine tY 8 hS ?_;refine tY 9 hS ?_;refine tY 10 hS ?_;refine tY 11 hS ?_;simp only[Act.put,zT,zO,zS];refine wpAnyH_done (by kernel_rfl) ?_ _;clear hS;go_wp2_with fail;go_ret;exact⟨q5,rfl,jqr K5.out ((Below.refl W.heap.size W).drew.trans B4.out) (fun i hi=>hi.elim)⟩
end Go.Proofs.YtabandbigckfkaaGreatDoor
