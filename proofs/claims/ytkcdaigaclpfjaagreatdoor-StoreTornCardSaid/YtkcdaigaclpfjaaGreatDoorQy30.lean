/- StoreTorn: for every input the statement's function returns true, and its arguments read afterwards as before. The library's tables that the row lists lie as the program's text lays them (tied); no other condition. -/
import Derived.Test.YtkcdaigaclpfjaaGreatDoorQy11
import Derived.Test.YtkcdaigaclpfjaaGreatDoorQy29
import Derived.Handed
import Derived.HandedShaped
import Derived.Stop.LaidErr
import Derived.Shelf.Vars
import Derived.MakeChecks
import Derived.Lay
import Derived.Test.YtkcdaigaclpfjaaGreatDoorTie
import Derived.Test.YtkcdaigaclpfjaaGreatDoorCards
import Derived.Laws.IdiomArrays
import Derived.ShutString
import Derived.ChangeOld
import Derived.LaidMore
import Derived.SevenTiedAt
set_option maxHeartbeats 6400000
set_option maxRecDepth 100000
set_option linter.unusedSimpArgs false
set_option linter.unusedVariables false
namespace Go.Proofs.YtkcdaigaclpfjaaGreatDoor
open Go.RowKit Go.Deep Go.Maps
section
variable{w:World}{op:Oper}{a:Act}{Q:Exit->Act->World->Prop}{K:Act->World->Prop}{g:Nat}{m R:Int}{A B:ByteArray}{l:Value}{s:Bk.St}{L V H:Value}
theorem jq3(x:Operand)(ho:op.op= .load 41 x)(hx:a.eval x= .pointer (some ⟨g,0,none⟩))(hg:SsAt w g m R A B l s L V H):(execOp a.eval op).run Tryz.prog w= .ok (.value (.agg (Ss.cs m R A B l (Bk.cells s L V H)).toArray)) w:=by
 have:=run_loadVar_row (P:=Tryz.prog) w g 41 41 _ (0,0) _ hg.row jc5 rfl (jdx ..);unfold execOp;simp only[ho,hx,Instr.loadAt,Instr.sureAddr,Sem.run_bind,Sem.run_pure,Result.andThen_ok,this]
theorem jfe{cs0:Array Value}(x y:Operand)(ho:op.op= .store 41 x y)(hx:a.eval x= .pointer (some ⟨g,0,none⟩))(hy:a.eval y= .agg (Ss.cs m R A B l (Bk.cells s L V H)).toArray)(hg:w.heap[g]? =some (.cells cs0 41 (0,0)))(hz:cs0.size=79)(h1:(Ss.cs m R A B l (Bk.cells s L V H)).toArray.all (·.oneCell')=true)
  (h:K (a.put op.dst undef) (w.setRow g (Ss.cs m R A B l (Bk.cells s L V H)).toArray)):Oper.wp Tryz.prog op a w K Q:=
 wp_store_row 41 x y ho g _ hx hy 41 _ hg (jdx ..) (by rw[hz];rfl) h1 h
theorem jgo{fn:Func}{p u:Tmp}(h:fn.results= #[.tmp u,.cell p 41])(tmps:Array Value)(hp:tmps.getD p undef= .pointer (some ⟨g,0,none⟩))(hg:SsAt w g m R A B l s L V H):
  (results fn tmps).run Tryz.prog w= .ok (.tuple #[tmps.getD u undef,.agg (Ss.cs m R A B l (Bk.cells s L V H)).toArray]) w:=by
 have h1:=run_loadVar_row (P:=Tryz.prog) w g 41 41 _ (0,0) _ hg.row jc5 rfl (jdx ..);rw[Array.getD_eq_getD_getElem?]at hp;simp only[results,h];simp[Sem.run_bind,Result.andThen,hp,asAddr,h1]
end
theorem all_nil(m:Int):Bk.all m []=Bk.new m:=rfl
def jtj(m:Int)(R:Nat)(W:World)(e:Ending)(w':World):Prop:=∃p g A c L V H Ls,e= .returned (.tuple #[.pointer (some ⟨p,0,none⟩),.agg (Ss.cs m (R:Nat) (tA (So.disk R Ls)) (tB (So.disk R Ls)) (.slice A Ls.length c) (Bk.cells (Bk.all m Ls) L V H)).toArray])/\Ls.length<=30/\jcp W w' p m R Ls g A c L V H
theorem jtk(room margin:Int)(A:Option Addr)(k c:Nat)(l:List Rc.R)(hin:∀r∈l,Rc.In r)(W:World)(hs:SlF Bk.rcC W A k c l)(ht:BT W):Calls Tryz.prog 5 #[.int .i64 room,.int .i64 margin,.slice A k c] W (jtj margin (Dk.fits room) W):=by
 have hz:=je1;have T0:=zh ht;have HI:=zh hin;have HK:=zh hs.len;have hcap:=hs.cap;have hmax:=hs.max;have hb1:Below W.heap.size W (W.alloc (.cells Ss.zeros 41)):=(Below.refl _ _).alloc (Nat.le_refl _) _;have X7:Hid ((W.alloc (.cells Ss.zeros 41)).heap[W.heap.size]? =some (.cells Ss.zeros 41 (0,0))):=heap_alloc_new W _;have S0:=zh (hs.on hb1);have B1:=zh hb1;have CN:=zh (fun w (h:BT w)=>jjf w room margin h);have CB:=zh (fun w=>jm7 room margin w);obtain⟨R,hR⟩:∃R:Nat,R=Dk.fits room:=⟨_,rfl⟩;rw[<-hR]at CN CB⊢;clear hs hin ht hb1 hR;go_enter Tryz.func5,Tryz.ntmps5;go_upto_region 1 with fail
 obtain⟨g7,hg7⟩:∃g,g=W.heap.size:=⟨_,rfl⟩;rw[<-hg7]at X7⊢;have H7:Hid (W.heap.size<=g7):=Nat.le_of_eq hg7.symm;clear hg7;generalize W.alloc (.cells Ss.zeros 41)=W1 at*;have L7:Hid (g7<W1.heap.size):=(Array.getElem?_eq_some_iff.1 X7.out).1;have T1:=zh (T0.out.on B1.out);go_upto_region 2 with(first
   |(go_at_call 12;(with_reducible refine(CN.out _ T1.out).mono ?_);rintro e w2 ⟨p,rfl,hs⟩;have A2:=zh hs;clear hs CN)
   |(go_at_call 16;(with_reducible refine(CB.out _).mono ?_);rintro e w3 ⟨L,V,H,rfl,hrd,hb⟩;have B3:=zh hb;have RD:=zh hrd;clear hrd hb CB)
   |((with_reducible show zW);refine jas rfl (.tmp 9) (.tmp 20) rfl rfl rfl (heap_alloc_new w3 (.cells Ss.zeros 41)) rfl (Ss.one (l:= .slice none 0 0) rfl RD.out.one) ?_))
 rw[World.setRow_alloc_new];have hb4:Below w3.heap.size w3 (w3.alloc (.cells (Ss.cs margin (R:Nat) ⟨#[]⟩ ⟨#[]⟩ (.slice none 0 0) (Bk.cells (Bk.new margin) L V H)).toArray 41)):=(Below.refl _ _).alloc (Nat.le_refl _) _;have hb5:=B3.out.trans (hb4.mono B3.out.size);have NR:∀b,¬jev L V H b:=jq2 RD.out;have hd:jjg W1 w3.heap.size none L V H:=fun i hi=>by
  rcases hi with rfl|hi|⟨o,hi⟩
  ·exact Nat.le_trans A2.out.below.size B3.out.size
  ·exact(NR i hi).elim
  ·cases hi
 have hF:jcp W1 (w3.alloc (.cells (Ss.cs margin (R:Nat) ⟨#[]⟩ ⟨#[]⟩ (.slice none 0 0) (Bk.cells (Bk.new margin) L V H)).toArray 41)) p margin R [] w3.heap.size none 0 L V H:=⟨SsAt.new _ _ _ _ _ _ _ _ _ _,RD.out.on hb4,SlF.none_ _,(A2.out.more hb5).less (fun i hi=> .inr (by
  rcases hi with rfl|hi|⟨o,hi⟩
  ·exact⟨B3.out.size,by simp⟩
  ·exact(NR i hi).elim
  ·cases hi)),Nat.le_trans A2.out.below.size B3.out.size,NR _,fun o e=>by cases e⟩
 have F4:=zh hF;have D4:=zh hd;clear hF hd NR hb4 hb5 A2 B3 RD;generalize w3.alloc (.cells (Ss.cs margin (R:Nat) ⟨#[]⟩ ⟨#[]⟩ (.slice none 0 0) (Bk.cells (Bk.new margin) L V H)).toArray 41)=w4 at*;generalize w3.heap.size=g at*;go_wp2_with fail;go_loopw [10] (fun i wr=>∃(j:Nat) (Ls:List Rc.R) (A5:Option Addr) (c5:Nat) (L V H:Value),j<=k/\j<=30/\i= .int .i64 j/\Ls.length<=j/\jcp W1 wr p margin R Ls g A5 c5 L V H/\jjg W1 g A5 L V H) (fun i _=>k -(intOf i).toNat)
 case atStart=>exact⟨0,[],none,0,L,V,H,zv,zv,rfl,Nat.le_refl _,F4.out,D4.out⟩
 case round=>
  clear F4 D4;obtain⟨j,Ls,A5,c5,L,V,H,hj,hj30,rfl,hll,hf,hdn⟩:=hrel;have FA:=zh hf;have DN:=zh hdn;have LL:=zh hll;have J3:=zh hj30;clear hf hll hdn;have i1:(0:Int)<=(j:Int):=by omega
  by_cases hlt:j<k/\j<30
  ·obtain⟨hlt,hlt3⟩:=hlt
   have hx:l[j]? =some (l[j]'(by have:=HK.out;omega)):=List.getElem?_eq_getElem _;generalize l[j]'(by have:=HK.out;omega)=r at hx;obtain⟨b,o,rfl,hbl,hrg⟩:=jea (S0.out.on FA.out.st.below) hx;have RG:=zh hrg;have IR:Hid (Rc.In r):=HI.out r (List.mem_of_getElem? hx);have q1:((j:Nat):Int)<(k:Nat):=by omega
   have q2:((j:Nat):Int)<30:=by omega
   clear hx hrg hbl;have HJ:Hid (j<k/\j<30):=⟨hlt,hlt3⟩;clear hlt hlt3;go_upto_region 6 with(first
   |((with_reducible show zL 34);refine jc0 rfl (.tmp 33) rfl b (o+j*18) (by simp[Act.eval,go_sem]) r RG.out ?_)
   |((with_reducible show zW);refine jaa rfl (.tmp 11) (.tmp 34) rfl wr.heap.size r Rc.none_ rfl rfl ⟨heap_alloc_new wr _⟩ ?_))
   rw[World.setRow_alloc_new];have RA:=zh (RcAt.new wr r);have BA:Hid (Below wr.heap.size wr (wr.alloc (.cells (Rc.cells r) 45))):=(Below.refl _ _).alloc (Nat.le_refl _) _;obtain⟨g8,hg8⟩:∃g8,g8=wr.heap.size:=⟨_,rfl⟩;have G8:Hid (wr.heap.size<=g8):=Nat.le_of_eq hg8.symm;rw[<-hg8]at RA⊢;clear hg8;generalize wr.alloc (.cells (Rc.cells r) 45)=wa at*;have hm1:min (r.text.size:Int) 70=((min r.text.size 70:Nat):Int):=by omega
   have hl1:((min r.text.size 70:Nat):Int)<=(r.text.size:Int):=by omega
   have TI:Hid (Rc.In (Rc.txt_ r (r.text.extract 0 (min r.text.size 70)))):=⟨IR.out.nums,by show(r.text.extract 0 (min r.text.size 70)).size<=maxLen;have:=IR.out.text;rw[ByteArray.size_extract];omega,IR.out.sp⟩;generalize min r.text.size 70=mt at*;obtain⟨c0,c1,c2,c3,c4,c6,c7,c8,c9,c10,c11,c12,c13,c14,c15,c16,c17,c18,clt⟩:=RA.out.cs;have hz2:=frozen_of_row wa g8 5 _ _ RA.out.row;go_upto_region 7 with fail
   have RC:=zh (jl8 RA.out (r.text.extract 0 mt));have BC:=zh (BA.out.setCell (p:=⟨g8,5,none⟩) G8.out (.string (r.text.extract 0 mt)));clear hm1 hl1 c0 c1 c2 c3 c4 c6 c7 c8 c9 c10 c11 c12 c13 c14 c15 c16 c17 c18 clt hz2 BA RA RG;generalize wa.setCell ⟨g8,5,none⟩ (.string (r.text.extract 0 mt))=wb at*;obtain⟨r2,hr2⟩:∃r2,r2=Rc.txt_ r (r.text.extract 0 mt):=⟨_,rfl⟩;rw[<-hr2]at RC TI;clear hr2;have FB:=zh (FA.out.on BC.out);have CX:=zh (jf4 (Bk.all margin Ls) (Bk.all_ok margin Ls) r2 TI.out L V H wb FB.out.rd);go_upto_region 8 with(first
   |((with_reducible show zL 44);refine jbd rfl (.tmp 43) rfl rfl FB.out.ss ?_)
   |((with_reducible show zL 45);refine zR (.tmp 11) RC.out ?_)
   |(go_at_call 6;(with_reducible refine CX.out.mono ?_);rintro e wc ⟨x,rfl,hxi,hb⟩;have XI:=zh hxi;have BD:=zh (BC.out.trans (hb.mono BC.out.size));clear hxi hb RC)
   |((with_reducible show zW);refine jaa rfl (.tmp 12) (.tmp 46) rfl wc.heap.size x Rc.none_ rfl rfl ⟨heap_alloc_new wc _⟩ ?_))
   rw[World.setRow_alloc_new];have RX:=zh (RcAt.new wc x);have BE:Hid (Below wr.heap.size wr (wc.alloc (.cells (Rc.cells x) 45))):=BD.out.alloc BD.out.size _;obtain⟨g9,hg9⟩:∃g9,g9=wc.heap.size:=⟨_,rfl⟩;have G9:Hid (wr.heap.size<=g9):=by show _<=_;rw[hg9];exact BD.out.size
   rw[<-hg9]at RX⊢;clear hg9 BC BD FB CX;generalize wc.alloc (.cells (Rc.cells x) 45)=wd at*;have LS:Hid (Ls.length<=1000):=by show _<=_;have:=LL.out;have:=HJ.out;omega
   have CM:=zh (jfd (FA.out.more BE.out) T1.out XI.out);have CD:=zh (fun w (h:BkRd w (Bk.all margin Ls) L V H) (hr:SlF Bk.rcC w A5 Ls.length c5 Ls)=>jna margin R c5 A5 Ls FA.out.st.okd LS.out x XI.out L V H w h hr);have ZL:Hid ((So.com margin R Ls x).length<=Ls.length+1):=jti margin R Ls x;obtain⟨Lz,hLz⟩:∃Lz,Lz=So.com margin R Ls x:=⟨_,rfl⟩;obtain⟨Ez,hEz⟩:∃Ez,Ez=So.comE margin R Ls x:=⟨_,rfl⟩;rw[<-hLz,<-hEz]at CM CD;rw[<-hLz]at ZL;clear hLz hEz;have HZ:Hid (∀w':World,(∀i,(jh6 g A5 L V H i\/(wr.heap.size<=i/\i<wd.heap.size))->i<w'.heap.size)->wd.heap.size<=w'.heap.size):=fun w' h=>by have h1:=RX.out.cs.lt;have h2:=G9.out;have:=h (wd.heap.size -1) (.inr ⟨zv,zv⟩);omega
   go_upto_region 9 with(first
   |((with_reducible show zL 48);refine zR (.tmp 12) RX.out ?_)
   |(go_at_call 13;(with_reducible refine CM.out.mono ?_);rintro e w9 hr;obtain⟨rfl,hss,hrd,hrow,hsa,hun⟩:=FA.out.turn hr BE.out (HZ.out _ hr.2.1.lts);have SS:=zh hss;have RD:=zh hrd;have RW:=zh hrow;have SAA:=zh hsa;have RY:Hid (RcAt w9 g9 x):=⟨(hun g9 G9.out RX.out.cs.lt).trans RX.out.row⟩;clear hr hss hrd hrow hsa hun CM))
   clear RX HZ;go_upto_region 10 with(first
   |((with_reducible show zL 51);refine jbf rfl (.tmp 9) rfl rfl SS.out ?_)
   |((with_reducible show zL 52);refine zR (.tmp 12) RY.out ?_)
   |(go_at_call 17;(with_reducible refine(CD.out _ RD.out RW.out).mono ?_);rintro e wf ⟨A6,c6,L6,V6,H6,rfl,h1,h2,h3,h4,h5⟩;have RW6:=zh h1;have RD6:=zh h2;have B6:=zh h3;have N6:=zh h4;have A6H:=zh h5;clear h1 h2 h3 h4 h5 CD)
   |((with_reducible show zW);refine jas rfl (.tmp 13) (.tmp 54) rfl rfl rfl (heap_alloc_new wf (.cells Ss.zeros 41)) rfl (Ss.one (l:= .slice A6 Lz.length c6) rfl RD6.out.one) ?_))
   rw[World.setRow_alloc_new];have hb9:Below wf.heap.size wf (wf.alloc (.cells (Ss.cs margin (R:Nat) (tA (So.disk R Lz)) (tB (So.disk R Lz)) (.slice A6 Lz.length c6) (Bk.cells (Bk.all margin Lz) L6 V6 H6)).toArray 41)):=(Below.refl _ _).alloc (Nat.le_refl _) _;have SN:=zh (SsAt.new wf margin (R:Nat) (tA (So.disk R Lz)) (tB (So.disk R Lz)) (.slice A6 Lz.length c6) (Bk.all margin Lz) L6 V6 H6);have B7:=zh (B6.out.trans (hb9.mono B6.out.size));have RD7:=zh (RD6.out.on hb9);have RW7:=zh (RW6.out.on hb9);have SS7:=zh (SS.out.on B7.out);clear hb9 B6;generalize wf.alloc (.cells (Ss.cs margin (R:Nat) (tA (So.disk R Lz)) (tB (So.disk R Lz)) (.slice A6 Lz.length c6) (Bk.cells (Bk.all margin Lz) L6 V6 H6)).toArray 41)=wg at*;generalize wf.heap.size=g13 at*
   go_wp2_with(first
   |((with_reducible show zL 56);refine jbf rfl (.tmp 13) rfl rfl SN.out ?_)
   |((with_reducible show zW);refine jas rfl (.tmp 9) (.tmp 56) rfl rfl rfl SS7.out.row rfl (Ss.one (l:= .slice A6 Lz.length c6) rfl RD7.out.one) ?_))
   exact⟨⟨j+1,Lz,A6,c6,L6,V6,H6,by have:=HJ.out;omega,by have:=HJ.out;omega,by go_num,by have:=LL.out;have:=ZL.out;omega,jq1 SAA.out FA.out.ng SS.out.lt FA.out.gn FA.out.ga B7.out RW7.out RD7.out N6.out A6H.out _ SS7.out.row,jkx DN.out (SAA.out.below.size) N6.out A6H.out⟩,by simp[intOf];have:=HJ.out;omega⟩
  ·have hq:k<=j\/30<=j:=by omega
   by_cases hjk:j<k
   ·have q1:((j:Nat):Int)<(k:Nat):=by omega
    have q2:(30:Int)<=(j:Nat):=by omega
    clear hq hlt;go_upto_region 11 with fail
    have D9:=zh ((Below.refl wr.heap.size wr).drew);have FD:=zh (FA.out.on D9.out);have Y7:Hid (wr.drew.heap[g7]? =some (.cells Ss.zeros 41 (0,0))):=(FD.out.st.below.block g7 L7.out).trans X7.out;clear D9;generalize hwd:wr.drew=wd at*;refine wp_region_held_drew (S:=fun X=>SsAt X g margin (R:Nat) (tA (So.disk R Ls)) (tB (So.disk R Ls)) (.slice A5 Ls.length c5) (Bk.all margin Ls) L V H) (by kernel_rfl) (by rw[hwd];exact FD.out.ss) (fun hS=> ?_);rw[hwd]at hS⊢;clear hwd;refine tY 0 hS ?_;refine tZ 1 (v:= .agg (Ss.cs margin (R:Nat) (tA (So.disk R Ls)) (tB (So.disk R Ls)) (.slice A5 Ls.length c5) (Bk.cells (Bk.all margin Ls) L V H)).toArray) rfl (fun W hW=>jq3 (.tmp 9) rfl rfl hW) hS ?_;refine tY 2 hS ?_;simp only[Act.put,zT,zO,zS];refine rO 3 (fun K hK=> ?_);refine jfe (.tmp 7) (.tmp 58) rfl rfl rfl Y7.out rfl (Ss.one (l:= .slice A5 Ls.length c5) rfl FD.out.rd.one) ?_;have GR:=zh (jaz wd g7 (Ss.cs margin (R:Nat) (tA (So.disk R Ls)) (tB (So.disk R Ls)) (.slice A5 Ls.length c5) (Bk.cells (Bk.all margin Ls) L V H)).toArray);have Z7:Hid (SsAt (wd.setRow g7 (Ss.cs margin (R:Nat) (tA (So.disk R Ls)) (tB (So.disk R Ls)) (.slice A5 Ls.length c5) (Bk.cells (Bk.all margin Ls) L V H)).toArray) g7 margin (R:Nat) (tA (So.disk R Ls)) (tB (So.disk R Ls)) (.slice A5 Ls.length c5) (Bk.all margin Ls) L V H):=⟨setRow_heap wd g7 _ _ _ _ Y7.out⟩;have E7:=zh (jlt FD.out DN.out B1.out GR.out ⟨H7.out,L7.out⟩);have hS:=E7.out.ss;generalize wd.setRow g7 (Ss.cs margin (R:Nat) (tA (So.disk R Ls)) (tB (So.disk R Ls)) (.slice A5 Ls.length c5) (Bk.cells (Bk.all margin Ls) L V H)).toArray=we at*;refine hK.out _ _ hS (fun _=> ?_);clear hK K;try simp only[Act.put,zT,zO,zS]
    refine wpAnyH_done (by kernel_rfl) ?_ _;go_wp2_with fail;exact bodyPost_ret (jgo Tryz.results5 _ rfl Z7.out) rfl ⟨p,g,A5,c5,L,V,H,Ls,rfl,by have:=LL.out;have:=J3.out;omega,E7.out⟩
   ·have q1:((k:Nat):Int)<=(j:Nat):=by omega
    clear hq hlt;go_upto_region 11 with fail
    have D9:=zh ((Below.refl wr.heap.size wr).drew);have FD:=zh (FA.out.on D9.out);have Y7:Hid (wr.drew.heap[g7]? =some (.cells Ss.zeros 41 (0,0))):=(FD.out.st.below.block g7 L7.out).trans X7.out;clear D9;generalize hwd:wr.drew=wd at*;refine wp_region_held_drew (S:=fun X=>SsAt X g margin (R:Nat) (tA (So.disk R Ls)) (tB (So.disk R Ls)) (.slice A5 Ls.length c5) (Bk.all margin Ls) L V H) (by kernel_rfl) (by rw[hwd];exact FD.out.ss) (fun hS=> ?_);rw[hwd]at hS⊢;clear hwd;refine tY 0 hS ?_;refine tZ 1 (v:= .agg (Ss.cs margin (R:Nat) (tA (So.disk R Ls)) (tB (So.disk R Ls)) (.slice A5 Ls.length c5) (Bk.cells (Bk.all margin Ls) L V H)).toArray) rfl (fun W hW=>jq3 (.tmp 9) rfl rfl hW) hS ?_;refine tY 2 hS ?_;simp only[Act.put,zT,zO,zS];refine rO 3 (fun K hK=> ?_);refine jfe (.tmp 7) (.tmp 58) rfl rfl rfl Y7.out rfl (Ss.one (l:= .slice A5 Ls.length c5) rfl FD.out.rd.one) ?_;have GR:=zh (jaz wd g7 (Ss.cs margin (R:Nat) (tA (So.disk R Ls)) (tB (So.disk R Ls)) (.slice A5 Ls.length c5) (Bk.cells (Bk.all margin Ls) L V H)).toArray);have Z7:Hid (SsAt (wd.setRow g7 (Ss.cs margin (R:Nat) (tA (So.disk R Ls)) (tB (So.disk R Ls)) (.slice A5 Ls.length c5) (Bk.cells (Bk.all margin Ls) L V H)).toArray) g7 margin (R:Nat) (tA (So.disk R Ls)) (tB (So.disk R Ls)) (.slice A5 Ls.length c5) (Bk.all margin Ls) L V H):=⟨setRow_heap wd g7 _ _ _ _ Y7.out⟩;have E7:=zh (jlt FD.out DN.out B1.out GR.out ⟨H7.out,L7.out⟩);have hS:=E7.out.ss;generalize wd.setRow g7 (Ss.cs margin (R:Nat) (tA (So.disk R Ls)) (tB (So.disk R Ls)) (.slice A5 Ls.length c5) (Bk.cells (Bk.all margin Ls) L V H)).toArray=we at*;refine hK.out _ _ hS (fun _=> ?_);clear hK K;try simp only[Act.put,zT,zO,zS]
    refine wpAnyH_done (by kernel_rfl) ?_ _;go_wp2_with fail;exact bodyPost_ret (jgo Tryz.results5 _ rfl Z7.out) rfl ⟨p,g,A5,c5,L,V,H,Ls,rfl,by have:=LL.out;have:=J3.out;omega,E7.out⟩
structure Two(X:World)(g:Nat)(a b:Int):Prop where
 y0:X.cell? ⟨g,0,none⟩=some (.int .i64 a)
 y1:X.cell? ⟨g,1,none⟩=some (.int .i64 b)
 yl:g<X.heap.size
theorem Two.on{X Y:World}{g:Nat}{a b:Int}(h:Two X g a b)(hb:Below X.heap.size X Y):Two Y g a b:=by
 have hc:∀i,Y.cell? ⟨g,i,none⟩=X.cell? ⟨g,i,none⟩:=fun i=>World.cell?_of_block (hb.block g h.yl);exact⟨(hc 0).trans h.y0,(hc 1).trans h.y1,Nat.lt_of_lt_of_le h.yl hb.size⟩
theorem Two.new(W:World)(a b:Int)(ty:TypeId):Two (W.alloc (.cells #[.int .i64 a,.int .i64 b] ty)) W.heap.size a b:=
 ⟨by rw[cell_of_row _ _ 0 _ _ _ (heap_alloc_new W _)];rfl,by rw[cell_of_row _ _ 1 _ _ _ (heap_alloc_new W _)];rfl,by simp⟩
theorem jq4:∀(l:List Rc.R),(∀r∈l,Rc.right r=true)->(Fr.all (So.ens l)).length<=l.length*306:=by
 intro l
 induction l with
 |nil=>intro _;exact Nat.le_refl _
 |cons r l ih=>
  intro h;show(Fr.all ([Rc.bytes r]++So.ens l)).length<=_;rw[Fr.all_append,List.length_append,Fr.all_one,Fr.fr_length,List.length_cons];have h1:=ih fun x hx=>h x (List.mem_cons_of_mem _ hx);have h2:=Rc.bytes_len (h r List.mem_cons_self);omega
theorem jq5{m:Int}{l:List Rc.R}{r:Rc.R}(hl:l.length<=30)(h:∀x∈l,Rc.right x=true)(hc:Bk.chk (Bk.all m l) r=0):So.Fits 10000 l r:=by
 have h1:=jq4 l h;have h2:=Rc.bytes_len (Bk.chk_right hc);show _+_<=_;have h3:=Nat.mul_le_mul_right 306 hl;omega
theorem jgw(margin:Int)(A:Option Addr)(k c:Nat)(l:List Rc.R)(a0 a1:Int)(ha:Spc.i64 a0)(hin:∀r∈l,Rc.In r)(W:World)(hs:SlF Bk.rcC W A k c l)(ht:BT W):Calls Tryz.prog 3 #[.int .i64 margin,.slice A k c,.agg #[.int .i64 a0,.int .i64 a1]] W (BRet (.bool true) W):=by
 have hz:=je1;have hb1:Below W.heap.size W (W.alloc (.cells #[.int .i64 a0,.int .i64 a1] 23)):=(Below.refl _ _).alloc (Nat.le_refl _) _;have X5:=zh (Two.new W a0 a1 23);have HI:=zh hin;have I0:Hid (Rc.In ⟨a0,0,0,a0,0,⟨#[]⟩,Spc.zero⟩):=⟨fun x hx=>by simp only[Rc.nums,List.mem_cons,List.mem_singleton,List.not_mem_nil,or_false]at hx;rcases hx with rfl|rfl|rfl|rfl|rfl<;>first|exact ha|(constructor<;>decide),by show(0:Nat)<=maxLen;exact Nat.zero_le _,by first|exact zero_in|exact Rc.zero_in⟩
 have T1:=zh (ht.on hb1);have S0:=zh (hs.on hb1);have B1:=zh hb1;have CL:=zh (fun w (h:BT w)=>jm9 w h);have CF:=zh (fun w (h:BT w) (hs:SlF Bk.rcC w A k c l)=>jtk 10000 margin A k c l HI.out w hs h);rw[show Dk.fits 10000=10000 from rfl]at CF;obtain⟨R,hR⟩:∃R:Nat,R=10000:=⟨_,rfl⟩;rw[<-hR]at CF;have HR:=zh hR;clear hs hin ht hb1 hR ha;go_enter Tryz.func3,Tryz.ntmps3;go_upto_region 1 with fail
 obtain⟨g5,hg5⟩:∃g,g=W.heap.size:=⟨_,rfl⟩;rw[<-hg5]at X5⊢;clear hg5;generalize W.alloc (.cells #[.int .i64 a0,.int .i64 a1] 23)=W1 at*;go_upto_region 3 with(go_at_call 4;(with_reducible refine(CL.out _ T1.out).mono ?_);rintro e w1 ⟨rfl,hb⟩;have B2:=zh (B1.out.trans (hb.mono B1.out.size));have X6:=zh (X5.out.on hb);have S1:=zh (S0.out.on hb);have T2:=zh (T1.out.on hb);clear hb CL)
 go_upto_region 4 with(first
   |(go_at_call 5;(with_reducible refine(CF.out _ T2.out S1.out).mono ?_);rintro e w2 ⟨p,g,A5,c5,L,V,H,Ls,rfl,hl30,hbo⟩;have FA:=zh hbo;have L30:=zh hl30;clear hl30 hbo CF)
   |((with_reducible show zW);refine jas rfl (.tmp 8) (.tmp 21) rfl rfl rfl (heap_alloc_new w2 (.cells Ss.zeros 41)) rfl (Ss.one (l:= .slice A5 Ls.length c5) rfl FA.out.rd.one) ?_))
 rw[World.setRow_alloc_new];have hb3:Below w2.heap.size w2 (w2.alloc (.cells (Ss.cs margin (R:Nat) (tA (So.disk R Ls)) (tB (So.disk R Ls)) (.slice A5 Ls.length c5) (Bk.cells (Bk.all margin Ls) L V H)).toArray 41)):=(Below.refl _ _).alloc (Nat.le_refl _) _;have SN:=zh (SsAt.new w2 margin (R:Nat) (tA (So.disk R Ls)) (tB (So.disk R Ls)) (.slice A5 Ls.length c5) (Bk.all margin Ls) L V H);have X7:=zh ((X6.out.on FA.out.st.below).on hb3);have RD3:=zh (FA.out.rd.on hb3);have B3:=zh hb3;obtain⟨g8,hg8⟩:∃g,g=w2.heap.size:=⟨_,rfl⟩;rw[<-hg8]at SN⊢;clear hg8 hb3 X5 X6 S0 S1;generalize w2.alloc (.cells (Ss.cs margin (R:Nat) (tA (So.disk R Ls)) (tB (So.disk R Ls)) (.slice A5 Ls.length c5) (Bk.cells (Bk.all margin Ls) L V H)).toArray 41)=w3 at*;have CX:=zh (jf4 (Bk.all margin Ls) (Bk.all_ok margin Ls) ⟨a0,0,0,a0,0,⟨#[]⟩,Spc.zero⟩ I0.out L V H w3 RD3.out);obtain⟨y0,y1,yl⟩:=X7.out;go_upto_region 5 with(first
   |((with_reducible show zL 23);refine jbd rfl (.tmp 22) rfl rfl SN.out ?_)
   |((with_reducible show wpList _ _ _ ({dst:=some 28,op:= .build _ _,type:=_,pos:=_,after:=_,guard:=_}::_) _ _);refine jcg rfl 45 _ rfl (Rc.cells ⟨a0,0,0,a0,0,⟨#[]⟩,Spc.zero⟩) (by kernel_rfl) ?_)
   |(go_at_call 6;(with_reducible refine CX.out.mono ?_);rintro e wc ⟨x,rfl,hxi,hb⟩;have XI:=zh hxi;have BD:=zh (B3.out.trans (hb.mono B3.out.size));have X8:=zh (X7.out.on hb);clear hxi hb y0 y1 yl)
   |((with_reducible show zW);refine jaa rfl (.tmp 9) (.tmp 29) rfl wc.heap.size x Rc.none_ rfl rfl ⟨heap_alloc_new wc _⟩ ?_))
 rw[World.setRow_alloc_new];have RX:=zh (RcAt.new wc x);have hb4:Below wc.heap.size wc (wc.alloc (.cells (Rc.cells x) 45)):=(Below.refl _ _).alloc (Nat.le_refl _) _;have BE:=zh (BD.out.trans (hb4.mono BD.out.size));have X9:=zh (X8.out.on hb4);obtain⟨g9,hg9⟩:∃g9,g9=wc.heap.size:=⟨_,rfl⟩;have G9:Hid (w2.heap.size<=g9):=by show _<=_;rw[hg9];exact BD.out.size
 rw[<-hg9]at RX⊢;clear hg9 hb4 BD X7 X8 CX RD3 SN B3;generalize wc.alloc (.cells (Rc.cells x) 45)=wd at*;have LS:Hid (Ls.length<=1000):=Nat.le_trans L30.out zv;go_upto_region 6 with(go_at_call 7;(with_reducible refine(jcv (FA.out.st.on BE.out) LS.out).mono ?_);rintro e we ⟨A6,c6,rfl,hs6,hb,hn6⟩;have S6:=zh hs6;have BF:=zh (BE.out.trans (hb.mono BE.out.size));have X10:=zh (X9.out.on hb);have RX2:=zh (RX.out.on hb);have N6:Hid (∀b o,A6=some ⟨b,o,none⟩->w2.heap.size<=b):=fun b o e=>Nat.le_trans BE.out.size (hn6 b o e);clear hs6 hb hn6)
 clear RX X9 BE;refine wp_region_held_drew (S:=fun V=>Below w2.heap.size w2 V/\RcAt V g9 x/\Two V g5 a0 a1/\SlF Bk.rcC V A6 Ls.length c6 Ls) (by kernel_rfl) ⟨BF.out.trans ((Below.refl _ _).drew.mono BF.out.size),RX2.out.on (Below.refl _ _).drew,X10.out.on (Below.refl _ _).drew,S6.out.on (Below.refl _ _).drew⟩ (fun hS=> ?_);refine tY 0 hS ?_;refine tZ 2 (v:= .agg (Rc.cells x)) rfl (fun W hW=>jap (.tmp 9) rfl g9 x rfl hW.2.1) hS ?_;simp only[Act.put,zT,zO,zS];refine rO 1 (fun K hK=> ?_);go_simp
 with_reducible refine(je5 (FA.out.st.on hS.1) T2.out LS.out).mono ?_
 rintro e w7 ⟨q,rfl,hk⟩;have K7:=zh hk;have hb:=jbl hk;clear hk;replace hS:=And.intro (hS.1.trans (hb.mono hS.1.size)) (And.intro (hS.2.1.on hb) (And.intro (hS.2.2.1.on hb) (hS.2.2.2.on hb)));clear hb;refine hK.out _ _ hS (fun _=> ?_);clear hK K;try simp only[Act.put,zT,zO,zS]
 refine rO 3 (fun K hK=> ?_);go_simp
 with_reducible refine(jh1 K7.out (T2.out.on0 (FA.out.st.on (hS.1)).below) XI.out).mono ?_
 rintro e w8 ⟨rfl,hb⟩;replace hS:=And.intro (hS.1.trans (hb.mono hS.1.size)) (And.intro (hS.2.1.on hb) (And.intro (hS.2.2.1.on hb) (hS.2.2.2.on hb)));clear hb;refine hK.out _ _ hS (fun _=> ?_);clear hK K;refine tY 4 hS ?_;simp only[Act.put,zT,zO,zS];refine wpAnyH_done (by kernel_rfl) ?_ _;have B8:=zh hS.1;have R8:=zh hS.2.1;have Y8:=zh hS.2.2.1;have W8:=zh hS.2.2.2;clear hS;have CM:=zh (jhf (FA.out.st.more B8.out) T2.out XI.out a1 (by have:=L30.out;omega));have TN:=zh (fun h=>So.tor_no (m:=margin) (R:=R) (L:=Ls) (r:=x) a1 h);have TF:=zh (fun h hf=>So.tor_fits (m:=margin) (R:=R) (L:=Ls) (r:=x) a1 h hf);have FI:Hid (Bk.chk (Bk.all margin Ls) x=0->So.Fits R Ls x):=fun h=>by rw[HR.out];exact jq5 L30.out FA.out.st.right h
 obtain⟨cc,hcc⟩:∃cc,cc=Bk.chk (Bk.all margin Ls) x:=⟨_,rfl⟩;have HCC:=zh hcc.symm;rw[<-hcc]at TN TF FI⊢;clear hcc;obtain⟨Lz,hLz⟩:∃Lz,Lz=So.tor margin R Ls x a1:=⟨_,rfl⟩;obtain⟨Ez,hEz⟩:∃Ez,Ez=So.torE margin R Ls x:=⟨_,rfl⟩;rw[<-hLz,<-hEz]at TN TF CM;clear hLz hEz;obtain⟨z0,z1,zl⟩:=Y8.out;go_upto_region 8 with(first
   |((with_reducible show zL 37);refine zR (.tmp 9) R8.out ?_)
   |(go_at_call 10;(with_reducible refine CM.out.mono ?_);rintro e w9 hr;obtain⟨rfl,hsa,hun⟩:=hr;have SZ9:w8.heap.size<=w9.heap.size:=(by have h1:=R8.out.cs.lt;have h2:=G9.out;have:=hsa.lts (w8.heap.size -1) (.inr ⟨zv,zv⟩);omega);have R9:Hid (RcAt w9 g9 x):=⟨(hun g9 (.inr ⟨G9.out,R8.out.cs.lt⟩)).trans R8.out.row⟩;have W9:Hid (SlF Bk.rcC w9 A6 Ls.length c6 Ls):=W8.out.keep SZ9 (fun b o e hl=>hun b (.inr ⟨N6.out b o e,by obtain⟨b',o',e1,e2,_⟩:=W8.out.rd hl;rw[e]at e1;injection e1 with e1;injection e1 with e1 _;omega⟩));have SA9:=zh hsa;clear hsa hun SZ9 CM))
 clear z0 z1 zl;have HNZ:Hid (Lz.length<=1000):=by
  show _<=_;have:=L30.out;by_cases h0:cc=0
  ·rw[(TF.out h0 (FI.out h0)).1];split<;>(try simp only[List.length_append,List.length_singleton])<;>omega
  ·rw[(TN.out h0).1];omega
 go_upto_region 9 with(go_at_call 7;(with_reducible refine(jcv SA9.out HNZ.out).mono ?_);rintro e wa ⟨A7,c7,rfl,hs7,hb,_⟩;have S7:=zh hs7;have Ra:=zh (R9.out.on hb);have Wa:=zh (W9.out.on hb);have SAa:=zh (SA9.out.on hb);clear hs7 hb)
 have FIN:=zh (B2.out.trans (SAa.out.below.mono B2.out.size));clear R9 W9 SA9 R8 Y8 W8 B8 X10 RX2 S6 BF N6;by_cases h0:cc=0
 ·have hF:=FI.out h0
  obtain⟨hLL,hE⟩:=TF.out h0 hF;subst hE;subst h0;by_cases hkp:So.Kept x a1
  ·rw[if_pos hkp]at hLL
   subst hLL;obtain⟨n2,hn2⟩:∃n2,n2=Ls.length+1:=⟨_,rfl⟩;have EN:(Ls++[x]).length=n2:=by rw[List.length_append,hn2];rfl
   rw[EN]at S7⊢;have hcut:=fun W=>jgz A7 n2 c7 Ls.length (by have:=S7.out.cap;omega) W;have S8:Hid (SlF Bk.rcC wa A7 Ls.length c7 Ls):=by
    have h:=S7.out.take Bk.rcC_len (k:=Ls.length) zv;rw[List.take_left]at h;exact h
   have hx:(Ls++[x])[Ls.length]? =some x:=by rw[List.getElem?_append_right (Nat.le_refl _),Nat.sub_self];rfl
   obtain⟨b7,o7,rfl,hbl,hrg⟩:=jea S7.out hx;have RG7:=zh hrg;have BL7:=zh hbl;clear hx hbl hrg EN;have q5:((n2:Int)==(Ls.length:Int))=false:=by rw[beq_eq_false_iff_ne];omega
   have q6:¬(n2:Int)<(Ls.length:Int):=by omega
   have q7:(Ls.length:Int)<(n2:Int):=by omega
   have q8:(0:Int)<=(Ls.length:Int):=by omega
   have hw:wrap64 ((Ls.length:Int)+1)=(n2:Int):=by rw[IntWalk.wrap64_in _ ⟨by have:=L30.out;omega,by have:=L30.out;omega⟩];omega
   have hw2:IntKind.i64.wrap ((Ls.length:Int)+1)=(n2:Int):=by rw[IntWalk.i64_in _ (by have:=L30.out;omega)];omega
   clear hn2;have hea:∀W,(binOp .eql 45 (.agg (Rc.cells x)) (.agg (Rc.cells x))).run Tryz.prog W= .ok (.bool true) W:=fun W=>by
    have h:=rec_eq x x W;rw[show Rc.same x x=true from Rc.same_iff.2 rfl]at h;exact h
   clear TN TF FI;go_upto_region 13 with(go_at_call 11;(with_reducible refine(jet _ A6 Ls.length Ls.length c7 c6 Ls Ls _ S8.out Wa.out (by have:=L30.out;omega)).mono ?_);rintro e wb ⟨⟨q,rfl,hq⟩,hb⟩;obtain rfl:q=true:=hq.2 rfl;have BS:=zh hb;clear hb hq)
   have SAb:=zh (SAa.out.on BS.out);have Rb:=zh (Ra.out.on BS.out);refine wp_region_held_drew (S:=fun V=>Below wb.heap.size wb V) (by kernel_rfl) (Below.refl _ _).drew (fun hS=> ?_);refine tY 0 hS ?_;refine tY 1 hS ?_;refine tY 2 hS ?_;refine tY 3 hS ?_;refine tY 4 hS ?_;refine tY 5 hS ?_;simp only[Act.put,zT,zO,zS];refine tN 6 hS ?_;refine tN 7 hS ?_;refine tN 8 hS ?_;refine tN 9 hS ?_;refine tN 10 hS ?_;refine tY 11 hS ?_;simp only[Act.put,zT,zO,zS];refine tY 12 hS ?_;refine tY 13 hS ?_;refine tY 14 hS ?_;refine tY 15 hS ?_;refine tY 16 hS ?_;refine tY 17 hS ?_;simp only[Act.put,zT,zO,zS];refine tY 18 hS ?_;refine tY 19 hS ?_;refine tY 20 hS ?_;refine tY 21 hS ?_;refine tY 22 hS ?_;refine tY 23 hS ?_;simp only[Act.put,zT,zO,zS];refine tZ 24 (v:= .agg (Rc.cells x)) rfl (fun W hW=>jhk (.tmp 94) rfl b7 (o7+Ls.length*18) x (by simp[Act.eval,go_sem]) (jfl (jfl RG7.out (BS.out.block b7 BL7.out)) (hW.block b7 (Nat.lt_of_lt_of_le BL7.out BS.out.size)))) hS ?_;refine tZ 25 (v:= .agg (Rc.cells x)) rfl (fun W hW=>jap (.tmp 9) rfl g9 x rfl (Rb.out.on hW)) hS ?_;refine tY 26 hS ?_;refine tY 27 hS ?_;refine tY 28 hS ?_;refine tY 29 hS ?_;simp only[Act.put,zT,zO,zS];refine wpAnyH_done (by kernel_rfl) ?_ _;have HS:=zh hS;clear hS;go_wp2_with fail;go_ret;exact⟨rfl,FIN.out.trans ((BS.out.trans (HS.out.mono BS.out.size)).mono FIN.out.size)⟩
  ·rw[if_neg hkp]at hLL
   have hLL2:=hLL.symm;subst hLL2;have hcut:=fun W=>jgz A7 Ls.length c7 Ls.length S7.out.cap W;clear TN TF FI;go_upto_region 13 with(go_at_call 11;(with_reducible refine(jet A7 A6 Ls.length Ls.length c7 c6 Ls Ls _ S7.out Wa.out (by have:=L30.out;omega)).mono ?_);rintro e wb ⟨⟨q,rfl,hq⟩,hb⟩;obtain rfl:q=true:=hq.2 (by first|rfl|trivial);have BS:=zh hb;clear hb hq)
   have SAb:=zh (SAa.out.on BS.out);have Rb:=zh (Ra.out.on BS.out);refine wp_region_held_drew (S:=fun V=>Below wb.heap.size wb V) (by kernel_rfl) (Below.refl _ _).drew (fun hS=> ?_);refine tY 0 hS ?_;refine tY 1 hS ?_;refine tY 2 hS ?_;refine tY 3 hS ?_;refine tY 4 hS ?_;refine tY 5 hS ?_;simp only[Act.put,zT,zO,zS];refine tY 6 hS ?_;refine tZ 8 (v:= .agg (Rc.cells x)) rfl (fun W hW=>jap (.tmp 9) rfl g9 x rfl (Rb.out.on hW)) hS ?_;simp only[Act.put,zT,zO,zS];refine rO 7 (fun K hK=> ?_);go_simp
   with_reducible refine(je5 (SAb.out.on hS) T2.out LS.out).mono ?_
   rintro e wm ⟨q,rfl,hk⟩;have K7:=zh hk;have hb:=jbl hk;clear hk;replace hS:=hS.trans (hb.mono hS.size);clear hb;refine hK.out _ _ hS (fun _=> ?_);clear hK K;try simp only[Act.put,zT,zO,zS]
   refine rO 9 (fun K hK=> ?_);go_simp
   with_reducible refine(jh1 K7.out (T2.out.on0 (SAb.out.on hS).below) XI.out).mono ?_
   rw[HCC.out];rintro e wn ⟨rfl,hb⟩;replace hS:=hS.trans (hb.mono hS.size);clear hb;refine hK.out _ _ hS (fun _=> ?_);clear hK K;refine tY 10 hS ?_;refine tY 11 hS ?_;refine tY 12 hS ?_;refine tN 13 hS ?_;refine tN 14 hS ?_;refine tN 15 hS ?_;simp only[Act.put,zT,zO,zS];refine tN 16 hS ?_;refine tN 17 hS ?_;refine tN 18 hS ?_;refine tN 19 hS ?_;refine tN 20 hS ?_;refine tN 21 hS ?_;simp only[Act.put,zT,zO,zS];refine tN 22 hS ?_;refine tN 23 hS ?_;refine tN 24 hS ?_;refine tN 25 hS ?_;refine tN 26 hS ?_;refine tN 27 hS ?_;simp only[Act.put,zT,zO,zS];refine tY 28 hS ?_;refine tY 29 hS ?_;simp only[Act.put,zT,zO,zS];refine wpAnyH_done (by kernel_rfl) ?_ _;have HS:=zh hS;clear hS;go_wp2_with fail;go_ret;exact⟨rfl,FIN.out.trans ((BS.out.trans (HS.out.mono BS.out.size)).mono FIN.out.size)⟩
 ·have h1:(cc !=0)=true:=by simpa using h0
  obtain⟨hL,hE⟩:=TN.out h0;have hL2:=hL.symm;subst hL2;subst hE;clear TN TF FI h0;go_wp2_with(go_at_call 11;(with_reducible refine(jet A7 A6 Ls.length Ls.length c7 c6 Ls Ls _ S7.out Wa.out (by have:=L30.out;omega)).mono ?_);rintro e wb ⟨⟨q,rfl,hq⟩,hb⟩;obtain rfl:q=true:=hq.2 (by first|rfl|trivial);have BS:=zh hb;clear hb hq);go_ret;exact⟨rfl,FIN.out.trans (BS.out.mono FIN.out.size)⟩
end Go.Proofs.YtkcdaigaclpfjaaGreatDoor
namespace Go.Proofs.YtkcdaigaclpfjaaGreatDoor
open Go
variable{H:Type}{enc:TypeId×Value->H}
theorem jd4{a:Assume}{C:Checked}{os:Os}{f:FuncId}{fn:Func}{s:ChangeSpec}{conds:List PathCond}{apart fresh handsOn again:Bool}{X:World->Array Value->Prop}
  (hX:∀(w w':World) (args:Array Value),w.heap=w'.heap->X w args->X w' args)
  (own:ownKnob C.prog.godebug=none) (started:os.Started) (noInit:C.prog.inits.idxOf? f=none) (hfn:C.prog.funcs[f]? =some fn)
  (witness:∃(w:World) (tape:Tape) (i:Input),w.os=os/\(w.forCall tape i).Shaped C.prog/\i.vars=[]/\Input.okWide C.prog (w.forCall tape i) .any w.heap.size f i/\
   ((s.pre enc C.prog fn conds apart (w.forCall tape i).memory i.args/\X (w.forCall tape i).memory i.args)/\sizedMet enc C.prog fn (OpenSpec.ofChange s) apart (w.forCall tape i).memory i.args)/\a.holds C.prog (lone (Frame.enter C.prog f i.args .normal) [] (w.forCall tape i)))
  (contract:∀(W:World) (base:Nat) (args:Array Value) (ds gs:List (DataW H)) (before:List MemPlace),
   (∀(j:Nat) t v,fn.params[j]? =some t->args[j]? =some v->Value.okWide C.prog W .any base t v)->
   DataW.Whole enc C.prog fn.params.toList s.vars apart W args.toList ds gs before->
   X W args->W.ShapedOpen C.prog->
   Calls C.prog f args W fun e W'=>∃v,e= .returned v/\s.post enc C.prog fn apart fresh handsOn again W args v W'):
  ReturnsInHanded a C os f .any (fun w args=>(s.pre enc C.prog fn conds apart w args/\X w args)/\sizedMet enc C.prog fn (OpenSpec.ofChange s) apart w args) (s.post enc C.prog fn apart fresh handsOn again):=by
 refine returnsInHanded_of_calls own started noInit witness ?_;intro w tape i _ hsh _ hok hpre _;obtain⟨_,_,_,fn',hfn',_,_,_,_,hval⟩:=hok;have e:fn'=fn:=Option.some.inj (hfn'.symm.trans hfn);subst e;obtain⟨⟨⟨ds,gs,before,hw,_⟩,hx⟩,_⟩:=hpre;have hw':=DataW.Whole.of_heap (w':=w.forCall tape i) (by rfl) hw;refine(contract (w.forCall tape i) w.heap.size i.args ds gs before hval hw' (hX _ _ _ (by rfl) hx) hsh).mono fun e W' ⟨v,he,hp⟩=> ?_;subst he;exact ChangeSpec.post_blind hp
open Go.RowKit
theorem jnb:leaf3 (Rows.laid_pacesetter_phase_leads:DataW Unit)=joi:=by kernel_rfl
theorem jnc:jrv (Rows.laid_pacesetter_phase_words:DataW Unit)=joj:=by kernel_rfl
theorem jtl:Rows.laid_internal_strconv_uint64pow10=(Lib.tabData .u64 Lib.pow10Tab:DataW Unit):=by kernel_rfl
theorem tb_of{W:World}(hL:laidMetH Tryz.prog Rows.storeTornRow.laid W)(_:W.ShapedOpen Tryz.prog):BT W:=by
 rw[MakeChecks.laidMetH_plain _ _ _ (by kernel_rfl)]at hL;refine⟨⟨?_⟩,?_,?_⟩
 ·have h3:=hL.tail.tail
  exact Lib.tabIs_of_head (n:=20) (t:=265) (e:=258) g_pow (by kernel_rfl) (by kernel_rfl) Tryz.underlying258 (by kernel_rfl) (by kernel_rfl) (jtl▸h3)
 ·have:=jk3 (name:= "pacesetter/phase.leads") (d:=Rows.laid_pacesetter_phase_leads) (L:=leaf3) (t:=221) hL (by simp[Rows.storeTornRow]) jj6 (by kernel_rfl)
   (fun _ _ _ _=>jf9 (fun _=>rfl) (jf9 (n:=9) (e:=3) (L:=jod) (fun _=>rfl) (jof Tryz.underlying3) Tryz.underlying220 (by kernel_rfl)) Tryz.underlying221 (by kernel_rfl))
  rw[jnb]at this;exact this
 ·have:=jk3 (name:= "pacesetter/phase.words") (d:=Rows.laid_pacesetter_phase_words) (L:=jrv) (t:=219) hL (by simp[Rows.storeTornRow]) jhn (by kernel_rfl)
   (fun _ _ _ _=>jf9 (fun _=>rfl) (jog Tryz.underlying9) Tryz.underlying219 (by kernel_rfl))
  rw[jnc]at this;exact this
open Go.Deep
theorem jbo{n:Int}(h:(Lit.int .i64 n).wf=true): -9223372036854775808<=n/\n<=9223372036854775807:=by
 simp[Lit.wf,IntKind.min,IntKind.max,IntKind.signed,IntKind.bits]at h;omega
def ERc(_:World)(cs:List Value)(r:Rc.R):Prop:=cs=Bk.rcC r/\Rc.In r
theorem jq6{H:Type}{enc:TypeId×Value->H}{w:World}{held:Bool}(f:Nat)(cs:List Value)(y:DataW H×List MemPlace)(h:DataW.trod enc Tryz.prog w 0 (fun _=>true) held f 34 cs=some y)(hl:cs.length=12):∃s:Spc.Sp,cs=[.int .i64 s.v,.int .i64 s.d,.int .i64 s.u,.int .i64 s.n,.int .i64 s.g,.int .i64 s.a,.int .i64 s.b,.int .i64 s.c,.int .i64 s.e,.int .i64 s.w,.int .i64 s.x,.int .i64 s.k]/\Spc.In s:=by
 obtain⟨xs,n,_,_,_,hxl,hf⟩:=DataW.trod_struct Tryz.underlying34 h
 match cs,hl with
 |[a0,a1,a2,a3,a4,a5,a6,a7,a8,a9,a10,a11],_=>
  have hxl3:xs.length=9:=hxl;have k1:Tryz.prog.cellsOf 3=1:=by kernel_rfl
  have k4:Tryz.prog.cellsOf 32=4:=by kernel_rfl
  have h0:DataW.trod enc Tryz.prog w 0 (fun _=>true) held n 3 (([a0,a1,a2,a3,a4,a5,a6,a7,a8,a9,a10,a11].drop 0).take (Tryz.prog.cellsOf 3))=xs[0]? :=hf 0 _ rfl;have h1:DataW.trod enc Tryz.prog w 0 (fun _=>true) held n 3 (([a0,a1,a2,a3,a4,a5,a6,a7,a8,a9,a10,a11].drop 1).take (Tryz.prog.cellsOf 3))=xs[1]? :=hf 1 _ rfl;have h2:DataW.trod enc Tryz.prog w 0 (fun _=>true) held n 3 (([a0,a1,a2,a3,a4,a5,a6,a7,a8,a9,a10,a11].drop 2).take (Tryz.prog.cellsOf 3))=xs[2]? :=hf 2 _ rfl;have h3:DataW.trod enc Tryz.prog w 0 (fun _=>true) held n 3 (([a0,a1,a2,a3,a4,a5,a6,a7,a8,a9,a10,a11].drop 3).take (Tryz.prog.cellsOf 3))=xs[3]? :=hf 3 _ rfl;have h4:DataW.trod enc Tryz.prog w 0 (fun _=>true) held n 3 (([a0,a1,a2,a3,a4,a5,a6,a7,a8,a9,a10,a11].drop 4).take (Tryz.prog.cellsOf 3))=xs[4]? :=hf 4 _ rfl;have h9:DataW.trod enc Tryz.prog w 0 (fun _=>true) held n 3 (([a0,a1,a2,a3,a4,a5,a6,a7,a8,a9,a10,a11].drop 9).take (Tryz.prog.cellsOf 3))=xs[6]? :=hf 6 _ rfl;have h10:DataW.trod enc Tryz.prog w 0 (fun _=>true) held n 3 (([a0,a1,a2,a3,a4,a5,a6,a7,a8,a9,a10,a11].drop 10).take (Tryz.prog.cellsOf 3))=xs[7]? :=hf 7 _ rfl;have h11:DataW.trod enc Tryz.prog w 0 (fun _=>true) held n 3 (([a0,a1,a2,a3,a4,a5,a6,a7,a8,a9,a10,a11].drop 11).take (Tryz.prog.cellsOf 3))=xs[8]? :=hf 8 _ rfl;have hA:DataW.trod enc Tryz.prog w 0 (fun _=>true) held n 32 (([a0,a1,a2,a3,a4,a5,a6,a7,a8,a9,a10,a11].drop 5).take (Tryz.prog.cellsOf 32))=xs[5]? :=hf 5 _ rfl;rw[k1]at h0 h1 h2 h3 h4 h9 h10 h11;rw[k4]at hA;rw[List.getElem?_eq_getElem zv]at h0 h1 h2 h3 h4 h9 h10 h11 hA;obtain⟨ys,m,_,_,hl4,hyl,hi⟩:=DataW.trod_array (cs:=[a5,a6,a7,a8]) Tryz.underlying32 hA;have h5:DataW.trod enc Tryz.prog w 0 (fun _=>true) held m 3 (([a5,a6,a7,a8].drop (0*Tryz.prog.cellsOf 3)).take (Tryz.prog.cellsOf 3))=ys[0]? :=hi 0 zv;have h6:DataW.trod enc Tryz.prog w 0 (fun _=>true) held m 3 (([a5,a6,a7,a8].drop (1*Tryz.prog.cellsOf 3)).take (Tryz.prog.cellsOf 3))=ys[1]? :=hi 1 zv;have h7:DataW.trod enc Tryz.prog w 0 (fun _=>true) held m 3 (([a5,a6,a7,a8].drop (2*Tryz.prog.cellsOf 3)).take (Tryz.prog.cellsOf 3))=ys[2]? :=hi 2 zv;have h8:DataW.trod enc Tryz.prog w 0 (fun _=>true) held m 3 (([a5,a6,a7,a8].drop (3*Tryz.prog.cellsOf 3)).take (Tryz.prog.cellsOf 3))=ys[3]? :=hi 3 zv;rw[k1]at h5 h6 h7 h8;rw[List.getElem?_eq_getElem zv]at h5 h6 h7 h8;obtain⟨x0,e0,_,w0⟩:=DataW.trod_int (cs:=[a0]) Tryz.underlying3 h0;obtain⟨x1,e1,_,w1⟩:=DataW.trod_int (cs:=[a1]) Tryz.underlying3 h1;obtain⟨x2,e2,_,w2⟩:=DataW.trod_int (cs:=[a2]) Tryz.underlying3 h2;obtain⟨x3,e3,_,w3⟩:=DataW.trod_int (cs:=[a3]) Tryz.underlying3 h3;obtain⟨x4,e4,_,w4⟩:=DataW.trod_int (cs:=[a4]) Tryz.underlying3 h4;obtain⟨x5,e5,_,w5⟩:=DataW.trod_int (cs:=[a5]) Tryz.underlying3 h5;obtain⟨x6,e6,_,w6⟩:=DataW.trod_int (cs:=[a6]) Tryz.underlying3 h6;obtain⟨x7,e7,_,w7⟩:=DataW.trod_int (cs:=[a7]) Tryz.underlying3 h7;obtain⟨x8,e8,_,w8⟩:=DataW.trod_int (cs:=[a8]) Tryz.underlying3 h8;obtain⟨x9,e9,_,w9⟩:=DataW.trod_int (cs:=[a9]) Tryz.underlying3 h9;obtain⟨x10,e10,_,w10⟩:=DataW.trod_int (cs:=[a10]) Tryz.underlying3 h10;obtain⟨x11,e11,_,w11⟩:=DataW.trod_int (cs:=[a11]) Tryz.underlying3 h11;simp at e0 e1 e2 e3 e4 e5 e6 e7 e8 e9 e10 e11;subst e0 e1 e2 e3 e4 e5 e6 e7 e8 e9 e10 e11;exact⟨⟨x0,x1,x2,x3,x4,x5,x6,x7,x8,x9,x10,x11⟩,rfl,by
   intro n hn;simp only[Spc.flds,List.mem_cons,List.not_mem_nil,or_false]at hn;have v0:=jbo w0;have v1:=jbo w1;have v2:=jbo w2;have v3:=jbo w3;have v4:=jbo w4;have v5:=jbo w5;have v6:=jbo w6;have v7:=jbo w7;have v8:=jbo w8;have v9:=jbo w9;have v10:=jbo w10;have v11:=jbo w11;rcases hn with rfl|rfl|rfl|rfl|rfl|rfl|rfl|rfl|rfl|rfl|rfl|rfl<;>assumption⟩
theorem jtm{H:Type}{enc:TypeId×Value->H}{w:World}{held:Bool}(f:Nat)(cs:List Value)(y:DataW H×List MemPlace)(h:DataW.trod enc Tryz.prog w 0 (fun _=>true) held f 45 cs=some y)(hl:cs.length=18):∃r,ERc w cs r:=by
 obtain⟨xs,n,_,_,_,hxl,hf⟩:=DataW.trod_struct Tryz.underlying45 h
 match cs,hl with
 |[a0,a1,a2,a3,a4,a5,a6,a7,a8,a9,a10,a11,a12,a13,a14,a15,a16,a17],_=>
  have hxl3:xs.length=7:=hxl;have k1:Tryz.prog.cellsOf 3=1:=by kernel_rfl
  have k2:Tryz.prog.cellsOf 9=1:=by kernel_rfl
  have k3:Tryz.prog.cellsOf 34=12:=by kernel_rfl
  have h0:DataW.trod enc Tryz.prog w 0 (fun _=>true) held n 3 (([a0,a1,a2,a3,a4,a5,a6,a7,a8,a9,a10,a11,a12,a13,a14,a15,a16,a17].drop 0).take (Tryz.prog.cellsOf 3))=xs[0]? :=hf 0 _ rfl;have h1:DataW.trod enc Tryz.prog w 0 (fun _=>true) held n 3 (([a0,a1,a2,a3,a4,a5,a6,a7,a8,a9,a10,a11,a12,a13,a14,a15,a16,a17].drop 1).take (Tryz.prog.cellsOf 3))=xs[1]? :=hf 1 _ rfl;have h2:DataW.trod enc Tryz.prog w 0 (fun _=>true) held n 3 (([a0,a1,a2,a3,a4,a5,a6,a7,a8,a9,a10,a11,a12,a13,a14,a15,a16,a17].drop 2).take (Tryz.prog.cellsOf 3))=xs[2]? :=hf 2 _ rfl;have h3:DataW.trod enc Tryz.prog w 0 (fun _=>true) held n 3 (([a0,a1,a2,a3,a4,a5,a6,a7,a8,a9,a10,a11,a12,a13,a14,a15,a16,a17].drop 3).take (Tryz.prog.cellsOf 3))=xs[3]? :=hf 3 _ rfl;have h4:DataW.trod enc Tryz.prog w 0 (fun _=>true) held n 3 (([a0,a1,a2,a3,a4,a5,a6,a7,a8,a9,a10,a11,a12,a13,a14,a15,a16,a17].drop 4).take (Tryz.prog.cellsOf 3))=xs[4]? :=hf 4 _ rfl;have h5:DataW.trod enc Tryz.prog w 0 (fun _=>true) held n 9 (([a0,a1,a2,a3,a4,a5,a6,a7,a8,a9,a10,a11,a12,a13,a14,a15,a16,a17].drop 5).take (Tryz.prog.cellsOf 9))=xs[5]? :=hf 5 _ rfl;have h6:DataW.trod enc Tryz.prog w 0 (fun _=>true) held n 34 (([a0,a1,a2,a3,a4,a5,a6,a7,a8,a9,a10,a11,a12,a13,a14,a15,a16,a17].drop 6).take (Tryz.prog.cellsOf 34))=xs[6]? :=hf 6 _ rfl;rw[k1]at h0 h1 h2 h3 h4;rw[k2]at h5;rw[k3]at h6;rw[List.getElem?_eq_getElem zv]at h0 h1 h2 h3 h4 h5 h6;obtain⟨x0,e0,_,w0⟩:=DataW.trod_int (cs:=[a0]) Tryz.underlying3 h0;obtain⟨x1,e1,_,w1⟩:=DataW.trod_int (cs:=[a1]) Tryz.underlying3 h1;obtain⟨x2,e2,_,w2⟩:=DataW.trod_int (cs:=[a2]) Tryz.underlying3 h2;obtain⟨x3,e3,_,w3⟩:=DataW.trod_int (cs:=[a3]) Tryz.underlying3 h3;obtain⟨x4,e4,_,w4⟩:=DataW.trod_int (cs:=[a4]) Tryz.underlying3 h4;obtain⟨x5,e5,_,w5⟩:=DataW.trod_string (cs:=[a5]) Tryz.underlying9 h5;obtain⟨sp,e6,w6⟩:=jq6 _ [a6,a7,a8,a9,a10,a11,a12,a13,a14,a15,a16,a17] _ h6 rfl;simp at e0 e1 e2 e3 e4 e5;subst e0 e1 e2 e3 e4 e5;have hc:[.int .i64 x0,.int .i64 x1,.int .i64 x2,.int .i64 x3,.int .i64 x4,.string x5]++[a6,a7,a8,a9,a10,a11,a12,a13,a14,a15,a16,a17]=Bk.rcC ⟨x0,x1,x2,x3,x4,x5,sp⟩:=by
   rw[e6];rfl
  refine⟨⟨x0,x1,x2,x3,x4,x5,sp⟩,hc,?_,w5,w6⟩;intro x hx;simp only[Rc.nums,List.mem_cons,List.not_mem_nil,or_false]at hx;have v0:=jbo w0;have v1:=jbo w1;have v2:=jbo w2;have v3:=jbo w3;have v4:=jbo w4;rcases hx with rfl|rfl|rfl|rfl|rfl<;>assumption
theorem jq7:Tryz.prog.cellsOf 45=18:=by kernel_rfl
theorem jtn{w:World}{A:Option Addr}{n c:Nat}{ts:List Rc.R}(h:SlR 18 ERc w A n c ts):SlF Bk.rcC w A n c ts/\∀r∈ts,Rc.In r:=by
 refine⟨sle_of Bk.rcC_len h (fun _ _ e=>e.1),fun r hr=> ?_⟩;obtain⟨j,hj,e⟩:=List.mem_iff_getElem.1 hr;obtain⟨b,o,cs,h1,h2,h3,h4,h5⟩:=h.rd j r (e▸List.getElem?_eq_getElem hj);exact h5.2
theorem recs_of{H:Type}{enc:TypeId×Value->H}{w:World}{held:Bool}{A:Option Addr}{n c:Nat}{f:Nat}{y:DataW H×List MemPlace}(h:DataW.trod enc Tryz.prog w 0 (fun _=>true) held f 22 [.slice A n c]=some y):∃ts,SlF Bk.rcC w A n c ts/\∀r∈ts,Rc.In r:=by
 obtain⟨ts,h1⟩:=slr_of Tryz.underlying22 jq7 zv jtm h;exact⟨ts,jtn h1⟩
end Go.Proofs.YtkcdaigaclpfjaaGreatDoor
namespace Go.Proofs.YtkcdaigaclpfjaaGreatDoor.storeTorn
open Go.ChangeShapes Go.WideShapes Go.ChangeAt Go.RowKit Go.Deep
open Go.ChangeMaps (open_string shut_string)
theorem own:ownKnob Tryz.prog.godebug=none:=by kernel_rfl
theorem laidOut:laidOutB Tryz.prog=true:=by kernel_rfl
theorem arr:Tryz.prog.underlying 23=some (.array 2 3):=by kernel_rfl
theorem arrCells:Tryz.prog.cellsOf 23=2:=by kernel_rfl
theorem intCells:Tryz.prog.cellsOf 3=1:=by kernel_rfl
theorem two{T:Type}{cs:Array T}(h:cs.size=2):∃c0 c1,cs= #[c0,c1]:=by
 obtain⟨l⟩:=cs
 match l,h with
 |[a,b],_=>exact⟨a,b,rfl⟩
theorem trod_array2{H:Type}{enc:TypeId×Value->H}{P:Program}{w:World}{base:Nat}{spare:Nat->Bool}{held:Bool}{t e:TypeId}{fuel:Nat}{c0 c1:Value}{x:DataW H×List MemPlace}(ht:P.underlying t=some (.array 2 e))(hce:P.cellsOf e=1)
  (h:DataW.trod enc P w base spare held fuel t [c0,c1]=some x):
  ∃y0 y1 n,x=(.agg [y0.1,y1.1],y0.2++y1.2)/\DataW.trod enc P w base spare held n e [c0]=some y0/\DataW.trod enc P w base spare held n e [c1]=some y1:=by
 cases fuel with
 |zero=>simp[DataW.trod]at h
 |succ n=>
  unfold DataW.trod at h;rw[ht]at h;have r2:List.range 2=[0,1]:=rfl;simp[r2,hce]at h;obtain⟨_,h⟩:=h
  cases h0:DataW.trod enc P w base spare held n e [c0]with
  |none=>simp[h0]at h
  |some y0=>
   cases h1:DataW.trod enc P w base spare held n e [c1]with
   |none=>simp[h0,h1]at h
   |some y1=>
    simp[h0,h1]at h;exact⟨y0,y1,n,h.symm,h0,h1⟩
theorem open_two{H:Type}{enc:TypeId×Value->H}{W:World}{base b0:Nat}{spare:Nat->Bool}{held:Bool}{r:Reach}{v:Value}{d:DataW H}{p:List MemPlace}
  (hv:Value.okWide Tryz.prog W r b0 23 v) (h:DataW.Trod enc Tryz.prog W base spare held 23 v d p):
  ∃a b:Int,v= .agg #[.int .i64 a,.int .i64 b]/\(Lit.int .i64 a).wf=true:=by
 obtain⟨cs,rfl,hsz,_⟩:∃cs,v= .agg cs/\cs.size=Tryz.prog.cellsOf 23/\Row.okWide Tryz.prog W r b0 23 cs:=by
  simpa[Value.okWide,arr]using hv
 rw[arrCells]at hsz;obtain⟨c0,c1,rfl⟩:=two hsz;obtain⟨fuel,hf⟩:=h;obtain⟨y0,y1,m,_,hy0,hy1⟩:=trod_array2 arr intCells hf;obtain⟨x0,e0,_,hw0⟩:=DataW.trod_int Tryz.underlying3 hy0;obtain⟨x1,e1,_,_⟩:=DataW.trod_int Tryz.underlying3 hy1;simp at e0 e1;subst e0 e1;exact⟨_,_,rfl,hw0⟩
theorem lifted(os:Os)(started:os.Started)(H:Type)(enc:TypeId×Value->H):
  ReturnsInHanded {} Tryz.checked os 3 .any (fun w args=>(Rows.storeTornSpec.pre enc Tryz.prog Tryz.f3 Rows.storeTornRow.domain false w args/\laidMetH Tryz.prog Rows.storeTornRow.laid w)/\sizedMet enc Tryz.prog Tryz.f3 (OpenSpec.ofChange Rows.storeTornSpec) false w args)
   (Rows.storeTornSpec.post enc Tryz.prog Tryz.f3 false true false false):=by
 refine jd4 (C:=Tryz.checked) (X:=fun w _=>laidMetH Tryz.prog Rows.storeTornRow.laid w) (fun _ _ _ hh h=>h.of_heap hh) own started (by kernel_rfl) Tryz.func3
  (ChangeSpec.witness_shaped (enc:=enc) (C:=Tryz.checked) (os:=os) (X:=fun w _=>laidMetH Tryz.prog Rows.storeTornRow.laid w) false (World.laidAll Tryz.prog os Rows.storeTornRow.laid) #[.int .i64 0,.slice none 0 0,.agg #[.int .i64 0,.int .i64 0]] 8 (World.laidAll_os _ _ _)
   (World.shaped_of_ZipB (by kernel_rfl) (by kernel_rfl)) (by kernel_rfl) (by kernel_rfl) (by kernel_rfl)
   (by rw[MakeChecks.laidMetH_plain _ _ _ (by kernel_rfl)];exact laidMet_laidAll _ (by kernel_rfl) (by kernel_rfl))) ?_
 intro W base args ds gs before hval0 hW hL hsh;have TB:BT W:=tb_of hL hsh;have hval:∀(j:Nat) t v,Tryz.f3.params[j]? =some t->args[j]? =some v->Value.okWide Tryz.prog W .any base t v:=hval0;have hW':=hW;obtain⟨p,q,hA0,hV,rfl,hfz,hnd⟩:=hW;have hA:DataW.TrodAll enc Tryz.prog W 0 (fun _=>true) true Tryz.f3.params.toList args.toList ds p:=hA0;rw[Tryz.params3]at hA hval;obtain⟨v0,vs0,d0,ds0,p0,q0,hargs,rfl,rfl,h0,r0⟩:=trodAll_cons hA;obtain⟨v1,vs1,d1,ds1,p1,q1,rfl,rfl,rfl,h1,r1⟩:=trodAll_cons r0;obtain⟨v2,vs2,d2,ds2,p2,q2,rfl,rfl,rfl,h2,r2⟩:=trodAll_cons r1;obtain⟨rfl,rfl,rfl⟩:=trodAll_nil r2;obtain rfl:args= #[v0,v1,v2]:=by cases args;simp_all
 obtain⟨rfl,rfl⟩:=trodVars_none hV;obtain⟨a0,rfl,rfl,rfl,w0⟩:=open_int Tryz.underlying3 (hval 0 3 v0 rfl rfl) h0;obtain⟨a1,len1,cap1,rfl⟩:=okWide_slice Tryz.underlying22 (hval 1 22 v1 rfl rfl);have k1:=h1;have lt1:∀x∈p1,x.block<W.heap.size:=by obtain⟨m,hm⟩:=k1;exact DataW.trod_lt m _ _ _ hm
 obtain⟨l1,s1⟩:∃ts,SlF Bk.rcC W a1 len1 cap1 ts/\∀r∈ts,Rc.In r:=by
  obtain⟨fuel,hf⟩:=h1;exact recs_of hf
 have k2:=h2;have lt2:∀x∈p2,x.block<W.heap.size:=by obtain⟨m,hm⟩:=k2;exact DataW.trod_lt m _ _ _ hm
 obtain⟨x0,x1,rfl,hx0⟩:=open_two (hval 2 23 v2 rfl rfl) h2;clear hA0 hval0;refine(jgw a0 a1 len1 cap1 l1 x0 x1 (jbo hx0) s1.2 W s1.1 TB).mono fun e W' ⟨he,bel⟩=> ?_;subst he;exact⟨_,rfl,_,_,_,[],_,[],hW',trodAll_mk1 (shut_bool Tryz.underlying4 _),(trodAll_cons_mk (shut_int Tryz.underlying3 w0) (trodAll_cons_mk (Below.trod laidOut (by kernel_rfl) (of_decide_eq_true (by kernel_rfl)) k1 bel lt1) (trodAll_cons_mk (Below.trod laidOut (by kernel_rfl) (of_decide_eq_true (by kernel_rfl)) k2 bel lt2) trodAll_mk0))),rfl,bel.frame _,fun h=>by cases h⟩
theorem factA:mapsRowed Tryz.prog=true:=by kernel_rfl
theorem factB:Tryz.prog.inPlace 3=Rows.storeTornRow.inPlace:=by kernel_rfl
theorem factC:Tryz.prog.unfollowed 3=true:=by kernel_rfl
theorem factD:Tryz.prog.recurses 3=true:=by unfold Go.Program.recurses;rw[factC];rfl
theorem factE:Tryz.prog.varsNamed 3=Rows.storeTornRow.named:=by kernel_rfl
theorem facts:joinedFacts Tryz.prog 3 Tryz.f3 Rows.storeTornSpec Rows.storeTornRow=true:=by
 unfold joinedFacts;rw[laidOut,factA,factB,factC,factD,factE]
 kernel_rfl
theorem over:Rows.storeTornRow.holds Tryz.pinned (OpenSpec.ofChange Rows.storeTornSpec):=
 OpenClaim.holds_of_wide 3 Tryz.f3 rfl rfl rfl rfl rfl rfl rfl ⟨rfl,rfl,rfl,rfl,rfl⟩ rfl rfl rfl rfl rfl (by kernel_rfl) Tryz.func3 facts
  (of_decide_eq_true (by kernel_rfl)) (by unfold Func.isWrapper;first|(rw[if_pos (by decide+kernel)];kernel_rfl)|(rw[if_neg (by decide+kernel)];exact⟨rfl,rfl⟩))
  (fun os started H enc _=>lifted os started H enc)
theorem cardA:Rows.storeTornRow.wfByText (OpenSpec.ofChange Rows.storeTornSpec)=true:=by kernel_rfl
theorem cardB:Tryz.prog.mainIs=some (true,("370a745675f16bd5ca4d185eaf7d86ff4b3d92ac4b3d2f3184bd0a4586c1be2b").toList):=by kernel_rfl
theorem cardC:false=Tryz.prog.looks []:=by kernel_rfl
theorem cardD:false=Rows.storeTornRow.goesBy Tryz.prog:=by kernel_rfl
theorem cardE:([3,22,23].all fun u=> !Tryz.prog.wantsStandIn u)=true:=by kernel_rfl
theorem proved:Rows.StoreTornCardSaid:=
 Claim7.holds_tied_plain_at .later [] [.data,.data,.data,.data,.data] true (true, "370a745675f16bd5ca4d185eaf7d86ff4b3d92ac4b3d2f3184bd0a4586c1be2b") false over (fun _ h=>by cases h) cardA (fun _ h=>by cases h) storeTorn_row_tie rfl ⟨rfl,rfl⟩ cardB rfl
  (fun f fn hf hfn=>by
   obtain rfl:f=3:=Option.some.inj ((show Tryz.prog.funcNamed Rows.storeTornRow.func=some 3 by kernel_rfl).symm.trans hf)|>.symm;obtain rfl:fn=Tryz.f3:=(Option.some.inj (Tryz.func3.symm.trans hfn)).symm;exact⟨cardC,fun j t ht=>by
    rw[Tryz.params3]at ht;have hm:t∈[3,22,23]:=by simpa using Array.mem_of_getElem? ht
    exact(show Tryz.prog.wantsStandIn t=false by simpa using List.all_eq_true.1 cardE t hm)⟩)
  cardD
end Go.Proofs.YtkcdaigaclpfjaaGreatDoor.storeTorn
