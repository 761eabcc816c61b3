import Derived.Test.YtpehidgjfcfjoaaGreatDoorQz12
import Derived.Test.YtpehidgjfcfjoaaGreatDoorQz31
set_option maxHeartbeats 6400000
set_option maxRecDepth 100000
set_option linter.unusedSimpArgs false
set_option linter.unusedVariables false
namespace Go.Proofs.YtpehidgjfcfjoaaGreatDoor
open Go.RowKit Go.Deep Go.Maps
section
variable{w:World}{op:Oper}{a:Act}{Q:Exit->Act->World->Prop}{K:Act->World->Prop}{g:Nat}{m R:Int}{A B:ByteArray}{l:Value}{s:Bk.St}{L V H:Value}
theorem jsb(x:Operand)(ho:op.op= .load 40 x)(hx:a.eval x= .pointer (some ⟨g,0,none⟩))(hg:SsAt w g m R A B l s L V H):(execOp a.eval op).run Tryz.prog w= .ok (.value (.agg (Ss.cs m R A B l (Bk.cells s L V H)).toArray)) w:=by
 have:=run_loadVar_row (P:=Tryz.prog) w g 40 40 _ (0,0) _ hg.row jda rfl (jd6 ..);unfold execOp;simp only[ho,hx,Instr.loadAt,Instr.sureAddr,Sem.run_bind,Sem.run_pure,Result.andThen_ok,this]
theorem jfq{cs0:Array Value}(x y:Operand)(ho:op.op= .store 40 x y)(hx:a.eval x= .pointer (some ⟨g,0,none⟩))(hy:a.eval y= .agg (Ss.cs m R A B l (Bk.cells s L V H)).toArray)(hg:w.heap[g]? =some (.cells cs0 40 (0,0)))(hz:cs0.size=79)(h1:(Ss.cs m R A B l (Bk.cells s L V H)).toArray.all (·.oneCell')=true)
  (h:K (a.put op.dst undef) (w.setRow g (Ss.cs m R A B l (Bk.cells s L V H)).toArray)):Oper.wp Tryz.prog op a w K Q:=
 wp_store_row 40 x y ho g _ hx hy 40 _ hg (jd6 ..) (by rw[hz];rfl) h1 h
theorem jg6{fn:Func}{p u:Tmp}(h:fn.results= #[.tmp u,.cell p 40])(tmps:Array Value)(hp:tmps.getD p undef= .pointer (some ⟨g,0,none⟩))(hg:SsAt w g m R A B l s L V H):
  (results fn tmps).run Tryz.prog w= .ok (.tuple #[tmps.getD u undef,.agg (Ss.cs m R A B l (Bk.cells s L V H)).toArray]) w:=by
 have h1:=run_loadVar_row (P:=Tryz.prog) w g 40 40 _ (0,0) _ hg.row jda rfl (jd6 ..);rw[Array.getD_eq_getD_getElem?]at hp;simp only[results,h];simp[Sem.run_bind,Result.andThen,hp,asAddr,h1]
end
theorem all_nil(m:Int):Bk.all m []=Bk.new m:=rfl
def ju2(m:Int)(R:Nat)(W:World)(e:Ending)(w':World):Prop:=∃p g A c L V H Ls,e= .returned (.tuple #[.pointer (some ⟨p,0,none⟩),.agg (Ss.cs m (R:Nat) (tA (So.disk R Ls)) (tB (So.disk R Ls)) (.slice A Ls.length c) (Bk.cells (Bk.all m Ls) L V H)).toArray])/\Ls.length<=30/\jcx W w' p m R Ls g A c L V H
theorem zz8{p:Prop}(h:p:=by
 clear hq hlt;go_upto_region 11 with fail
 have D9:=zh ((Below.refl wr.heap.size wr).drew);have FD:=zh (FA.out.on D9.out);have Y7:Hid (wr.drew.heap[g7]? =some (.cells Ss.zeros 40 (0,0))):=(FD.out.st.below.block g7 L7.out).trans X7.out;clear D9;generalize hwd:wr.drew=wd at*;refine wp_region_held_drew (S:=fun X=>SsAt X g margin (R:Nat) (tA (So.disk R Ls)) (tB (So.disk R Ls)) (.slice A5 Ls.length c5) (Bk.all margin Ls) L V H) zk (by rw[hwd];exact FD.out.ss) (fun hS=> ?_);rw[hwd]at hS⊢;clear hwd;refine tY 0 hS ?_;refine tZ 1 (v:= .agg (Ss.cs margin (R:Nat) (tA (So.disk R Ls)) (tB (So.disk R Ls)) (.slice A5 Ls.length c5) (Bk.cells (Bk.all margin Ls) L V H)).toArray) rfl (fun W hW=>jsb (.tmp 9) rfl rfl hW) hS ?_;refine tY 2 hS ?_;simp only[Act.put,zT,zO,zS];refine rO 3 (fun K hK=> ?_);refine jfq (.tmp 7) (.tmp 58) rfl rfl rfl Y7.out rfl (Ss.one (l:= .slice A5 Ls.length c5) rfl FD.out.rd.one) ?_;have GR:=zh (ja2 wd g7 (Ss.cs margin (R:Nat) (tA (So.disk R Ls)) (tB (So.disk R Ls)) (.slice A5 Ls.length c5) (Bk.cells (Bk.all margin Ls) L V H)).toArray);have Z7:Hid (SsAt (wd.setRow g7 (Ss.cs margin (R:Nat) (tA (So.disk R Ls)) (tB (So.disk R Ls)) (.slice A5 Ls.length c5) (Bk.cells (Bk.all margin Ls) L V H)).toArray) g7 margin (R:Nat) (tA (So.disk R Ls)) (tB (So.disk R Ls)) (.slice A5 Ls.length c5) (Bk.all margin Ls) L V H):=⟨setRow_heap wd g7 _ _ _ _ Y7.out⟩;have E7:=zh (jmj FD.out DN.out B1.out GR.out ⟨H7.out,L7.out⟩);have hS:=E7.out.ss;generalize wd.setRow g7 (Ss.cs margin (R:Nat) (tA (So.disk R Ls)) (tB (So.disk R Ls)) (.slice A5 Ls.length c5) (Bk.cells (Bk.all margin Ls) L V H)).toArray=we at*;refine hK.out _ _ hS (fun _=> ?_);clear hK K;try simp only[Act.put,zT,zO,zS]
 refine wpAnyH_done zk ?_ _;go_wp2_with fail;exact bodyPost_ret (jg6 Tryz.results5 _ rfl Z7.out) rfl ⟨p,g,A5,c5,L,V,H,Ls,rfl,by have:=LL.out;have:=J3.out;omega,E7.out⟩):p:=h
theorem ju3(room margin:Int)(A:Option Addr)(k c:Nat)(l:List Rc.R)(hin:∀r∈l,Rc.In r)(W:World)(hs:SlF Bk.rcC W A k c l)(ht:BT W):Calls Tryz.prog 5 #[.int .i64 room,.int .i64 margin,.slice A k c] W (ju2 margin (Dk.fits room) W):=by
 have hz:=jfb;have T0:=zh ht;have HI:=zh hin;have HK:=zh hs.len;have hcap:=hs.cap;have hmax:=hs.max;have hb1:Below W.heap.size W (W.alloc (.cells Ss.zeros 40)):=(Below.refl _ _).alloc (Nat.le_refl _) _;have X7:Hid ((W.alloc (.cells Ss.zeros 40)).heap[W.heap.size]? =some (.cells Ss.zeros 40 (0,0))):=heap_alloc_new W _;have S0:=zh (hs.on hb1);have B1:=zh hb1;have CN:=zh (fun w (h:BT w)=>jj0 w room margin h);have CB:=zh (fun w=>jn2 room margin w);obtain⟨R,hR⟩:∃R:Nat,R=Dk.fits room:=⟨_,rfl⟩;rw[<-hR]at CN CB⊢;clear hs hin ht hb1 hR;go_in;go_upto_region 1 with fail
 obtain⟨g7,hg7⟩:∃g,g=W.heap.size:=⟨_,rfl⟩;rw[<-hg7]at X7⊢;have H7:Hid (W.heap.size<=g7):=Nat.le_of_eq hg7.symm;clear hg7;generalize W.alloc (.cells Ss.zeros 40)=W1 at*;have L7:Hid (g7<W1.heap.size):=(Array.getElem?_eq_some_iff.1 X7.out).1;have T1:=zh (T0.out.on B1.out);go_upto_region 2 with(first
   |(go_at_call 13;(with_reducible refine(CN.out _ T1.out).mono ?_);rintro e w2 ⟨p,rfl,hs⟩;have A2:=zh hs;clear hs CN)
   |(go_at_call 18;(with_reducible refine(CB.out _).mono ?_);rintro e w3 ⟨L,V,H,rfl,hrd,hb⟩;have B3:=zh hb;have RD:=zh hrd;clear hrd hb CB)
   |((with_reducible show zW);refine jas rfl (.tmp 9) (.tmp 20) rfl rfl rfl (heap_alloc_new w3 (.cells Ss.zeros 40)) rfl (Ss.one (l:= .slice none 0 0) rfl RD.out.one) ?_))
 rw[World.setRow_alloc_new];have hb4:Below w3.heap.size w3 (w3.alloc (.cells (Ss.cs margin (R:Nat) ⟨#[]⟩ ⟨#[]⟩ (.slice none 0 0) (Bk.cells (Bk.new margin) L V H)).toArray 40)):=(Below.refl _ _).alloc (Nat.le_refl _) _;have hb5:=B3.out.trans (hb4.mono B3.out.size);have NR:∀b,¬je6 L V H b:=jsa RD.out;have hd:jj1 W1 w3.heap.size none L V H:=fun i hi=>by
  rcases hi with rfl|hi|⟨o,hi⟩
  ·exact Nat.le_trans A2.out.below.size B3.out.size
  ·exact(NR i hi).elim
  ·cases hi
 have hF:jcx W1 (w3.alloc (.cells (Ss.cs margin (R:Nat) ⟨#[]⟩ ⟨#[]⟩ (.slice none 0 0) (Bk.cells (Bk.new margin) L V H)).toArray 40)) p margin R [] w3.heap.size none 0 L V H:=⟨SsAt.new _ _ _ _ _ _ _ _ _ _,RD.out.on hb4,SlF.none_ _,(A2.out.more hb5).less (fun i hi=> .inr (by
  rcases hi with rfl|hi|⟨o,hi⟩
  ·exact⟨B3.out.size,by simp⟩
  ·exact(NR i hi).elim
  ·cases hi)),Nat.le_trans A2.out.below.size B3.out.size,NR _,fun o e=>by cases e⟩
 have F4:=zh hF;have D4:=zh hd;clear hF hd NR hb4 hb5 A2 B3 RD;generalize w3.alloc (.cells (Ss.cs margin (R:Nat) ⟨#[]⟩ ⟨#[]⟩ (.slice none 0 0) (Bk.cells (Bk.new margin) L V H)).toArray 40)=w4 at*;generalize w3.heap.size=g at*;go_wp2_with fail;go_loopw [10] (fun i wr=>∃(j:Nat) (Ls:List Rc.R) (A5:Option Addr) (c5:Nat) (L V H:Value),j<=k/\j<=30/\i= .int .i64 j/\Ls.length<=j/\jcx W1 wr p margin R Ls g A5 c5 L V H/\jj1 W1 g A5 L V H) (fun i _=>k -(intOf i).toNat)
 case atStart=>exact⟨0,[],none,0,L,V,H,zv,zv,rfl,Nat.le_refl _,F4.out,D4.out⟩
 case round=>
  clear F4 D4;obtain⟨j,Ls,A5,c5,L,V,H,hj,hj30,rfl,hll,hf,hdn⟩:=hrel;have FA:=zh hf;have DN:=zh hdn;have LL:=zh hll;have J3:=zh hj30;clear hf hll hdn;have i1:(0:Int)<=(j:Int):=by omega
  by_cases hlt:j<k/\j<30
  ·obtain⟨hlt,hlt3⟩:=hlt
   have hx:l[j]? =some (l[j]'(by have:=HK.out;omega)):=List.getElem?_eq_getElem _;generalize l[j]'(by have:=HK.out;omega)=r at hx;obtain⟨b,o,rfl,hbl,hrg⟩:=jdo (S0.out.on FA.out.st.below) hx;have RG:=zh hrg;have IR:Hid (Rc.In r):=HI.out r (List.mem_of_getElem? hx);have q1:((j:Nat):Int)<(k:Nat):=by omega
   have q2:((j:Nat):Int)<30:=by omega
   clear hx hrg hbl;have HJ:Hid (j<k/\j<30):=⟨hlt,hlt3⟩;clear hlt hlt3;go_upto_region 6 with(first
   |((with_reducible show zL 34);refine jc5 rfl (.tmp 33) rfl b (o+j*18) (by simp[Act.eval,go_sem]) r RG.out ?_)
   |((with_reducible show zW);refine jaa rfl (.tmp 11) (.tmp 34) rfl wr.heap.size r Rc.none_ rfl rfl ⟨heap_alloc_new wr _⟩ ?_))
   rw[World.setRow_alloc_new];have RA:=zh (RcAt.new wr r);have BA:Hid (Below wr.heap.size wr (wr.alloc (.cells (Rc.cells r) 60))):=(Below.refl _ _).alloc (Nat.le_refl _) _;obtain⟨g8,hg8⟩:∃g8,g8=wr.heap.size:=⟨_,rfl⟩;have G8:Hid (wr.heap.size<=g8):=Nat.le_of_eq hg8.symm;rw[<-hg8]at RA⊢;clear hg8;generalize wr.alloc (.cells (Rc.cells r) 60)=wa at*;have hm1:min (r.text.size:Int) 70=((min r.text.size 70:Nat):Int):=by omega
   have hl1:((min r.text.size 70:Nat):Int)<=(r.text.size:Int):=by omega
   have TI:Hid (Rc.In (Rc.txt_ r (r.text.extract 0 (min r.text.size 70)))):=⟨IR.out.nums,by show(r.text.extract 0 (min r.text.size 70)).size<=maxLen;have:=IR.out.text;rw[ByteArray.size_extract];omega,IR.out.sp⟩;generalize min r.text.size 70=mt at*;obtain⟨c0,c1,c2,c3,c4,c6,c7,c8,c9,c10,c11,c12,c13,c14,c15,c16,c17,c18,clt⟩:=RA.out.cs;have hz2:=frozen_of_row wa g8 5 _ _ RA.out.row;go_upto_region 7 with fail
   have RC:=zh (jmy RA.out (r.text.extract 0 mt));have BC:=zh (BA.out.setCell (p:=⟨g8,5,none⟩) G8.out (.string (r.text.extract 0 mt)));clear hm1 hl1 c0 c1 c2 c3 c4 c6 c7 c8 c9 c10 c11 c12 c13 c14 c15 c16 c17 c18 clt hz2 BA RA RG;generalize wa.setCell ⟨g8,5,none⟩ (.string (r.text.extract 0 mt))=wb at*;obtain⟨r2,hr2⟩:∃r2,r2=Rc.txt_ r (r.text.extract 0 mt):=⟨_,rfl⟩;rw[<-hr2]at RC TI;clear hr2;have FB:=zh (FA.out.on BC.out);have CX:=zh (jkm (Bk.all margin Ls) (Bk.all_ok margin Ls) r2 TI.out L V H wb FB.out.rd);go_upto_region 8 with(first
   |((with_reducible show zL 44);refine jbt rfl (.tmp 43) rfl rfl FB.out.ss ?_)
   |((with_reducible show zL 45);refine zR (.tmp 11) RC.out ?_)
   |(go_at_call 19;(with_reducible refine CX.out.mono ?_);rintro e wc ⟨x,rfl,hxi,hb⟩;have XI:=zh hxi;have BD:=zh (BC.out.trans (hb.mono BC.out.size));clear hxi hb RC)
   |((with_reducible show zW);refine jaa rfl (.tmp 12) (.tmp 46) rfl wc.heap.size x Rc.none_ rfl rfl ⟨heap_alloc_new wc _⟩ ?_))
   rw[World.setRow_alloc_new];have RX:=zh (RcAt.new wc x);have BE:Hid (Below wr.heap.size wr (wc.alloc (.cells (Rc.cells x) 60))):=BD.out.alloc BD.out.size _;obtain⟨g9,hg9⟩:∃g9,g9=wc.heap.size:=⟨_,rfl⟩;have G9:Hid (wr.heap.size<=g9):=by show _<=_;rw[hg9];exact BD.out.size
   rw[<-hg9]at RX⊢;clear hg9 BC BD FB CX;generalize wc.alloc (.cells (Rc.cells x) 60)=wd at*;have LS:Hid (Ls.length<=1000):=by show _<=_;have:=LL.out;have:=HJ.out;omega
   have CM:=zh (jfp (FA.out.more BE.out) T1.out XI.out);have CD:=zh (fun w (h:BkRd w (Bk.all margin Ls) L V H) (hr:SlF Bk.rcC w A5 Ls.length c5 Ls)=>jn6 margin R c5 A5 Ls FA.out.st.okd LS.out x XI.out L V H w h hr);have ZL:Hid ((So.com margin R Ls x).length<=Ls.length+1):=ju1 margin R Ls x;obtain⟨Lz,hLz⟩:∃Lz,Lz=So.com margin R Ls x:=⟨_,rfl⟩;obtain⟨Ez,hEz⟩:∃Ez,Ez=So.comE margin R Ls x:=⟨_,rfl⟩;rw[<-hLz,<-hEz]at CM CD;rw[<-hLz]at ZL;clear hLz hEz;have HZ:Hid (∀w':World,(∀i,(jil g A5 L V H i\/(wr.heap.size<=i/\i<wd.heap.size))->i<w'.heap.size)->wd.heap.size<=w'.heap.size):=fun w' h=>by have h1:=RX.out.cs.lt;have h2:=G9.out;have:=h (wd.heap.size -1) (.inr ⟨zv,zv⟩);omega
   go_upto_region 9 with(first
   |((with_reducible show zL 48);refine zR (.tmp 12) RX.out ?_)
   |(go_at_call 14;(with_reducible refine CM.out.mono ?_);rintro e w9 hr;obtain⟨rfl,hss,hrd,hrow,hsa,hun⟩:=FA.out.turn hr BE.out (HZ.out _ hr.2.1.lts);have SS:=zh hss;have RD:=zh hrd;have RW:=zh hrow;have SAA:=zh hsa;have RY:Hid (RcAt w9 g9 x):=⟨(hun g9 G9.out RX.out.cs.lt).trans RX.out.row⟩;clear hr hss hrd hrow hsa hun CM))
   clear RX HZ;go_upto_region 10 with(first
   |((with_reducible show zL 51);refine jbj rfl (.tmp 9) rfl rfl SS.out ?_)
   |((with_reducible show zL 52);refine zR (.tmp 12) RY.out ?_)
   |(go_at_call 20;(with_reducible refine(CD.out _ RD.out RW.out).mono ?_);rintro e wf ⟨A6,c6,L6,V6,H6,rfl,h1,h2,h3,h4,h5⟩;have RW6:=zh h1;have RD6:=zh h2;have B6:=zh h3;have N6:=zh h4;have A6H:=zh h5;clear h1 h2 h3 h4 h5 CD)
   |((with_reducible show zW);refine jas rfl (.tmp 13) (.tmp 54) rfl rfl rfl (heap_alloc_new wf (.cells Ss.zeros 40)) rfl (Ss.one (l:= .slice A6 Lz.length c6) rfl RD6.out.one) ?_))
   rw[World.setRow_alloc_new];have hb9:Below wf.heap.size wf (wf.alloc (.cells (Ss.cs margin (R:Nat) (tA (So.disk R Lz)) (tB (So.disk R Lz)) (.slice A6 Lz.length c6) (Bk.cells (Bk.all margin Lz) L6 V6 H6)).toArray 40)):=(Below.refl _ _).alloc (Nat.le_refl _) _;have SN:=zh (SsAt.new wf margin (R:Nat) (tA (So.disk R Lz)) (tB (So.disk R Lz)) (.slice A6 Lz.length c6) (Bk.all margin Lz) L6 V6 H6);have B7:=zh (B6.out.trans (hb9.mono B6.out.size));have RD7:=zh (RD6.out.on hb9);have RW7:=zh (RW6.out.on hb9);have SS7:=zh (SS.out.on B7.out);clear hb9 B6;generalize wf.alloc (.cells (Ss.cs margin (R:Nat) (tA (So.disk R Lz)) (tB (So.disk R Lz)) (.slice A6 Lz.length c6) (Bk.cells (Bk.all margin Lz) L6 V6 H6)).toArray 40)=wg at*;generalize wf.heap.size=g13 at*
   go_wp2_with(first
   |((with_reducible show zL 56);refine jbj rfl (.tmp 13) rfl rfl SN.out ?_)
   |((with_reducible show zW);refine jas rfl (.tmp 9) (.tmp 56) rfl rfl rfl SS7.out.row rfl (Ss.one (l:= .slice A6 Lz.length c6) rfl RD7.out.one) ?_))
   exact⟨⟨j+1,Lz,A6,c6,L6,V6,H6,by have:=HJ.out;omega,by have:=HJ.out;omega,by go_num,by have:=LL.out;have:=ZL.out;omega,jr9 SAA.out FA.out.ng SS.out.lt FA.out.gn FA.out.ga B7.out RW7.out RD7.out N6.out A6H.out _ SS7.out.row,jln DN.out (SAA.out.below.size) N6.out A6H.out⟩,by simp[intOf];have:=HJ.out;omega⟩
  ·have hq:k<=j\/30<=j:=by omega
   by_cases hjk:j<k
   ·have q1:((j:Nat):Int)<(k:Nat):=by omega
    have q2:(30:Int)<=(j:Nat):=by omega
    exact zz8
   ·have q1:((k:Nat):Int)<=(j:Nat):=by omega
    exact zz8
end Go.Proofs.YtpehidgjfcfjoaaGreatDoor
namespace Go.Proofs.YtpehidgjfcfjoaaGreatDoor
open Go.RowKit
theorem So.all_upto{ps:List (List Nat)}{j:Nat}(h:j<ps.length):(Fr.all (ps.take j)).length+((ps.getD j []).length+6)<=(Fr.all ps).length:=by
 have e:ps=ps.take j++([ps.getD j []]++ps.drop (j+1)):=by
  rw[jal h,List.singleton_append,<-List.drop_eq_getElem_cons h,List.take_append_drop]
 have h2:(Fr.all ps).length=(Fr.all (ps.take j)).length+((ps.getD j []).length+6+(Fr.all (ps.drop (j+1))).length):=by
  conv=>lhs;rw[e]
  rw[Fr.all_append,Fr.all_append,Fr.all_one,List.length_append,List.length_append,Fr.fr_length]
 omega
theorem So.of_cut{m:Int}{L:List Rc.R}(h:So.Took m L)(k:Nat)(hk:k<=(Fr.all (So.ens L)).length):
  ∃j,j<=L.length/\So.of m ((Fr.all (So.ens L)).take k)=L.take j/\(Fr.scan ((Fr.all (So.ens L)).take k)).1.length=j/\(k=(Fr.all (So.ens L)).length->j=L.length):=by
 have hr:∀r∈L,Rc.right r=true:=So.took_right h;obtain⟨j,n,h1,h2,h3,h4,h5⟩:=Fr.cut_any (So.ens_ok hr) k hk;rw[So.ens_len]at h1 h5;have e1:(So.ens L).take j=So.ens (L.take j):=by unfold So.ens;rw[List.map_take]
 have hrj:∀r∈L.take j,Rc.right r=true:=fun r hx=>hr r (List.mem_of_mem_take hx);refine⟨j,h1,?_,?_,fun hl=> ?_⟩
 ·unfold So.of
  rw[h4];show So.pre (Bk.new m) (So.recs ((So.ens L).take j))=_;rw[e1,So.recs_ens hrj];exact So.pre_all (So.took_take h j)
 ·rw[h4]
  show((So.ens L).take j).length=j;rw[List.length_take,So.ens_len];omega
 ·rcases Nat.lt_or_ge j L.length with hlt|hge
  ·have h6:=h5 hlt
   have h7:=So.all_upto (ps:=So.ens L) (j:=j) (by rw[So.ens_len];exact hlt);omega
  ·omega
namespace Bk
def vwSame(a b:St):Bool:=(a.ep==b.ep)&&((a.who==b.who)&&((a.till==b.till)&&((a.stable==b.stable)&&((a.from_==b.from_)&&((a.ph==b.ph)&&((a.step==b.step)&&((a.since==b.since)&&((a.begun==b.begun)&&((a.seq==b.seq)&&(Spc.same a.sp b.sp&&true))))))))))
theorem vwSame_iff{a b:St}:vwSame a b=true↔(a.ep=b.ep/\a.who=b.who/\a.till=b.till/\a.stable=b.stable/\a.from_=b.from_/\a.ph=b.ph/\a.step=b.step/\a.since=b.since/\a.begun=b.begun/\a.seq=b.seq/\a.sp=b.sp):=by
 unfold vwSame;simp only[Bool.and_eq_true,beq_iff_eq,and_true,Spc.same_iff]
end Bk
theorem jsc:Tryz.prog.underlying 64=some (.struct (Tryz.prog.fieldsOf 64)):=by kernel_rfl
theorem ju4:Tryz.prog.stoodInHeld 64=false:=by kernel_rfl
theorem vw_eqIn(r s:Bk.St)(W:World):(Op.equalIn 10000 64 (.agg (Bk.viewC r)) (.agg (Bk.viewC s))).run Tryz.prog W= .ok (Bk.vwSame r s) W:=by
 rw[run_equalIn_agg W 9999 64 _ _ jsc ju4];have hi:∀x y,(Op.equalIn 9999 3 (.int .i64 x) (.int .i64 y)).run Tryz.prog W= .ok (x==y) W:=fun x y=>run_equalIn_int W 9998 3 .i64 .i64 x y Tryz.underlying3;have hs:=jeg r.sp s.sp 9996 W;simp only[Program.fieldsOf,Tryz.underlying64,Bk.viewC];unfold Bk.vwSame;unfold Spc.val Spc.cells at hs;refine jah (by decide) ?_ ?_ (hi _ _) (jah (by decide) ?_ ?_ (hi _ _) (jah (by decide) ?_ ?_ (hi _ _) (jah (by decide) ?_ ?_ (hi _ _) (jah (by decide) ?_ ?_ (hi _ _) (jah (by decide) ?_ ?_ (hi _ _) (jah (by decide) ?_ ?_ (hi _ _) (jah (by decide) ?_ ?_ (hi _ _) (jah (by decide) ?_ ?_ (hi _ _) (jah (by decide) ?_ ?_ (hi _ _) (jah (by decide) ?_ ?_ hs jf6))))))))))
 all_goals simp[go_sem,Sem.run_bind,Result.andThen]
theorem vw_eq(r s:Bk.St)(W:World):(binOp .eql 64 (.agg (Bk.viewC r)) (.agg (Bk.viewC s))).run Tryz.prog W= .ok (.bool (Bk.vwSame r s)) W:=by
 have h:=vw_eqIn r s W;unfold Bk.viewC at*;rw[run_eql_struct,h];rfl
theorem jsd(l:List Int):l.flatMap (fun x:Int=>[Value.int .i64 x])=l.map (Value.int .i64):=by
 exact zz35
theorem jse{w:World}{A:Option Addr}{n c:Nat}{l:List Int}(h:SlF (fun x:Int=>[Value.int .i64 x]) w A n c l):SlI w A n c l:=
 ⟨fun hl=>by
  obtain⟨b,o,e,hb,hc⟩:=h.rd hl;refine⟨b,o,e,hb,fun j hj=>hc j _ ?_⟩;rw[jsd,List.getElem?_map,List.getElem?_eq_getElem hj];have:l.getD j 0=l[j]:=by rw[List.getD_eq_getElem?_getD,List.getElem?_eq_getElem hj];rfl
  rw[this];rfl,h.len,h.cap,h.max⟩
theorem jj2(A1 A2:Option Addr)(n m c1 c2:Nat)(a b:List Rc.R)(w:World)(h1:SlF Bk.rcC w A1 n c1 a)(h2:SlF Bk.rcC w A2 m c2 b)(hn:n<=100000):Calls Tryz.prog 31 #[.slice A1 n c1,.slice A2 m c2] w (jgi (a=b) w):=by
 have S1:=zh h1;have S2:=zh h2;have L1:=zh h1.len;have L2:=zh h2.len;have hc1:=h1.cap;have hc2:=h2.cap;clear h1 h2;by_cases hnm:n=m
 case neg=>
  exact zz1k
 case pos=>
  subst hnm;go_in;go_wp2_with fail;go_loopw [5,13] (fun _ i wr=>∃j:Nat,j<=n/\i= .int .i64 j/\(∀k,k<j->a[k]? =b[k]?)/\Below w.heap.size w wr) (fun _ i _=>n -(intOf i).toNat)
  case atStart=>exact⟨0,zv,rfl,fun k hk=>by omega,Below.refl _ _⟩
  case round=>
   obtain⟨j,hj,rfl,hk,hbr⟩:=hrel;have HK:=zh hk;have B:=zh hbr;clear hk hbr;by_cases hlt:j<n
   ·have hx:a[j]? =some (a[j]'(by have:=L1.out;omega)):=List.getElem?_eq_getElem _
    have hy:b[j]? =some (b[j]'(by have:=L2.out;omega)):=List.getElem?_eq_getElem _;generalize a[j]'(by have:=L1.out;omega)=x at hx;generalize b[j]'(by have:=L2.out;omega)=y at hy;obtain⟨b1,o1,rfl,hl1,hr1⟩:=jdo S1.out hx;obtain⟨b2,o2,rfl,hl2,hr2⟩:=jdo S2.out hy;have EX:=zh hx;have EY:=zh hy;have R1:=zh hr1;have R2:=zh hr2;have H1:=zh hl1;have H2:=zh hl2;have i1:(0:Int)<=(j:Int):=by omega
    have i2:(j:Int)<(n:Int):=by omega
    have hgd:=jin;obtain⟨q,hq⟩:∃q:Bool,q=true↔x≠y:=by
     classical exact⟨decide (x≠y),decide_eq_true_iff⟩
    have hne:∀W,(binOp .neq 60 (.agg (Rc.cells x)) (.agg (Rc.cells y))).run Tryz.prog W= .ok (.bool q) W:=fun W=>by
     classical
     rw[jgh,show(!decide (x=y))=q from by rw[Bool.eq_iff_iff,hq];simp]
    have HQ:=zh hq;clear hx hy hr1 hr2 hl1 hl2 hq;go_upto_region 6 with fail
    refine wp_region_held_drew (S:=fun W=>Below w.heap.size w W) zk B.out.drew (fun hS=> ?_);refine tY 0 hS ?_;refine tY 1 hS ?_;refine tY 2 hS ?_;refine tZ 3 (v:= .agg (Rc.cells x)) rfl (fun W hW=>jfy (.tmp 18) rfl b1 (o1+j*18) x (by simp[Act.eval,go_sem]) (jdp R1.out (hW.block b1 H1.out))) hS ?_;refine tY 4 hS ?_;refine tY 5 hS ?_;simp only[Act.put,zT,zO,zS];refine tY 6 hS ?_;refine tZ 7 (v:= .agg (Rc.cells y)) rfl (fun W hW=>jfy (.tmp 22) rfl b2 (o2+j*18) y (by simp[Act.eval,go_sem]) (jdp R2.out (hW.block b2 H2.out))) hS ?_;exact zzo
   ·obtain rfl:j=n:=by omega
    go_wp2;go_ret;refine⟨⟨true,rfl,?_⟩,B.out⟩;simp only[true_iff];exact jiv (L1.out.symm.trans L2.out) fun k hk=>HK.out k (by have:=L1.out;omega)
theorem jj3(A1 A2:Option Addr)(n m c1 c2:Nat)(a b:List Int)(w:World)(h1:SlI w A1 n c1 a)(h2:SlI w A2 m c2 b)(hn:n<=1000000)(hm:m<=1000000):Calls Tryz.prog 67 #[.slice A1 n c1,.slice A2 m c2] w (jgi (a=b) w):=by
 have l1:=h1.len;have l2:=h2.len;by_cases hnm:n=m
 ·subst hnm
  by_cases h0:n=0
  ·subst h0
   refine(Tryz.slices_Equal_int_empty A1 A2 c1 0 c2 w zv).mono fun e w' ⟨he,hw⟩=> ?_;subst hw;refine⟨⟨_,he,?_⟩,Below.refl _ _⟩;have ha:a=[]:=List.eq_nil_of_length_eq_zero zv;have hb:b=[]:=List.eq_nil_of_length_eq_zero zv;simp[ha,hb]
  ·obtain⟨b1,o1,rfl,_,e1⟩:=h1.rd zv
   obtain⟨b2,o2,rfl,_,e2⟩:=h2.rd zv;refine(Tryz.slices_Equal_int b1 o1 n c1 b2 o2 n c2 a b w zv zv zv zv e1 e2).mono fun e w' ⟨he,q,hw⟩=> ?_;subst hw;refine⟨⟨_,he,?_⟩,jcg (Below.refl _ _) q⟩;rw[List.take_of_length_le zv,List.take_of_length_le zv,beq_iff_eq]
 ·refine(Tryz.slices_Equal_int_lens A1 A2 n c1 m c2 w hnm).mono fun e w' ⟨he,hw⟩=> ?_
  subst hw;refine⟨⟨_,he,?_⟩,Below.refl _ _⟩;simp;rintro rfl;omega
open Go Go.Deep
theorem jb5{n:Int}(h:(Lit.int .i64 n).wf=true): -9223372036854775808<=n/\n<=9223372036854775807:=by
 simp[Lit.wf,IntKind.min,IntKind.max,IntKind.signed,IntKind.bits]at h;omega
def ERc(_:World)(cs:List Value)(r:Rc.R):Prop:=cs=Bk.rcC r/\Rc.In r
theorem jsf{H:Type}{enc:TypeId×Value->H}{w:World}{held:Bool}(f:Nat)(cs:List Value)(y:DataW H×List MemPlace)(h:DataW.trod enc Tryz.prog w 0 (fun _=>true) held f 33 cs=some y)(hl:cs.length=12):∃s:Spc.Sp,cs=[.int .i64 s.v,.int .i64 s.d,.int .i64 s.u,.int .i64 s.n,.int .i64 s.g,.int .i64 s.a,.int .i64 s.b,.int .i64 s.c,.int .i64 s.e,.int .i64 s.w,.int .i64 s.x,.int .i64 s.k]/\Spc.In s:=by
 obtain⟨xs,n,_,_,_,hxl,hf⟩:=DataW.trod_struct Tryz.underlying33 h
 match cs,hl with
 |[a0,a1,a2,a3,a4,a5,a6,a7,a8,a9,a10,a11],_=>
  have hxl3:xs.length=9:=hxl;have k1:Tryz.prog.cellsOf 3=1:=by kernel_rfl
  have k4:Tryz.prog.cellsOf 31=4:=by kernel_rfl
  have h0:DataW.trod enc Tryz.prog w 0 (fun _=>true) held n 3 (([a0,a1,a2,a3,a4,a5,a6,a7,a8,a9,a10,a11].drop 0).take (Tryz.prog.cellsOf 3))=xs[0]? :=hf 0 _ rfl;have h1:DataW.trod enc Tryz.prog w 0 (fun _=>true) held n 3 (([a0,a1,a2,a3,a4,a5,a6,a7,a8,a9,a10,a11].drop 1).take (Tryz.prog.cellsOf 3))=xs[1]? :=hf 1 _ rfl;have h2:DataW.trod enc Tryz.prog w 0 (fun _=>true) held n 3 (([a0,a1,a2,a3,a4,a5,a6,a7,a8,a9,a10,a11].drop 2).take (Tryz.prog.cellsOf 3))=xs[2]? :=hf 2 _ rfl;have h3:DataW.trod enc Tryz.prog w 0 (fun _=>true) held n 3 (([a0,a1,a2,a3,a4,a5,a6,a7,a8,a9,a10,a11].drop 3).take (Tryz.prog.cellsOf 3))=xs[3]? :=hf 3 _ rfl;have h4:DataW.trod enc Tryz.prog w 0 (fun _=>true) held n 3 (([a0,a1,a2,a3,a4,a5,a6,a7,a8,a9,a10,a11].drop 4).take (Tryz.prog.cellsOf 3))=xs[4]? :=hf 4 _ rfl;have h9:DataW.trod enc Tryz.prog w 0 (fun _=>true) held n 3 (([a0,a1,a2,a3,a4,a5,a6,a7,a8,a9,a10,a11].drop 9).take (Tryz.prog.cellsOf 3))=xs[6]? :=hf 6 _ rfl;have h10:DataW.trod enc Tryz.prog w 0 (fun _=>true) held n 3 (([a0,a1,a2,a3,a4,a5,a6,a7,a8,a9,a10,a11].drop 10).take (Tryz.prog.cellsOf 3))=xs[7]? :=hf 7 _ rfl;have h11:DataW.trod enc Tryz.prog w 0 (fun _=>true) held n 3 (([a0,a1,a2,a3,a4,a5,a6,a7,a8,a9,a10,a11].drop 11).take (Tryz.prog.cellsOf 3))=xs[8]? :=hf 8 _ rfl;have hA:DataW.trod enc Tryz.prog w 0 (fun _=>true) held n 31 (([a0,a1,a2,a3,a4,a5,a6,a7,a8,a9,a10,a11].drop 5).take (Tryz.prog.cellsOf 31))=xs[5]? :=hf 5 _ rfl;rw[k1]at h0 h1 h2 h3 h4 h9 h10 h11;rw[k4]at hA;rw[List.getElem?_eq_getElem zv]at h0 h1 h2 h3 h4 h9 h10 h11 hA;obtain⟨ys,m,_,_,hl4,hyl,hi⟩:=DataW.trod_array (cs:=[a5,a6,a7,a8]) Tryz.underlying31 hA;have h5:DataW.trod enc Tryz.prog w 0 (fun _=>true) held m 3 (([a5,a6,a7,a8].drop (0*Tryz.prog.cellsOf 3)).take (Tryz.prog.cellsOf 3))=ys[0]? :=hi 0 zv;have h6:DataW.trod enc Tryz.prog w 0 (fun _=>true) held m 3 (([a5,a6,a7,a8].drop (1*Tryz.prog.cellsOf 3)).take (Tryz.prog.cellsOf 3))=ys[1]? :=hi 1 zv;have h7:DataW.trod enc Tryz.prog w 0 (fun _=>true) held m 3 (([a5,a6,a7,a8].drop (2*Tryz.prog.cellsOf 3)).take (Tryz.prog.cellsOf 3))=ys[2]? :=hi 2 zv;have h8:DataW.trod enc Tryz.prog w 0 (fun _=>true) held m 3 (([a5,a6,a7,a8].drop (3*Tryz.prog.cellsOf 3)).take (Tryz.prog.cellsOf 3))=ys[3]? :=hi 3 zv;rw[k1]at h5 h6 h7 h8;rw[List.getElem?_eq_getElem zv]at h5 h6 h7 h8;obtain⟨x0,e0,_,w0⟩:=DataW.trod_int (cs:=[a0]) Tryz.underlying3 h0;obtain⟨x1,e1,_,w1⟩:=DataW.trod_int (cs:=[a1]) Tryz.underlying3 h1;obtain⟨x2,e2,_,w2⟩:=DataW.trod_int (cs:=[a2]) Tryz.underlying3 h2;obtain⟨x3,e3,_,w3⟩:=DataW.trod_int (cs:=[a3]) Tryz.underlying3 h3;obtain⟨x4,e4,_,w4⟩:=DataW.trod_int (cs:=[a4]) Tryz.underlying3 h4;obtain⟨x5,e5,_,w5⟩:=DataW.trod_int (cs:=[a5]) Tryz.underlying3 h5;obtain⟨x6,e6,_,w6⟩:=DataW.trod_int (cs:=[a6]) Tryz.underlying3 h6;obtain⟨x7,e7,_,w7⟩:=DataW.trod_int (cs:=[a7]) Tryz.underlying3 h7;obtain⟨x8,e8,_,w8⟩:=DataW.trod_int (cs:=[a8]) Tryz.underlying3 h8;obtain⟨x9,e9,_,w9⟩:=DataW.trod_int (cs:=[a9]) Tryz.underlying3 h9;obtain⟨x10,e10,_,w10⟩:=DataW.trod_int (cs:=[a10]) Tryz.underlying3 h10;obtain⟨x11,e11,_,w11⟩:=DataW.trod_int (cs:=[a11]) Tryz.underlying3 h11;simp at e0 e1 e2 e3 e4 e5 e6 e7 e8 e9 e10 e11;subst e0 e1 e2 e3 e4 e5 e6 e7 e8 e9 e10 e11;exact⟨⟨x0,x1,x2,x3,x4,x5,x6,x7,x8,x9,x10,x11⟩,rfl,by
   intro n hn;simp only[Spc.flds,List.mem_cons,List.not_mem_nil,or_false]at hn;have v0:=jb5 w0;have v1:=jb5 w1;have v2:=jb5 w2;have v3:=jb5 w3;have v4:=jb5 w4;have v5:=jb5 w5;have v6:=jb5 w6;have v7:=jb5 w7;have v8:=jb5 w8;have v9:=jb5 w9;have v10:=jb5 w10;have v11:=jb5 w11;rcases hn with rfl|rfl|rfl|rfl|rfl|rfl|rfl|rfl|rfl|rfl|rfl|rfl<;>assumption⟩
theorem ju5{H:Type}{enc:TypeId×Value->H}{w:World}{held:Bool}(f:Nat)(cs:List Value)(y:DataW H×List MemPlace)(h:DataW.trod enc Tryz.prog w 0 (fun _=>true) held f 60 cs=some y)(hl:cs.length=18):∃r,ERc w cs r:=by
 obtain⟨xs,n,_,_,_,hxl,hf⟩:=DataW.trod_struct Tryz.underlying60 h
 match cs,hl with
 |[a0,a1,a2,a3,a4,a5,a6,a7,a8,a9,a10,a11,a12,a13,a14,a15,a16,a17],_=>
  have hxl3:xs.length=7:=hxl;have k1:Tryz.prog.cellsOf 3=1:=by kernel_rfl
  have k2:Tryz.prog.cellsOf 9=1:=by kernel_rfl
  have k3:Tryz.prog.cellsOf 33=12:=by kernel_rfl
  have h0:DataW.trod enc Tryz.prog w 0 (fun _=>true) held n 3 (([a0,a1,a2,a3,a4,a5,a6,a7,a8,a9,a10,a11,a12,a13,a14,a15,a16,a17].drop 0).take (Tryz.prog.cellsOf 3))=xs[0]? :=hf 0 _ rfl;have h1:DataW.trod enc Tryz.prog w 0 (fun _=>true) held n 3 (([a0,a1,a2,a3,a4,a5,a6,a7,a8,a9,a10,a11,a12,a13,a14,a15,a16,a17].drop 1).take (Tryz.prog.cellsOf 3))=xs[1]? :=hf 1 _ rfl;have h2:DataW.trod enc Tryz.prog w 0 (fun _=>true) held n 3 (([a0,a1,a2,a3,a4,a5,a6,a7,a8,a9,a10,a11,a12,a13,a14,a15,a16,a17].drop 2).take (Tryz.prog.cellsOf 3))=xs[2]? :=hf 2 _ rfl;have h3:DataW.trod enc Tryz.prog w 0 (fun _=>true) held n 3 (([a0,a1,a2,a3,a4,a5,a6,a7,a8,a9,a10,a11,a12,a13,a14,a15,a16,a17].drop 3).take (Tryz.prog.cellsOf 3))=xs[3]? :=hf 3 _ rfl;have h4:DataW.trod enc Tryz.prog w 0 (fun _=>true) held n 3 (([a0,a1,a2,a3,a4,a5,a6,a7,a8,a9,a10,a11,a12,a13,a14,a15,a16,a17].drop 4).take (Tryz.prog.cellsOf 3))=xs[4]? :=hf 4 _ rfl;have h5:DataW.trod enc Tryz.prog w 0 (fun _=>true) held n 9 (([a0,a1,a2,a3,a4,a5,a6,a7,a8,a9,a10,a11,a12,a13,a14,a15,a16,a17].drop 5).take (Tryz.prog.cellsOf 9))=xs[5]? :=hf 5 _ rfl;have h6:DataW.trod enc Tryz.prog w 0 (fun _=>true) held n 33 (([a0,a1,a2,a3,a4,a5,a6,a7,a8,a9,a10,a11,a12,a13,a14,a15,a16,a17].drop 6).take (Tryz.prog.cellsOf 33))=xs[6]? :=hf 6 _ rfl;rw[k1]at h0 h1 h2 h3 h4;rw[k2]at h5;rw[k3]at h6;rw[List.getElem?_eq_getElem zv]at h0 h1 h2 h3 h4 h5 h6;obtain⟨x0,e0,_,w0⟩:=DataW.trod_int (cs:=[a0]) Tryz.underlying3 h0;obtain⟨x1,e1,_,w1⟩:=DataW.trod_int (cs:=[a1]) Tryz.underlying3 h1;obtain⟨x2,e2,_,w2⟩:=DataW.trod_int (cs:=[a2]) Tryz.underlying3 h2;obtain⟨x3,e3,_,w3⟩:=DataW.trod_int (cs:=[a3]) Tryz.underlying3 h3;obtain⟨x4,e4,_,w4⟩:=DataW.trod_int (cs:=[a4]) Tryz.underlying3 h4;obtain⟨x5,e5,_,w5⟩:=DataW.trod_string (cs:=[a5]) Tryz.underlying9 h5;obtain⟨sp,e6,w6⟩:=jsf _ [a6,a7,a8,a9,a10,a11,a12,a13,a14,a15,a16,a17] _ h6 rfl;simp at e0 e1 e2 e3 e4 e5;subst e0 e1 e2 e3 e4 e5;have hc:[.int .i64 x0,.int .i64 x1,.int .i64 x2,.int .i64 x3,.int .i64 x4,.string x5]++[a6,a7,a8,a9,a10,a11,a12,a13,a14,a15,a16,a17]=Bk.rcC ⟨x0,x1,x2,x3,x4,x5,sp⟩:=by
   rw[e6];rfl
  refine⟨⟨x0,x1,x2,x3,x4,x5,sp⟩,hc,?_,w5,w6⟩;intro x hx;simp only[Rc.nums,List.mem_cons,List.not_mem_nil,or_false]at hx;have v0:=jb5 w0;have v1:=jb5 w1;have v2:=jb5 w2;have v3:=jb5 w3;have v4:=jb5 w4;rcases hx with rfl|rfl|rfl|rfl|rfl<;>assumption
theorem jsg:Tryz.prog.cellsOf 60=18:=by kernel_rfl
theorem ju6{w:World}{A:Option Addr}{n c:Nat}{ts:List Rc.R}(h:SlR 18 ERc w A n c ts):SlF Bk.rcC w A n c ts/\∀r∈ts,Rc.In r:=by
 refine⟨sle_of Bk.rcC_len h (fun _ _ e=>e.1),fun r hr=> ?_⟩;obtain⟨j,hj,e⟩:=List.mem_iff_getElem.1 hr;obtain⟨b,o,cs,h1,h2,h3,h4,h5⟩:=h.rd j r (e▸List.getElem?_eq_getElem hj);exact h5.2
theorem recs_of{H:Type}{enc:TypeId×Value->H}{w:World}{held:Bool}{A:Option Addr}{n c:Nat}{f:Nat}{y:DataW H×List MemPlace}(h:DataW.trod enc Tryz.prog w 0 (fun _=>true) held f 22 [.slice A n c]=some y):∃ts,SlF Bk.rcC w A n c ts/\∀r∈ts,Rc.In r:=by
 obtain⟨ts,h1⟩:=slr_of Tryz.underlying22 jsg zv ju5 h;exact⟨ts,ju6 h1⟩
end Go.Proofs.YtpehidgjfcfjoaaGreatDoor
namespace Go.Proofs.YtpehidgjfcfjoaaGreatDoor
theorem jj4{w0 W:World}{F:Nat->Prop}{q:Nat}{s:Bk.St}(h:BP w0 F q s W)(ht:BT W)(n:Int)(hn:b64In n):Calls Tryz.prog 66 #[.pointer (some ⟨q,0,none⟩),.int .i64 n] W (BRet (.tuple #[.string (Bk.text s.vs n),.bool (Bk.has s.vs n)]) W):=by
 obtain⟨X,⟨ru,rv,lo,ko,H,K,h1,_⟩,_⟩:=h;exact jgr q s ru rv lo ko H K W h1 ht n hn
open Go.RowKit
namespace Bk
theorem dig_text3{vs:List Vn}{n:Int}{t:ByteArray}(h:dig vs n=some t):text vs n=t:=by
 unfold text;rw[h];rfl
def dif(a b:List Vn)(n:Int):Bool:= !((text a n).toList==(text b n).toList)
theorem dif_iff{a b:List Vn}{n:Int}:dif a b n=true↔text a n≠text b n:=by
 unfold dif;simp only[Bool.not_eq_true',beq_eq_false_iff_ne,ne_eq];exact not_congr ⟨fun h=>jeh.1 (beq_iff_eq.2 h),fun h=>by rw[h]⟩
theorem vs_same{a b:List Vn}(ha:a.Pairwise fun x y=>x.n<y.n)(hb:b.Pairwise fun x y=>x.n<y.n):a=b↔(a.map (·.n)=b.map (·.n)/\∀n∈a.map (·.n),text a n=text b n):=by
 constructor
 ·rintro rfl
  exact⟨rfl,fun _ _=>rfl⟩
 ·rintro⟨h1,h2⟩
  have hl:a.length=b.length:=by have:=congrArg List.length h1;simpa using this
  refine List.ext_getElem? fun k=> ?_;rcases Nat.lt_or_ge k a.length with hk|hk
  ·have hx:a[k]? =some a[k]:=List.getElem?_eq_getElem hk
   have hy:b[k]? =some (b[k]'zv):=List.getElem?_eq_getElem _;have e:=congrArg (·[k]?) h1;simp only[List.getElem?_map,hx,hy,Option.map_some,Option.some.injEq]at e;have h3:=h2 _ (List.mem_map_of_mem (f:=(·.n)) (List.getElem_mem hk));have d1:=Bd.dig_mem ha (List.getElem_mem hk);have d2:=Bd.dig_mem hb (List.getElem_mem (show k<b.length by omega));rw[dig_text3 d1,e,dig_text3 d2]at h3;rw[hx,hy];generalize a[k]=x at*;generalize b[k]=y at*
   cases x;cases y
   simp only at e h3;rw[e,h3]
  ·rw[List.getElem?_eq_none hk,List.getElem?_eq_none zv]
end Bk
theorem jsh(g1 g2:Nat)(qa qb:Nat)(s t:Bk.St)(x:Int)(W:World)(h1:W.heap[g1]? =some (.cells #[.pointer (some ⟨qa,0,none⟩)] 51))(h2:W.heap[g2]? =some (.cells #[.pointer (some ⟨qb,0,none⟩)] 51))
  (ca:∀X,Below W.heap.size W X->Calls Tryz.prog 66 #[.pointer (some ⟨qa,0,none⟩),.int .i64 x] X (BRet (.tuple #[.string (Bk.text s.vs x),.bool (Bk.has s.vs x)]) X)) (cb:∀X,Below W.heap.size W X->Calls Tryz.prog 66 #[.pointer (some ⟨qb,0,none⟩),.int .i64 x] X (BRet (.tuple #[.string (Bk.text t.vs x),.bool (Bk.has t.vs x)]) X)):
  Calls Tryz.prog 65 #[.int .i64 x,.pointer (some ⟨g1,0,none⟩),.pointer (some ⟨g2,0,none⟩)] W (fun e w'=>e= .returned (.bool (Bk.dif s.vs t.vs x))/\Below W.heap.size W w'):=by
 have CA:=zh ca;have CB:=zh cb;have P2:=zh h2;have e1:W.cell? ⟨g1,0,none⟩=some (.pointer (some ⟨qa,0,none⟩)):=by rw[cell_of_row _ g1 0 _ _ _ h1];rfl
 have l1:=(Array.getElem?_eq_some_iff.1 h1).1;clear ca cb h1 h2;generalize Bk.has s.vs x=ha at*;generalize Bk.has t.vs x=hb at*;unfold Bk.dif;obtain⟨ta,hta⟩:∃ta,ta=Bk.text s.vs x:=⟨_,rfl⟩;obtain⟨tb,htb⟩:∃tb,tb=Bk.text t.vs x:=⟨_,rfl⟩;rw[<-hta]at CA⊢;rw[<-htb]at CB⊢;clear hta htb;go_in;go_upto_region 2 with(go_at_call 66;(with_reducible refine(CA.out _ (Below.refl _ _)).mono ?_);rintro e w1 ⟨rfl,hb1⟩;have B1:=zh hb1;clear hb1)
 clear e1 l1;have e2:w1.cell? ⟨g2,0,none⟩=some (.pointer (some ⟨qb,0,none⟩)):=by rw[cell_of_row _ g2 0 _ _ _ (jag P2.out B1.out)];rfl
 have l2:=(Array.getElem?_eq_some_iff.1 (jag P2.out B1.out)).1;go_upto_region 3 with(go_at_call 66;(with_reducible refine(CB.out _ B1.out).mono ?_);rintro e w2 ⟨rfl,hb2⟩;have B2:=zh (B1.out.trans (hb2.mono B1.out.size));clear hb2)
 clear e2 l2;go_wp2;go_ret;exact⟨rfl,B2.out⟩
def FnI(g1 g2:Nat)(p:Int->Bool)(w0:World)(l:List Int):Prop:=
 ∀W x,x∈l->Below w0.heap.size w0 W->Calls Tryz.prog 65 #[.int .i64 x,.pointer (some ⟨g1,0,none⟩),.pointer (some ⟨g2,0,none⟩)] W (fun e w'=>e= .returned (.bool (p x))/\Below W.heap.size W w')
theorem jn7(g1 g2:Nat)(p:Int->Bool)(l:List Int)(n c:Nat)(A:Option Addr)(w:World)(h:SlI w A n c l)(hp:FnI g1 g2 p w l):
  Calls Tryz.prog 127 #[.slice A n c,.func (.func 65) #[] #[.pointer (some ⟨g1,0,none⟩),.pointer (some ⟨g2,0,none⟩)]] w (fun e w'=>∃i:Int,e= .returned (.int .i64 i)/\(0<=i↔l.any p=true)/\Below w.heap.size w w'):=by
 have HN:=zh h.len;have hmx:=h.max;have hcp:=h.cap;unfold maxLen at hmx;have HA:=zh h;have HP:=zh hp;clear h hp;go_in;go_wp2_with fail;go_loopw [5,8] (fun _ i wr=>∃j:Nat,j<=n/\i= .int .i64 j/\(∀x∈l.take j,p x=false)/\Below w.heap.size w wr) (fun _ i _=>n -(intOf i).toNat)
 case atStart=>exact⟨0,zv,rfl,by simp,Below.refl _ _⟩
 case round=>
  obtain⟨j,hj,rfl,hok,hbr⟩:=hrel;have OK:=zh hok;have B:=zh hbr;clear hok hbr;by_cases hlt:j<n
  ·have hjl:j<l.length:=by have:=HN.out;omega
   obtain⟨b1,o1,rfl,_,_⟩:=HA.out.rd zv;obtain⟨b',o',e',hbb,hcc⟩:=(HA.out.on B.out).rd zv;injection e' with e';injection e' with x1 x2;subst x1 x2
   have f1:=hcc j hjl;have EA:Hid (l[j]? =some (l.getD j 0)):=by
    show _=_;rw[List.getD_eq_getElem?_getD,List.getElem?_eq_getElem hjl];rfl
   generalize l.getD j 0=x at*;have HM:Hid (x∈l):=List.mem_of_getElem? EA.out;have CC:=zh (HP.out _ x HM.out B.out);have i1:(0:Int)<=(j:Int):=by omega
   have i2:(j:Int)<(n:Int):=by omega
   clear hcc
   cases hq:p x with
   |true=>
    rw[hq]at CC;have HQ:=zh hq;clear hq;go_wp2_with(go_at_call 65;(with_reducible refine CC.out.mono ?_);rintro e w1 ⟨rfl,hb1⟩;have B1:=zh (B.out.trans (hb1.mono B.out.size));clear hb1);go_ret;refine⟨_,rfl,?_,B1.out⟩;rw[List.any_eq_true];exact⟨fun _=>⟨x,HM.out,HQ.out⟩,fun _=>by omega⟩
   |false=>
    rw[hq]at CC;have HQ:=zh hq;clear hq;go_wp2_with(go_at_call 65;(with_reducible refine CC.out.mono ?_);rintro e w1 ⟨rfl,hb1⟩;have B1:=zh (B.out.trans (hb1.mono B.out.size));clear hb1);refine⟨⟨j+1,zv,by go_num,fun o ho=> ?_,B1.out⟩,by simp[intOf];omega⟩;rw[List.take_add_one,EA.out]at ho;rcases List.mem_append.1 ho with ho|ho
    ·exact OK.out o ho
    ·simp at ho;subst ho;exact HQ.out
  ·have E:Hid (l.take j=l):=List.take_of_length_le (by have:=HN.out;omega)
   rw[E.out]at OK;go_wp2;go_ret;refine⟨_,rfl,?_,B.out⟩;rw[List.any_eq_true];refine⟨fun h=>by omega,fun⟨o,ho,hp⟩=> ?_⟩;rw[OK.out o ho]at hp
   cases hp
theorem jsi(g1 g2:Nat)(p:Int->Bool)(l:List Int)(n c:Nat)(A:Option Addr)(w:World)(h:SlI w A n c l)(hp:FnI g1 g2 p w l):
  Calls Tryz.prog 68 #[.slice A n c,.func (.func 65) #[] #[.pointer (some ⟨g1,0,none⟩),.pointer (some ⟨g2,0,none⟩)]] w (fun e w'=>e= .returned (.bool (l.any p))/\Below w.heap.size w w'):=by
 have C:=zh (jn7 g1 g2 p l n c A w h hp);clear h hp;generalize l.any p=b at C⊢;go_in;go_wp2_with(go_at_call 127;(with_reducible refine C.out.mono ?_);rintro e w1 ⟨i,rfl,hi,hb1⟩;have B1:=zh hb1;have HI:=zh hi;clear hb1 hi);go_ret;refine⟨?_,B1.out⟩
 cases b with
 |true=>
  have:0<=i:=HI.out.2 rfl;simp[this]
 |false=>
  have:¬0<=i:=fun h=>by have:=HI.out.1 h;cases this
  simp[this]
theorem jsj{w0 w1 W:World}{F G:Nat->Prop}{qa qb:Nat}{s t:Bk.St}(ha:BP w0 F qa s W)(hb:BP w1 G qb t W)(ht:BT W):Calls Tryz.prog 32 #[.pointer (some ⟨qa,0,none⟩),.pointer (some ⟨qb,0,none⟩)] W (jgi (s.vs=t.vs) W):=by
 have OKA:=zh (bp_ok ha);have OKB:=zh (bp_ok hb);have HVS:=zh (Bk.vs_same OKA.out.rise OKB.out.rise);have x1:Below W.heap.size W (W.alloc (.cells #[.pointer (some ⟨qa,0,none⟩)] 51)):=(Below.refl _ _).alloc (Nat.le_refl _) _;have p1:=heap_alloc_new W (.cells #[.pointer (some ⟨qa,0,none⟩)] 51);obtain⟨g1,hg1⟩:∃g,g=W.heap.size:=⟨_,rfl⟩;have hs1:(W.alloc (.cells #[.pointer (some ⟨qa,0,none⟩)] 51)).heap.size=g1+1:=by simp[hg1]
 obtain⟨W1,hW1⟩:∃W1,W1=W.alloc (.cells #[.pointer (some ⟨qa,0,none⟩)] 51):=⟨_,rfl⟩;rw[<-hW1]at x1 p1 hs1;rw[<-hg1]at p1;have x2:Below W1.heap.size W1 (W1.alloc (.cells #[.pointer (some ⟨qb,0,none⟩)] 51)):=(Below.refl _ _).alloc (Nat.le_refl _) _;have p2:=heap_alloc_new W1 (.cells #[.pointer (some ⟨qb,0,none⟩)] 51);have p1b:=jag p1 x2;rw[hs1]at p2;have B2:=zh (x1.trans (x2.mono x1.size));obtain⟨W2,hW2⟩:∃W2,W2=W1.alloc (.cells #[.pointer (some ⟨qb,0,none⟩)] 51):=⟨_,rfl⟩;rw[<-hW2]at B2 p1b p2;have P1:=zh p1b;have P2:=zh p2;have EW:Hid ((W.alloc (.cells #[.pointer (some ⟨qa,0,none⟩)] 51)).alloc (.cells #[.pointer (some ⟨qb,0,none⟩)] 51)=W2):=by show _=_;rw[hW2,hW1]
 have DA:=zh (jb6 ha B2.out);have DB:=zh (jb6 hb B2.out);have TT:=zh (ht.on B2.out);have EG:=zh hg1;clear ha hb ht x1 x2 p1 p1b p2 hs1 hW1 hW2 hg1;have e1:W2.cell? ⟨g1,0,none⟩=some (.pointer (some ⟨qa,0,none⟩)):=by rw[cell_of_row _ g1 0 _ _ _ P1.out];rfl
 have l1:=(Array.getElem?_eq_some_iff.1 P1.out).1;go_in;go_upto_region 1 with fail
 rw[EW.out,<-EG.out];clear EW EG;have LA:Hid ((s.vs.map (·.n)).length=s.vs.length):=List.length_map _;have LB:Hid ((t.vs.map (·.n)).length=t.vs.length):=List.length_map _;have la:s.vs.length<=64:=OKA.out.vl;have lb:t.vs.length<=64:=OKB.out.vl;go_upto_region 3 with(go_at_call 64;(with_reducible refine(jlb DA.out).mono ?_);rintro e w3 ⟨A5,c5,rfl,h1,h2,h3⟩;rw[LA.out]at h1⊢;have VA:=zh (jse h1);have B3:=zh h2;have DB3:=zh (jb6 DB.out h2);clear h1 h2 h3)
 clear e1 l1;have e2:w3.cell? ⟨g1+1,0,none⟩=some (.pointer (some ⟨qb,0,none⟩)):=by rw[cell_of_row _ (g1+1) 0 _ _ _ (jag P2.out B3.out)];rfl
 have l2:=(Array.getElem?_eq_some_iff.1 (jag P2.out B3.out)).1;have HVS2:=zh (show(∀n∈s.vs.map (·.n),Bk.text s.vs n=Bk.text t.vs n)↔(s.vs.map (·.n)).any (Bk.dif s.vs t.vs)=false from by
  rw[Bool.eq_false_iff,ne_eq,List.any_eq_true];constructor
  ·rintro h ⟨n,hn,hd⟩
   exact Bk.dif_iff.1 hd (h n hn)
  ·intro h n hn
   exact Decidable.byContradiction fun hne=>h ⟨n,hn,Bk.dif_iff.2 hne⟩)
 have BN:Hid (∀n∈s.vs.map (·.n),b64In n):=fun n hn=>by
  obtain⟨v,hv,rfl⟩:=List.mem_map.1 hn;exact⟨by have:=OKA.out.vs v hv;omega,by have:=OKA.out.vs v hv;omega⟩
 by_cases hv:s.vs.map (·.n)=t.vs.map (·.n)
 ·have HV:=zh hv
  clear hv;have FI:Hid (∀X,Below W2.heap.size W2 X->FnI g1 (g1+1) (Bk.dif s.vs t.vs) X (s.vs.map (·.n))):=fun X hX Y n hn hY=>by
   have hb:=hX.trans (hY.mono hX.size);exact jsh g1 (g1+1) qa qb s t n Y (jag P1.out hb) (jag P2.out hb) (fun Z hZ=>jj4 (jb6 DA.out (hb.trans (hZ.mono hb.size))) (TT.out.on (hb.trans (hZ.mono hb.size))) n (BN.out n hn)) (fun Z hZ=>jj4 (jb6 DB.out (hb.trans (hZ.mono hb.size))) (TT.out.on (hb.trans (hZ.mono hb.size))) n (BN.out n hn))
  have AN:Hid ((s.vs.map (·.n)).any (Bk.dif s.vs t.vs)=false↔s.vs=t.vs):=by
   show _↔_;rw[<-HVS2.out];exact⟨fun h=>HVS.out.2 ⟨HV.out,h⟩,fun h=>(HVS.out.1 h).2⟩
  go_wp2_with(first
   |(go_at_call 64;(with_reducible refine(jlb DB3.out).mono ?_);rintro e w4 ⟨A6,c6,rfl,h1,h2,h3⟩;rw[LB.out]at h1⊢;have VB:=zh (jse h1);have VA4:=zh (VA.out.on h2);have B4:=zh (B3.out.trans (h2.mono B3.out.size));clear h1 h2 h3 e2 l2)
   |(go_at_call 67;(with_reducible refine(jj3 A5 A6 _ _ c5 c6 _ _ _ VA4.out VB.out zv zv).mono ?_);rintro e w5 ⟨⟨z,rfl,hz⟩,hb⟩;obtain rfl:z=true:=hz.2 HV.out;have VA5:=zh (VA4.out.on hb);have B5:=zh (B4.out.trans (hb.mono B4.out.size));clear hz hb)
   |(go_at_call 68;(with_reducible refine(jsi g1 (g1+1) _ _ _ c5 A5 _ VA5.out (FI.out _ B5.out)).mono ?_);rintro e w6 ⟨rfl,hb⟩;have B6:=zh (B2.out.trans ((B5.out.trans (hb.mono B5.out.size)).mono B2.out.size));clear hb))
  go_ret;refine⟨⟨_,rfl,?_⟩,B6.out⟩;rw[<-AN.out];simp
 ·have HV:=zh hv
  clear hv
  go_wp2_with(first
   |(go_at_call 64;(with_reducible refine(jlb DB3.out).mono ?_);rintro e w4 ⟨A6,c6,rfl,h1,h2,h3⟩;rw[LB.out]at h1⊢;have VB:=zh (jse h1);have VA4:=zh (VA.out.on h2);have B4:=zh (B3.out.trans (h2.mono B3.out.size));clear h1 h2 h3 e2 l2)
   |(go_at_call 67;(with_reducible refine(jj3 A5 A6 _ _ c5 c6 _ _ _ VA4.out VB.out zv zv).mono ?_);rintro e w5 ⟨⟨z,rfl,hz⟩,hb⟩;obtain rfl:z=false:=Bool.eq_false_iff.2 (fun h=>HV.out (hz.1 h));have B5:=zh (B2.out.trans ((B4.out.trans (hb.mono B4.out.size)).mono B2.out.size));clear hz hb))
  go_ret;exact⟨⟨_,rfl,by simp only[Bool.false_eq_true,false_iff];exact fun h=>HV.out (HVS.out.1 h).1⟩,B5.out⟩
theorem jg7(q:Nat)(W:World):Calls Tryz.prog 30 #[.pointer (some ⟨q,0,none⟩)] W (BRet (.pointer (some ⟨q,0,none⟩)) W):=by
 go_in;go_wp2;go_ret;exact⟨rfl,Below.refl _ _⟩
end Go.Proofs.YtpehidgjfcfjoaaGreatDoor
