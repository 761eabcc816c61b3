/- StoreCompacts: for every input the statement's function returns true, and its arguments read afterwards as before. The library's tables that the row lists lie as the program's text lays them (tied); no other condition. -/
import Derived.Test.YtkinlcfhojjalaaGreatDoorQz30
import Derived.Test.YtkinlcfhojjalaaGreatDoorQz34
import Derived.Handed
import Derived.HandedShaped
import Derived.Stop.LaidErr
import Derived.Shelf.Vars
import Derived.MakeChecks
import Derived.Lay
import Derived.Test.YtkinlcfhojjalaaGreatDoorTie
import Derived.Test.YtkinlcfhojjalaaGreatDoorCards
import Derived.ShutString
import Derived.ChangeOld
import Derived.LaidMore
import Derived.SevenTiedAt
set_option maxHeartbeats 6400000
set_option maxRecDepth 100000
set_option linter.all false
namespace Go.Proofs.YtkinlcfhojjalaaGreatDoor
open Go.RowKit Go.Deep Go.Maps
section
variable{w:World}{op:Oper}{a:Act}{Q:Exit->Act->World->Prop}{K:Act->World->Prop}{g:Nat}{m R:Int}{A B:ByteArray}{l:Value}{s:Bk.St}{L V H:Value}
theorem jtd(x:Operand)(ho:op.op= .load 40 x)(hx:a.eval x= .pointer (some ⟨g,0,none⟩))(hg:SsAt w g m R A B l s L V H):(execOp a.eval op).run Tryz.prog w= .ok (.value (.agg (Ss.cs m R A B l (Bk.cells s L V H)).toArray)) w:=by
 have:=run_loadVar_row (P:=Tryz.prog) w g 40 40 _ (0,0) _ hg.row jdn rfl (jek ..);unfold execOp;simp only[ho,hx,Instr.loadAt,Instr.sureAddr,Sem.run_bind,Sem.run_pure,Result.andThen_ok,this]
theorem jfx{cs0:Array Value}(x y:Operand)(ho:op.op= .store 40 x y)(hx:a.eval x= .pointer (some ⟨g,0,none⟩))(hy:a.eval y= .agg (Ss.cs m R A B l (Bk.cells s L V H)).toArray)(hg:w.heap[g]? =some (.cells cs0 40 (0,0)))(hz:cs0.size=79)(h1:(Ss.cs m R A B l (Bk.cells s L V H)).toArray.all (·.oneCell')=true)
  (h:K (a.put op.dst undef) (w.setRow g (Ss.cs m R A B l (Bk.cells s L V H)).toArray)):Oper.wp Tryz.prog op a w K Q:=
 wp_store_row 40 x y ho g _ hx hy 40 _ hg (jek ..) (by rw[hz];rfl) h1 h
theorem jhg{fn:Func}{p u:Tmp}(h:fn.results= #[.tmp u,.cell p 40])(tmps:Array Value)(hp:tmps.getD p undef= .pointer (some ⟨g,0,none⟩))(hg:SsAt w g m R A B l s L V H):
  (results fn tmps).run Tryz.prog w= .ok (.tuple #[tmps.getD u undef,.agg (Ss.cs m R A B l (Bk.cells s L V H)).toArray]) w:=by
 have h1:=run_loadVar_row (P:=Tryz.prog) w g 40 40 _ (0,0) _ hg.row jdn rfl (jek ..);rw[Array.getD_eq_getD_getElem?]at hp;simp only[results,h];simp[Sem.run_bind,Result.andThen,hp,asAddr,h1]
end
theorem all_nil(m:Int):Bk.all m []=Bk.new m:=rfl
def jvy(m:Int)(R:Nat)(W:World)(e:Ending)(w':World):Prop:=∃p g A c L V H Ls,e= .returned (.tuple #[.pointer (some ⟨p,0,none⟩),.agg (Ss.cs m (R:Nat) (tA (So.disk R Ls)) (tB (So.disk R Ls)) (.slice A Ls.length c) (Bk.cells (Bk.all m Ls) L V H)).toArray])/\Ls.length<=30/\jc0 W w' p m R Ls g A c L V H
theorem zz8{p:Prop}(h:p:=by
 clear hq hlt;go_upto_region 11 with fail
 have D9:=zh ((Below.refl wr.heap.size wr).drew);have FD:=zh (FA.o.on D9.o);have Y7:Hid (wr.drew.heap[g7]? =some (.cells Ss.zeros 40 (0,0))):=(FD.o.st.below.block g7 L7.o).trans X7.o;clear D9;generalize hwd:wr.drew=wd at*;refine wp_region_held_drew (S:=fun X=>SsAt X g margin (R:Nat) (tA (So.disk R Ls)) (tB (So.disk R Ls)) (.slice A5 Ls.length c5) (Bk.all margin Ls) L V H) zk (by rw[hwd];exact FD.o.ss) (fun hS=> ?_);rw[hwd]at hS⊢;clear hwd;refine tY 0 hS ?_;refine tZ 1 (v:= .agg (Ss.cs margin (R:Nat) (tA (So.disk R Ls)) (tB (So.disk R Ls)) (.slice A5 Ls.length c5) (Bk.cells (Bk.all margin Ls) L V H)).toArray) rfl (fun W hW=>jtd (.tmp 9) rfl rfl hW) hS ?_;refine tY 2 hS ?_;simp only[Act.put,zT,zO,zS];refine rO 3 (fun K hK=> ?_);refine jfx (.tmp 7) (.tmp 58) rfl rfl rfl Y7.o rfl (Ss.one (l:= .slice A5 Ls.length c5) rfl FD.o.rd.one) ?_;have GR:=zh (ja6 wd g7 (Ss.cs margin (R:Nat) (tA (So.disk R Ls)) (tB (So.disk R Ls)) (.slice A5 Ls.length c5) (Bk.cells (Bk.all margin Ls) L V H)).toArray);have Z7:Hid (SsAt (wd.setRow g7 (Ss.cs margin (R:Nat) (tA (So.disk R Ls)) (tB (So.disk R Ls)) (.slice A5 Ls.length c5) (Bk.cells (Bk.all margin Ls) L V H)).toArray) g7 margin (R:Nat) (tA (So.disk R Ls)) (tB (So.disk R Ls)) (.slice A5 Ls.length c5) (Bk.all margin Ls) L V H):=⟨setRow_heap wd g7 _ _ _ _ Y7.o⟩;have E7:=zh (jm8 FD.o DN.o B1.o GR.o ⟨H7.o,L7.o⟩);have hS:=E7.o.ss;generalize wd.setRow g7 (Ss.cs margin (R:Nat) (tA (So.disk R Ls)) (tB (So.disk R Ls)) (.slice A5 Ls.length c5) (Bk.cells (Bk.all margin Ls) L V H)).toArray=we at*;refine hK.out _ _ hS (fun _=> ?_);clear hK K;try simp only[Act.put,zT,zO,zS]
 refine wpAnyH_done zk ?_ _;go_wp2_with fail;exact bodyPost_ret (jhg Tryz.results5 _ rfl Z7.o) rfl ⟨p,g,A5,c5,L,V,H,Ls,rfl,by have:=LL.o;have:=J3.o;omega,E7.o⟩):p:=h
theorem jvz(room margin:Int)(A:Option Addr)(k c:Nat)(l:List Rc.R)(hin:∀r∈l,Rc.In r)(W:World)(hs:SlF Bk.rcC W A k c l)(ht:BT W):Calls Tryz.prog 5 #[.int .i64 room,.int .i64 margin,.slice A k c] W (jvy margin (Dk.fits room) W):=by
 have hz:=jfm;have T0:=zh ht;have HI:=zh hin;have HK:=zh hs.len;have hcap:=hs.cap;have hmax:=hs.max;have hb1:zF W (W.alloc (.cells Ss.zeros 40)):=zE;have X7:Hid ((W.alloc (.cells Ss.zeros 40)).heap[W.heap.size]? =some (.cells Ss.zeros 40 (0,0))):=heap_alloc_new W _;have S0:=zh (hs.on hb1);have B1:=zh hb1;have CN:=zh (fun w (h:BT w)=>jkj w room margin h);have CB:=zh (fun w=>jox room margin w);obtain⟨R,hR⟩:∃R:Nat,R=Dk.fits room:=zx;rw[<-hR]at CN CB⊢;clear hs hin ht hb1 hR;go_in;go_upto_region 1 with fail
 obtain⟨g7,hg7⟩:∃g,g=W.heap.size:=zx;rw[<-hg7]at X7⊢;have H7:Hid (W.heap.size<=g7):=Nat.le_of_eq hg7.symm;clear hg7;generalize W.alloc (.cells Ss.zeros 40)=W1 at*;have L7:Hid (g7<W1.heap.size):=(zg X7.o).1;have T1:=zh (T0.o.on B1.o);go_upto_region 2 with(first
   |(go_at_call 13;refine(CN.o _ T1.o).mono ?_;rintro e w2 ⟨p,rfl,hs⟩;have A2:=zh hs;clear hs CN)
   |(go_at_call 17;refine(CB.o _).mono ?_;rintro e w3 ⟨L,V,H,rfl,hrd,hb⟩;have B3:=zh hb;have RD:=zh hrd;clear hrd hb CB)
   |((with_reducible show zW);refine jav rfl (.tmp 9) (.tmp 20) rfl rfl rfl (heap_alloc_new w3 (.cells Ss.zeros 40)) rfl (Ss.one (l:= .slice none 0 0) rfl RD.o.one) ?_))
 rw[World.setRow_alloc_new];have hb4:zF w3 (w3.alloc (.cells (Ss.cs margin (R:Nat) ⟨#[]⟩ ⟨#[]⟩ (.slice none 0 0) (Bk.cells (Bk.new margin) L V H)).toArray 40)):=zE;have hb5:=B3.o.trans (hb4.mono B3.o.size);have NR:∀b,¬jfl L V H b:=jtc RD.o;have hd:jkp W1 w3.heap.size none L V H:=fun i hi=>by
  rcases hi with rfl|hi|⟨o,hi⟩
  ·exact Nat.le_trans A2.o.below.size B3.o.size
  ·exact(NR i hi).elim
  ·cases hi
 have hF:jc0 W1 (w3.alloc (.cells (Ss.cs margin (R:Nat) ⟨#[]⟩ ⟨#[]⟩ (.slice none 0 0) (Bk.cells (Bk.new margin) L V H)).toArray 40)) p margin R [] w3.heap.size none 0 L V H:=⟨SsAt.new _ _ _ _ _ _ _ _ _ _,RD.o.on hb4,SlF.none_ _,(A2.o.more hb5).less (fun i hi=> .inr (by
  rcases hi with rfl|hi|⟨o,hi⟩
  ·exact⟨B3.o.size,by simp⟩
  ·exact(NR i hi).elim
  ·cases hi)),Nat.le_trans A2.o.below.size B3.o.size,NR _,fun o e=>by cases e⟩
 have F4:=zh hF;have D4:=zh hd;clear hF hd NR hb4 hb5 A2 B3 RD;generalize w3.alloc (.cells (Ss.cs margin (R:Nat) ⟨#[]⟩ ⟨#[]⟩ (.slice none 0 0) (Bk.cells (Bk.new margin) L V H)).toArray 40)=w4 at*;generalize w3.heap.size=g at*;go_wp2_with fail;go_loopw [10] (fun i wr=>∃(j:Nat) (Ls:List Rc.R) (A5:Option Addr) (c5:Nat) (L V H:Value),j<=k/\j<=30/\i= .int .i64 j/\Ls.length<=j/\jc0 W1 wr p margin R Ls g A5 c5 L V H/\jkp W1 g A5 L V H) (fun i _=>k -(intOf i).toNat)
 case atStart=>exact⟨0,[],none,0,L,V,H,zv,zv,rfl,zl,F4.o,D4.o⟩
 case round=>
  clear F4 D4;obtain⟨j,Ls,A5,c5,L,V,H,hj,hj30,rfl,hll,hf,hdn⟩:=hrel;have FA:=zh hf;have DN:=zh hdn;have LL:=zh hll;have J3:=zh hj30;clear hf hll hdn;have i1:(0:Int)<=(j:Int):=by omega
  by_cases hlt:j<k/\j<30
  ·obtain⟨hlt,hlt3⟩:=hlt
   have hx:l[j]? =some (l[j]'(by have:=HK.o;omega)):=List.getElem?_eq_getElem _;generalize l[j]'(by have:=HK.o;omega)=r at hx;obtain⟨b,o,rfl,hbl,hrg⟩:=jc3 (S0.o.on FA.o.st.below) hx;have RG:=zh hrg;have IR:Hid (Rc.In r):=HI.o r (List.mem_of_getElem? hx);have q1:((j:Nat):Int)<(k:Nat):=by omega
   have q2:((j:Nat):Int)<30:=by omega
   clear hx hrg hbl;have HJ:Hid (j<k/\j<30):=⟨hlt,hlt3⟩;clear hlt hlt3;go_upto_region 6 with(first
   |((with_reducible show zL 34);refine jbm rfl (.tmp 33) rfl b (o+j*18) (by simp[Act.eval,go_sem]) r RG.o ?_)
   |((with_reducible show zW);refine jaa rfl (.tmp 11) (.tmp 34) rfl wr.heap.size r Rc.none_ rfl rfl ⟨heap_alloc_new wr _⟩ ?_))
   rw[World.setRow_alloc_new];have RA:=zh (RcAt.new wr r);have BA:Hid (zF wr (wr.alloc (.cells (Rc.cells r) 56))):=zE;obtain⟨g8,hg8⟩:∃g8,g8=wr.heap.size:=zx;have G8:Hid (wr.heap.size<=g8):=Nat.le_of_eq hg8.symm;rw[<-hg8]at RA⊢;clear hg8;generalize wr.alloc (.cells (Rc.cells r) 56)=wa at*;have hm1:min (r.text.size:Int) 70=((min r.text.size 70:Nat):Int):=by omega
   have hl1:((min r.text.size 70:Nat):Int)<=(r.text.size:Int):=by omega
   have TI:Hid (Rc.In (Rc.txt_ r (r.text.extract 0 (min r.text.size 70)))):=⟨IR.o.nums,by show(r.text.extract 0 (min r.text.size 70)).size<=maxLen;have:=IR.o.text;rw[ByteArray.size_extract];omega,IR.o.sp⟩;generalize min r.text.size 70=mt at*;obtain⟨c0,c1,c2,c3,c4,c6,c7,c8,c9,c10,c11,c12,c13,c14,c15,c16,c17,c18,clt⟩:=RA.o.cs;have hz2:=frozen_of_row wa g8 5 _ _ RA.o.row;go_upto_region 7 with fail
   have RC:=zh (jnv RA.o (r.text.extract 0 mt));have BC:=zh (BA.o.setCell (p:=⟨g8,5,none⟩) G8.o (.string (r.text.extract 0 mt)));clear hm1 hl1 c0 c1 c2 c3 c4 c6 c7 c8 c9 c10 c11 c12 c13 c14 c15 c16 c17 c18 clt hz2 BA RA RG;generalize wa.setCell ⟨g8,5,none⟩ (.string (r.text.extract 0 mt))=wb at*;obtain⟨r2,hr2⟩:∃r2,r2=Rc.txt_ r (r.text.extract 0 mt):=zx;rw[<-hr2]at RC TI;clear hr2;have FB:=zh (FA.o.on BC.o);have CX:=zh (jl5 (Bk.all margin Ls) (Bk.all_ok margin Ls) r2 TI.o L V H wb FB.o.rd);go_upto_region 8 with(first
   |((with_reducible show zL 44);refine jby rfl (.tmp 43) rfl rfl FB.o.ss ?_)
   |((with_reducible show zL 45);refine zR (.tmp 11) RC.o ?_)
   |(go_at_call 18;refine CX.o.mono ?_;rintro e wc ⟨x,rfl,hxi,hb⟩;have XI:=zh hxi;have BD:=zh (BC.o.trans (hb.mono BC.o.size));clear hxi hb RC)
   |((with_reducible show zW);refine jaa rfl (.tmp 12) (.tmp 46) rfl wc.heap.size x Rc.none_ rfl rfl ⟨heap_alloc_new wc _⟩ ?_))
   rw[World.setRow_alloc_new];have RX:=zh (RcAt.new wc x);have BE:Hid (zF wr (wc.alloc (.cells (Rc.cells x) 56))):=BD.o.alloc BD.o.size _;obtain⟨g9,hg9⟩:∃g9,g9=wc.heap.size:=zx;have G9:Hid (wr.heap.size<=g9):=by show _<=_;rw[hg9];exact BD.o.size
   rw[<-hg9]at RX⊢;clear hg9 BC BD FB CX;generalize wc.alloc (.cells (Rc.cells x) 56)=wd at*;have LS:Hid (Ls.length<=1000):=by show _<=_;have:=LL.o;have:=HJ.o;omega
   have CM:=zh (jfw (FA.o.more BE.o) T1.o XI.o);have CD:=zh (fun w (h:BkRd w (Bk.all margin Ls) L V H) (hr:SlF Bk.rcC w A5 Ls.length c5 Ls)=>jo1 margin R c5 A5 Ls FA.o.st.okd LS.o x XI.o L V H w h hr);have ZL:Hid ((So.com margin R Ls x).length<=Ls.length+1):=jvx margin R Ls x;obtain⟨Lz,hLz⟩:∃Lz,Lz=So.com margin R Ls x:=zx;obtain⟨Ez,hEz⟩:∃Ez,Ez=So.comE margin R Ls x:=zx;rw[<-hLz,<-hEz]at CM CD;rw[<-hLz]at ZL;clear hLz hEz;have HZ:Hid (∀w':World,(∀i,(ji6 g A5 L V H i\/(wr.heap.size<=i/\i<wd.heap.size))->i<w'.heap.size)->wd.heap.size<=w'.heap.size):=fun w' h=>by have h1:=RX.o.cs.lt;have h2:=G9.o;have:=h (wd.heap.size -1) (.inr ⟨zv,zv⟩);omega
   go_upto_region 9 with(first
   |((with_reducible show zL 48);refine zR (.tmp 12) RX.o ?_)
   |(go_at_call 14;refine CM.o.mono ?_;rintro e w9 hr;obtain⟨rfl,hss,hrd,hrow,hsa,hun⟩:=FA.o.turn hr BE.o (HZ.o _ hr.2.1.lts);have SS:=zh hss;have RD:=zh hrd;have RW:=zh hrow;have SAA:=zh hsa;have RY:Hid (RcAt w9 g9 x):=⟨(hun g9 G9.o RX.o.cs.lt).trans RX.o.row⟩;clear hr hss hrd hrow hsa hun CM))
   clear RX HZ;go_upto_region 10 with(first
   |((with_reducible show zL 51);refine jbq rfl (.tmp 9) rfl rfl SS.o ?_)
   |((with_reducible show zL 52);refine zR (.tmp 12) RY.o ?_)
   |(go_at_call 19;refine(CD.o _ RD.o RW.o).mono ?_;rintro e wf ⟨A6,c6,L6,V6,H6,rfl,h1,h2,h3,h4,h5⟩;have RW6:=zh h1;have RD6:=zh h2;have B6:=zh h3;have N6:=zh h4;have A6H:=zh h5;clear h1 h2 h3 h4 h5 CD)
   |((with_reducible show zW);refine jav rfl (.tmp 13) (.tmp 54) rfl rfl rfl (heap_alloc_new wf (.cells Ss.zeros 40)) rfl (Ss.one (l:= .slice A6 Lz.length c6) rfl RD6.o.one) ?_))
   rw[World.setRow_alloc_new];have hb9:zF wf (wf.alloc (.cells (Ss.cs margin (R:Nat) (tA (So.disk R Lz)) (tB (So.disk R Lz)) (.slice A6 Lz.length c6) (Bk.cells (Bk.all margin Lz) L6 V6 H6)).toArray 40)):=zE;have SN:=zh (SsAt.new wf margin (R:Nat) (tA (So.disk R Lz)) (tB (So.disk R Lz)) (.slice A6 Lz.length c6) (Bk.all margin Lz) L6 V6 H6);have B7:=zh (B6.o.trans (hb9.mono B6.o.size));have RD7:=zh (RD6.o.on hb9);have RW7:=zh (RW6.o.on hb9);have SS7:=zh (SS.o.on B7.o);clear hb9 B6;generalize wf.alloc (.cells (Ss.cs margin (R:Nat) (tA (So.disk R Lz)) (tB (So.disk R Lz)) (.slice A6 Lz.length c6) (Bk.cells (Bk.all margin Lz) L6 V6 H6)).toArray 40)=wg at*;generalize wf.heap.size=g13 at*
   go_wp2_with(first
   |((with_reducible show zL 56);refine jbq rfl (.tmp 13) rfl rfl SN.o ?_)
   |((with_reducible show zW);refine jav rfl (.tmp 9) (.tmp 56) rfl rfl rfl SS7.o.row rfl (Ss.one (l:= .slice A6 Lz.length c6) rfl RD7.o.one) ?_))
   exact⟨⟨j+1,Lz,A6,c6,L6,V6,H6,by have:=HJ.o;omega,by have:=HJ.o;omega,by go_num,by have:=LL.o;have:=ZL.o;omega,jtb SAA.o FA.o.ng SS.o.lt FA.o.gn FA.o.ga B7.o RW7.o RD7.o N6.o A6H.o _ SS7.o.row,jma DN.o (SAA.o.below.size) N6.o A6H.o⟩,by simp[intOf];have:=HJ.o;omega⟩
  ·have hq:k<=j\/30<=j:=by omega
   by_cases hjk:j<k
   ·have q1:((j:Nat):Int)<(k:Nat):=by omega
    have q2:(30:Int)<=(j:Nat):=by omega
    exact zz8
   ·have q1:((k:Nat):Int)<=(j:Nat):=by omega
    exact zz8
theorem So.aq:∀(l:List Rc.R),(∀r∈l,Rc.right r=true)->(Fr.all (So.ens l)).length<=l.length*306:=by
 intro l
 induction l with
 |nil=>intro _;exact zl
 |cons r l ih=>
  intro h;show(Fr.all ([Rc.bytes r]++So.ens l)).length<=_;rw[Fr.all_append,zA,Fr.all_one,Fr.fr_length,List.length_cons];have h1:=ih fun x hx=>h x (List.mem_cons_of_mem _ hx);have h2:=Rc.bytes_len (h r List.mem_cons_self);omega
theorem Bk.lq(s:Bk.St):Bk.Like s s:=⟨rfl,rfl,rfl,rfl,rfl,rfl,rfl,rfl,rfl,rfl,rfl,fun _ _=>rfl,rfl,rfl⟩
theorem jte{w0 W1 W W':World}{b:Nat}{s:Bk.St}(h:BP W1 (fun _=>False) b s W)(hg:∀i,W1.heap.size<=i->i<W.heap.size->W'.heap[i]? =W.heap[i]?)(hs:W.heap.size<=W'.heap.size)(hb:zF w0 W')(h01:w0.heap.size<=W1.heap.size):BP w0 (fun _=>False) b s W':=by
 obtain⟨Z,h1,h2,h3,h4⟩:=h;exact⟨Z,je4 h1 hs fun i hi=>hg i (h2 i hi) (jcz h1 i hi),fun i hi=>Nat.le_trans h01 (h2 i hi),fun i hi=>hi.elim,hb⟩
theorem jfa(margin:Int)(A:Option Addr)(k c:Nat)(l:List Rc.R)(hin:∀r∈l,Rc.In r)(W:World)(hs:SlF Bk.rcC W A k c l)(ht:BT W):Calls Tryz.prog 3 #[.int .i64 margin,.slice A k c] W (BRet (.bool true) W):=by
 have hz:=jfm;have HI:=zh hin;have T1:=zh ht;have S0:=zh hs;have CL:=zh (fun w (h:BT w)=>jo0 w h);have CF:=zh (fun w (h:BT w) (hs:SlF Bk.rcC w A k c l)=>jvz 10000 margin A k c l HI.o w hs h);rw[show Dk.fits 10000=10000 from rfl]at CF;obtain⟨R,hR⟩:∃R:Nat,R=10000:=zx;rw[<-hR]at CF;have HR:=zh hR;clear hs hin ht hR;go_in;go_upto_region 3 with(go_at_call 4;refine(CL.o _ T1.o).mono ?_;rintro e w1 ⟨rfl,hb⟩;have B2:=zh hb;have S1:=zh (S0.o.on hb);have T2:=zh (T1.o.on hb);clear hb CL)
 go_upto_region 4 with(first
  |(go_at_call 5;refine(CF.o _ T2.o S1.o).mono ?_;rintro e w2a ⟨p,g,A5,c5,L,V,H,Ls,rfl,hl30,hbo⟩;have FA:=zh hbo;have L30:=zh hl30;clear hl30 hbo CF)
  |((with_reducible show zW);refine jav rfl (.tmp 6) (.tmp 21) rfl rfl rfl (heap_alloc_new w2a (.cells Ss.zeros 40)) rfl (Ss.one (l:= .slice A5 Ls.length c5) rfl FA.o.rd.one) ?_))
 rw[World.setRow_alloc_new];have hb3:zF w2a (w2a.alloc (.cells (Ss.cs margin (R:Nat) (tA (So.disk R Ls)) (tB (So.disk R Ls)) (.slice A5 Ls.length c5) (Bk.cells (Bk.all margin Ls) L V H)).toArray 40)):=zE;have ST2:=zh (FA.o.st.on hb3);have BZ:=zh (B2.o.trans (ST2.o.below.mono B2.o.size));have TK:=zh FA.o.st.took;have T3:=zh (T1.o.on0 BZ.o);clear hb3 FA S0 S1;obtain⟨g8,hg8⟩:∃g,g=w2a.heap.size:=zx;rw[<-hg8];clear hg8;generalize w2a.alloc (.cells (Ss.cs margin (R:Nat) (tA (So.disk R Ls)) (tB (So.disk R Ls)) (.slice A5 Ls.length c5) (Bk.cells (Bk.all margin Ls) L V H)).toArray 40)=w2 at*;have LS:Hid (Ls.length<=1000):=Nat.le_trans L30.o zv;have AB:=zh (So.aq Ls (So.took_right TK.o));obtain⟨Lc,hLc⟩:∃Lc,Lc=Bk.dgo (Bk.new margin) Ls:=zx;have TKC:Hid (So.Took margin Lc):=by rw[hLc];exact So.took_dgo TK.o
 have LLE:Hid (Lc.length<=Ls.length):=by rw[hLc];exact(Bk.dgo_sub Ls _).length_le
 have ALE:Hid ((Fr.all (So.ens Lc)).length<=(Fr.all (So.ens Ls)).length):=by rw[hLc];exact So.all_sub (Bk.dgo_sub Ls _)
 have BKE:Hid (Bk.all margin Lc=Bk.all margin Ls):=by rw[hLc];exact Bk.all_dgo margin Ls
 have CC:=zh (fun(w:World) (G:Nat->Prop) (h:SA w1 G p margin R Ls w)=>ji4 h T2.o (by have:=L30.o;omega) (by have:=AB.o;have:=L30.o;have:=HR.o;omega));rw[<-hLc]at CC;clear hLc;obtain⟨n,hnn⟩:∃n,n=Ls.length:=zx;have NL:=zh hnn;obtain⟨z,hzz⟩:∃z,z=Lc.length:=zx;have ZL:=zh hzz;obtain⟨ra,hra⟩:∃ra,ra=R -(Fr.all (So.ens Ls)).length:=zx;obtain⟨rb,hrb⟩:∃rb,rb=R -(Fr.all (So.ens Lc)).length:=zx;have RAB:Hid (ra<=rb):=by rw[hra,hrb];have:=ALE.o;show _<=_;omega
 have QL:Hid ((Fr.all (So.ens Lc)).length<=10000):=by have:=ALE.o;have:=AB.o;have:=L30.o;show _<=_;omega
 have OA:=zh (So.of_all TKC.o);have CLEN:=zh (fun(w:World) (G:Nat->Prop) (h:SA w1 G p margin R Ls w)=>jhc h);have CLEN2:=zh (fun(w:World) (G:Nat->Prop) (h:SA w1 G p margin R Lc w)=>jhc h);have CROOM:=zh (fun(w:World) (G:Nat->Prop) (h:SA w1 G p margin R Ls w)=>jh7 h);have CROOM2:=zh (fun(w:World) (G:Nat->Prop) (h:SA w1 G p margin R Lc w)=>jh7 h);rw[<-hnn]at CLEN CC;rw[<-hzz]at CLEN2 CC;rw[<-hra]at CROOM;rw[<-hrb]at CROOM2;have LZ:Hid (z<=n/\n<=30):=by rw[hnn,hzz];exact⟨LLE.o,L30.o⟩
 clear hnn hzz hra hrb;go_wp2_with fail
 refine(jd2 ST2.o T2.o LS.o).mono ?_
 rintro e w3 ⟨q3,rfl,hk⟩;have K3:=zh hk;have hb:=jar hk;have ST3:=zh (ST2.o.more hb);have T4:=zh (T3.o.on hb);clear hk hb;go_wp2_with fail
 refine(CLEN.o _ _ ST3.o).mono ?_
 rintro e w4 ⟨rfl,hb⟩;have B34:=zh hb;have ST4:=zh (ST3.o.on hb);have T5:=zh (T4.o.on hb);clear hb CLEN;go_wp2_with fail
 refine(CROOM.o _ _ ST4.o).mono ?_
 rintro e w5 ⟨rfl,hb⟩;have B35:=zh (B34.o.trans (hb.mono B34.o.size));have ST5:=zh (ST4.o.on hb);have T6:=zh (T5.o.on hb);clear hb CROOM;go_wp2_with fail
 refine(CC.o _ _ ST5.o).mono ?_
 rintro e w6 ⟨rfl,hsa,hoth,hsz⟩;have SA6:=zh hsa;have K6:=zh (jte K3.o (fun i h1 h2=>(hoth i (.inr ⟨h1,h2⟩)).trans (B35.o.block i h2)) (Nat.le_trans B35.o.size hsz) hsa.below ST2.o.below.size);have B6:=zh (B2.o.trans (hsa.below.mono B2.o.size));have T7:=zh (T1.o.on0 B6.o);clear hsa hoth hsz CC ST5 K3 ST4 ST3 T6 T5 T4 B34 B35;have z1:((z:Nat):Int)<=(n:Nat):=by have:=LZ.o;omega
 have z2:((n:Nat):Int)<=30:=by have:=LZ.o;omega
 have z3:(0:Int)<=(z:Nat):=by omega
 have hw1:wrap64 (((n:Nat):Int) -(((n:Nat):Int) -((z:Nat):Int)))=((z:Nat):Int):=by rw[show((n:Nat):Int) -(((n:Nat):Int) -((z:Nat):Int))=((z:Nat):Int)from by omega];exact IntWalk.wrap64_in _ ⟨zv,zv⟩
 have hw2:IntKind.i64.wrap (((n:Nat):Int) -(((n:Nat):Int) -((z:Nat):Int)))=((z:Nat):Int):=by rw[show((n:Nat):Int) -(((n:Nat):Int) -((z:Nat):Int))=((z:Nat):Int)from by omega];exact IntWalk.i64_in _ ⟨zv,zv⟩
 have hw3:((n:Nat):Int) -(((n:Nat):Int) -((z:Nat):Int))=((z:Nat):Int):=by omega
 have hw4:(((z:Nat):Int) !=((z:Nat):Int))=false:=by simp
 have hr1:((ra:Nat):Int)<=(rb:Nat):=by have:=RAB.o;omega
 go_wp2_with fail
 refine(CLEN2.o _ _ SA6.o).mono ?_
 rintro e w7 ⟨rfl,hb⟩;have SA7:=zh (SA6.o.on hb);have K7:=zh (jbf K6.o hb);have B7:=zh (B6.o.trans (hb.mono B6.o.size));have T8:=zh (T7.o.on hb);clear hb CLEN2 SA6 K6 T7;go_wp2_with fail
 refine(CROOM2.o _ _ SA7.o).mono ?_
 rintro e w8 ⟨rfl,hb⟩;have SA8:=zh (SA7.o.on hb);have K8:=zh (jbf K7.o hb);have B8:=zh (B7.o.trans (hb.mono B7.o.size));have T9:=zh (T8.o.on hb);clear hb CROOM2 SA7 K7 T8;go_wp2_with fail
 (refine(jd2 SA8.o T2.o (by have:=LLE.o;have:=LS.o;omega)).mono ?_)
 rintro e w9 ⟨q9,rfl,hk⟩;rw[BKE.o]at hk;have K9b:=zh hk;have hb:=jar hk;have SA9:=zh (SA8.o.on hb);have K9:=zh (jbf K8.o hb);have B9:=zh (B8.o.trans (hb.mono B8.o.size));have T10:=zh (T9.o.on hb);clear hk hb SA8 K8 T9;go_wp2_with fail
 refine(jhf K9.o K9b.o T10.o).mono ?_
 rintro e w10 ⟨⟨x,rfl,hx⟩,hb⟩;obtain rfl:x=true:=hx.2 (Bk.lq _);have SA10:=zh (SA9.o.on hb);have K10:=zh (jbf K9.o hb);have B10:=zh (B9.o.trans (hb.mono B9.o.size));have T11:=zh (T10.o.on hb);clear hx hb SA9 K9 K9b T10;have CB:=zh (jl3 SA10.o);go_wp2_with fail
 refine CB.o.mono ?_
 rintro e w11 ⟨A6,c6,rfl,hob,hb⟩;have K11:=zh (jbf K10.o hb);have B11:=zh (B10.o.trans (hb.mono B10.o.size));have T12:=zh (T11.o.on hb);have CO:=zh (jhb w11 hob.sls 10000 margin T12.o QL.o (by rw[OA.o.2,So.ens_len];have:=LLE.o;have:=LS.o;omega));have CO1:=CO.o;rw[OA.o.1,OA.o.2,So.ens_len]at CO1;rw[show((Lc.length:Int) -((Lc.length:Nat):Int))=0 by omega]at CO1;have C5:=zh CO1;clear hob hb CB CO CO1 SA10 K10 T11;generalize(Fr.all (So.ens Lc)).length=ql at*;go_wp2_with fail
 refine C5.o.mono ?_
 rintro e w12 ⟨p5,rfl,hsa⟩;have SA12:=zh hsa;have hb:=hsa.below;have K12:=zh (jbf K11.o hb);have B12:=zh (B11.o.trans (hb.mono B11.o.size));have T13:=zh (T12.o.on hb);clear hsa hb C5 K11;go_wp2_with fail
 (refine(jd2 SA12.o T12.o (by have:=LLE.o;have:=LS.o;omega)).mono ?_)
 rintro e w13 ⟨q13,rfl,hk⟩;rw[BKE.o]at hk;have K13b:=zh hk;have hb:=jar hk;have K13:=zh (jbf K12.o hb);have B13:=zh (B12.o.trans (hb.mono B12.o.size));have T14:=zh (T13.o.on hb);clear hk hb K12 T13;go_wp2_with fail
 refine(jhf K13.o K13b.o T14.o).mono ?_
 rintro e w14 ⟨⟨x,rfl,hx⟩,hb⟩;obtain rfl:x=true:=hx.2 (Bk.lq _);have B14:=zh (B13.o.trans (hb.mono B13.o.size));clear hx hb;go_wp2;go_ret;exact⟨rfl,B14.o⟩
open Go
variable{H:Type}{enc:TypeId×Value->H}
theorem jem{a:Assume}{C:Checked}{os:Os}{f:FuncId}{fn:Func}{s:ChangeSpec}{conds:List PathCond}{apart fresh handsOn again:Bool}{X:World->Array Value->Prop}
  (hX:∀(w w':World) (args:Array Value),w.heap=w'.heap->X w args->X w' args)
  (own:ownKnob C.prog.godebug=none) (started:os.Started) (noInit:C.prog.inits.idxOf? f=none) (hfn:C.prog.funcs[f]? =some fn)
  (witness:∃(w:World) (tape:Tape) (i:Input),w.os=os/\(w.forCall tape i).Shaped C.prog/\i.vars=[]/\Input.okWide C.prog (w.forCall tape i) .any w.heap.size f i/\
   ((s.pre enc C.prog fn conds apart (w.forCall tape i).memory i.args/\X (w.forCall tape i).memory i.args)/\sizedMet enc C.prog fn (OpenSpec.ofChange s) apart (w.forCall tape i).memory i.args)/\a.holds C.prog (lone (Frame.enter C.prog f i.args .normal) [] (w.forCall tape i)))
  (contract:∀(W:World) (base:Nat) (args:Array Value) (ds gs:List (DataW H)) (before:List MemPlace),
   (∀(j:Nat) t v,fn.params[j]? =some t->args[j]? =some v->Value.okWide C.prog W .any base t v)->
   DataW.Whole enc C.prog fn.params.toList s.vars apart W args.toList ds gs before->
   X W args->W.ShapedOpen C.prog->
   Calls C.prog f args W fun e W'=>∃v,e= .returned v/\s.post enc C.prog fn apart fresh handsOn again W args v W'):
  ReturnsInHanded a C os f .any (fun w args=>(s.pre enc C.prog fn conds apart w args/\X w args)/\sizedMet enc C.prog fn (OpenSpec.ofChange s) apart w args) (s.post enc C.prog fn apart fresh handsOn again):=by
 refine returnsInHanded_of_calls own started noInit witness ?_;intro w tape i _ hsh _ hok hpre _;obtain⟨_,_,_,fn',hfn',_,_,_,_,hval⟩:=hok;have e:fn'=fn:=Option.some.inj (hfn'.symm.trans hfn);subst e;obtain⟨⟨⟨ds,gs,before,hw,_⟩,hx⟩,_⟩:=hpre;have hw':=DataW.Whole.of_heap (w':=w.forCall tape i) (by rfl) hw;refine(contract (w.forCall tape i) w.heap.size i.args ds gs before hval hw' (hX _ _ _ (by rfl) hx) hsh).mono fun e W' ⟨v,he,hp⟩=> ?_;subst he;exact ChangeSpec.post_blind hp
open Go.RowKit
theorem jo2:leaf3 (Rows.laid_pacesetter_phase_leads:DataW Unit)=jqz:=by kernel_rfl
theorem jo3:juy (Rows.laid_pacesetter_phase_words:DataW Unit)=jq0:=by kernel_rfl
theorem jv0:Rows.laid_internal_strconv_uint64pow10=(Lib.tabData .u64 Lib.pow10Tab:DataW Unit):=by kernel_rfl
theorem tb_of{W:World}(hL:laidMetH Tryz.prog Rows.storeCompactsRow.laid W)(_:W.ShapedOpen Tryz.prog):BT W:=by
 rw[MakeChecks.laidMetH_plain _ _ _ zk]at hL;refine⟨⟨?_⟩,?_,?_⟩
 ·have h3:=hL.tail.tail
  exact Lib.tabIs_of_head (n:=20) (t:=326) (e:=265) g_pow zk zk Tryz.underlying265 zk zk (jv0▸h3)
 ·have:=jmz (name:= "pacesetter/phase.leads") (d:=Rows.laid_pacesetter_phase_leads) (L:=leaf3) (t:=272) hL (by simp[Rows.storeCompactsRow]) jlp zk
   (fun _ _ _ _=>jg2 (fun _=>rfl) (jg2 (n:=9) (e:=3) (L:=jqu) (fun _=>rfl) (jqw Tryz.underlying3) Tryz.underlying271 zk) Tryz.underlying272 zk)
  rw[jo2]at this;exact this
 ·have:=jmz (name:= "pacesetter/phase.words") (d:=Rows.laid_pacesetter_phase_words) (L:=juy) (t:=270) hL (by simp[Rows.storeCompactsRow]) jir zk
   (fun _ _ _ _=>jg2 (fun _=>rfl) (jqx Tryz.underlying9) Tryz.underlying270 zk)
  rw[jo3]at this;exact this
end Go.Proofs.YtkinlcfhojjalaaGreatDoor
namespace Go.Proofs.YtkinlcfhojjalaaGreatDoor
namespace storeCompacts
open Go.ChangeShapes Go.WideShapes Go.ChangeAt Go.RowKit Go.Deep
open Go.ChangeMaps (open_string shut_string)
theorem own:ownKnob Tryz.prog.godebug=none:=by kernel_rfl
theorem lO:laidOutB Tryz.prog=true:=by kernel_rfl
theorem lF(os:Os)(started:os.Started)(H:Type)(enc:TypeId×Value->H):
  ReturnsInHanded {} Tryz.checked os 3 .any (fun w args=>(Rows.storeCompactsSpec.pre enc Tryz.prog Tryz.f3 Rows.storeCompactsRow.domain false w args/\laidMetH Tryz.prog Rows.storeCompactsRow.laid w)/\sizedMet enc Tryz.prog Tryz.f3 (OpenSpec.ofChange Rows.storeCompactsSpec) false w args)
   (Rows.storeCompactsSpec.post enc Tryz.prog Tryz.f3 false true false false):=by
 refine jem (C:=Tryz.checked) (X:=fun w _=>laidMetH Tryz.prog Rows.storeCompactsRow.laid w) (fun _ _ _ hh h=>h.of_heap hh) own started zk Tryz.func3
  (ChangeSpec.witness_shaped (enc:=enc) (C:=Tryz.checked) (os:=os) (X:=fun w _=>laidMetH Tryz.prog Rows.storeCompactsRow.laid w) false (World.laidAll Tryz.prog os Rows.storeCompactsRow.laid) #[zi,.slice none 0 0] 8 (World.laidAll_os _ _ _)
   (World.shaped_of_ZipB zk zk) zk zk zk
   (by rw[MakeChecks.laidMetH_plain _ _ _ zk];exact laidMet_laidAll _ zk zk)) ?_
 intro W base args ds gs before hval0 hW hL hsh;have TB:BT W:=tb_of hL hsh;have hval:∀(j:Nat) t v,Tryz.f3.params[j]? =some t->args[j]? =some v->Value.okWide Tryz.prog W .any base t v:=hval0;have hW':=hW;obtain⟨p,q,hA0,hV,rfl,hfz,hnd⟩:=hW;have hA:DataW.TrodAll enc Tryz.prog W 0 (fun _=>true) true Tryz.f3.params.toList args.toList ds p:=hA0;rw[Tryz.params3]at hA hval;obtain⟨v0,vs0,d0,ds0,p0,q0,hargs,rfl,rfl,h0,r0⟩:=trodAll_cons hA;obtain⟨v1,vs1,d1,ds1,p1,q1,rfl,rfl,rfl,h1,r1⟩:=trodAll_cons r0;obtain⟨rfl,rfl,rfl⟩:=trodAll_nil r1;obtain rfl:args= #[v0,v1]:=by cases args;simp_all
 obtain⟨rfl,rfl⟩:=trodVars_none hV;obtain⟨a0,rfl,rfl,rfl,w0⟩:=open_int Tryz.underlying3 (hval 0 3 v0 rfl rfl) h0;obtain⟨a1,len1,cap1,rfl⟩:=okWide_slice Tryz.underlying22 (hval 1 22 v1 rfl rfl);have k1:=h1;have lt1:∀x∈p1,x.block<W.heap.size:=by obtain⟨m,hm⟩:=k1;exact DataW.trod_lt m _ _ _ hm
 obtain⟨l1,s1⟩:∃ts,SlF Bk.rcC W a1 len1 cap1 ts/\∀r∈ts,Rc.In r:=by
  obtain⟨fuel,hf⟩:=h1;exact recs_of hf
 clear hA0 hval0;refine(jfa a0 a1 len1 cap1 l1 s1.2 W s1.1 TB).mono fun e W' ⟨he,bel⟩=> ?_;subst he;exact⟨_,rfl,_,_,_,[],_,[],hW',trodAll_mk1 (shut_bool Tryz.underlying4 _),(trodAll_cons_mk (shut_int Tryz.underlying3 w0) (trodAll_cons_mk (Below.trod lO zk (of_decide_eq_true zk) k1 bel lt1) trodAll_mk0)),rfl,bel.frame _,fun h=>by cases h⟩
theorem fA:mapsRowed Tryz.prog=true:=by kernel_rfl
theorem fB:Tryz.prog.inPlace 3=Rows.storeCompactsRow.inPlace:=by kernel_rfl
theorem fC:Tryz.prog.unfollowed 3=true:=by kernel_rfl
theorem fD:Tryz.prog.recurses 3=true:=by unfold Go.Program.recurses;rw[fC];rfl
theorem fE:Tryz.prog.varsNamed 3=Rows.storeCompactsRow.named:=by kernel_rfl
theorem facts:joinedFacts Tryz.prog 3 Tryz.f3 Rows.storeCompactsSpec Rows.storeCompactsRow=true:=by
 unfold joinedFacts;rw[lO,fA,fB,fC,fD,fE]
 kernel_rfl
theorem over:Rows.storeCompactsRow.holds Tryz.pinned (OpenSpec.ofChange Rows.storeCompactsSpec):=
 OpenClaim.holds_of_wide 3 Tryz.f3 rfl rfl rfl rfl rfl rfl rfl ⟨rfl,rfl,rfl,rfl,rfl⟩ rfl rfl rfl rfl rfl zk Tryz.func3 facts
  (of_decide_eq_true zk) (by unfold Func.isWrapper;first|(rw[if_pos (by decide+kernel)];kernel_rfl)|(rw[if_neg (by decide+kernel)];exact⟨rfl,rfl⟩))
  (fun os started H enc _=>lF os started H enc)
theorem kA:Rows.storeCompactsRow.wfByText (OpenSpec.ofChange Rows.storeCompactsSpec)=true:=by kernel_rfl
theorem kB:Tryz.prog.mainIs=some (true,("0b1531fb48787061d034e8df8a7c0fb0aaab952a9ed1ffe57eff4b6dfc16dc3f").toList):=by kernel_rfl
theorem kC:true=Tryz.prog.looks []:=by kernel_rfl
theorem kD:false=Rows.storeCompactsRow.goesBy Tryz.prog:=by kernel_rfl
theorem kE:([3,22].all fun u=> !Tryz.prog.wantsStandIn u)=true:=by kernel_rfl
theorem proved:Rows.StoreCompactsCardSaid:=
 Claim7.holds_tied_plain_at .later [] [.data,.data,.data,.data,.data,.sentinel,.sentinel] true (true, "0b1531fb48787061d034e8df8a7c0fb0aaab952a9ed1ffe57eff4b6dfc16dc3f") true over (fun _ h=>by cases h) kA (fun _ h=>by cases h) storeCompacts_row_tie rfl ⟨rfl,rfl⟩ kB rfl
  (fun f fn hf hfn=>by
   obtain rfl:f=3:=Option.some.inj ((show Tryz.prog.funcNamed Rows.storeCompactsRow.func=some 3 by kernel_rfl).symm.trans hf)|>.symm;obtain rfl:fn=Tryz.f3:=(Option.some.inj (Tryz.func3.symm.trans hfn)).symm;exact⟨kC,fun j t ht=>by
    rw[Tryz.params3]at ht;have hm:t∈[3,22]:=by simpa using Array.mem_of_getElem? ht
    exact(show Tryz.prog.wantsStandIn t=false by simpa using List.all_eq_true.1 kE t hm)⟩)
  kD
