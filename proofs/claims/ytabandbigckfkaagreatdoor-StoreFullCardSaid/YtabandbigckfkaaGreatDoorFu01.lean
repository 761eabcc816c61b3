/- StoreFull: for every input the statement's function returns true, and its arguments read afterwards as before. The library's tables that the row lists lie as the program's text lays them (tied); no other condition. -/
import Derived.Test.YtabandbigckfkaaGreatDoorQt27
import Derived.Test.YtabandbigckfkaaGreatDoorQt28
import Derived.Test.YtabandbigckfkaaGreatDoorRows
import Derived.Test.YtabandbigckfkaaGreatDoorTie
import Derived.Test.YtabandbigckfkaaGreatDoorCards
import Derived.WalkKit
import Derived.ProofKit
import Derived.OpenShut
import Derived.ShutString
import Derived.ChangeOld
import Derived.Below
import Derived.LaidMore
import Derived.Lay
import Derived.SevenTiedAt
import Derived.Deep.Matrix
set_option maxHeartbeats 6400000
set_option maxRecDepth 100000
set_option linter.unusedSimpArgs false
set_option linter.unusedVariables false
namespace Go.Proofs.YtabandbigckfkaaGreatDoor
open Go.RowKit Go.Deep Go.Maps
theorem full_room(rm:Int):∃R:Nat,(IntKind.u64.wrap rm).tmod 400=(R:Int)∧R<400:=by
 rw[IntKind.wrap_u64];have h0:0≤rm%18446744073709551616:=Int.emod_nonneg _ (by omega);generalize rm%18446744073709551616=x at h0;refine⟨(x.tmod 400).toNat,?_,?_⟩<;>rw[Int.tmod_eq_emod_of_nonneg h0]<;>omega
theorem fits_small{R:Nat}(h:R<400):Dk.fits (R:Int)=R:=by unfold Dk.fits;omega
theorem com_len(m:Int)(R:Nat)(L:List Rc.R)(r:Rc.R):(So.com m R L r).length≤L.length+1:=by
 unfold So.com;split
 ·rw[List.length_append];exact Nat.le_refl _
 ·omega
theorem SA.okay{w0 W:World}{G:Nat→Prop}{p R:Nat}{m:Int}{L:List Rc.R}(h:SA w0 G p m R L W):(Fr.all (So.ens L)).length≤R:=by
 obtain⟨_,r,q,b,X,h1,_⟩:=h;exact h1.jr.dsk.okay.2.1
theorem SA.size{w0 W:World}{G:Nat→Prop}{p R:Nat}{m:Int}{L:List Rc.R}(h:SA w0 G p m R L W):p<W.heap.size:=by
 obtain⟨_,r,q,b,X,h1,_⟩:=h;exact h1.lt
theorem new_rows{w:World}{L V H:Value}(h:BkRd w (Bk.new 0) L V H):∀b,¬jfi L V H b:=by
 rintro b ⟨A,n,c,o,he,hA,hn⟩;obtain⟨⟨A1,c1,e1,_⟩,⟨A2,c2,e2,_⟩,⟨A3,c3,e3,_⟩⟩:=h;rcases he with e|e|e
 ·rw[e1]at e;injection e with _ e _;have:(Bk.tl (Bk.new 0)).length=0:=rfl;omega
 ·rw[e2]at e;injection e with _ e _;have:(Bk.new 0).vs.length=0:=rfl;omega
 ·rw[e3]at e;injection e with _ e _;have:(Bk.new 0).h.length=0:=rfl;omega
theorem storefull_walk(room:Int)(A:Option Addr)(k c:Nat)(l:List Rc.R)(hin:∀r∈l,Rc.In r)(W:World)(hs:SlF Bk.rcC W A k c l)(ht:BT W):Calls Tryz.prog 7 #[.int .i64 room,.slice A k c] W (BRet (.bool true) W):=by
 have hzb:=jbm;have T0:=zh ht;have S0:=zh hs;have HI:=zh hin;have HK:=zh hs.len;have hcap:=hs.cap;have hmax:=hs.max;have CL:=zh (slives_any W ht);obtain⟨R,hR,hR2⟩:=full_room room;have RL:=zh hR2;have CN:=zh (fun w (h:BT w)=>jof w (R:Int) 0 h);rw[fits_small hR2]at CN;have CB:=zh (fun w=>rbnew_any 0 w);have CX:Hid (∀s,Bk.Ok s→∀r,Rc.In r→∀L V H w,BkRd w s L V H→Calls Tryz.prog 32 #[.agg (Bk.cells s L V H),.agg (Rc.cells r)] w (jqy w)):=fun s ok r hr L V H w h=>bknext_head s ok r hr L V H w h;have CA:Hid (∀s,Bk.Ok s→∀r,Rc.In r→∀L V H w,BkRd w s L V H→Calls Tryz.prog 37 #[.agg (Bk.cells s L V H),.agg (Rc.cells r)] w (jb5 L V H w (Bk.app s r) (.int .i64 (Bk.chk s r)))):=fun s ok r hr L V H w h=>rfapp_any s ok r hr L V H w h;clear hs hin ht;go_enter Tryz.func7,Tryz.ntmps7;go_upto_region 4 with(go_at_call 11;(with_reducible refine CL.out.mono ?_);rintro e w1 ⟨rfl,hb⟩;have B1:=zh hb;clear hb CL)
 clear hR;have T1:=zh (T0.out.on B1.out);go_upto_region 6 with(first
   |(go_at_call 12;(with_reducible refine(CN.out _ T1.out).mono ?_);rintro e w2 ⟨p,rfl,hs⟩;have A2:=zh hs;clear hs CN)
   |(go_at_call 34;(with_reducible refine(CB.out _).mono ?_);rintro e w3 ⟨L,V,H,rfl,hrd,hb⟩;have B3:=zh hb;have RD:=zh hrd;have Z3:=zh (BkAt.zero w3);clear hb hrd CB)
   |((with_reducible show zW);refine jae rfl (.tmp 6) (.tmp 24) rfl rfl rfl Z3.out RD.out.one ?_))
 rw[World.setRow_alloc_new];have hb4:Below w3.heap.size w3 (w3.alloc (.cells (Bk.cells (Bk.new 0) L V H) 40)):=(Below.refl _ _).alloc (Nat.le_refl _) _;have hb5:Below w2.heap.size w2 (w3.alloc (.cells (Bk.cells (Bk.new 0) L V H) 40)):=B3.out.trans (hb4.mono B3.out.size);have NR:∀b,¬jfi L V H b:=new_rows RD.out;have hF:FuAt w1 (w3.alloc (.cells (Bk.cells (Bk.new 0) L V H) 40)) p 0 R [] w3.heap.size (Bk.new 0) L V H:=⟨BkAt.new _ _ _ _ _,RD.out.on hb4,(A2.out.more hb5).less (fun i hi=> .inr (hi.elim (fun e=>by rw[e];exact⟨B3.out.size,by simp⟩) (fun hr=>(NR i hr).elim))),Nat.le_trans A2.out.below.size B3.out.size,NR _⟩;generalize w3.alloc (.cells (Bk.cells (Bk.new 0) L V H) 40)=w4 at*;generalize w3.heap.size=g at*;have F4:=zh hF;clear hF NR hb4 hb5 A2 B3 RD Z3;go_wp2_with fail;go_loopw [7] (fun i wr=>∃(j:Nat) (Ls:List Rc.R) (s:Bk.St) (L V H:Value),j≤k∧j≤30∧i= .int .i64 j∧Ls.length≤j∧Bk.Ok s∧FuAt w1 wr p 0 R Ls g s L V H) (fun i _=>k -(intOf i).toNat)
 case atStart=>exact⟨0,[],_,L,V,H,by omega,by omega,rfl,Nat.le_refl _,Bk.new_ok 0,F4.out⟩
 case round=>
  clear F4;obtain⟨j,Ls,s,L,V,H,hj,hj30,rfl,hll,hok,hf⟩:=hrel;have FA:=zh hf;have LL:=zh hll;have OK:=zh hok;have J3:=zh hj30;clear hf hll hok;have i1:(0:Int)≤(j:Int):=by omega
  by_cases hlt:j<k∧j<30
  ·obtain⟨hlt,hlt3⟩:=hlt
   have hx:l[j]? =some (l[j]'(by have:=HK.out;omega)):=List.getElem?_eq_getElem _;generalize l[j]'(by have:=HK.out;omega)=r at hx;obtain⟨b,o,rfl,hbl,hrg⟩:=jp4 (S0.out.on (B1.out.trans (FA.out.st.below.mono B1.out.size))) hx;have RG:=zh hrg;have IR:Hid (Rc.In r):=HI.out r (List.mem_of_getElem? hx);have q1:((j:Nat):Int)<(k:Nat):=by omega
   have q2:((j:Nat):Int)<30:=by omega
   clear hx hrg hbl;have HJ:Hid (j<k∧j<30):=⟨hlt,hlt3⟩;clear hlt hlt3;go_upto_region 10 with(first
   |((with_reducible show zL 38);refine je4 rfl (.tmp 37) rfl b (o+j*18) (by simp[Act.eval,go_sem]) r RG.out ?_)
   |((with_reducible show zW);refine jaa rfl (.tmp 8) (.tmp 38) rfl wr.heap.size r Rc.none_ rfl rfl ⟨heap_alloc_new wr _⟩ ?_))
   rw[World.setRow_alloc_new];have RA:=zh (RcAt.new wr r);have BA:Hid (Below wr.heap.size wr (wr.alloc (.cells (Rc.cells r) 45))):=(Below.refl _ _).alloc (Nat.le_refl _) _;obtain⟨g8,hg8⟩:∃g8,g8=wr.heap.size:=⟨_,rfl⟩;have G8:Hid (wr.heap.size≤g8):=Nat.le_of_eq hg8.symm;rw[←hg8]at RA⊢;clear hg8;generalize wr.alloc (.cells (Rc.cells r) 45)=wa at*;have hm1:min (r.text.size:Int) 70=((min r.text.size 70:Nat):Int):=by omega
   have hl1:((min r.text.size 70:Nat):Int)≤(r.text.size:Int):=by omega
   have TI:Hid (Rc.In (Rc.txt_ r (r.text.extract 0 (min r.text.size 70)))):=⟨IR.out.nums,by show(r.text.extract 0 (min r.text.size 70)).size≤maxLen;have:=IR.out.text;rw[ByteArray.size_extract];omega,IR.out.sp⟩;generalize min r.text.size 70=mt at*;obtain⟨c0,c1,c2,c3,c4,c5,c6,c7,c8,c9,c10,c11,c12,c13,c14,c15,c16,c17,clt⟩:=RA.out.cs;have hz:=frozen_of_row wa g8 5 _ _ RA.out.row;go_upto_region 11 with fail
   have RC:=zh (rc_settext RA.out (r.text.extract 0 mt));have BC:=zh (BA.out.setCell (p:=⟨g8,5,none⟩) G8.out (.string (r.text.extract 0 mt)));clear hm1 hl1 c0 c1 c2 c3 c4 c5 c6 c7 c8 c9 c10 c11 c12 c13 c14 c15 c16 c17 clt hz BA RA RG;generalize wa.setCell ⟨g8,5,none⟩ (.string (r.text.extract 0 mt))=wb at*;obtain⟨r2,hr2⟩:∃r2,r2=Rc.txt_ r (r.text.extract 0 mt):=⟨_,rfl⟩;rw[←hr2]at RC TI;clear hr2;have FB:=zh (FA.out.on BC.out);go_upto_region 12 with(first
   |((with_reducible show zL 47);refine jab rfl (.tmp 6) rfl rfl FB.out.bk ?_)
   |((with_reducible show zL 48);refine zR (.tmp 8) RC.out ?_)
   |(go_at_call 32;(with_reducible refine(CX.out s OK.out r2 TI.out L V H _ FB.out.rd).mono ?_);rintro e wc ⟨x,rfl,hxi,hb⟩;have XI:=zh hxi;have BD:=zh (BC.out.trans (hb.mono BC.out.size));clear hxi hb RC)
   |((with_reducible show zW);refine jaa rfl (.tmp 9) (.tmp 49) rfl wc.heap.size x Rc.none_ rfl rfl ⟨heap_alloc_new wc _⟩ ?_))
   rw[World.setRow_alloc_new];have RX:=zh (RcAt.new wc x);have BE:Hid (Below wr.heap.size wr (wc.alloc (.cells (Rc.cells x) 45))):=BD.out.alloc BD.out.size _;obtain⟨g9,hg9⟩:∃g9,g9=wc.heap.size:=⟨_,rfl⟩;have G9:Hid (wr.heap.size≤g9):=by show _≤_;rw[hg9];exact BD.out.size
   rw[←hg9]at RX⊢;clear hg9 BC BD FB;generalize wc.alloc (.cells (Rc.cells x) 45)=wd at*;have LS:Hid (Ls.length≤1000):=by show _≤_;have:=LL.out;have:=HJ.out;omega
   have T9:Hid (BT w1):=T1.out;refine wp_region_held_drew (S:=fun V=>Below wr.heap.size wr V∧RcAt V g9 x) (by kernel_rfl) ⟨BE.out.trans ((Below.refl _ _).drew.mono BE.out.size),RX.out.on (Below.refl _ _).drew⟩ (fun hS=> ?_);refine tY 0 hS ?_;simp only[Act.put,zT,zO,zS];refine tY 2 hS ?_;simp only[Act.put,zT,zO,zS];refine rO 1 (fun K hK=> ?_);go_simp
   with_reducible refine(jgr (FA.out.st.on hS.1) LS.out).mono ?_
   rintro e w5 ⟨A5,c5,rfl,_,hb,_⟩;replace hS:=And.intro (hS.1.trans (hb.mono hS.1.size)) (hS.2.on hb);clear hb;refine hK.out _ _ hS (fun _=> ?_);clear hK K;try simp only[Act.put,zT,zO,zS]
   refine rO 3 (fun K hK=> ?_);go_simp
   with_reducible refine(stbytes_any (FA.out.st.on hS.1)).mono ?_
   rintro e w6 ⟨A6,c6,rfl,ho6,hb⟩;have OB6:=zh ho6;clear ho6;replace hS:=And.intro (hS.1.trans (hb.mono hS.1.size)) (hS.2.on hb);clear hb;refine hK.out _ _ hS (fun _=> ?_);clear hK K;refine tY 5 hS ?_;simp only[Act.put,zT,zO,zS];refine rO 4 (fun K hK=> ?_);have hcv:=conv_rd (c:=c6) OB6.out.sls.rd rfl;go_simp;clear hcv;refine hK.out _ _ hS (fun _=> ?_);clear hK K;refine tY 6 hS ?_;simp only[Act.put,zT,zO,zS];refine wpAnyH_done (by kernel_rfl) ?_ _;have B7:=zh hS.1;have R7:=zh hS.2;clear hS;go_upto_region 13 with fail
   refine wp_region_held_drew (S:=fun V=>Below wr.heap.size wr V∧RcAt V g9 x) (by kernel_rfl) ⟨B7.out.trans ((Below.refl _ _).drew.mono B7.out.size),R7.out.on (Below.refl _ _).drew⟩ (fun hS=> ?_);refine tY 0 hS ?_;simp only[Act.put,zT,zO,zS];refine tZ 2 (v:= .agg (Rc.cells x)) rfl (fun W hW=>jap (.tmp 9) rfl g9 x rfl hW.2) hS ?_;simp only[Act.put,zT,zO,zS];refine rO 1 (fun K hK=> ?_);go_simp
   with_reducible refine(jk5 (FA.out.st.on hS.1) T9.out LS.out).mono ?_
   rintro e w7 ⟨q,rfl,hk⟩;have K7:=zh hk;have hb:=jbr hk;clear hk;replace hS:=And.intro (hS.1.trans (hb.mono hS.1.size)) (hS.2.on hb);clear hb;refine hK.out _ _ hS (fun _=> ?_);clear hK K;try simp only[Act.put,zT,zO,zS]
   refine rO 3 (fun K hK=> ?_);go_simp
   with_reducible refine(jqn K7.out (T9.out.on0 (FA.out.st.on (hS.1)).below) XI.out).mono ?_
   rintro e w8 ⟨rfl,hb⟩;replace hS:=And.intro (hS.1.trans (hb.mono hS.1.size)) (hS.2.on hb);clear hb;refine hK.out _ _ hS (fun _=> ?_);clear hK K;refine tY 4 hS ?_;simp only[Act.put,zT,zO,zS];refine wpAnyH_done (by kernel_rfl) ?_ _;have B8:=zh hS.1;have R8:=zh hS.2;clear hS;have CM:=zh (jhx (FA.out.more B8.out) T9.out XI.out);have HZ:Hid (∀w':World,(∀i,((i=g∨jfi L V H i)∨(wr.heap.size≤i∧i<w8.heap.size))→i<w'.heap.size)→w8.heap.size≤w'.heap.size):=fun w' h=>by have h1:=R8.out.cs.lt;have h2:=G9.out;have:=h (w8.heap.size -1) (.inr ⟨by omega,by omega⟩);omega
   have OKY:=zh FA.out.st.okay;have CNO:=zh (fun h=>So.com_no (m:=0) (R:=R) (L:=Ls) (r:=x) h);have CFU:=zh (fun h hf=>So.com_full (m:=0) (R:=R) (L:=Ls) (r:=x) h hf);have CFI:=zh (fun h hf=>So.com_fits (m:=0) (R:=R) (L:=Ls) (r:=x) h hf);obtain⟨cc,hcc⟩:∃cc,cc=Bk.chk (Bk.all 0 Ls) x:=⟨_,rfl⟩;rw[←hcc]at CNO CFU CFI⊢;clear hcc;obtain⟨L2,hL2⟩:∃L2,L2=So.com 0 R Ls x:=⟨_,rfl⟩;obtain⟨E2,hE2⟩:∃E2,E2=So.comE 0 R Ls x:=⟨_,rfl⟩;rw[←hL2,←hE2]at CNO CFU CFI CM;clear hL2 hE2;obtain⟨n1,hn1⟩:∃n1,n1=(Fr.all (So.ens Ls)).length:=⟨_,rfl⟩;have N1:=zh hn1;have m1:n1≤R:=by rw[hn1];exact OKY.out
   clear hn1;have ER1:Hid ((((R -(Fr.all (So.ens Ls)).length:Nat):Nat):Int)=(R:Int) -n1):=by show _=_;rw[←N1.out];omega
   have TX:(txt (Fr.all (So.ens Ls))).size=n1:=by rw[N1.out];exact jbx _
   obtain⟨t1,ht1⟩:∃t1,t1=txt (Fr.all (So.ens Ls)):=⟨_,rfl⟩;have TE:Hid (txt (Fr.all (So.ens Ls))=t1):=ht1.symm;rw[←ht1]at TX⊢;clear ht1;have i2:(n1:Int)≤(R:Int):=by omega
   have i3:(R:Int)<400:=by have:=RL.out;omega
   have i4:(Ls.length:Int)≤30:=by have:=LL.out;have:=J3.out;omega
   by_cases h0:cc=0
   ·subst h0
    by_cases hf:So.Fits R Ls x
    ·have HF:=zh hf
     obtain⟨hLL,hEE⟩:=CFI.out (by trivial) HF.out;subst hEE;subst hLL;clear CNO CFU CFI;obtain⟨n2,hn2⟩:∃n2,n2=(Fr.all (So.ens (Ls++[x]))).length:=⟨_,rfl⟩;have N2:=zh hn2;have e2:n2=n1+((Rc.bytes x).length+6)∧n2≤R:=by
      have h:=HF.out;unfold So.Fits at h;rw[hn2,So.ens_snoc,Fr.all_append,List.length_append,Fr.all_one,Fr.fr_length];have:=N1.out;omega
     have m2:n1<n2:=by omega
     have m3:n2≤R:=e2.2;have m4:(n1:Int)<(n2:Int):=by omega
     have m5:¬((n2:Int)≤(n1:Int)):=by omega
     have m8:¬n2≤n1:=by omega
     have m9:((n2:Int)+((R:Int) -n2) !=(R:Int))=false:=by rw[bne_eq_false_iff_eq];omega
     have m6:¬((R:Int) -n1≤(R:Int) -n2):=by omega
     have i5:(n2:Int)≤(R:Int):=by omega
     clear hn2 e2 hf;have ER2:Hid ((((R -(Fr.all (So.ens (Ls++[x]))).length:Nat):Nat):Int)=(R:Int) -n2):=by show _=_;rw[←N2.out];omega
     have EL:Hid ((((Ls++[x]).length:Nat):Int)=(Ls.length:Int)+1):=by show _=_;rw[List.length_append,List.length_singleton];omega
     go_upto_region 20 with(first
   |((with_reducible show zL 60);refine zR (.tmp 9) R8.out ?_)
   |(go_at_call 23;(with_reducible refine CM.out.mono ?_);rintro e w9 hr;obtain⟨rfl,hf⟩:=FA.out.turn B8.out hr (HZ.out _ hr.2.1.lts);have FC:=zh hf.at_;have RC:Hid (RcAt w9 g9 x):=⟨(hf.new_ g9 G9.out R8.out.cs.lt).trans R8.out.row⟩;clear hr hf CM)
   |(go_at_call 21;(with_reducible refine(stbytes_any FC.out.st).mono ?_);rintro e w6 ⟨A6,c6,rfl,ho6,hb⟩;rw[←N2.out];clear ho6;have FC:=zh (FC.out.on hb);have RC:=zh (RC.out.on hb);clear hb)
   |(go_at_call 35;(with_reducible refine(jog FC.out.st).mono ?_);rintro e w6 ⟨rfl,hb⟩;rw[EL.out];have FC:=zh (FC.out.on hb);have RC:=zh (RC.out.on hb);clear hb)
   |(go_at_call 36;(with_reducible refine(stroom_any FC.out.st).mono ?_);rintro e w6 ⟨rfl,hb⟩;rw[ER2.out];have FC:=zh (FC.out.on hb);have RC:=zh (RC.out.on hb);clear hb))
     go_upto_region 21 with(first
   |((with_reducible show zL 128);refine jab rfl (.tmp 6) rfl rfl FC.out.bk ?_)
   |((with_reducible show zL 129);refine zR (.tmp 9) RC.out ?_)
   |(go_at_call 37;(with_reducible refine(CA.out s OK.out x XI.out L V H _ FC.out.rd).mono ?_);rintro e wf ⟨L2,V2,H2,rfl,hrd,hb,hnew⟩;have NW:=zh hnew;have RD6:=zh hrd;have BF:=zh hb;have X6:=zh (BkAt.zero wf);clear hnew hrd hb)
   |((with_reducible show zW);refine jae rfl (.tmp 14) (.tmp 131) rfl rfl rfl X6.out RD6.out.one ?_))
     rw[World.setRow_alloc_new];have hb9:Below wf.heap.size wf (wf.alloc (.cells (Bk.cells (Bk.app s x) L2 V2 H2) 40)):=(Below.refl _ _).alloc (Nat.le_refl _) _;have BG:=zh (BF.out.trans (hb9.mono BF.out.size));have RD7:=zh (RD6.out.on hb9);have K9:=zh (BkAt.new wf (Bk.app s x) L2 V2 H2);have FD:=zh (FC.out.on BG.out);clear hb9 BF RD6 X6;generalize wf.alloc (.cells (Bk.cells (Bk.app s x) L2 V2 H2) 40)=wg at*
     go_wp2_with(first
   |((with_reducible show zL 133);refine jab rfl (.tmp 14) rfl rfl K9.out ?_)
   |((with_reducible show zW);refine jae rfl (.tmp 6) (.tmp 133) rfl rfl rfl FD.out.bk RD7.out.one ?_))
     exact⟨⟨j+1,Ls++[x],Bk.app s x,L2,V2,H2,by have:=HJ.out;omega,by have:=HJ.out;omega,by go_num,by have:=LL.out;rw[List.length_append,List.length_singleton];omega,Bk.app_okay OK.out,FC.out.book BG.out RD7.out NW.out⟩,by simp[intOf];have:=HJ.out;omega⟩
    ·have HF:=zh hf
     obtain⟨hLL,hEE⟩:=CFU.out (by trivial) HF.out;subst hEE;have hLL2:=hLL.symm;subst hLL2;clear hLL CNO CFU CFI CA;have m10:((n1:Int)+((R:Int) -n1) !=(R:Int))=false:=by rw[bne_eq_false_iff_eq];omega
     go_wp2_with(first
   |((with_reducible show zL 60);refine zR (.tmp 9) R8.out ?_)
   |(go_at_call 23;(with_reducible refine CM.out.mono ?_);rintro e w9 hr;obtain⟨rfl,hf⟩:=FA.out.turn B8.out hr (HZ.out _ hr.2.1.lts);have FC:=zh hf.at_;have RC:Hid (RcAt w9 g9 x):=⟨(hf.new_ g9 G9.out R8.out.cs.lt).trans R8.out.row⟩;clear hr hf CM)
   |(go_at_call 21;(with_reducible refine(stbytes_any FC.out.st).mono ?_);rintro e w6 ⟨A6,c6,rfl,ho6,hb⟩;have hcv:=conv_rd (c:=c6) ho6.sls.rd rfl;rw[TE.out,←N1.out]at hcv;rw[←N1.out];clear ho6;have FC:=zh (FC.out.on hb);have RC:=zh (RC.out.on hb);clear hb)
   |(go_at_call 35;(with_reducible refine(jog FC.out.st).mono ?_);rintro e w6 ⟨rfl,hb⟩;have FC:=zh (FC.out.on hb);have RC:=zh (RC.out.on hb);clear hb)
   |(go_at_call 36;(with_reducible refine(stroom_any FC.out.st).mono ?_);rintro e w6 ⟨rfl,hb⟩;rw[ER1.out];have FC:=zh (FC.out.on hb);have RC:=zh (RC.out.on hb);clear hb))
     exact⟨⟨j+1,Ls,s,L,V,H,by have:=HJ.out;omega,by have:=HJ.out;omega,by go_num,by have:=LL.out;omega,OK.out,FC.out⟩,by simp[intOf];have:=HJ.out;omega⟩
   ·have h1:(cc !=0)=true:=by simpa using h0
    have H0:=zh h0;clear h0;obtain⟨hLL,hEE⟩:=CNO.out H0.out;subst hEE;have hLL2:=hLL.symm;subst hLL2;clear hLL CNO CFU CFI CA;have m10:((n1:Int)+((R:Int) -n1) !=(R:Int))=false:=by rw[bne_eq_false_iff_eq];omega
    go_wp2_with(first
   |((with_reducible show zL 60);refine zR (.tmp 9) R8.out ?_)
   |(go_at_call 23;(with_reducible refine CM.out.mono ?_);rintro e w9 hr;obtain⟨rfl,hf⟩:=FA.out.turn B8.out hr (HZ.out _ hr.2.1.lts);have FC:=zh hf.at_;have RC:Hid (RcAt w9 g9 x):=⟨(hf.new_ g9 G9.out R8.out.cs.lt).trans R8.out.row⟩;clear hr hf CM)
   |(go_at_call 21;(with_reducible refine(stbytes_any FC.out.st).mono ?_);rintro e w6 ⟨A6,c6,rfl,ho6,hb⟩;have hcv:=conv_rd (c:=c6) ho6.sls.rd rfl;rw[TE.out,←N1.out]at hcv;rw[←N1.out];clear ho6;have FC:=zh (FC.out.on hb);have RC:=zh (RC.out.on hb);clear hb)
   |(go_at_call 35;(with_reducible refine(jog FC.out.st).mono ?_);rintro e w6 ⟨rfl,hb⟩;have FC:=zh (FC.out.on hb);have RC:=zh (RC.out.on hb);clear hb)
   |(go_at_call 36;(with_reducible refine(stroom_any FC.out.st).mono ?_);rintro e w6 ⟨rfl,hb⟩;rw[ER1.out];have FC:=zh (FC.out.on hb);have RC:=zh (RC.out.on hb);clear hb))
    exact⟨⟨j+1,Ls,s,L,V,H,by have:=HJ.out;omega,by have:=HJ.out;omega,by go_num,by have:=LL.out;omega,OK.out,FC.out⟩,by simp[intOf];have:=HJ.out;omega⟩
  ·have hq:k≤j∨30≤j:=by omega
   have FIN:=zh (B1.out.trans (FA.out.st.below.mono B1.out.size));by_cases hjk:j<k
   ·have q1:((j:Nat):Int)<(k:Nat):=by omega
    have q2:(30:Int)≤(j:Nat):=by omega
    clear hq hlt;go_wp2_with fail;go_ret;exact⟨rfl,FIN.out⟩
   ·have q1:((k:Nat):Int)≤(j:Nat):=by omega
    clear hq hlt;go_wp2_with fail;go_ret;exact⟨rfl,FIN.out⟩
end Go.Proofs.YtabandbigckfkaaGreatDoor
namespace Go.Proofs.YtabandbigckfkaaGreatDoor.storeFull
open Go.ChangeShapes Go.WideShapes Go.ChangeAt Go.RowKit Go.Deep
open Go.ChangeMaps (open_string shut_string)
theorem own:ownKnob Tryz.prog.godebug=none:=by kernel_rfl
theorem laidOut:laidOutB Tryz.prog=true:=by kernel_rfl
theorem lifted(os:Os)(started:os.Started)(H:Type)(enc:TypeId×Value→H):
  ReturnsInHanded {} Tryz.checked os 7 .any (fun w args=>(Rows.storeFullSpec.pre enc Tryz.prog Tryz.f7 Rows.storeFullRow.domain false w args∧laidMetH Tryz.prog Rows.storeFullRow.laid w)∧sizedMet enc Tryz.prog Tryz.f7 (OpenSpec.ofChange Rows.storeFullSpec) false w args)
   (Rows.storeFullSpec.post enc Tryz.prog Tryz.f7 false true false false):=by
 refine ji7 (C:=Tryz.checked) (X:=fun w _=>laidMetH Tryz.prog Rows.storeFullRow.laid w) (fun _ _ _ hh h=>h.of_heap hh) own started (by kernel_rfl) Tryz.func7
  (ChangeSpec.witness_shaped (enc:=enc) (C:=Tryz.checked) (os:=os) (X:=fun w _=>laidMetH Tryz.prog Rows.storeFullRow.laid w) false (World.laidAll Tryz.prog os Rows.storeFullRow.laid) #[.int .i64 0,.slice none 0 0] 8 (World.laidAll_os _ _ _)
   (World.shaped_of_ZipB (by kernel_rfl) (by kernel_rfl)) (by kernel_rfl) (by kernel_rfl) (by kernel_rfl)
   (by rw[MakeChecks.laidMetH_plain _ _ _ (by kernel_rfl)];exact laidMet_laidAll _ (by kernel_rfl) (by kernel_rfl))) ?_
 intro W base args ds gs before hval0 hW hL hsh;have TB:BT W:=tb_of hL hsh;have hval:∀(j:Nat) t v,Tryz.f7.params[j]? =some t→args[j]? =some v→Value.okWide Tryz.prog W .any base t v:=hval0;have hW':=hW;obtain⟨p,q,hA0,hV,rfl,hfz,hnd⟩:=hW;have hA:DataW.TrodAll enc Tryz.prog W 0 (fun _=>true) true Tryz.f7.params.toList args.toList ds p:=hA0;rw[Tryz.params7]at hA hval;obtain⟨v0,vs0,d0,ds0,p0,q0,hargs,rfl,rfl,h0,r0⟩:=trodAll_cons hA;obtain⟨v1,vs1,d1,ds1,p1,q1,rfl,rfl,rfl,h1,r1⟩:=trodAll_cons r0;obtain⟨rfl,rfl,rfl⟩:=trodAll_nil r1;obtain rfl:args= #[v0,v1]:=by cases args;simp_all
 obtain⟨rfl,rfl⟩:=trodVars_none hV;obtain⟨a0,rfl,rfl,rfl,w0⟩:=open_int Tryz.underlying3 (hval 0 3 v0 rfl rfl) h0;obtain⟨a1,len1,cap1,rfl⟩:=okWide_slice Tryz.underlying28 (hval 1 28 v1 rfl rfl);have k1:=h1;have lt1:∀x∈p1,x.block<W.heap.size:=by obtain⟨m,hm⟩:=k1;exact DataW.trod_lt m _ _ _ hm
 obtain⟨l1,s1⟩:∃ts,SlF Bk.rcC W a1 len1 cap1 ts∧∀r∈ts,Rc.In r:=by
  obtain⟨fuel,hf⟩:=h1;exact recs_of hf
 clear hA0 hval0;refine(storefull_walk a0 a1 len1 cap1 l1 s1.2 W s1.1 TB).mono fun e W' ⟨he,bel⟩=> ?_;subst he;exact⟨_,rfl,_,_,_,[],_,[],hW',trodAll_mk1 (shut_bool Tryz.underlying4 _),(trodAll_cons_mk (shut_int Tryz.underlying3 w0) (trodAll_cons_mk (Below.trod laidOut (by kernel_rfl) (of_decide_eq_true (by kernel_rfl)) k1 bel lt1) trodAll_mk0)),rfl,bel.frame _,fun h=>by cases h⟩
theorem factA:mapsRowed Tryz.prog=true:=by kernel_rfl
theorem factB:Tryz.prog.inPlace 7=Rows.storeFullRow.inPlace:=by kernel_rfl
theorem factC:Tryz.prog.unfollowed 7=true:=by kernel_rfl
theorem factD:Tryz.prog.recurses 7=true:=by unfold Go.Program.recurses;rw[factC];rfl
theorem factE:Tryz.prog.varsNamed 7=Rows.storeFullRow.named:=by kernel_rfl
theorem facts:joinedFacts Tryz.prog 7 Tryz.f7 Rows.storeFullSpec Rows.storeFullRow=true:=by
 unfold joinedFacts;rw[laidOut,factA,factB,factC,factD,factE]
 kernel_rfl
theorem over:Rows.storeFullRow.holds Tryz.pinned (OpenSpec.ofChange Rows.storeFullSpec):=
 OpenClaim.holds_of_wide 7 Tryz.f7 rfl rfl rfl rfl rfl rfl rfl ⟨rfl,rfl,rfl,rfl,rfl⟩ rfl rfl rfl rfl rfl (by kernel_rfl) Tryz.func7 facts
  (of_decide_eq_true (by kernel_rfl)) (by unfold Func.isWrapper;first|(rw[if_pos (by decide+kernel)];kernel_rfl)|(rw[if_neg (by decide+kernel)];exact⟨rfl,rfl⟩))
  (fun os started H enc _=>lifted os started H enc)
theorem cardA:Rows.storeFullRow.wfByText (OpenSpec.ofChange Rows.storeFullSpec)=true:=by kernel_rfl
theorem cardB:Tryz.prog.mainIs=some (true,("93ce36b71c697741151fc2e667110544396b296939fc760b8c82ff88397341bf").toList):=by kernel_rfl
theorem cardC:true=Tryz.prog.looks []:=by kernel_rfl
theorem cardD:false=Rows.storeFullRow.goesBy Tryz.prog:=by kernel_rfl
theorem cardE:([3,28].all fun u=> !Tryz.prog.wantsStandIn u)=true:=by kernel_rfl
theorem proved:Rows.StoreFullCardSaid:=
 Claim7.holds_tied_plain_at .later [] [.data,.data,.data,.data,.data] true (true, "93ce36b71c697741151fc2e667110544396b296939fc760b8c82ff88397341bf") true over (fun _ h=>by cases h) cardA (fun _ h=>by cases h) storeFull_row_tie rfl ⟨rfl,rfl⟩ cardB rfl
  (fun f fn hf hfn=>by
   obtain rfl:f=7:=Option.some.inj ((show Tryz.prog.funcNamed Rows.storeFullRow.func=some 7 by kernel_rfl).symm.trans hf)|>.symm;obtain rfl:fn=Tryz.f7:=(Option.some.inj (Tryz.func7.symm.trans hfn)).symm;exact⟨cardC,fun j t ht=>by
    rw[Tryz.params7]at ht;have hm:t∈[3,28]:=by simpa using Array.mem_of_getElem? ht
    exact(show Tryz.prog.wantsStandIn t=false by simpa using List.all_eq_true.1 cardE t hm)⟩)
  cardD
end Go.Proofs.YtabandbigckfkaaGreatDoor.storeFull
