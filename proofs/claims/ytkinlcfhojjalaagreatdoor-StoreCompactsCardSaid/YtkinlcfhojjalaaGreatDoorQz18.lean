import Derived.Test.YtkinlcfhojjalaaGreatDoorQz17
set_option maxHeartbeats 6400000
set_option maxRecDepth 100000
set_option linter.all false
namespace Go.Proofs.YtkinlcfhojjalaaGreatDoor
open Go.RowKit Go.Deep Go.Maps
theorem ju3{s:Bk.St}{ru ru':Nat->Bk.Un}{rv:Int}{lm km H:Value}(h:∀i,ru i=ru' i):Bd.cells s ru rv lm km H=Bd.cells s ru' rv lm km H:=by rw[show ru=ru' from funext h]
theorem jrc(q:Nat)(s:Bk.St)(ru:Nat->Bk.Un)(rv:Int)(lo ko:Option Nat)(H:Value)(K:Kv.St)(w:World)(h:BdIs w q s ru rv lo ko H K)(r:Rc.R)(hin:Rc.In r)(hk:r.kind=4)(hc:Bk.chk s r=0):Calls Tryz.prog 122 #[.pointer (some ⟨q,0,none⟩),.agg (Rc.cells r)] w (ja1 q lo ko H (Bk.act s r) (.tuple #[]) w):=by
 have HR:=zh (Bk.chk_right hc);have LK:=zh (Bd.act_lok h.lok hc);have H0:=zh h;rw[Bk.act4 hk]at LK⊢;have HK:=zh hk;have GQ:Hid (w.heap.size≠q):=by have:=h.lt.1;show _≠_;omega
 obtain⟨s9,hs9⟩:∃t,t=({s with h:=Bk.last24 (s.h++[r]),ph:=r.n,stable:=if r.n=3 then s.sp.v else s.stable}:Bk.St):=zx
 rw[<-hs9]at LK⊢;have HS:=zh hs9;clear hs9;obtain⟨W,hW⟩:∃W,W=w.alloc (.cells (Rc.cells r) 56):=zx;obtain⟨g,hg⟩:∃g,g=w.heap.size:=zx;have R0:=zh (RdC.open_ h r);rw[<-hW,<-hg]at R0;rw[<-hg]at GQ;clear h hk hc hin;go_in;go_upto_region 1 with fail
 rw[<-hW,<-hg];clear hW hg;have A0:=zh R0.o.bd.at_;have C0:=zh R0.o.rc;have K0:=zh (KQ.of R0.o.b q);have b9:=A0.o.cs.c9;have c3:=C0.o.cs.c3;have fz:=fun i=>A0.o.fz i;have lq:=A0.o.lt;have lg:=C0.o.cs.lt;go_upto_region 2 with fail
 clear b9 c3 fz lq lg;have A1:=zh (show BdAt ((W.setCell ⟨q,9,none⟩ (.int .i64 r.n))) q _ _ _ _ _ _ from(A0.o.ph r.n));have C1:=zh (ja9 C0.o GQ.o (9) (.int .i64 r.n));have K1:=zh (KQ.set K0.o (9) (.int .i64 r.n));generalize hW1:(W.setCell ⟨q,9,none⟩ (.int .i64 r.n))=W1 at*;clear hW1;clear A0 C0 K0;by_cases h3:r.n=3
 ·have h32:(r.n==3)=true:=by simpa using h3
  have H3:=zh h3;clear h3;have b7:=A1.o.cs.c7;have b14:=A1.o.cs.c14;have c3:=C1.o.cs.c3;have fz:=fun i=>A1.o.fz i;have lq:=A1.o.lt;have lg:=C1.o.cs.lt;go_upto_region 4 with fail
  clear b7 b14 c3 fz lq lg;have A2:=zh (show BdAt ((W1.setCell ⟨q,7,none⟩ (.int .i64 s.sp.v))) q _ _ _ _ _ _ from(A1.o.stable s.sp.v));have C2:=zh (ja9 C1.o GQ.o (7) (.int .i64 s.sp.v));have K2:=zh (KQ.set K1.o (7) (.int .i64 s.sp.v));generalize hW2:(W1.setCell ⟨q,7,none⟩ (.int .i64 s.sp.v))=W2 at*;clear hW2;clear A1 C1 K1;have CN:=zh (je3 q ({s with ph:=r.n,stable:=s.sp.v}) _ rv _ _ H r W2 A2.o (H0.o.hist K2.o) H0.o.qh H0.o.lok.ok.hl)
  go_wp2_with(first
   |((with_reducible show zL 24);refine zR (.tmp 3) C2.o ?_)
   |(go_at_call 181;refine CN.o.mono ?_;rintro e w9 hn;obtain⟨H9,rfl,hn⟩:=hn;have NP:=zh (show jb4 q ({s with ph:=r.n,stable:=s.sp.v}) _ rv _ _ H r W2 _ w9 from⟨H9,rfl,hn⟩);clear hn))
  go_end0;exact jm3 (s':=s9) H0.o K2.o NP.o (by rw[HS.o,if_pos H3.o]) (by rw[HS.o];rfl) (by rw[HS.o]) (by rw[HS.o];exact H0.o.raw) LK.o
 ·have h32:(r.n==3)=false:=by simpa using h3
  have H3:=zh h3;clear h3;have c3:=C1.o.cs.c3;have fz:=fun i=>A1.o.fz i;have lq:=A1.o.lt;have lg:=C1.o.cs.lt;go_upto_region 4 with fail
  clear c3 fz lq lg;have CN:=zh (je3 q ({s with ph:=r.n}) _ rv _ _ H r W1 A1.o (H0.o.hist K1.o) H0.o.qh H0.o.lok.ok.hl)
  go_wp2_with(first
   |((with_reducible show zL 24);refine zR (.tmp 3) C1.o ?_)
   |(go_at_call 181;refine CN.o.mono ?_;rintro e w9 hn;obtain⟨H9,rfl,hn⟩:=hn;have NP:=zh (show jb4 q ({s with ph:=r.n}) _ rv _ _ H r W1 _ w9 from⟨H9,rfl,hn⟩);clear hn))
  go_end0;exact jm3 (s':=s9) H0.o K1.o NP.o (by rw[HS.o,if_neg H3.o]) (by rw[HS.o];rfl) (by rw[HS.o]) (by rw[HS.o];exact H0.o.raw) LK.o
theorem jrd(q:Nat)(s:Bk.St)(ru:Nat->Bk.Un)(rv:Int)(lo ko:Option Nat)(H:Value)(K:Kv.St)(w:World)(h:BdIs w q s ru rv lo ko H K)(r:Rc.R)(hin:Rc.In r)(hk:r.kind=7)(hc:Bk.chk s r=0):Calls Tryz.prog 128 #[.pointer (some ⟨q,0,none⟩),.agg (Rc.cells r)] w (ja1 q lo ko H (Bk.act s r) (.tuple #[]) w):=by
 have HR:=zh (Bk.chk_right hc);have LK:=zh (Bd.act_lok h.lok hc);have H0:=zh h;rw[Bk.act7 hk]at LK⊢;have HK:=zh hk;have GQ:Hid (w.heap.size≠q):=by have:=h.lt.1;show _≠_;omega
 obtain⟨W,hW⟩:∃W,W=w.alloc (.cells (Rc.cells r) 56):=zx;obtain⟨g,hg⟩:∃g,g=w.heap.size:=zx;have R0:=zh (RdC.open_ h r);rw[<-hW,<-hg]at R0;rw[<-hg]at GQ;clear h hk hc hin;go_in;go_upto_region 1 with fail
 rw[<-hW,<-hg];clear hW hg;have A0:=zh R0.o.bd.at_;have C0:=zh R0.o.rc;have K0:=zh (KQ.of R0.o.b q);have b10:=A0.o.cs.c10;have b11:=A0.o.cs.c11;have c2:=C0.o.cs.c2;have c3:=C0.o.cs.c3;have fz:=fun i=>A0.o.fz i;have lq:=A0.o.lt;have lg:=C0.o.cs.lt;go_upto_region 1 with fail
 go_region;clear b10 b11 c2 c3 fz lq lg;have A1:=zh (show BdAt (((W.setCell ⟨q,10,none⟩ (.int .i64 r.who)).setCell ⟨q,11,none⟩ (.int .i64 r.n)).drew) q _ _ _ _ _ _ from(jef ((A0.o.step r.who).since r.n)));have C1:=zh (jg4 (ja9 (ja9 C0.o GQ.o (10) (.int .i64 r.who)) GQ.o (11) (.int .i64 r.n)));have K1:=zh (KQ.drew (KQ.set (KQ.set K0.o (10) (.int .i64 r.who)) (11) (.int .i64 r.n)));generalize hW1:((W.setCell ⟨q,10,none⟩ (.int .i64 r.who)).setCell ⟨q,11,none⟩ (.int .i64 r.n)).drew=W1 at*;clear hW1;have CN:=zh (je3 q ({s with step:=r.who,since:=r.n}) _ rv _ _ H r W1 A1.o (H0.o.hist K1.o) H0.o.qh H0.o.lok.ok.hl)
 go_wp2_with(first
  |((with_reducible show zL 17);refine zR (.tmp 3) C1.o ?_)
  |(go_at_call 181;refine CN.o.mono ?_;rintro e w9 hn;obtain⟨H9,rfl,hn⟩:=hn;have NP:=zh (show jb4 q ({s with step:=r.who,since:=r.n}) _ rv _ _ H r W1 _ w9 from⟨H9,rfl,hn⟩);clear hn))
 go_end0;exact jm3 H0.o K1.o NP.o rfl rfl rfl H0.o.raw LK.o
theorem jre(q:Nat)(s:Bk.St)(ru:Nat->Bk.Un)(rv:Int)(lo ko:Option Nat)(H:Value)(K:Kv.St)(w:World)(h:BdIs w q s ru rv lo ko H K)(r:Rc.R)(hin:Rc.In r)(hk:r.kind=3)(hc:Bk.chk s r=0):Calls Tryz.prog 120 #[.pointer (some ⟨q,0,none⟩),.agg (Rc.cells r)] w (ja1 q lo ko H (Bk.act s r) (.tuple #[]) w):=by
 have HR:=zh (Bk.chk_right hc);have LK:=zh (Bd.act_lok h.lok hc);have H0:=zh h;rw[Bk.act3 hk]at LK⊢;have HK:=zh hk;have GQ:Hid (w.heap.size≠q):=by have:=h.lt.1;show _≠_;omega
 obtain⟨W,hW⟩:∃W,W=w.alloc (.cells (Rc.cells r) 56):=zx;obtain⟨g,hg⟩:∃g,g=w.heap.size:=zx;have R0:=zh (RdC.open_ h r);rw[<-hW,<-hg]at R0;rw[<-hg]at GQ;clear h hk hc hin;go_in;go_upto_region 1 with fail
 rw[<-hW,<-hg];clear hW hg;have A0:=zh R0.o.bd.at_;have C0:=zh R0.o.rc;have K0:=zh (KQ.of R0.o.b q);have b7:=A0.o.cs.c7;have b8:=A0.o.cs.c8;have b9:=A0.o.cs.c9;have b14:=A0.o.cs.c14;have b15:=A0.o.cs.c15;have b16:=A0.o.cs.c16;have b17:=A0.o.cs.c17;have b18:=A0.o.cs.c18;have b19:=A0.o.cs.c19;have b20:=A0.o.cs.c20;have b21:=A0.o.cs.c21;have b22:=A0.o.cs.c22;have b23:=A0.o.cs.c23;have b24:=A0.o.cs.c24;have b25:=A0.o.cs.c25;have c6:=C0.o.cs.c6;have c7:=C0.o.cs.c7;have c8:=C0.o.cs.c8;have c9:=C0.o.cs.c9;have c10:=C0.o.cs.c10;have c11:=C0.o.cs.c11;have c12:=C0.o.cs.c12;have c13:=C0.o.cs.c13;have c14:=C0.o.cs.c14;have c15:=C0.o.cs.c15;have c16:=C0.o.cs.c16;have c17:=C0.o.cs.c17;have fz:=fun i=>A0.o.fz i;have lq:=A0.o.lt;have lg:=C0.o.cs.lt;go_upto_region 1 with fail
 go_region;clear b7 b8 b9 b14 b15 b16 b17 b18 b19 b20 b21 b22 b23 b24 b25 c6 c7 c8 c9 c10 c11 c12 c13 c14 c15 c16 c17 fz lq lg;have A1:=zh (show BdAt (((((((((((((((W.setCell ⟨q,14,none⟩ (.int .i64 r.sp.v)).setCell ⟨q,15,none⟩ (.int .i64 r.sp.d)).setCell ⟨q,16,none⟩ (.int .i64 r.sp.u)).setCell ⟨q,17,none⟩ (.int .i64 r.sp.n)).setCell ⟨q,18,none⟩ (.int .i64 r.sp.g)).setCell ⟨q,19,none⟩ (.int .i64 r.sp.a)).setCell ⟨q,20,none⟩ (.int .i64 r.sp.b)).setCell ⟨q,21,none⟩ (.int .i64 r.sp.c)).setCell ⟨q,22,none⟩ (.int .i64 r.sp.e)).setCell ⟨q,23,none⟩ (.int .i64 r.sp.w)).setCell ⟨q,24,none⟩ (.int .i64 r.sp.x)).setCell ⟨q,25,none⟩ (.int .i64 r.sp.k)).setCell ⟨q,9,none⟩ (.int .i64 1)).setCell ⟨q,8,none⟩ (.int .i64 s.stable)).drew) q _ _ _ _ _ _ from(jef (((A0.o.spec r.sp).ph 1).frm s.stable)));have C1:=zh (jg4 (ja9 (ja9 (ja9 (ja9 (ja9 (ja9 (ja9 (ja9 (ja9 (ja9 (ja9 (ja9 (ja9 (ja9 C0.o GQ.o (14) (.int .i64 r.sp.v)) GQ.o (15) (.int .i64 r.sp.d)) GQ.o (16) (.int .i64 r.sp.u)) GQ.o (17) (.int .i64 r.sp.n)) GQ.o (18) (.int .i64 r.sp.g)) GQ.o (19) (.int .i64 r.sp.a)) GQ.o (20) (.int .i64 r.sp.b)) GQ.o (21) (.int .i64 r.sp.c)) GQ.o (22) (.int .i64 r.sp.e)) GQ.o (23) (.int .i64 r.sp.w)) GQ.o (24) (.int .i64 r.sp.x)) GQ.o (25) (.int .i64 r.sp.k)) GQ.o (9) (.int .i64 1)) GQ.o (8) (.int .i64 s.stable)));have K1:=zh (KQ.drew (KQ.set (KQ.set (KQ.set (KQ.set (KQ.set (KQ.set (KQ.set (KQ.set (KQ.set (KQ.set (KQ.set (KQ.set (KQ.set (KQ.set K0.o (14) (.int .i64 r.sp.v)) (15) (.int .i64 r.sp.d)) (16) (.int .i64 r.sp.u)) (17) (.int .i64 r.sp.n)) (18) (.int .i64 r.sp.g)) (19) (.int .i64 r.sp.a)) (20) (.int .i64 r.sp.b)) (21) (.int .i64 r.sp.c)) (22) (.int .i64 r.sp.e)) (23) (.int .i64 r.sp.w)) (24) (.int .i64 r.sp.x)) (25) (.int .i64 r.sp.k)) (9) (.int .i64 1)) (8) (.int .i64 s.stable)));generalize hW1:((((((((((((((W.setCell ⟨q,14,none⟩ (.int .i64 r.sp.v)).setCell ⟨q,15,none⟩ (.int .i64 r.sp.d)).setCell ⟨q,16,none⟩ (.int .i64 r.sp.u)).setCell ⟨q,17,none⟩ (.int .i64 r.sp.n)).setCell ⟨q,18,none⟩ (.int .i64 r.sp.g)).setCell ⟨q,19,none⟩ (.int .i64 r.sp.a)).setCell ⟨q,20,none⟩ (.int .i64 r.sp.b)).setCell ⟨q,21,none⟩ (.int .i64 r.sp.c)).setCell ⟨q,22,none⟩ (.int .i64 r.sp.e)).setCell ⟨q,23,none⟩ (.int .i64 r.sp.w)).setCell ⟨q,24,none⟩ (.int .i64 r.sp.x)).setCell ⟨q,25,none⟩ (.int .i64 r.sp.k)).setCell ⟨q,9,none⟩ (.int .i64 1)).setCell ⟨q,8,none⟩ (.int .i64 s.stable)).drew=W1 at*;clear hW1;clear A0 C0 K0;have b10:=A1.o.cs.c10;have b11:=A1.o.cs.c11;have b12:=A1.o.cs.c12;have c3:=C1.o.cs.c3;have fz:=fun i=>A1.o.fz i;have lq:=A1.o.lt;have lg:=C1.o.cs.lt;go_upto_region 2 with fail
 go_region;clear b10 b11 b12 c3 fz lq lg;have A2:=zh (show BdAt ((((W1.setCell ⟨q,10,none⟩ (zi)).setCell ⟨q,11,none⟩ (.int .i64 r.n)).setCell ⟨q,12,none⟩ (.int .i64 r.n)).drew) q _ _ _ _ _ _ from(jef (((A1.o.step 0).since r.n).begun r.n)));have C2:=zh (jg4 (ja9 (ja9 (ja9 C1.o GQ.o (10) (zi)) GQ.o (11) (.int .i64 r.n)) GQ.o (12) (.int .i64 r.n)));have K2:=zh (KQ.drew (KQ.set (KQ.set (KQ.set K1.o (10) (zi)) (11) (.int .i64 r.n)) (12) (.int .i64 r.n)));generalize hW2:(((W1.setCell ⟨q,10,none⟩ (zi)).setCell ⟨q,11,none⟩ (.int .i64 r.n)).setCell ⟨q,12,none⟩ (.int .i64 r.n)).drew=W2 at*;clear hW2;have CN:=zh (je3 q ({s with sp:=r.sp,ph:=1,from_:=s.stable,step:=0,since:=r.n,begun:=r.n}) _ rv _ _ H r W2 A2.o (H0.o.hist K2.o) H0.o.qh H0.o.lok.ok.hl)
 go_wp2_with(first
  |((with_reducible show zL 40);refine zR (.tmp 3) C2.o ?_)
  |(go_at_call 181;refine CN.o.mono ?_;rintro e w9 hn;obtain⟨H9,rfl,hn⟩:=hn;have NP:=zh (show jb4 q ({s with sp:=r.sp,ph:=1,from_:=s.stable,step:=0,since:=r.n,begun:=r.n}) _ rv _ _ H r W2 _ w9 from⟨H9,rfl,hn⟩);clear hn))
 go_end0;exact jm3 H0.o K2.o NP.o rfl rfl rfl H0.o.raw LK.o
theorem jrf(q:Nat)(s:Bk.St)(ru:Nat->Bk.Un)(rv:Int)(lo ko:Option Nat)(H:Value)(K:Kv.St)(w:World)(h:BdIs w q s ru rv lo ko H K)(r:Rc.R)(hin:Rc.In r)(hk:r.kind=5)(hc:Bk.chk s r=0):Calls Tryz.prog 124 #[.pointer (some ⟨q,0,none⟩),.agg (Rc.cells r)] w (ja1 q lo ko H (Bk.act s r) (.tuple #[]) w):=by
 have HR:=zh (Bk.chk_right hc);have LK:=zh (Bd.act_lok h.lok hc);have H0:=zh h;rw[Bk.act5 hk]at LK⊢;have HK:=zh hk;have GQ:Hid (w.heap.size≠q):=by have:=h.lt.1;show _≠_;omega
 obtain⟨hw0,hw1,hw2⟩:=Rc.right5 hk HR.o;obtain⟨k,hkk⟩:=Int.eq_ofNat_of_zero_le hw0.1;have k16:k<16:=by omega
 have i16:(k:Int)<16:=by omega
 have SQ0:Hid (r.seq≠0):=by show _≠_;omega
 clear hw0 hw1 hw2;rw[hkk,Int.toNat_natCast]at LK⊢;obtain⟨W,hW⟩:∃W,W=w.alloc (.cells (Rc.cells r) 56):=zx;obtain⟨g,hg⟩:∃g,g=w.heap.size:=zx;have R0:=zh (RdC.open_ h r);rw[<-hW,<-hg]at R0;rw[<-hg]at GQ;clear h hk hc hin;go_in;go_upto_region 1 with fail
 rw[<-hW,<-hg];clear hW hg;have A0:=zh R0.o.bd.at_;have C0:=zh R0.o.rc;have K0:=zh (KQ.of R0.o.b q);have c2:=C0.o.cs.c2;have c3:=C0.o.cs.c3;have c4:=C0.o.cs.c4;have fz:=fun i=>A0.o.fz i;have lq:=A0.o.lt;have lg:=C0.o.cs.lt;obtain⟨u0,u1,u2⟩:=A0.o.unit k16;rw[hkk]at c2;go_upto_region 1 with fail
 go_region;clear c2 c3 c4 fz lq lg;clear u0 u1 u2;have A1:=zh (show BdAt ((((W.setCell ⟨q,26+k*3,none⟩ (.int .i64 r.n)).setCell ⟨q,26+k*3+1,none⟩ (.int .i64 r.seq)).setCell ⟨q,26+k*3+2,none⟩ (.bool false)).drew) q _ _ _ _ _ _ from(jef (((A0.o.unitV k16 r.n).unitQ k16 r.seq).unitD k16 false)));have C1:=zh (jg4 (ja9 (ja9 (ja9 C0.o GQ.o (26+k*3) (.int .i64 r.n)) GQ.o (26+k*3+1) (.int .i64 r.seq)) GQ.o (26+k*3+2) (.bool false)));have K1:=zh (KQ.drew (KQ.set (KQ.set (KQ.set K0.o (26+k*3) (.int .i64 r.n)) (26+k*3+1) (.int .i64 r.seq)) (26+k*3+2) (.bool false)));generalize hW1:(((W.setCell ⟨q,26+k*3,none⟩ (.int .i64 r.n)).setCell ⟨q,26+k*3+1,none⟩ (.int .i64 r.seq)).setCell ⟨q,26+k*3+2,none⟩ (.bool false)).drew=W1 at*;clear hW1;clear A0 C0 K0;have b13:=A1.o.cs.c13;have c4:=C1.o.cs.c4;have fz:=fun i=>A1.o.fz i;have lq:=A1.o.lt;have lg:=C1.o.cs.lt;go_wp2_with fail;clear b13 c4 fz lq lg;have A2:=zh (show BdAt ((W1.setCell ⟨q,13,none⟩ (.int .i64 r.seq))) q _ _ _ _ _ _ from(A1.o.seq r.seq));have C2:=zh (ja9 C1.o GQ.o (13) (.int .i64 r.seq));have K2:=zh (KQ.set K1.o (13) (.int .i64 r.seq));generalize hW2:(W1.setCell ⟨q,13,none⟩ (.int .i64 r.seq))=W2 at*;clear hW2;go_end0;refine turn_q H0.o K2.o (ru':=Bk.setU ru k ⟨r.n,r.seq,false⟩) ⟨by rw[A2.o.row];congr 2;exact ju3 fun i=>by unfold Bk.setU;by_cases h:i=k<;>simp[h]⟩ rfl rfl rfl (H0.o.raw.intent k r.n r.seq SQ0.o) LK.o
theorem jrg(q:Nat)(s:Bk.St)(ru:Nat->Bk.Un)(rv:Int)(lo ko:Option Nat)(H:Value)(K:Kv.St)(w:World)(h:BdIs w q s ru rv lo ko H K)(r:Rc.R)(hin:Rc.In r)(hk:r.kind=6)(hc:Bk.chk s r=0):Calls Tryz.prog 126 #[.pointer (some ⟨q,0,none⟩),.agg (Rc.cells r)] w (ja1 q lo ko H (Bk.act s r) (.tuple #[]) w):=by
 have HR:=zh (Bk.chk_right hc);have LK:=zh (Bd.act_lok h.lok hc);have H0:=zh h;rw[Bk.act6 hk]at LK⊢;have HK:=zh hk;have GQ:Hid (w.heap.size≠q):=by have:=h.lt.1;show _≠_;omega
 obtain⟨hw0,hw1⟩:=Rc.right6 hk HR.o;obtain⟨k,hkk⟩:=Int.eq_ofNat_of_zero_le hw0.1;have k16:k<16:=by omega
 have i16:(k:Int)<16:=by omega
 have SQ0:Hid ((ru k).q≠0):=by
  have h1:=Bk.six_ok (by rw[<-Bk.chk_six HR.o hk (Bk.chk_epoch hc zv)];exact hc);have h2:=(h.raw k k16).1;rw[hkk,Int.toNat_natCast,h2]at h1;have h3:(ru k).q=r.seq:=h1.1;show _≠_;omega
 clear hw0 hw1;rw[hkk,Int.toNat_natCast]at LK⊢;obtain⟨W,hW⟩:∃W,W=w.alloc (.cells (Rc.cells r) 56):=zx;obtain⟨g,hg⟩:∃g,g=w.heap.size:=zx;have R0:=zh (RdC.open_ h r);rw[<-hW,<-hg]at R0;rw[<-hg]at GQ;clear h hk hc hin;go_in;go_upto_region 1 with fail
 rw[<-hW,<-hg];clear hW hg;have A0:=zh R0.o.bd.at_;have C0:=zh R0.o.rc;have K0:=zh (KQ.of R0.o.b q);have c2:=C0.o.cs.c2;have fz:=fun i=>A0.o.fz i;have lq:=A0.o.lt;have lg:=C0.o.cs.lt;obtain⟨u0,u1,u2⟩:=A0.o.unit k16;rw[hkk]at c2;go_upto_region 1 with fail
 go_region;clear c2 fz lq lg;clear u0 u1 u2;have A1:=zh (show BdAt ((W.setCell ⟨q,26+k*3+2,none⟩ (.bool true)).drew) q _ _ _ _ _ _ from(jef (A0.o.unitD k16 true)));have C1:=zh (jg4 (ja9 C0.o GQ.o (26+k*3+2) (.bool true)));have K1:=zh (KQ.drew (KQ.set K0.o (26+k*3+2) (.bool true)));generalize hW1:(W.setCell ⟨q,26+k*3+2,none⟩ (.bool true)).drew=W1 at*;clear hW1;go_wp2;go_end0;exact turn_q H0.o K1.o (A1.o.us _) rfl rfl rfl (H0.o.raw.ack k k16 SQ0.o) LK.o
theorem jh1(W:World)(X:Nat->Prop)(q:Nat)(cs:Array Value)(ty:TypeId)(mo:Option Nat)(s:Ls.St)(hx:LsX W X q mo)(h:LsIs W q cs ty mo s)(hf:Ls.Few s 2199023255552)(k:ByteArray)(hk:k.size<=maxLen)(ho now ttl:Int):
  Calls Tryz.prog 175 #[.pointer (some ⟨q,0,none⟩),.string k,.int .i64 ho,.int .i64 now,.int .i64 ttl] W (jh0 q cs ty mo (Ls.takeS s k ho now ttl) (.tuple #[.int .i64 (Ls.takeN s k ho now ttl),.int .i64 (Ls.takeE s k ho now ttl:Nat)]) W):=by
 have HX:=zh hx;have H0:=zh h;have HF:=zh hf;have HKS:=zh hk;have RIs:∀n e,Ls.takeE s k ho now ttl=e->Ls.takeN s k ho now ttl=n->Hid (Ls.takeE s k ho now ttl=e/\Ls.takeN s k ho now ttl=n):=fun _ _ h1 h2=>⟨h1,h2⟩;clear hx h hf hk;by_cases hr:Ls.Right k ho now ttl
 case neg=>
  have e1:Ls.takeE s k ho now ttl=1:=by unfold Ls.takeE;rw[if_pos hr]
  have e2:Ls.takeN s k ho now ttl=0:=by unfold Ls.takeN;rw[if_neg (by rw[e1];omega)]
  have e3:Ls.takeS s k ho now ttl=s:=by unfold Ls.takeS;rw[if_neg (by rw[e1];omega)]
  rw[e1,e2,e3];have CM:=zh (je0 W k ho now ttl HKS.o (x:=false) (by simpa using hr));clear e1 e2 e3 hr RIs;go_in;go_wp2_with(go_at_call 227;refine CM.o.mono ?_;rintro e w1 ⟨rfl,rfl⟩);exact bodyPost_ret (v:= .tuple #[zi,.int .i64 1]) (by simp[results,Tryz.results175,go_sem]) rfl (jee HX.o H0.o zD _)
 have CM:=zh (je0 W k ho now ttl HKS.o (x:=true) (by simpa using hr));have HR:=zh hr;obtain⟨a,ha⟩:∃a,a=Ls.holderOf s.l k:=zx;obtain⟨b,hb⟩:∃b,b=Ls.epochOf s.l k:=zx;obtain⟨c,hc⟩:∃c,c=Ls.tillOf s.l k:=zx;have TT:=zh (Ls.till_time H0.o.good k);rw[<-hc]at TT;have EP:=zh (And.intro (Ls.epoch_pos H0.o.good k) (Ls.few_epoch HF.o k));rw[<-hb]at EP;have EA:=zh ha.symm;have EB:=zh hb.symm;have EC:=zh hc.symm;have FI:=zh (Ls.free_iff H0.o.good k now);rw[<-hc]at FI;have CFx:Hid (∀x:Bool,(x=true↔Ls.Free s k now)->∀W,Calls Tryz.prog 226 #[.agg #[.int .i64 a,.int .i64 b,.int .i64 c],.int .i64 now,.int .i64 s.margin] W (fun e w'=>e= .returned (.bool x)/\zF W w')):=fun x hx W=>jhy W a b c now s.margin TT.o.1 TT.o.2 H0.o.good.m0 H0.o.good.m1 (hx.trans FI.o);clear ha hb hc hr RIs;by_cases hfr:Ls.Free s k now
 case neg=>
  have e1:Ls.takeE s k ho now ttl=9:=by unfold Ls.takeE;rw[if_neg (fun h=>h HR.o),if_pos hfr]
  have e2:Ls.takeN s k ho now ttl=0:=by unfold Ls.takeN;rw[if_neg (by rw[e1];omega)]
  have e3:Ls.takeS s k ho now ttl=s:=by unfold Ls.takeS;rw[if_neg (by rw[e1];omega)]
  rw[e1,e2,e3];have CF:=zh (CFx.o false (by simpa using hfr));clear e1 e2 e3 hfr CFx;go_in;go_upto_region 3 with(go_at_call 227;refine CM.o.mono ?_;rintro e w1 ⟨rfl,rfl⟩)
  obtain⟨c0,c1,f1,hq⟩:=H0.o.cells;have hlk:=H0.o.look k HKS.o;rw[EA.o,EB.o,EC.o]at hlk;unfold leV at hlk;go_upto_region 4 with fail
  have B2:=zh ((Below.refl w1.heap.size w1).alloc zl (.cells #[.int .i64 a,.int .i64 b,.int .i64 c] 231));have R2:=zh (heap_alloc_new w1 (.cells #[.int .i64 a,.int .i64 b,.int .i64 c] 231));have H2:=zh (H0.o.on B2.o);obtain⟨g,hg⟩:∃g,g=w1.heap.size:=zx;rw[<-hg]at R2⊢;have GB:Hid (w1.heap.size<=g):=Nat.le_of_eq hg.symm;clear hg c0 c1 f1 hq hlk;generalize w1.alloc (.cells #[.int .i64 a,.int .i64 b,.int .i64 c] 231)=w2 at*;refine wp_region_held_drew (S:=fun W=>LsIs W q cs ty mo s/\W.heap[g]? =some (.cells #[.int .i64 a,.int .i64 b,.int .i64 c] 231 (0,0))) zk ⟨H2.o.on (Below.refl w2.heap.size w2).drew,R2.o⟩ (fun hS=> ?_);refine tZ 0 rfl (by intro W hW;have d0:=LsCells.c0 hW.2;have d1:=LsCells.c1 hW.2;have d2:=LsCells.c2 hW.2;go_simp;(try with_reducible rfl)) hS ?_;refine tY 1 hS ?_;refine tY 2 hS ?_;refine tY 3 hS ?_;refine tY 4 hS ?_;refine tZ 5 rfl (by intro W hW;obtain⟨c0,c1,f1,hq⟩:=hW.1.cells;go_simp;(try with_reducible rfl)) hS ?_;simp only[Act.put,zT,zO,zS];refine rO 6 (fun K hK=> ?_);go_simp
  refine(CF.o _).mono ?_
  rintro e w3 ⟨rfl,hb⟩;have hS2:LsIs w3 q cs ty mo s/\_:=⟨hS.1.on hb,jah hS.2 hb⟩;have B3:=zh (B2.o.drew.trans (hb.mono B2.o.drew.size));clear hS hb;have hS:=hS2;clear hS2;refine hK.out _ _ hS (fun _=> ?_);clear hK K;refine tY 7 hS ?_;simp only[Act.put,zT,zO,zS];refine wpAnyH_done zk ?_ _;go_wp2_with fail;exact bodyPost_ret (v:= .tuple #[zi,.int .i64 9]) (by simp[results,Tryz.results175,go_sem]) rfl (jee HX.o H0.o B3.o _)
 case pos=>
  have e1:Ls.takeE s k ho now ttl=0:=by unfold Ls.takeE;rw[if_neg (fun h=>h HR.o),if_neg (fun h=>h hfr)]
  have e2:Ls.takeN s k ho now ttl=b+1:=by unfold Ls.takeN;rw[if_pos e1,EB.o]
  have e3:Ls.takeS s k ho now ttl=⟨s.margin,Ls.put s.l ⟨k,ho,b+1,Ls.late now ttl,false⟩⟩:=by unfold Ls.takeS;rw[if_pos e1];unfold Ls.taken;rw[EB.o]
  have GD:=Ls.taken_good H0.o.good HR.o;have FW:=Ls.take_few HF.o k ho now ttl;unfold Ls.taken at GD;rw[EB.o]at GD;rw[e3]at FW;rw[e1,e2,e3];have CF:=zh (CFx.o true (by simpa using hfr));have CL:=zh (fun W=>jed W now ttl (by have:=HR.o.2.2.2.2.1.1;omega) (by have:=HR.o.2.2.2.2.1.2;omega) (by have:=HR.o.2.2.2.2.2.1;omega) (by have:=HR.o.2.2.2.2.2.2;omega));generalize Ls.late now ttl=d at*;have CP:Hid (∀W,LsIs W q cs ty mo s->Calls Tryz.prog 230 #[.pointer (some ⟨q,0,none⟩),.string k,.agg #[.int .i64 ho,.int .i64 (b+1),.int .i64 d]] W (juu W q cs ty mo ⟨s.margin,Ls.put s.l ⟨k,ho,b+1,d,false⟩⟩)):=fun W h=>jgy W q cs ty mo s h k HKS.o ho (b+1) d false GD FW;have hs1:IntKind.i64.wrap (b+1)=b+1:=by have:=EP.o.1;have:=EP.o.2;rw[IntKind.wrap_i64];omega
  have hs2:wrap64 (b+1)=b+1:=by have:=EP.o.1;have:=EP.o.2;exact IntWalk.wrap64_in _ ⟨zv,zv⟩
  clear e1 e2 e3 hfr CFx GD FW;go_in;go_upto_region 3 with(go_at_call 227;refine CM.o.mono ?_;rintro e w1 ⟨rfl,rfl⟩)
  obtain⟨c0,c1,f1,hq⟩:=H0.o.cells;have hlk:=H0.o.look k HKS.o;rw[EA.o,EB.o,EC.o]at hlk;unfold leV at hlk;go_upto_region 4 with fail
  have B2:=zh ((Below.refl w1.heap.size w1).alloc zl (.cells #[.int .i64 a,.int .i64 b,.int .i64 c] 231));have R2:=zh (heap_alloc_new w1 (.cells #[.int .i64 a,.int .i64 b,.int .i64 c] 231));have H2:=zh (H0.o.on B2.o);obtain⟨g,hg⟩:∃g,g=w1.heap.size:=zx;rw[<-hg]at R2⊢;have GB:Hid (w1.heap.size<=g):=Nat.le_of_eq hg.symm;clear hg c0 c1 f1 hq hlk;generalize w1.alloc (.cells #[.int .i64 a,.int .i64 b,.int .i64 c] 231)=w2 at*;refine wp_region_held_drew (S:=fun W=>LsIs W q cs ty mo s/\W.heap[g]? =some (.cells #[.int .i64 a,.int .i64 b,.int .i64 c] 231 (0,0))) zk ⟨H2.o.on (Below.refl w2.heap.size w2).drew,R2.o⟩ (fun hS=> ?_);refine tZ 0 rfl (by intro W hW;have d0:=LsCells.c0 hW.2;have d1:=LsCells.c1 hW.2;have d2:=LsCells.c2 hW.2;go_simp;(try with_reducible rfl)) hS ?_;refine tY 1 hS ?_;refine tY 2 hS ?_;refine tY 3 hS ?_;refine tY 4 hS ?_;refine tZ 5 rfl (by intro W hW;obtain⟨c0,c1,f1,hq⟩:=hW.1.cells;go_simp;(try with_reducible rfl)) hS ?_;simp only[Act.put,zT,zO,zS];refine rO 6 (fun K hK=> ?_);go_simp
  refine(CF.o _).mono ?_
  rintro e w3 ⟨rfl,hb⟩;have hS2:LsIs w3 q cs ty mo s/\_:=⟨hS.1.on hb,jah hS.2 hb⟩;have B3:=zh (B2.o.drew.trans (hb.mono B2.o.drew.size));clear hS hb;have hS:=hS2;clear hS2;refine hK.out _ _ hS (fun _=> ?_);clear hK K;refine tY 7 hS ?_;simp only[Act.put,zT,zO,zS];refine wpAnyH_done zk ?_ _;go_upto_region 6 with fail
  have H4:=zh (hS.1.on (Below.refl w3.heap.size w3).drew);have RW:=zh hS.2;have B4:=zh B3.o.drew;have NG:Hid (¬(g=q\/mo=some g)):=fun h=>by
   have:=GB.o;rcases h with rfl|h
   ·have:=HX.o.lt g HX.o.q;omega
   ·have:=HX.o.lt g (HX.o.m g h);omega
  clear hS;refine wp_region_held_drew (S:=fun W=>W.heap[g]? =some (.cells #[.int .i64 a,.int .i64 b,.int .i64 c] 231 (0,0))) zk RW.o (fun hS=> ?_);refine tY 0 hS ?_;refine tY 1 hS ?_;refine tY 2 hS ?_;refine tY 3 hS ?_;refine tZ 4 rfl (by intro W hW;have d0:=LsCells.c0 hW;have d1:=LsCells.c1 hW;have d2:=LsCells.c2 hW;go_simp;(try with_reducible rfl)) hS ?_;refine tY 5 hS ?_;simp only[Act.put,zT,zO,zS];refine tY 6 hS ?_;refine tY 7 hS ?_;simp only[Act.put,zT,zO,zS];refine rO 8 (fun K hK=> ?_);go_simp
  refine(CL.o _).mono ?_
  rintro e w4 ⟨rfl,hw⟩;obtain rfl:=hw.symm;refine hK.out _ _ hS (fun _=> ?_);clear hK K;refine tY 9 hS ?_;simp only[Act.put,zT,zO,zS];refine rO 10 (fun K hK=> ?_);go_simp
  refine(CP.o _ H4.o).mono ?_
  rintro e w5 ⟨mo5,rfl,hm5,hk5,hn5⟩;have hS2:=(hk5.block g (zg hS).1 NG.o).trans hS;have M5:=zh hm5;have K5:=zh hk5;have N5:=zh hn5;clear hS hm5 hk5 hn5;have hS:=hS2;clear hS2;refine hK.out _ _ hS (fun _=> ?_);clear hK K;try simp only[Act.put,zT,zO,zS]
  refine wpAnyH_done zk ?_ _;have d0:=LsCells.c0 hS;have d1:=LsCells.c1 hS;have d2:=LsCells.c2 hS;go_wp2_with fail;exact bodyPost_ret (v:= .tuple #[.int .i64 (b+1),zi]) (by simp[results,Tryz.results175,go_sem]) rfl (jis HX.o B4.o M5.o K5.o N5.o _)
namespace Ls
theorem few_same{s:St}{n:Nat}{m:Int}{e x:En}(hf:Few s n)(hr:Rise s.l)(he:find s.l x.name=some e)(hx:x.epoch=e.epoch):Few ⟨m,put s.l x⟩ n:=by
 refine⟨fun y hy=> ?_,?_⟩
 ·rcases mem_put hy with rfl|hy
  ·rw[hx];exact hf.1 e (find_some he).1
  ·exact hf.1 y hy
 ·show(put s.l x).length<=n
  rw[put_length hr,he];exact hf.2
theorem note_found{s:St}{k:ByteArray}{h ep:Int}(h0:notE s k h ep=0):∃e,find s.l k=some e/\e.holder=h/\e.epoch=ep:=by
 unfold notE at h0
 cases he:find s.l k with
 |none=>rw[he]at h0;cases h0
 |some e=>
  rw[he]at h0;refine⟨e,rfl,?_⟩;by_cases h1:Other e h ep
  ·simp[h1]at h0
  ·unfold Other at h1;omega
theorem _root_.Go.Proofs.YtkinlcfhojjalaaGreatDoor.zz23{p:Prop}(h:p:=by
 cases he:find s.l k with
 |none=>rfl
 |some e=>
  rw[he]at h0;by_cases h1:Other e h ep
  ·simp[h1]
  ·simp[h1]at h0):p:=h
theorem renew_no{s:St}{k:ByteArray}{h ep now ttl:Int}(hr:Right k h now ttl)(h0:notE s k h ep≠0):renewE s k h ep now ttl=notE s k h ep:=by
 unfold renewE notE at*;rw[if_neg (fun h=>h hr)]
 exact zz23
open Classical in
theorem renew_is{s:St}(hs:Good s){k:ByteArray}{h ep now ttl:Int}(hr:Right k h now ttl)(h0:notE s k h ep=0):(tillOf s.l k≠0/\now<tillOf s.l k->renewE s k h ep now ttl=0)/\(¬(tillOf s.l k≠0/\now<tillOf s.l k)->renewE s k h ep now ttl=9):=by
 obtain⟨e,he,e1,e2⟩:=note_found h0;have h1:=hs.each e (find_some he).1;have ht:tillOf s.l k=e.till:=by unfold tillOf;rw[he]
 have hno:¬Other e h ep:=by unfold Other;omega
 have hE:renewE s k h ep now ttl=if e.dropped=true\/e.till<=now then 9 else 0:=by
  unfold renewE;rw[if_neg (fun h=>h hr),he];show(if Other e h ep then 8 else _)=_;rw[if_neg hno]
 rw[ht,hE]
 cases hd:e.dropped with
 |true=>
  have:=h1.2.2.2.2.2.2.1 hd;exact⟨fun h=>absurd this h.1,fun _=>by simp⟩
 |false=>
  have:=h1.2.2.2.2.2.2.2 hd;exact⟨fun h=>by rw[if_neg];rintro(h2|h2);cases h2;omega,fun h=>by rw[if_pos];exact .inr zv⟩
theorem renewed_is{s:St}(hs:Good s)(hf:Few s 2199023255553){k:ByteArray}{h ep now ttl:Int}(hr:Right k h now ttl)(h0:notE s k h ep=0)(h2:tillOf s.l k≠0/\now<tillOf s.l k):
  renewed s k now ttl=⟨s.margin,put s.l ⟨k,holderOf s.l k,epochOf s.l k,max (tillOf s.l k) (late now ttl),false⟩⟩/\Good (renewed s k now ttl)/\Few (renewed s k now ttl) 2199023255553:=by
 obtain⟨e,he,e1,e2⟩:=note_found h0;have h1:=hs.each e (find_some he).1;have hn:=(find_some he).2;have ht:tillOf s.l k=e.till:=by unfold tillOf;rw[he]
 have hh:holderOf s.l k=e.holder:=by unfold holderOf;rw[he]
 have hp:epochOf s.l k=e.epoch:=by unfold epochOf;rw[he]
 have hd:e.dropped=false:=by
  cases hd:e.dropped with
  |false=>rfl
  |true=>exact absurd (h1.2.2.2.2.2.2.1 hd) (by rw[<-ht];exact h2.1)
 have E:renewed s k now ttl=⟨s.margin,put s.l ⟨k,holderOf s.l k,epochOf s.l k,max (tillOf s.l k) (late now ttl),false⟩⟩:=by
  unfold renewed;rw[he,ht,hh,hp];show St.mk _ (put s.l ⟨e.name,_,_,_,e.dropped⟩)=_;rw[hn,hd]
 refine⟨E,renewed_good hs hr he hd,?_⟩;rw[E];exact few_same hf hs.rise he hp
theorem drop_no{s:St}{k:ByteArray}{h ep:Int}(h0:notE s k h ep≠0):dropE s k h ep=notE s k h ep:=by
 unfold dropE notE at*
 exact zz23
open Classical in
theorem drop_is{s:St}(hs:Good s){k:ByteArray}{h ep:Int}(h0:notE s k h ep=0):(tillOf s.l k≠0->dropE s k h ep=0)/\(tillOf s.l k=0->dropE s k h ep=10):=by
 obtain⟨e,he,e1,e2⟩:=note_found h0;have h1:=hs.each e (find_some he).1;have ht:tillOf s.l k=e.till:=by unfold tillOf;rw[he]
 have hno:¬Other e h ep:=by unfold Other;omega
 have hE:dropE s k h ep=if e.dropped=true then 10 else 0:=by
  unfold dropE;rw[he];show(if Other e h ep then 8 else _)=_;rw[if_neg hno]
 rw[ht,hE]
 cases hd:e.dropped with
 |true=>
  have:=h1.2.2.2.2.2.2.1 hd;exact⟨fun h=>absurd this h,fun _=>rfl⟩
 |false=>
  have:=h1.2.2.2.2.2.2.2 hd;exact⟨fun h=>by rw[if_neg (by simp)],fun h=>by omega⟩
theorem dropped_is{s:St}(hs:Good s)(hf:Few s 2199023255553){k:ByteArray}{h ep:Int}(h0:notE s k h ep=0):
  droppedS s k=⟨s.margin,put s.l ⟨k,h,ep,0,true⟩⟩/\Good (droppedS s k)/\Few (droppedS s k) 2199023255553:=by
 obtain⟨e,he,e1,e2⟩:=note_found h0;have hn:=(find_some he).2;have E:droppedS s k=⟨s.margin,put s.l ⟨k,h,ep,0,true⟩⟩:=by
  unfold droppedS;rw[he];show St.mk _ (put s.l ⟨e.name,e.holder,e.epoch,0,true⟩)=_;rw[hn,e1,e2]
 refine⟨E,dropped_good hs k,?_⟩;rw[E];exact few_same hf hs.rise he e2.symm
end Ls
theorem jn9(W:World)(X:Nat->Prop)(q:Nat)(cs:Array Value)(ty:TypeId)(mo:Option Nat)(s:Ls.St)(hx:LsX W X q mo)(h:LsIs W q cs ty mo s)(k:ByteArray)(hk:k.size<=maxLen)(ho ep:Int):
  Calls Tryz.prog 202 #[.pointer (some ⟨q,0,none⟩),.string k,.int .i64 ho,.int .i64 ep] W (jh0 q cs ty mo (Ls.dropS s k ho ep) (.int .i64 (Ls.dropE s k ho ep:Nat)) W):=by
 have HX:=zh hx;have H0:=zh h;have HKS:=zh hk;have CN:=zh (jj7 W q cs ty mo s h k hk ho ep);clear hx h hk;by_cases h0:Ls.notE s k ho ep=0
 case neg=>
  have e1:=Ls.drop_no h0;have e3:Ls.dropS s k ho ep=s:=by unfold Ls.dropS;rw[if_neg (by rw[e1];exact h0)]
  rw[e1,e3];obtain⟨z,hz⟩:∃z,z=Ls.notE s k ho ep:=zx;rw[<-hz]at h0 CN⊢;have hz0:((z:Int)==0)=false:=by rw[zq];omega
  have HZ:=zh h0;clear e1 e3 hz h0;go_in;go_wp2_with(go_at_call 228;refine CN.o.mono ?_;rintro e w1 ⟨rfl,hb⟩;have B1:=zh hb;clear hb);go_ret;exact jee HX.o H0.o B1.o _
 case pos=>
  rw[h0]at CN;have HI:=Ls.drop_is H0.o.good h0;have HD:=zh (Ls.dropped_is H0.o.good H0.o.few h0);obtain⟨a,ha⟩:∃a,a=Ls.holderOf s.l k:=zx;obtain⟨b,hb⟩:∃b,b=Ls.epochOf s.l k:=zx;obtain⟨c,hc⟩:∃c,c=Ls.tillOf s.l k:=zx;rw[<-hc]at HI;have EA:=zh ha.symm;have EB:=zh hb.symm;have EC:=zh hc.symm;have CD:=zh (fun W=>jc4 W a b c);clear ha hb hc h0;by_cases hc0:c=0
  ·have e1:=HI.2 hc0
   have e3:Ls.dropS s k ho ep=s:=by unfold Ls.dropS;rw[if_neg (by rw[e1];omega)]
   rw[e1,e3];rw[show(c==0)=true by simp[hc0]]at CD;clear e1 e3 hc0 HI HD;go_in;go_upto_region 6 with(go_at_call 228;refine CN.o.mono ?_;rintro e w1 ⟨rfl,hb⟩;have B1:=zh hb;clear hb)
   have H1:=zh (H0.o.on B1.o);obtain⟨c0,c1,f1,hq⟩:=H1.o.cells;have hlk:=H1.o.look k HKS.o;rw[EA.o,EB.o,EC.o]at hlk;unfold leV at*;go_wp2_with(go_at_call 244;refine(CD.o _).mono ?_;rintro e w2 ⟨rfl,hb⟩;have B2:=zh (B1.o.trans (hb.mono B1.o.size));clear hb);go_ret;exact jee HX.o H0.o B2.o _
  ·have e1:=HI.1 hc0
   have e3:Ls.dropS s k ho ep=⟨s.margin,Ls.put s.l ⟨k,ho,ep,0,true⟩⟩:=by unfold Ls.dropS;rw[if_pos e1,HD.o.1]
   have GD:=HD.o.2.1;have FW:=HD.o.2.2;rw[HD.o.1]at GD FW;rw[e1,e3];rw[show(c==0)=false by simp[hc0]]at CD;have CP:Hid (∀W,LsIs W q cs ty mo s->Calls Tryz.prog 230 #[.pointer (some ⟨q,0,none⟩),.string k,.agg #[.int .i64 ho,.int .i64 ep,zi]] W (juu W q cs ty mo ⟨s.margin,Ls.put s.l ⟨k,ho,ep,0,true⟩⟩)):=fun W h=>jgy W q cs ty mo s h k HKS.o ho ep 0 true GD FW;clear e1 e3 hc0 HI HD GD FW;go_in;go_upto_region 6 with(go_at_call 228;refine CN.o.mono ?_;rintro e w1 ⟨rfl,hb⟩;have B1:=zh hb;clear hb)
   have H1:=zh (H0.o.on B1.o);obtain⟨c0,c1,f1,hq⟩:=H1.o.cells;have hlk:=H1.o.look k HKS.o;rw[EA.o,EB.o,EC.o]at hlk;unfold leV at*
   go_wp2_with(first
    |(go_at_call 244;refine(CD.o _).mono ?_;rintro e w2 ⟨rfl,hb⟩;have B2:=zh (B1.o.trans (hb.mono B1.o.size));have H2:=zh (H1.o.on hb);clear hb)
    |(go_at_call 230;refine(CP.o _ H2.o).mono ?_;rintro e w5 ⟨mo5,rfl,hm5,hk5,hn5⟩;have M5:=zh hm5;have K5:=zh hk5;have N5:=zh hn5;clear hm5 hk5 hn5))
   go_ret;exact jis HX.o B2.o M5.o K5.o N5.o _
theorem jlq(W:World)(X:Nat->Prop)(q:Nat)(cs:Array Value)(ty:TypeId)(mo:Option Nat)(s:Ls.St)(hx:LsX W X q mo)(h:LsIs W q cs ty mo s)(k:ByteArray)(hk:k.size<=maxLen)(ho ep now ttl:Int):
  Calls Tryz.prog 174 #[.pointer (some ⟨q,0,none⟩),.string k,.int .i64 ho,.int .i64 ep,.int .i64 now,.int .i64 ttl] W (jh0 q cs ty mo (Ls.renewS s k ho ep now ttl) (.tuple #[.int .i64 (Ls.renewN s k ho ep now ttl),.int .i64 (Ls.renewE s k ho ep now ttl:Nat)]) W):=by
 have HX:=zh hx;have H0:=zh h;have HKS:=zh hk;have CN:=zh (jj7 W q cs ty mo s h k hk ho ep);clear hx h hk;by_cases hr:Ls.Right k ho now ttl
 case neg=>
  have e1:Ls.renewE s k ho ep now ttl=1:=by unfold Ls.renewE;rw[if_pos hr]
  have e2:Ls.renewN s k ho ep now ttl=0:=by unfold Ls.renewN;rw[if_neg (by rw[e1];omega)]
  have e3:Ls.renewS s k ho ep now ttl=s:=by unfold Ls.renewS;rw[if_neg (by rw[e1];omega)]
  rw[e1,e2,e3];have CM:=zh (je0 W k ho now ttl HKS.o (x:=false) (by simpa using hr));clear e1 e2 e3 hr CN;go_in;go_wp2_with(go_at_call 227;refine CM.o.mono ?_;rintro e w1 ⟨rfl,rfl⟩);exact bodyPost_ret (v:= .tuple #[zi,.int .i64 1]) (by simp[results,Tryz.results174,go_sem]) rfl (jee HX.o H0.o zD _)
 have CM:=zh (je0 W k ho now ttl HKS.o (x:=true) (by simpa using hr));have HR:=zh hr;by_cases h0:Ls.notE s k ho ep=0
 case neg=>
  have e1:=Ls.renew_no (now:=now) (ttl:=ttl) hr h0;have e2:Ls.renewN s k ho ep now ttl=0:=by unfold Ls.renewN;rw[if_neg (by rw[e1];exact h0)]
  have e3:Ls.renewS s k ho ep now ttl=s:=by unfold Ls.renewS;rw[if_neg (by rw[e1];exact h0)]
  rw[e1,e2,e3];obtain⟨z,hz⟩:∃z,z=Ls.notE s k ho ep:=zx;rw[<-hz]at h0 CN⊢;have hz0:((z:Int)==0)=false:=by rw[zq];omega
  have HZ:=zh h0;clear e1 e2 e3 hz h0 hr;go_in
  go_wp2_with(first
   |(go_at_call 227;refine CM.o.mono ?_;rintro e w1 ⟨rfl,rfl⟩)
   |(go_at_call 228;refine CN.o.mono ?_;rintro e w2 ⟨rfl,hb⟩;have B1:=zh hb;clear hb))
  exact bodyPost_ret (v:= .tuple #[zi,.int .i64 (z:Nat)]) (by simp[results,Tryz.results174,go_sem]) rfl (jee HX.o H0.o B1.o _)
 rw[h0]at CN;have HI:=Ls.renew_is (now:=now) (ttl:=ttl) H0.o.good hr h0;have HD:=zh (fun h2=>Ls.renewed_is (now:=now) (ttl:=ttl) H0.o.good H0.o.few hr h0 h2);obtain⟨a,ha⟩:∃a,a=Ls.holderOf s.l k:=zx;obtain⟨b,hb⟩:∃b,b=Ls.epochOf s.l k:=zx;obtain⟨c,hc⟩:∃c,c=Ls.tillOf s.l k:=zx;rw[<-hc]at HI HD;rw[<-ha,<-hb]at HD;have EA:=zh ha.symm;have EB:=zh hb.symm;have EC:=zh hc.symm;clear ha hb hc h0 hr;by_cases hhe:c≠0/\now<c
 case neg=>
  have e1:=HI.2 hhe;have e2:Ls.renewN s k ho ep now ttl=0:=by unfold Ls.renewN;rw[if_neg (by rw[e1];omega)]
  have e3:Ls.renewS s k ho ep now ttl=s:=by unfold Ls.renewS;rw[if_neg (by rw[e1];omega)]
  rw[e1,e2,e3];have CH:=zh (fun W=>jfg W a b c now (x:=false) (by simpa using hhe));clear e1 e2 e3 hhe HI HD;go_in;go_upto_region 6 with(first
   |(go_at_call 227;refine CM.o.mono ?_;rintro e w1 ⟨rfl,rfl⟩)
   |(go_at_call 228;refine CN.o.mono ?_;rintro e w2 ⟨rfl,hb⟩;have B1:=zh hb;clear hb))
  have H1:=zh (H0.o.on B1.o);obtain⟨c0,c1,f1,hq⟩:=H1.o.cells;have hlk:=H1.o.look k HKS.o;rw[EA.o,EB.o,EC.o]at hlk;unfold leV at*;have B2:=zh (B1.o.alloc (by have:=B1.o.size;omega) (.cells #[.int .i64 a,.int .i64 b,.int .i64 c] 231));go_wp2_with(go_at_call 225;refine(CH.o _).mono ?_;rintro e w3 ⟨rfl,hb⟩;have B3:=zh (B2.o.trans (hb.mono B2.o.size));clear hb);exact bodyPost_ret (v:= .tuple #[zi,.int .i64 9]) (by simp[results,Tryz.results174,go_sem]) rfl (jee HX.o H0.o B3.o _)
 case pos=>
  have e1:=HI.1 hhe;have HD2:=HD.o hhe;have e2:Ls.renewN s k ho ep now ttl=max c (Ls.late now ttl):=by unfold Ls.renewN;rw[if_pos e1,EC.o]
  have e3:Ls.renewS s k ho ep now ttl=⟨s.margin,Ls.put s.l ⟨k,a,b,max c (Ls.late now ttl),false⟩⟩:=by unfold Ls.renewS;rw[if_pos e1,HD2.1]
  have GD:=HD2.2.1;have FW:=HD2.2.2;rw[HD2.1]at GD FW;rw[e1,e2,e3];have CH:=zh (fun W=>jfg W a b c now (x:=true) (by simpa using hhe));have CL:=zh (fun W=>jed W now ttl (by have:=HR.o.2.2.2.2.1.1;omega) (by have:=HR.o.2.2.2.2.1.2;omega) (by have:=HR.o.2.2.2.2.2.1;omega) (by have:=HR.o.2.2.2.2.2.2;omega));generalize Ls.late now ttl=d at*;have CP:Hid (∀W,LsIs W q cs ty mo s->Calls Tryz.prog 230 #[.pointer (some ⟨q,0,none⟩),.string k,.agg #[.int .i64 a,.int .i64 b,.int .i64 (max c d)]] W (juu W q cs ty mo ⟨s.margin,Ls.put s.l ⟨k,a,b,max c d,false⟩⟩)):=fun W h=>jgy W q cs ty mo s h k HKS.o a b (max c d) false GD FW;clear e1 e2 e3 hhe HI HD HD2 GD FW;go_in;go_upto_region 6 with(first
   |(go_at_call 227;refine CM.o.mono ?_;rintro e w1 ⟨rfl,rfl⟩)
   |(go_at_call 228;refine CN.o.mono ?_;rintro e w2 ⟨rfl,hb⟩;have B1:=zh hb;clear hb))
  have H1:=zh (H0.o.on B1.o);obtain⟨c0,c1,f1,hq⟩:=H1.o.cells;have hlk:=H1.o.look k HKS.o;rw[EA.o,EB.o,EC.o]at hlk;unfold leV at*;go_upto_region 7 with fail
  have B2:=zh (B1.o.alloc (by have:=B1.o.size;omega) (.cells #[.int .i64 a,.int .i64 b,.int .i64 c] 231));have R2:=zh (heap_alloc_new w2 (.cells #[.int .i64 a,.int .i64 b,.int .i64 c] 231));have H2:=zh (H1.o.on ((Below.refl w2.heap.size w2).alloc zl (.cells #[.int .i64 a,.int .i64 b,.int .i64 c] 231)));obtain⟨g,hg⟩:∃g,g=w2.heap.size:=zx;rw[<-hg]at R2⊢;have GB:Hid (w2.heap.size<=g):=Nat.le_of_eq hg.symm;clear hg c0 c1 f1 hq hlk;have NG:Hid (¬(g=q\/mo=some g)):=fun h=>by
   have:=GB.o;have:=B1.o.size;rcases h with rfl|h
   ·have:=HX.o.lt g HX.o.q;omega
   ·have:=HX.o.lt g (HX.o.m g h);omega
  generalize w2.alloc (.cells #[.int .i64 a,.int .i64 b,.int .i64 c] 231)=w3 at*;have d0:=LsCells.c0 R2.o;have d1:=LsCells.c1 R2.o;have d2:=LsCells.c2 R2.o;go_upto_region 9 with(go_at_call 225;refine(CH.o _).mono ?_;rintro e w4 ⟨rfl,hb⟩;have B4:=zh (B2.o.trans (hb.mono B2.o.size));have R4:=zh (jah R2.o hb);have H4:=zh (H2.o.on hb);clear hb d0 d1 d2)
  have H5:=zh (H4.o.on (Below.refl w4.heap.size w4).drew);have B5:=zh B4.o.drew;have d0:w4.drew.cell? ⟨g,0,none⟩=some (.int .i64 a):=LsCells.c0 R4.o;have d1:w4.drew.cell? ⟨g,1,none⟩=some (.int .i64 b):=LsCells.c1 R4.o;have d2:w4.drew.cell? ⟨g,2,none⟩=some (.int .i64 c):=LsCells.c2 R4.o;have f2:w4.drew.frozen? ⟨g,2,none⟩=false:=frozen_of_row _ g 2 _ _ (show w4.drew.heap[g]? =_ from R4.o);have lg:g<w4.drew.heap.size:=(zg (show w4.drew.heap[g]? =_ from R4.o)).1;have R5:Hid (w4.drew.heap[g]? =some (.cells #[.int .i64 a,.int .i64 b,.int .i64 c] 231 (0,0))):=R4.o;have hdr:Hid (zF w1 w4.drew):=B5.o;refine wp_region_held_drew (S:=fun _=>True) zk trivial (fun hS=> ?_);refine tY 0 hS ?_;refine tY 2 hS ?_;refine tY 3 hS ?_;simp only[Act.put,zT,zO,zS];refine jgn 1 4 rfl rfl zk rfl rfl (fun K hK=> ?_) (fun K hK=> ?_)
  ·go_simp
   refine hK.out _ _ hS (fun _=> ?_);clear hK K;try simp only[Act.put,zT,zO,zS]
   refine rO 4 (fun K hK=> ?_);go_simp
   refine(CL.o _).mono ?_
   rintro e w6 ⟨rfl,hw⟩;obtain rfl:=hw.symm;refine hK.out _ _ hS (fun _=> ?_);clear hK K;refine tY 5 hS ?_;refine tY 6 hS ?_;simp only[Act.put,zT,zO,zS];refine rO 7 (fun K hK=> ?_);go_simp;refine hK.out _ _ hS (fun _=> ?_);clear hK K;refine wpAnyH_done zk ?_ _;have R6:Hid ((w4.setCell ⟨g,2,none⟩ (.int .i64 (max c d))).drew.heap[g]? =some (.cells #[.int .i64 a,.int .i64 b,.int .i64 (max c d)] 231 (0,0))):=heap_setCell_same w4 g 2 _ _ (.int .i64 (max c d)) R4.o;have B6:Hid (zF w1 (w4.setCell ⟨g,2,none⟩ (.int .i64 (max c d))).drew):=(B4.o.setCell (p:=⟨g,2,none⟩) (by have:=GB.o;have:=B1.o.size;show w1.heap.size<=g;omega) _).drew;have H6:Hid (LsIs (w4.setCell ⟨g,2,none⟩ (.int .i64 (max c d))).drew q cs ty mo s):=(H4.o.keep (heap_setCell_other _ _ _ _ (fun e=>NG.o (.inl e.symm))) (fun m hm=>heap_setCell_other _ _ _ _ (fun e=>NG.o (.inr (by rw[hm];exact congrArg some e))))).on zD.drew;clear d0 d1 d2 f2 lg hS;generalize(w4.setCell ⟨g,2,none⟩ (.int .i64 (max c d))).drew=w6 at*;have d0:=LsCells.c0 R6.o;have d1:=LsCells.c1 R6.o;have d2:=LsCells.c2 R6.o;go_upto_region 11 with(go_at_call 230;refine(CP.o _ H6.o).mono ?_;rintro e w7 ⟨mo5,rfl,hm5,hk5,hn5⟩;have R7:=zh ((hk5.block g (zg R6.o).1 NG.o).trans R6.o);have M5:=zh hm5;have K5:=zh hk5;have N5:=zh hn5;clear hm5 hk5 hn5 d0 d1 d2)
   have d2:=LsCells.c2 R7.o;go_wp2_with fail;exact bodyPost_ret (v:= .tuple #[.int .i64 (max c d),zi]) (by simp[results,Tryz.results174,go_sem]) rfl (jis HX.o B6.o M5.o K5.o N5.o _)
  ·go_simp
   refine(CL.o _).mono ?_
   rintro e w6 ⟨rfl,hw⟩;obtain rfl:=hw.symm;refine hK.out _ _ hS (fun _=> ?_);clear hK K;try simp only[Act.put,zT,zO,zS]
   refine rO 1 (fun K hK=> ?_);go_simp;refine hK.out _ _ hS (fun _=> ?_);clear hK K;refine tY 5 hS ?_;refine tY 6 hS ?_;simp only[Act.put,zT,zO,zS];refine rO 7 (fun K hK=> ?_);go_simp;refine hK.out _ _ hS (fun _=> ?_);clear hK K;refine wpAnyH_done zk ?_ _;have R6:Hid ((w4.setCell ⟨g,2,none⟩ (.int .i64 (max c d))).drew.heap[g]? =some (.cells #[.int .i64 a,.int .i64 b,.int .i64 (max c d)] 231 (0,0))):=heap_setCell_same w4 g 2 _ _ (.int .i64 (max c d)) R4.o;have B6:Hid (zF w1 (w4.setCell ⟨g,2,none⟩ (.int .i64 (max c d))).drew):=(B4.o.setCell (p:=⟨g,2,none⟩) (by have:=GB.o;have:=B1.o.size;show w1.heap.size<=g;omega) _).drew;have H6:Hid (LsIs (w4.setCell ⟨g,2,none⟩ (.int .i64 (max c d))).drew q cs ty mo s):=(H4.o.keep (heap_setCell_other _ _ _ _ (fun e=>NG.o (.inl e.symm))) (fun m hm=>heap_setCell_other _ _ _ _ (fun e=>NG.o (.inr (by rw[hm];exact congrArg some e))))).on zD.drew;clear d0 d1 d2 f2 lg hS;generalize(w4.setCell ⟨g,2,none⟩ (.int .i64 (max c d))).drew=w6 at*;have d0:=LsCells.c0 R6.o;have d1:=LsCells.c1 R6.o;have d2:=LsCells.c2 R6.o;go_upto_region 11 with(go_at_call 230;refine(CP.o _ H6.o).mono ?_;rintro e w7 ⟨mo5,rfl,hm5,hk5,hn5⟩;have R7:=zh ((hk5.block g (zg R6.o).1 NG.o).trans R6.o);have M5:=zh hm5;have K5:=zh hk5;have N5:=zh hn5;clear hm5 hk5 hn5 d0 d1 d2)
   have d2:=LsCells.c2 R7.o;go_wp2_with fail;exact bodyPost_ret (v:= .tuple #[.int .i64 (max c d),zi]) (by simp[results,Tryz.results174,go_sem]) rfl (jis HX.o B6.o M5.o K5.o N5.o _)
