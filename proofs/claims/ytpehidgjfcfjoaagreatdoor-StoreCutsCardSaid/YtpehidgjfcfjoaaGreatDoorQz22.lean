import Derived.Test.YtpehidgjfcfjoaaGreatDoorQz21
set_option maxHeartbeats 6400000
set_option maxRecDepth 100000
set_option linter.unusedSimpArgs false
set_option linter.unusedVariables false
namespace Go.Proofs.YtpehidgjfcfjoaaGreatDoor
open Go.RowKit Go.Deep Go.Maps
theorem jui{s:Bk.St}{ru ru':Nat->Bk.Un}{rv:Int}{lm km H:Value}(h:∀i,ru i=ru' i):Bd.cells s ru rv lm km H=Bd.cells s ru' rv lm km H:=by rw[show ru=ru' from funext h]
theorem jqu(q:Nat)(s:Bk.St)(ru:Nat->Bk.Un)(rv:Int)(lo ko:Option Nat)(H:Value)(K:Kv.St)(w:World)(h:BdIs w q s ru rv lo ko H K)(r:Rc.R)(hin:Rc.In r)(hk:r.kind=4)(hc:Bk.chk s r=0):Calls Tryz.prog 115 #[.pointer (some ⟨q,0,none⟩),.agg (Rc.cells r)] w (jay q lo ko H (Bk.act s r) (.tuple #[]) w):=by
 have HR:=zh (Bk.chk_right hc);have LK:=zh (Bd.act_lok h.lok hc);have H0:=zh h;rw[Bk.act4 hk]at LK⊢;have HK:=zh hk;have GQ:Hid (w.heap.size≠q):=by have:=h.lt.1;show _≠_;omega
 obtain⟨s9,hs9⟩:∃t,t=({s with h:=Bk.last24 (s.h++[r]),ph:=r.n,stable:=if r.n=3 then s.sp.v else s.stable}:Bk.St):=⟨_,rfl⟩
 rw[<-hs9]at LK⊢;have HS:=zh hs9;clear hs9;obtain⟨W,hW⟩:∃W,W=w.alloc (.cells (Rc.cells r) 60):=⟨_,rfl⟩;obtain⟨g,hg⟩:∃g,g=w.heap.size:=⟨_,rfl⟩;have R0:=zh (RdC.open_ h r);rw[<-hW,<-hg]at R0;rw[<-hg]at GQ;clear h hk hc hin;go_in;go_upto_region 1 with fail
 rw[<-hW,<-hg];clear hW hg;have A0:=zh R0.out.bd.at_;have C0:=zh R0.out.rc;have K0:=zh (KQ.of R0.out.b q);have b9:=A0.out.cs.c9;have c3:=C0.out.cs.c3;have fz:=fun i=>A0.out.fz i;have lq:=A0.out.lt;have lg:=C0.out.cs.lt;go_upto_region 2 with fail
 clear b9 c3 fz lq lg;have A1:=zh (show BdAt ((W.setCell ⟨q,9,none⟩ (.int .i64 r.n))) q _ _ _ _ _ _ from(A0.out.ph r.n));have C1:=zh (ja5 C0.out GQ.out (9) (.int .i64 r.n));have K1:=zh (KQ.set K0.out (9) (.int .i64 r.n));generalize hW1:(W.setCell ⟨q,9,none⟩ (.int .i64 r.n))=W1 at*;clear hW1;clear A0 C0 K0;by_cases h3:r.n=3
 ·have h32:(r.n==3)=true:=by simpa using h3
  have H3:=zh h3;clear h3;have b7:=A1.out.cs.c7;have b14:=A1.out.cs.c14;have c3:=C1.out.cs.c3;have fz:=fun i=>A1.out.fz i;have lq:=A1.out.lt;have lg:=C1.out.cs.lt;go_upto_region 4 with fail
  clear b7 b14 c3 fz lq lg;have A2:=zh (show BdAt ((W1.setCell ⟨q,7,none⟩ (.int .i64 s.sp.v))) q _ _ _ _ _ _ from(A1.out.stable s.sp.v));have C2:=zh (ja5 C1.out GQ.out (7) (.int .i64 s.sp.v));have K2:=zh (KQ.set K1.out (7) (.int .i64 s.sp.v));generalize hW2:(W1.setCell ⟨q,7,none⟩ (.int .i64 s.sp.v))=W2 at*;clear hW2;clear A1 C1 K1;have CN:=zh (jey q ({s with ph:=r.n,stable:=s.sp.v}) _ rv _ _ H r W2 A2.out (H0.out.hist K2.out) H0.out.qh H0.out.lok.ok.hl)
  go_wp2_with(first
   |((with_reducible show zL 24);refine zR (.tmp 3) C2.out ?_)
   |(go_at_call 168;(with_reducible refine CN.out.mono ?_);rintro e w9 hn;obtain⟨H9,rfl,hn⟩:=hn;have NP:=zh (show jb0 q ({s with ph:=r.n,stable:=s.sp.v}) _ rv _ _ H r W2 _ w9 from⟨H9,rfl,hn⟩);clear hn))
  go_end0;exact jmf (s':=s9) H0.out K2.out NP.out (by rw[HS.out,if_pos H3.out]) (by rw[HS.out];rfl) (by rw[HS.out]) (by rw[HS.out];exact H0.out.raw) LK.out
 ·have h32:(r.n==3)=false:=by simpa using h3
  have H3:=zh h3;clear h3;have c3:=C1.out.cs.c3;have fz:=fun i=>A1.out.fz i;have lq:=A1.out.lt;have lg:=C1.out.cs.lt;go_upto_region 4 with fail
  clear c3 fz lq lg;have CN:=zh (jey q ({s with ph:=r.n}) _ rv _ _ H r W1 A1.out (H0.out.hist K1.out) H0.out.qh H0.out.lok.ok.hl)
  go_wp2_with(first
   |((with_reducible show zL 24);refine zR (.tmp 3) C1.out ?_)
   |(go_at_call 168;(with_reducible refine CN.out.mono ?_);rintro e w9 hn;obtain⟨H9,rfl,hn⟩:=hn;have NP:=zh (show jb0 q ({s with ph:=r.n}) _ rv _ _ H r W1 _ w9 from⟨H9,rfl,hn⟩);clear hn))
  go_end0;exact jmf (s':=s9) H0.out K1.out NP.out (by rw[HS.out,if_neg H3.out]) (by rw[HS.out];rfl) (by rw[HS.out]) (by rw[HS.out];exact H0.out.raw) LK.out
theorem jqv(q:Nat)(s:Bk.St)(ru:Nat->Bk.Un)(rv:Int)(lo ko:Option Nat)(H:Value)(K:Kv.St)(w:World)(h:BdIs w q s ru rv lo ko H K)(r:Rc.R)(hin:Rc.In r)(hk:r.kind=7)(hc:Bk.chk s r=0):Calls Tryz.prog 121 #[.pointer (some ⟨q,0,none⟩),.agg (Rc.cells r)] w (jay q lo ko H (Bk.act s r) (.tuple #[]) w):=by
 have HR:=zh (Bk.chk_right hc);have LK:=zh (Bd.act_lok h.lok hc);have H0:=zh h;rw[Bk.act7 hk]at LK⊢;have HK:=zh hk;have GQ:Hid (w.heap.size≠q):=by have:=h.lt.1;show _≠_;omega
 obtain⟨W,hW⟩:∃W,W=w.alloc (.cells (Rc.cells r) 60):=⟨_,rfl⟩;obtain⟨g,hg⟩:∃g,g=w.heap.size:=⟨_,rfl⟩;have R0:=zh (RdC.open_ h r);rw[<-hW,<-hg]at R0;rw[<-hg]at GQ;clear h hk hc hin;go_in;go_upto_region 1 with fail
 rw[<-hW,<-hg];clear hW hg;have A0:=zh R0.out.bd.at_;have C0:=zh R0.out.rc;have K0:=zh (KQ.of R0.out.b q);have b10:=A0.out.cs.c10;have b11:=A0.out.cs.c11;have c2:=C0.out.cs.c2;have c3:=C0.out.cs.c3;have fz:=fun i=>A0.out.fz i;have lq:=A0.out.lt;have lg:=C0.out.cs.lt;go_upto_region 1 with fail
 go_region;clear b10 b11 c2 c3 fz lq lg;have A1:=zh (show BdAt (((W.setCell ⟨q,10,none⟩ (.int .i64 r.who)).setCell ⟨q,11,none⟩ (.int .i64 r.n)).drew) q _ _ _ _ _ _ from(jd8 ((A0.out.step r.who).since r.n)));have C1:=zh (jgx (ja5 (ja5 C0.out GQ.out (10) (.int .i64 r.who)) GQ.out (11) (.int .i64 r.n)));have K1:=zh (KQ.drew (KQ.set (KQ.set K0.out (10) (.int .i64 r.who)) (11) (.int .i64 r.n)));generalize hW1:((W.setCell ⟨q,10,none⟩ (.int .i64 r.who)).setCell ⟨q,11,none⟩ (.int .i64 r.n)).drew=W1 at*;clear hW1;have CN:=zh (jey q ({s with step:=r.who,since:=r.n}) _ rv _ _ H r W1 A1.out (H0.out.hist K1.out) H0.out.qh H0.out.lok.ok.hl)
 go_wp2_with(first
  |((with_reducible show zL 17);refine zR (.tmp 3) C1.out ?_)
  |(go_at_call 168;(with_reducible refine CN.out.mono ?_);rintro e w9 hn;obtain⟨H9,rfl,hn⟩:=hn;have NP:=zh (show jb0 q ({s with step:=r.who,since:=r.n}) _ rv _ _ H r W1 _ w9 from⟨H9,rfl,hn⟩);clear hn))
 go_end0;exact jmf H0.out K1.out NP.out rfl rfl rfl H0.out.raw LK.out
theorem jqw(q:Nat)(s:Bk.St)(ru:Nat->Bk.Un)(rv:Int)(lo ko:Option Nat)(H:Value)(K:Kv.St)(w:World)(h:BdIs w q s ru rv lo ko H K)(r:Rc.R)(hin:Rc.In r)(hk:r.kind=3)(hc:Bk.chk s r=0):Calls Tryz.prog 113 #[.pointer (some ⟨q,0,none⟩),.agg (Rc.cells r)] w (jay q lo ko H (Bk.act s r) (.tuple #[]) w):=by
 have HR:=zh (Bk.chk_right hc);have LK:=zh (Bd.act_lok h.lok hc);have H0:=zh h;rw[Bk.act3 hk]at LK⊢;have HK:=zh hk;have GQ:Hid (w.heap.size≠q):=by have:=h.lt.1;show _≠_;omega
 obtain⟨W,hW⟩:∃W,W=w.alloc (.cells (Rc.cells r) 60):=⟨_,rfl⟩;obtain⟨g,hg⟩:∃g,g=w.heap.size:=⟨_,rfl⟩;have R0:=zh (RdC.open_ h r);rw[<-hW,<-hg]at R0;rw[<-hg]at GQ;clear h hk hc hin;go_in;go_upto_region 1 with fail
 rw[<-hW,<-hg];clear hW hg;have A0:=zh R0.out.bd.at_;have C0:=zh R0.out.rc;have K0:=zh (KQ.of R0.out.b q);have b7:=A0.out.cs.c7;have b8:=A0.out.cs.c8;have b9:=A0.out.cs.c9;have b14:=A0.out.cs.c14;have b15:=A0.out.cs.c15;have b16:=A0.out.cs.c16;have b17:=A0.out.cs.c17;have b18:=A0.out.cs.c18;have b19:=A0.out.cs.c19;have b20:=A0.out.cs.c20;have b21:=A0.out.cs.c21;have b22:=A0.out.cs.c22;have b23:=A0.out.cs.c23;have b24:=A0.out.cs.c24;have b25:=A0.out.cs.c25;have c6:=C0.out.cs.c6;have c7:=C0.out.cs.c7;have c8:=C0.out.cs.c8;have c9:=C0.out.cs.c9;have c10:=C0.out.cs.c10;have c11:=C0.out.cs.c11;have c12:=C0.out.cs.c12;have c13:=C0.out.cs.c13;have c14:=C0.out.cs.c14;have c15:=C0.out.cs.c15;have c16:=C0.out.cs.c16;have c17:=C0.out.cs.c17;have fz:=fun i=>A0.out.fz i;have lq:=A0.out.lt;have lg:=C0.out.cs.lt;go_upto_region 1 with fail
 go_region;clear b7 b8 b9 b14 b15 b16 b17 b18 b19 b20 b21 b22 b23 b24 b25 c6 c7 c8 c9 c10 c11 c12 c13 c14 c15 c16 c17 fz lq lg;have A1:=zh (show BdAt (((((((((((((((W.setCell ⟨q,14,none⟩ (.int .i64 r.sp.v)).setCell ⟨q,15,none⟩ (.int .i64 r.sp.d)).setCell ⟨q,16,none⟩ (.int .i64 r.sp.u)).setCell ⟨q,17,none⟩ (.int .i64 r.sp.n)).setCell ⟨q,18,none⟩ (.int .i64 r.sp.g)).setCell ⟨q,19,none⟩ (.int .i64 r.sp.a)).setCell ⟨q,20,none⟩ (.int .i64 r.sp.b)).setCell ⟨q,21,none⟩ (.int .i64 r.sp.c)).setCell ⟨q,22,none⟩ (.int .i64 r.sp.e)).setCell ⟨q,23,none⟩ (.int .i64 r.sp.w)).setCell ⟨q,24,none⟩ (.int .i64 r.sp.x)).setCell ⟨q,25,none⟩ (.int .i64 r.sp.k)).setCell ⟨q,9,none⟩ (.int .i64 1)).setCell ⟨q,8,none⟩ (.int .i64 s.stable)).drew) q _ _ _ _ _ _ from(jd8 (((A0.out.spec r.sp).ph 1).frm s.stable)));have C1:=zh (jgx (ja5 (ja5 (ja5 (ja5 (ja5 (ja5 (ja5 (ja5 (ja5 (ja5 (ja5 (ja5 (ja5 (ja5 C0.out GQ.out (14) (.int .i64 r.sp.v)) GQ.out (15) (.int .i64 r.sp.d)) GQ.out (16) (.int .i64 r.sp.u)) GQ.out (17) (.int .i64 r.sp.n)) GQ.out (18) (.int .i64 r.sp.g)) GQ.out (19) (.int .i64 r.sp.a)) GQ.out (20) (.int .i64 r.sp.b)) GQ.out (21) (.int .i64 r.sp.c)) GQ.out (22) (.int .i64 r.sp.e)) GQ.out (23) (.int .i64 r.sp.w)) GQ.out (24) (.int .i64 r.sp.x)) GQ.out (25) (.int .i64 r.sp.k)) GQ.out (9) (.int .i64 1)) GQ.out (8) (.int .i64 s.stable)));have K1:=zh (KQ.drew (KQ.set (KQ.set (KQ.set (KQ.set (KQ.set (KQ.set (KQ.set (KQ.set (KQ.set (KQ.set (KQ.set (KQ.set (KQ.set (KQ.set K0.out (14) (.int .i64 r.sp.v)) (15) (.int .i64 r.sp.d)) (16) (.int .i64 r.sp.u)) (17) (.int .i64 r.sp.n)) (18) (.int .i64 r.sp.g)) (19) (.int .i64 r.sp.a)) (20) (.int .i64 r.sp.b)) (21) (.int .i64 r.sp.c)) (22) (.int .i64 r.sp.e)) (23) (.int .i64 r.sp.w)) (24) (.int .i64 r.sp.x)) (25) (.int .i64 r.sp.k)) (9) (.int .i64 1)) (8) (.int .i64 s.stable)));generalize hW1:((((((((((((((W.setCell ⟨q,14,none⟩ (.int .i64 r.sp.v)).setCell ⟨q,15,none⟩ (.int .i64 r.sp.d)).setCell ⟨q,16,none⟩ (.int .i64 r.sp.u)).setCell ⟨q,17,none⟩ (.int .i64 r.sp.n)).setCell ⟨q,18,none⟩ (.int .i64 r.sp.g)).setCell ⟨q,19,none⟩ (.int .i64 r.sp.a)).setCell ⟨q,20,none⟩ (.int .i64 r.sp.b)).setCell ⟨q,21,none⟩ (.int .i64 r.sp.c)).setCell ⟨q,22,none⟩ (.int .i64 r.sp.e)).setCell ⟨q,23,none⟩ (.int .i64 r.sp.w)).setCell ⟨q,24,none⟩ (.int .i64 r.sp.x)).setCell ⟨q,25,none⟩ (.int .i64 r.sp.k)).setCell ⟨q,9,none⟩ (.int .i64 1)).setCell ⟨q,8,none⟩ (.int .i64 s.stable)).drew=W1 at*;clear hW1;clear A0 C0 K0;have b10:=A1.out.cs.c10;have b11:=A1.out.cs.c11;have b12:=A1.out.cs.c12;have c3:=C1.out.cs.c3;have fz:=fun i=>A1.out.fz i;have lq:=A1.out.lt;have lg:=C1.out.cs.lt;go_upto_region 2 with fail
 go_region;clear b10 b11 b12 c3 fz lq lg;have A2:=zh (show BdAt ((((W1.setCell ⟨q,10,none⟩ (.int .i64 0)).setCell ⟨q,11,none⟩ (.int .i64 r.n)).setCell ⟨q,12,none⟩ (.int .i64 r.n)).drew) q _ _ _ _ _ _ from(jd8 (((A1.out.step 0).since r.n).begun r.n)));have C2:=zh (jgx (ja5 (ja5 (ja5 C1.out GQ.out (10) (.int .i64 0)) GQ.out (11) (.int .i64 r.n)) GQ.out (12) (.int .i64 r.n)));have K2:=zh (KQ.drew (KQ.set (KQ.set (KQ.set K1.out (10) (.int .i64 0)) (11) (.int .i64 r.n)) (12) (.int .i64 r.n)));generalize hW2:(((W1.setCell ⟨q,10,none⟩ (.int .i64 0)).setCell ⟨q,11,none⟩ (.int .i64 r.n)).setCell ⟨q,12,none⟩ (.int .i64 r.n)).drew=W2 at*;clear hW2;have CN:=zh (jey q ({s with sp:=r.sp,ph:=1,from_:=s.stable,step:=0,since:=r.n,begun:=r.n}) _ rv _ _ H r W2 A2.out (H0.out.hist K2.out) H0.out.qh H0.out.lok.ok.hl)
 go_wp2_with(first
  |((with_reducible show zL 40);refine zR (.tmp 3) C2.out ?_)
  |(go_at_call 168;(with_reducible refine CN.out.mono ?_);rintro e w9 hn;obtain⟨H9,rfl,hn⟩:=hn;have NP:=zh (show jb0 q ({s with sp:=r.sp,ph:=1,from_:=s.stable,step:=0,since:=r.n,begun:=r.n}) _ rv _ _ H r W2 _ w9 from⟨H9,rfl,hn⟩);clear hn))
 go_end0;exact jmf H0.out K2.out NP.out rfl rfl rfl H0.out.raw LK.out
theorem jqx(q:Nat)(s:Bk.St)(ru:Nat->Bk.Un)(rv:Int)(lo ko:Option Nat)(H:Value)(K:Kv.St)(w:World)(h:BdIs w q s ru rv lo ko H K)(r:Rc.R)(hin:Rc.In r)(hk:r.kind=5)(hc:Bk.chk s r=0):Calls Tryz.prog 117 #[.pointer (some ⟨q,0,none⟩),.agg (Rc.cells r)] w (jay q lo ko H (Bk.act s r) (.tuple #[]) w):=by
 have HR:=zh (Bk.chk_right hc);have LK:=zh (Bd.act_lok h.lok hc);have H0:=zh h;rw[Bk.act5 hk]at LK⊢;have HK:=zh hk;have GQ:Hid (w.heap.size≠q):=by have:=h.lt.1;show _≠_;omega
 obtain⟨hw0,hw1,hw2⟩:=Rc.right5 hk HR.out;obtain⟨k,hkk⟩:=Int.eq_ofNat_of_zero_le hw0.1;have k16:k<16:=by omega
 have i16:(k:Int)<16:=by omega
 have SQ0:Hid (r.seq≠0):=by show _≠_;omega
 clear hw0 hw1 hw2;rw[hkk,Int.toNat_natCast]at LK⊢;obtain⟨W,hW⟩:∃W,W=w.alloc (.cells (Rc.cells r) 60):=⟨_,rfl⟩;obtain⟨g,hg⟩:∃g,g=w.heap.size:=⟨_,rfl⟩;have R0:=zh (RdC.open_ h r);rw[<-hW,<-hg]at R0;rw[<-hg]at GQ;clear h hk hc hin;go_in;go_upto_region 1 with fail
 rw[<-hW,<-hg];clear hW hg;have A0:=zh R0.out.bd.at_;have C0:=zh R0.out.rc;have K0:=zh (KQ.of R0.out.b q);have c2:=C0.out.cs.c2;have c3:=C0.out.cs.c3;have c4:=C0.out.cs.c4;have fz:=fun i=>A0.out.fz i;have lq:=A0.out.lt;have lg:=C0.out.cs.lt;obtain⟨u0,u1,u2⟩:=A0.out.unit k16;rw[hkk]at c2;go_upto_region 1 with fail
 go_region;clear c2 c3 c4 fz lq lg;clear u0 u1 u2;have A1:=zh (show BdAt ((((W.setCell ⟨q,26+k*3,none⟩ (.int .i64 r.n)).setCell ⟨q,26+k*3+1,none⟩ (.int .i64 r.seq)).setCell ⟨q,26+k*3+2,none⟩ (.bool false)).drew) q _ _ _ _ _ _ from(jd8 (((A0.out.unitV k16 r.n).unitQ k16 r.seq).unitD k16 false)));have C1:=zh (jgx (ja5 (ja5 (ja5 C0.out GQ.out (26+k*3) (.int .i64 r.n)) GQ.out (26+k*3+1) (.int .i64 r.seq)) GQ.out (26+k*3+2) (.bool false)));have K1:=zh (KQ.drew (KQ.set (KQ.set (KQ.set K0.out (26+k*3) (.int .i64 r.n)) (26+k*3+1) (.int .i64 r.seq)) (26+k*3+2) (.bool false)));generalize hW1:(((W.setCell ⟨q,26+k*3,none⟩ (.int .i64 r.n)).setCell ⟨q,26+k*3+1,none⟩ (.int .i64 r.seq)).setCell ⟨q,26+k*3+2,none⟩ (.bool false)).drew=W1 at*;clear hW1;clear A0 C0 K0;have b13:=A1.out.cs.c13;have c4:=C1.out.cs.c4;have fz:=fun i=>A1.out.fz i;have lq:=A1.out.lt;have lg:=C1.out.cs.lt;go_wp2_with fail;clear b13 c4 fz lq lg;have A2:=zh (show BdAt ((W1.setCell ⟨q,13,none⟩ (.int .i64 r.seq))) q _ _ _ _ _ _ from(A1.out.seq r.seq));have C2:=zh (ja5 C1.out GQ.out (13) (.int .i64 r.seq));have K2:=zh (KQ.set K1.out (13) (.int .i64 r.seq));generalize hW2:(W1.setCell ⟨q,13,none⟩ (.int .i64 r.seq))=W2 at*;clear hW2;go_end0;refine turn_q H0.out K2.out (ru':=Bk.setU ru k ⟨r.n,r.seq,false⟩) ⟨by rw[A2.out.row];congr 2;exact jui fun i=>by unfold Bk.setU;by_cases h:i=k<;>simp[h]⟩ rfl rfl rfl (H0.out.raw.intent k r.n r.seq SQ0.out) LK.out
theorem jqy(q:Nat)(s:Bk.St)(ru:Nat->Bk.Un)(rv:Int)(lo ko:Option Nat)(H:Value)(K:Kv.St)(w:World)(h:BdIs w q s ru rv lo ko H K)(r:Rc.R)(hin:Rc.In r)(hk:r.kind=6)(hc:Bk.chk s r=0):Calls Tryz.prog 119 #[.pointer (some ⟨q,0,none⟩),.agg (Rc.cells r)] w (jay q lo ko H (Bk.act s r) (.tuple #[]) w):=by
 have HR:=zh (Bk.chk_right hc);have LK:=zh (Bd.act_lok h.lok hc);have H0:=zh h;rw[Bk.act6 hk]at LK⊢;have HK:=zh hk;have GQ:Hid (w.heap.size≠q):=by have:=h.lt.1;show _≠_;omega
 obtain⟨hw0,hw1⟩:=Rc.right6 hk HR.out;obtain⟨k,hkk⟩:=Int.eq_ofNat_of_zero_le hw0.1;have k16:k<16:=by omega
 have i16:(k:Int)<16:=by omega
 have SQ0:Hid ((ru k).q≠0):=by
  have h1:=Bk.six_ok (by rw[<-Bk.chk_six HR.out hk (Bk.chk_epoch hc zv)];exact hc);have h2:=(h.raw k k16).1;rw[hkk,Int.toNat_natCast,h2]at h1;have h3:(ru k).q=r.seq:=h1.1;show _≠_;omega
 clear hw0 hw1;rw[hkk,Int.toNat_natCast]at LK⊢;obtain⟨W,hW⟩:∃W,W=w.alloc (.cells (Rc.cells r) 60):=⟨_,rfl⟩;obtain⟨g,hg⟩:∃g,g=w.heap.size:=⟨_,rfl⟩;have R0:=zh (RdC.open_ h r);rw[<-hW,<-hg]at R0;rw[<-hg]at GQ;clear h hk hc hin;go_in;go_upto_region 1 with fail
 rw[<-hW,<-hg];clear hW hg;have A0:=zh R0.out.bd.at_;have C0:=zh R0.out.rc;have K0:=zh (KQ.of R0.out.b q);have c2:=C0.out.cs.c2;have fz:=fun i=>A0.out.fz i;have lq:=A0.out.lt;have lg:=C0.out.cs.lt;obtain⟨u0,u1,u2⟩:=A0.out.unit k16;rw[hkk]at c2;go_upto_region 1 with fail
 go_region;clear c2 fz lq lg;clear u0 u1 u2;have A1:=zh (show BdAt ((W.setCell ⟨q,26+k*3+2,none⟩ (.bool true)).drew) q _ _ _ _ _ _ from(jd8 (A0.out.unitD k16 true)));have C1:=zh (jgx (ja5 C0.out GQ.out (26+k*3+2) (.bool true)));have K1:=zh (KQ.drew (KQ.set K0.out (26+k*3+2) (.bool true)));generalize hW1:(W.setCell ⟨q,26+k*3+2,none⟩ (.bool true)).drew=W1 at*;clear hW1;go_wp2;go_end0;exact turn_q H0.out K1.out (A1.out.us _) rfl rfl rfl (H0.out.raw.ack k k16 SQ0.out) LK.out
theorem jno(W:World)(X:Nat->Prop)(q:Nat)(cs:Array Value)(ty:TypeId)(mo:Option Nat)(s:Ls.St)(hx:LsX W X q mo)(h:LsIs W q cs ty mo s)(hf:Ls.Few s 2199023255552)(k:ByteArray)(hk:k.size<=maxLen)(ho now ttl:Int):
  Calls Tryz.prog 162 #[.pointer (some ⟨q,0,none⟩),.string k,.int .i64 ho,.int .i64 now,.int .i64 ttl] W (jlu q cs ty mo (Ls.takeS s k ho now ttl) (.tuple #[.int .i64 (Ls.takeN s k ho now ttl),.int .i64 (Ls.takeE s k ho now ttl:Nat)]) W):=by
 have HX:=zh hx;have H0:=zh h;have HF:=zh hf;have HKS:=zh hk;have RIs:∀n e,Ls.takeE s k ho now ttl=e->Ls.takeN s k ho now ttl=n->Hid (Ls.takeE s k ho now ttl=e/\Ls.takeN s k ho now ttl=n):=fun _ _ h1 h2=>⟨h1,h2⟩;clear hx h hf hk;by_cases hr:Ls.Right k ho now ttl
 case neg=>
  have e1:Ls.takeE s k ho now ttl=1:=by unfold Ls.takeE;rw[if_pos hr]
  have e2:Ls.takeN s k ho now ttl=0:=by unfold Ls.takeN;rw[if_neg (by rw[e1];omega)]
  have e3:Ls.takeS s k ho now ttl=s:=by unfold Ls.takeS;rw[if_neg (by rw[e1];omega)]
  rw[e1,e2,e3];have CM:=zh (jep W k ho now ttl HKS.out (x:=false) (by simpa using hr));clear e1 e2 e3 hr RIs;go_in;go_wp2_with(go_at_call 200;(with_reducible refine CM.out.mono ?_);rintro e w1 ⟨rfl,rfl⟩);exact bodyPost_ret (v:= .tuple #[.int .i64 0,.int .i64 1]) (by simp[results,Tryz.results162,go_sem]) rfl (jgq HX.out H0.out (Below.refl _ _) _)
 have CM:=zh (jep W k ho now ttl HKS.out (x:=true) (by simpa using hr));have HR:=zh hr;obtain⟨a,ha⟩:∃a,a=Ls.holderOf s.l k:=⟨_,rfl⟩;obtain⟨b,hb⟩:∃b,b=Ls.epochOf s.l k:=⟨_,rfl⟩;obtain⟨c,hc⟩:∃c,c=Ls.tillOf s.l k:=⟨_,rfl⟩;have TT:=zh (Ls.till_time H0.out.good k);rw[<-hc]at TT;have EP:=zh (And.intro (Ls.epoch_pos H0.out.good k) (Ls.few_epoch HF.out k));rw[<-hb]at EP;have EA:=zh ha.symm;have EB:=zh hb.symm;have EC:=zh hc.symm;have FI:=zh (Ls.free_iff H0.out.good k now);rw[<-hc]at FI;have CFx:Hid (∀x:Bool,(x=true↔Ls.Free s k now)->∀W,Calls Tryz.prog 199 #[.agg #[.int .i64 a,.int .i64 b,.int .i64 c],.int .i64 now,.int .i64 s.margin] W (fun e w'=>e= .returned (.bool x)/\Below W.heap.size W w')):=fun x hx W=>jhk W a b c now s.margin TT.out.1 TT.out.2 H0.out.good.m0 H0.out.good.m1 (hx.trans FI.out);clear ha hb hc hr RIs;by_cases hfr:Ls.Free s k now
 case neg=>
  have e1:Ls.takeE s k ho now ttl=9:=by unfold Ls.takeE;rw[if_neg (fun h=>h HR.out),if_pos hfr]
  have e2:Ls.takeN s k ho now ttl=0:=by unfold Ls.takeN;rw[if_neg (by rw[e1];omega)]
  have e3:Ls.takeS s k ho now ttl=s:=by unfold Ls.takeS;rw[if_neg (by rw[e1];omega)]
  rw[e1,e2,e3];have CF:=zh (CFx.out false (by simpa using hfr));clear e1 e2 e3 hfr CFx;go_in;go_upto_region 3 with(go_at_call 200;(with_reducible refine CM.out.mono ?_);rintro e w1 ⟨rfl,rfl⟩)
  obtain⟨c0,c1,f1,hq⟩:=H0.out.cells;have hlk:=H0.out.look k HKS.out;rw[EA.out,EB.out,EC.out]at hlk;unfold leV at hlk;go_upto_region 4 with fail
  have B2:=zh ((Below.refl w1.heap.size w1).alloc (Nat.le_refl _) (.cells #[.int .i64 a,.int .i64 b,.int .i64 c] 215));have R2:=zh (heap_alloc_new w1 (.cells #[.int .i64 a,.int .i64 b,.int .i64 c] 215));have H2:=zh (H0.out.on B2.out);obtain⟨g,hg⟩:∃g,g=w1.heap.size:=⟨_,rfl⟩;rw[<-hg]at R2⊢;have GB:Hid (w1.heap.size<=g):=Nat.le_of_eq hg.symm;clear hg c0 c1 f1 hq hlk;generalize w1.alloc (.cells #[.int .i64 a,.int .i64 b,.int .i64 c] 215)=w2 at*;refine wp_region_held_drew (S:=fun W=>LsIs W q cs ty mo s/\W.heap[g]? =some (.cells #[.int .i64 a,.int .i64 b,.int .i64 c] 215 (0,0))) zk ⟨H2.out.on (Below.refl w2.heap.size w2).drew,R2.out⟩ (fun hS=> ?_);refine tZ 0 rfl (by intro W hW;have d0:=LsCells.c0 hW.2;have d1:=LsCells.c1 hW.2;have d2:=LsCells.c2 hW.2;go_simp;(try with_reducible rfl)) hS ?_;refine tY 1 hS ?_;refine tY 2 hS ?_;refine tY 3 hS ?_;refine tY 4 hS ?_;refine tZ 5 rfl (by intro W hW;obtain⟨c0,c1,f1,hq⟩:=hW.1.cells;go_simp;(try with_reducible rfl)) hS ?_;simp only[Act.put,zT,zO,zS];refine rO 6 (fun K hK=> ?_);go_simp
  with_reducible refine(CF.out _).mono ?_
  rintro e w3 ⟨rfl,hb⟩;have hS2:LsIs w3 q cs ty mo s/\_:=⟨hS.1.on hb,jag hS.2 hb⟩;have B3:=zh (B2.out.drew.trans (hb.mono B2.out.drew.size));clear hS hb;have hS:=hS2;clear hS2;refine hK.out _ _ hS (fun _=> ?_);clear hK K;refine tY 7 hS ?_;simp only[Act.put,zT,zO,zS];refine wpAnyH_done zk ?_ _;go_wp2_with fail;exact bodyPost_ret (v:= .tuple #[.int .i64 0,.int .i64 9]) (by simp[results,Tryz.results162,go_sem]) rfl (jgq HX.out H0.out B3.out _)
 case pos=>
  have e1:Ls.takeE s k ho now ttl=0:=by unfold Ls.takeE;rw[if_neg (fun h=>h HR.out),if_neg (fun h=>h hfr)]
  have e2:Ls.takeN s k ho now ttl=b+1:=by unfold Ls.takeN;rw[if_pos e1,EB.out]
  have e3:Ls.takeS s k ho now ttl=⟨s.margin,Ls.put s.l ⟨k,ho,b+1,Ls.late now ttl,false⟩⟩:=by unfold Ls.takeS;rw[if_pos e1];unfold Ls.taken;rw[EB.out]
  have GD:=Ls.taken_good H0.out.good HR.out;have FW:=Ls.take_few HF.out k ho now ttl;unfold Ls.taken at GD;rw[EB.out]at GD;rw[e3]at FW;rw[e1,e2,e3];have CF:=zh (CFx.out true (by simpa using hfr));have CL:=zh (fun W=>jd3 W now ttl (by have:=HR.out.2.2.2.2.1.1;omega) (by have:=HR.out.2.2.2.2.1.2;omega) (by have:=HR.out.2.2.2.2.2.1;omega) (by have:=HR.out.2.2.2.2.2.2;omega));generalize Ls.late now ttl=d at*;have CP:Hid (∀W,LsIs W q cs ty mo s->Calls Tryz.prog 203 #[.pointer (some ⟨q,0,none⟩),.string k,.agg #[.int .i64 ho,.int .i64 (b+1),.int .i64 d]] W (LsPut W q cs ty mo ⟨s.margin,Ls.put s.l ⟨k,ho,b+1,d,false⟩⟩)):=fun W h=>ji2 W q cs ty mo s h k HKS.out ho (b+1) d false GD FW;have hs1:IntKind.i64.wrap (b+1)=b+1:=by have:=EP.out.1;have:=EP.out.2;rw[IntKind.wrap_i64];omega
  have hs2:wrap64 (b+1)=b+1:=by have:=EP.out.1;have:=EP.out.2;exact IntWalk.wrap64_in _ ⟨zv,zv⟩
  clear e1 e2 e3 hfr CFx GD FW;go_in;go_upto_region 3 with(go_at_call 200;(with_reducible refine CM.out.mono ?_);rintro e w1 ⟨rfl,rfl⟩)
  obtain⟨c0,c1,f1,hq⟩:=H0.out.cells;have hlk:=H0.out.look k HKS.out;rw[EA.out,EB.out,EC.out]at hlk;unfold leV at hlk;go_upto_region 4 with fail
  have B2:=zh ((Below.refl w1.heap.size w1).alloc (Nat.le_refl _) (.cells #[.int .i64 a,.int .i64 b,.int .i64 c] 215));have R2:=zh (heap_alloc_new w1 (.cells #[.int .i64 a,.int .i64 b,.int .i64 c] 215));have H2:=zh (H0.out.on B2.out);obtain⟨g,hg⟩:∃g,g=w1.heap.size:=⟨_,rfl⟩;rw[<-hg]at R2⊢;have GB:Hid (w1.heap.size<=g):=Nat.le_of_eq hg.symm;clear hg c0 c1 f1 hq hlk;generalize w1.alloc (.cells #[.int .i64 a,.int .i64 b,.int .i64 c] 215)=w2 at*;refine wp_region_held_drew (S:=fun W=>LsIs W q cs ty mo s/\W.heap[g]? =some (.cells #[.int .i64 a,.int .i64 b,.int .i64 c] 215 (0,0))) zk ⟨H2.out.on (Below.refl w2.heap.size w2).drew,R2.out⟩ (fun hS=> ?_);refine tZ 0 rfl (by intro W hW;have d0:=LsCells.c0 hW.2;have d1:=LsCells.c1 hW.2;have d2:=LsCells.c2 hW.2;go_simp;(try with_reducible rfl)) hS ?_;refine tY 1 hS ?_;refine tY 2 hS ?_;refine tY 3 hS ?_;refine tY 4 hS ?_;refine tZ 5 rfl (by intro W hW;obtain⟨c0,c1,f1,hq⟩:=hW.1.cells;go_simp;(try with_reducible rfl)) hS ?_;simp only[Act.put,zT,zO,zS];refine rO 6 (fun K hK=> ?_);go_simp
  with_reducible refine(CF.out _).mono ?_
  rintro e w3 ⟨rfl,hb⟩;have hS2:LsIs w3 q cs ty mo s/\_:=⟨hS.1.on hb,jag hS.2 hb⟩;have B3:=zh (B2.out.drew.trans (hb.mono B2.out.drew.size));clear hS hb;have hS:=hS2;clear hS2;refine hK.out _ _ hS (fun _=> ?_);clear hK K;refine tY 7 hS ?_;simp only[Act.put,zT,zO,zS];refine wpAnyH_done zk ?_ _;go_upto_region 6 with fail
  have H4:=zh (hS.1.on (Below.refl w3.heap.size w3).drew);have RW:=zh hS.2;have B4:=zh B3.out.drew;have NG:Hid (¬(g=q\/mo=some g)):=fun h=>by
   have:=GB.out;rcases h with rfl|h
   ·have:=HX.out.lt g HX.out.q;omega
   ·have:=HX.out.lt g (HX.out.m g h);omega
  clear hS;refine wp_region_held_drew (S:=fun W=>W.heap[g]? =some (.cells #[.int .i64 a,.int .i64 b,.int .i64 c] 215 (0,0))) zk RW.out (fun hS=> ?_);refine tY 0 hS ?_;refine tY 1 hS ?_;refine tY 2 hS ?_;refine tY 3 hS ?_;refine tZ 4 rfl (by intro W hW;have d0:=LsCells.c0 hW;have d1:=LsCells.c1 hW;have d2:=LsCells.c2 hW;go_simp;(try with_reducible rfl)) hS ?_;refine tY 5 hS ?_;simp only[Act.put,zT,zO,zS];refine tY 6 hS ?_;refine tY 7 hS ?_;simp only[Act.put,zT,zO,zS];refine rO 8 (fun K hK=> ?_);go_simp
  with_reducible refine(CL.out _).mono ?_
  rintro e w4 ⟨rfl,hw⟩;obtain rfl:=hw.symm;refine hK.out _ _ hS (fun _=> ?_);clear hK K;refine tY 9 hS ?_;simp only[Act.put,zT,zO,zS];refine rO 10 (fun K hK=> ?_);go_simp
  with_reducible refine(CP.out _ H4.out).mono ?_
  rintro e w5 ⟨mo5,rfl,hm5,hk5,hn5⟩;have hS2:=(hk5.block g (Array.getElem?_eq_some_iff.1 hS).1 NG.out).trans hS;have M5:=zh hm5;have K5:=zh hk5;have N5:=zh hn5;clear hS hm5 hk5 hn5;have hS:=hS2;clear hS2;refine hK.out _ _ hS (fun _=> ?_);clear hK K;try simp only[Act.put,zT,zO,zS]
  refine wpAnyH_done zk ?_ _;have d0:=LsCells.c0 hS;have d1:=LsCells.c1 hS;have d2:=LsCells.c2 hS;go_wp2_with fail;exact bodyPost_ret (v:= .tuple #[.int .i64 (b+1),.int .i64 0]) (by simp[results,Tryz.results162,go_sem]) rfl (jkw HX.out B4.out M5.out K5.out N5.out _)
namespace Ls
theorem few_same{s:St}{n:Nat}{m:Int}{e x:En}(hf:Few s n)(hr:Rise s.l)(he:find s.l x.name=some e)(hx:x.epoch=e.epoch):Few ⟨m,put s.l x⟩ n:=by
 refine⟨fun y hy=> ?_,?_⟩
 ·rcases mem_put hy with rfl|hy
  ·rw[hx];exact hf.1 e (find_some he).1
  ·exact hf.1 y hy
 ·show(put s.l x).length<=n
  rw[put_length hr,he];exact hf.2
theorem note_found{s:St}{k:ByteArray}{h ep:Int}(h0:notE s k h ep=0):∃e,find s.l k=some e/\e.holder=h/\e.epoch=ep:=by
 unfold notE at h0
 cases he:find s.l k with
 |none=>rw[he]at h0;cases h0
 |some e=>
  rw[he]at h0;refine⟨e,rfl,?_⟩;by_cases h1:Other e h ep
  ·simp[h1]at h0
  ·unfold Other at h1;omega
theorem renew_no{s:St}{k:ByteArray}{h ep now ttl:Int}(hr:Right k h now ttl)(h0:notE s k h ep≠0):renewE s k h ep now ttl=notE s k h ep:=by
 unfold renewE notE at*;rw[if_neg (fun h=>h hr)]
 cases he:find s.l k with
 |none=>rfl
 |some e=>
  rw[he]at h0;by_cases h1:Other e h ep
  ·simp[h1]
  ·simp[h1]at h0
open Classical in
theorem renew_is{s:St}(hs:Good s){k:ByteArray}{h ep now ttl:Int}(hr:Right k h now ttl)(h0:notE s k h ep=0):(tillOf s.l k≠0/\now<tillOf s.l k->renewE s k h ep now ttl=0)/\(¬(tillOf s.l k≠0/\now<tillOf s.l k)->renewE s k h ep now ttl=9):=by
 obtain⟨e,he,e1,e2⟩:=note_found h0;have h1:=hs.each e (find_some he).1;have ht:tillOf s.l k=e.till:=by unfold tillOf;rw[he]
 have hno:¬Other e h ep:=by unfold Other;omega
 have hE:renewE s k h ep now ttl=if e.dropped=true\/e.till<=now then 9 else 0:=by
  unfold renewE;rw[if_neg (fun h=>h hr),he];show(if Other e h ep then 8 else _)=_;rw[if_neg hno]
 rw[ht,hE]
 cases hd:e.dropped with
 |true=>
  have:=h1.2.2.2.2.2.2.1 hd;exact⟨fun h=>absurd this h.1,fun _=>by simp⟩
 |false=>
  have:=h1.2.2.2.2.2.2.2 hd;exact⟨fun h=>by rw[if_neg];rintro(h2|h2);cases h2;omega,fun h=>by rw[if_pos];exact .inr zv⟩
theorem renewed_is{s:St}(hs:Good s)(hf:Few s 2199023255553){k:ByteArray}{h ep now ttl:Int}(hr:Right k h now ttl)(h0:notE s k h ep=0)(h2:tillOf s.l k≠0/\now<tillOf s.l k):
  renewed s k now ttl=⟨s.margin,put s.l ⟨k,holderOf s.l k,epochOf s.l k,max (tillOf s.l k) (late now ttl),false⟩⟩/\Good (renewed s k now ttl)/\Few (renewed s k now ttl) 2199023255553:=by
 obtain⟨e,he,e1,e2⟩:=note_found h0;have h1:=hs.each e (find_some he).1;have hn:=(find_some he).2;have ht:tillOf s.l k=e.till:=by unfold tillOf;rw[he]
 have hh:holderOf s.l k=e.holder:=by unfold holderOf;rw[he]
 have hp:epochOf s.l k=e.epoch:=by unfold epochOf;rw[he]
 have hd:e.dropped=false:=by
  cases hd:e.dropped with
  |false=>rfl
  |true=>exact absurd (h1.2.2.2.2.2.2.1 hd) (by rw[<-ht];exact h2.1)
 have E:renewed s k now ttl=⟨s.margin,put s.l ⟨k,holderOf s.l k,epochOf s.l k,max (tillOf s.l k) (late now ttl),false⟩⟩:=by
  unfold renewed;rw[he,ht,hh,hp];show St.mk _ (put s.l ⟨e.name,_,_,_,e.dropped⟩)=_;rw[hn,hd]
 refine⟨E,renewed_good hs hr he hd,?_⟩;rw[E];exact few_same hf hs.rise he hp
end Ls
theorem jk6(W:World)(X:Nat->Prop)(q:Nat)(cs:Array Value)(ty:TypeId)(mo:Option Nat)(s:Ls.St)(hx:LsX W X q mo)(h:LsIs W q cs ty mo s)(k:ByteArray)(hk:k.size<=maxLen)(ho ep now ttl:Int):
  Calls Tryz.prog 161 #[.pointer (some ⟨q,0,none⟩),.string k,.int .i64 ho,.int .i64 ep,.int .i64 now,.int .i64 ttl] W (jlu q cs ty mo (Ls.renewS s k ho ep now ttl) (.tuple #[.int .i64 (Ls.renewN s k ho ep now ttl),.int .i64 (Ls.renewE s k ho ep now ttl:Nat)]) W):=by
 have HX:=zh hx;have H0:=zh h;have HKS:=zh hk;have CN:=zh (jps W q cs ty mo s h k hk ho ep);clear hx h hk;by_cases hr:Ls.Right k ho now ttl
 case neg=>
  have e1:Ls.renewE s k ho ep now ttl=1:=by unfold Ls.renewE;rw[if_pos hr]
  have e2:Ls.renewN s k ho ep now ttl=0:=by unfold Ls.renewN;rw[if_neg (by rw[e1];omega)]
  have e3:Ls.renewS s k ho ep now ttl=s:=by unfold Ls.renewS;rw[if_neg (by rw[e1];omega)]
  rw[e1,e2,e3];have CM:=zh (jep W k ho now ttl HKS.out (x:=false) (by simpa using hr));clear e1 e2 e3 hr CN;go_in;go_wp2_with(go_at_call 200;(with_reducible refine CM.out.mono ?_);rintro e w1 ⟨rfl,rfl⟩);exact bodyPost_ret (v:= .tuple #[.int .i64 0,.int .i64 1]) (by simp[results,Tryz.results161,go_sem]) rfl (jgq HX.out H0.out (Below.refl _ _) _)
 have CM:=zh (jep W k ho now ttl HKS.out (x:=true) (by simpa using hr));have HR:=zh hr;by_cases h0:Ls.notE s k ho ep=0
 case neg=>
  have e1:=Ls.renew_no (now:=now) (ttl:=ttl) hr h0;have e2:Ls.renewN s k ho ep now ttl=0:=by unfold Ls.renewN;rw[if_neg (by rw[e1];exact h0)]
  have e3:Ls.renewS s k ho ep now ttl=s:=by unfold Ls.renewS;rw[if_neg (by rw[e1];exact h0)]
  rw[e1,e2,e3];obtain⟨z,hz⟩:∃z,z=Ls.notE s k ho ep:=⟨_,rfl⟩;rw[<-hz]at h0 CN⊢;have hz0:((z:Int)==0)=false:=by rw[beq_eq_false_iff_ne];omega
  have HZ:=zh h0;clear e1 e2 e3 hz h0 hr;go_in
  go_wp2_with(first
   |(go_at_call 200;(with_reducible refine CM.out.mono ?_);rintro e w1 ⟨rfl,rfl⟩)
   |(go_at_call 201;(with_reducible refine CN.out.mono ?_);rintro e w2 ⟨rfl,hb⟩;have B1:=zh hb;clear hb))
  exact bodyPost_ret (v:= .tuple #[.int .i64 0,.int .i64 (z:Nat)]) (by simp[results,Tryz.results161,go_sem]) rfl (jgq HX.out H0.out B1.out _)
 rw[h0]at CN;have HI:=Ls.renew_is (now:=now) (ttl:=ttl) H0.out.good hr h0;have HD:=zh (fun h2=>Ls.renewed_is (now:=now) (ttl:=ttl) H0.out.good H0.out.few hr h0 h2);obtain⟨a,ha⟩:∃a,a=Ls.holderOf s.l k:=⟨_,rfl⟩;obtain⟨b,hb⟩:∃b,b=Ls.epochOf s.l k:=⟨_,rfl⟩;obtain⟨c,hc⟩:∃c,c=Ls.tillOf s.l k:=⟨_,rfl⟩;rw[<-hc]at HI HD;rw[<-ha,<-hb]at HD;have EA:=zh ha.symm;have EB:=zh hb.symm;have EC:=zh hc.symm;clear ha hb hc h0 hr;by_cases hhe:c≠0/\now<c
 case neg=>
  have e1:=HI.2 hhe;have e2:Ls.renewN s k ho ep now ttl=0:=by unfold Ls.renewN;rw[if_neg (by rw[e1];omega)]
  have e3:Ls.renewS s k ho ep now ttl=s:=by unfold Ls.renewS;rw[if_neg (by rw[e1];omega)]
  rw[e1,e2,e3];have CH:=zh (fun W=>je7 W a b c now (x:=false) (by simpa using hhe));clear e1 e2 e3 hhe HI HD;go_in;go_upto_region 6 with(first
   |(go_at_call 200;(with_reducible refine CM.out.mono ?_);rintro e w1 ⟨rfl,rfl⟩)
   |(go_at_call 201;(with_reducible refine CN.out.mono ?_);rintro e w2 ⟨rfl,hb⟩;have B1:=zh hb;clear hb))
  have H1:=zh (H0.out.on B1.out);obtain⟨c0,c1,f1,hq⟩:=H1.out.cells;have hlk:=H1.out.look k HKS.out;rw[EA.out,EB.out,EC.out]at hlk;unfold leV at*;have B2:=zh (B1.out.alloc (by have:=B1.out.size;omega) (.cells #[.int .i64 a,.int .i64 b,.int .i64 c] 215));go_wp2_with(go_at_call 198;(with_reducible refine(CH.out _).mono ?_);rintro e w3 ⟨rfl,hb⟩;have B3:=zh (B2.out.trans (hb.mono B2.out.size));clear hb);exact bodyPost_ret (v:= .tuple #[.int .i64 0,.int .i64 9]) (by simp[results,Tryz.results161,go_sem]) rfl (jgq HX.out H0.out B3.out _)
 case pos=>
  have e1:=HI.1 hhe;have HD2:=HD.out hhe;have e2:Ls.renewN s k ho ep now ttl=max c (Ls.late now ttl):=by unfold Ls.renewN;rw[if_pos e1,EC.out]
  have e3:Ls.renewS s k ho ep now ttl=⟨s.margin,Ls.put s.l ⟨k,a,b,max c (Ls.late now ttl),false⟩⟩:=by unfold Ls.renewS;rw[if_pos e1,HD2.1]
  have GD:=HD2.2.1;have FW:=HD2.2.2;rw[HD2.1]at GD FW;rw[e1,e2,e3];have CH:=zh (fun W=>je7 W a b c now (x:=true) (by simpa using hhe));have CL:=zh (fun W=>jd3 W now ttl (by have:=HR.out.2.2.2.2.1.1;omega) (by have:=HR.out.2.2.2.2.1.2;omega) (by have:=HR.out.2.2.2.2.2.1;omega) (by have:=HR.out.2.2.2.2.2.2;omega));generalize Ls.late now ttl=d at*;have CP:Hid (∀W,LsIs W q cs ty mo s->Calls Tryz.prog 203 #[.pointer (some ⟨q,0,none⟩),.string k,.agg #[.int .i64 a,.int .i64 b,.int .i64 (max c d)]] W (LsPut W q cs ty mo ⟨s.margin,Ls.put s.l ⟨k,a,b,max c d,false⟩⟩)):=fun W h=>ji2 W q cs ty mo s h k HKS.out a b (max c d) false GD FW;clear e1 e2 e3 hhe HI HD HD2 GD FW;go_in;go_upto_region 6 with(first
   |(go_at_call 200;(with_reducible refine CM.out.mono ?_);rintro e w1 ⟨rfl,rfl⟩)
   |(go_at_call 201;(with_reducible refine CN.out.mono ?_);rintro e w2 ⟨rfl,hb⟩;have B1:=zh hb;clear hb))
  have H1:=zh (H0.out.on B1.out);obtain⟨c0,c1,f1,hq⟩:=H1.out.cells;have hlk:=H1.out.look k HKS.out;rw[EA.out,EB.out,EC.out]at hlk;unfold leV at*;go_upto_region 7 with fail
  have B2:=zh (B1.out.alloc (by have:=B1.out.size;omega) (.cells #[.int .i64 a,.int .i64 b,.int .i64 c] 215));have R2:=zh (heap_alloc_new w2 (.cells #[.int .i64 a,.int .i64 b,.int .i64 c] 215));have H2:=zh (H1.out.on ((Below.refl w2.heap.size w2).alloc (Nat.le_refl _) (.cells #[.int .i64 a,.int .i64 b,.int .i64 c] 215)));obtain⟨g,hg⟩:∃g,g=w2.heap.size:=⟨_,rfl⟩;rw[<-hg]at R2⊢;have GB:Hid (w2.heap.size<=g):=Nat.le_of_eq hg.symm;clear hg c0 c1 f1 hq hlk;have NG:Hid (¬(g=q\/mo=some g)):=fun h=>by
   have:=GB.out;have:=B1.out.size;rcases h with rfl|h
   ·have:=HX.out.lt g HX.out.q;omega
   ·have:=HX.out.lt g (HX.out.m g h);omega
  generalize w2.alloc (.cells #[.int .i64 a,.int .i64 b,.int .i64 c] 215)=w3 at*;have d0:=LsCells.c0 R2.out;have d1:=LsCells.c1 R2.out;have d2:=LsCells.c2 R2.out;go_upto_region 9 with(go_at_call 198;(with_reducible refine(CH.out _).mono ?_);rintro e w4 ⟨rfl,hb⟩;have B4:=zh (B2.out.trans (hb.mono B2.out.size));have R4:=zh (jag R2.out hb);have H4:=zh (H2.out.on hb);clear hb d0 d1 d2)
  have H5:=zh (H4.out.on (Below.refl w4.heap.size w4).drew);have B5:=zh B4.out.drew;have d0:w4.drew.cell? ⟨g,0,none⟩=some (.int .i64 a):=LsCells.c0 R4.out;have d1:w4.drew.cell? ⟨g,1,none⟩=some (.int .i64 b):=LsCells.c1 R4.out;have d2:w4.drew.cell? ⟨g,2,none⟩=some (.int .i64 c):=LsCells.c2 R4.out;have f2:w4.drew.frozen? ⟨g,2,none⟩=false:=frozen_of_row _ g 2 _ _ (show w4.drew.heap[g]? =_ from R4.out);have lg:g<w4.drew.heap.size:=(Array.getElem?_eq_some_iff.1 (show w4.drew.heap[g]? =_ from R4.out)).1;have R5:Hid (w4.drew.heap[g]? =some (.cells #[.int .i64 a,.int .i64 b,.int .i64 c] 215 (0,0))):=R4.out;have hdr:Hid (Below w1.heap.size w1 w4.drew):=B5.out;refine wp_region_held_drew (S:=fun _=>True) zk trivial (fun hS=> ?_);refine tY 0 hS ?_;refine tY 2 hS ?_;refine tY 3 hS ?_;simp only[Act.put,zT,zO,zS];refine jf9 1 4 rfl rfl zk rfl rfl (fun K hK=> ?_) (fun K hK=> ?_)
  ·go_simp
   refine hK.out _ _ hS (fun _=> ?_);clear hK K;try simp only[Act.put,zT,zO,zS]
   refine rO 4 (fun K hK=> ?_);go_simp
   with_reducible refine(CL.out _).mono ?_
   rintro e w6 ⟨rfl,hw⟩;obtain rfl:=hw.symm;refine hK.out _ _ hS (fun _=> ?_);clear hK K;refine tY 5 hS ?_;refine tY 6 hS ?_;simp only[Act.put,zT,zO,zS];refine rO 7 (fun K hK=> ?_);go_simp;refine hK.out _ _ hS (fun _=> ?_);clear hK K;refine wpAnyH_done zk ?_ _;have R6:Hid ((w4.setCell ⟨g,2,none⟩ (.int .i64 (max c d))).drew.heap[g]? =some (.cells #[.int .i64 a,.int .i64 b,.int .i64 (max c d)] 215 (0,0))):=heap_setCell_same w4 g 2 _ _ (.int .i64 (max c d)) R4.out;have B6:Hid (Below w1.heap.size w1 (w4.setCell ⟨g,2,none⟩ (.int .i64 (max c d))).drew):=(B4.out.setCell (p:=⟨g,2,none⟩) (by have:=GB.out;have:=B1.out.size;show w1.heap.size<=g;omega) _).drew;have H6:Hid (LsIs (w4.setCell ⟨g,2,none⟩ (.int .i64 (max c d))).drew q cs ty mo s):=(H4.out.keep (heap_setCell_other _ _ _ _ (fun e=>NG.out (.inl e.symm))) (fun m hm=>heap_setCell_other _ _ _ _ (fun e=>NG.out (.inr (by rw[hm];exact congrArg some e))))).on (Below.refl _ _).drew;clear d0 d1 d2 f2 lg hS;generalize(w4.setCell ⟨g,2,none⟩ (.int .i64 (max c d))).drew=w6 at*;have d0:=LsCells.c0 R6.out;have d1:=LsCells.c1 R6.out;have d2:=LsCells.c2 R6.out;go_upto_region 11 with(go_at_call 203;(with_reducible refine(CP.out _ H6.out).mono ?_);rintro e w7 ⟨mo5,rfl,hm5,hk5,hn5⟩;have R7:=zh ((hk5.block g (Array.getElem?_eq_some_iff.1 R6.out).1 NG.out).trans R6.out);have M5:=zh hm5;have K5:=zh hk5;have N5:=zh hn5;clear hm5 hk5 hn5 d0 d1 d2)
   have d2:=LsCells.c2 R7.out;go_wp2_with fail;exact bodyPost_ret (v:= .tuple #[.int .i64 (max c d),.int .i64 0]) (by simp[results,Tryz.results161,go_sem]) rfl (jkw HX.out B6.out M5.out K5.out N5.out _)
  ·go_simp
   with_reducible refine(CL.out _).mono ?_
   rintro e w6 ⟨rfl,hw⟩;obtain rfl:=hw.symm;refine hK.out _ _ hS (fun _=> ?_);clear hK K;try simp only[Act.put,zT,zO,zS]
   refine rO 1 (fun K hK=> ?_);go_simp;refine hK.out _ _ hS (fun _=> ?_);clear hK K;refine tY 5 hS ?_;refine tY 6 hS ?_;simp only[Act.put,zT,zO,zS];refine rO 7 (fun K hK=> ?_);go_simp;refine hK.out _ _ hS (fun _=> ?_);clear hK K;refine wpAnyH_done zk ?_ _;have R6:Hid ((w4.setCell ⟨g,2,none⟩ (.int .i64 (max c d))).drew.heap[g]? =some (.cells #[.int .i64 a,.int .i64 b,.int .i64 (max c d)] 215 (0,0))):=heap_setCell_same w4 g 2 _ _ (.int .i64 (max c d)) R4.out;have B6:Hid (Below w1.heap.size w1 (w4.setCell ⟨g,2,none⟩ (.int .i64 (max c d))).drew):=(B4.out.setCell (p:=⟨g,2,none⟩) (by have:=GB.out;have:=B1.out.size;show w1.heap.size<=g;omega) _).drew;have H6:Hid (LsIs (w4.setCell ⟨g,2,none⟩ (.int .i64 (max c d))).drew q cs ty mo s):=(H4.out.keep (heap_setCell_other _ _ _ _ (fun e=>NG.out (.inl e.symm))) (fun m hm=>heap_setCell_other _ _ _ _ (fun e=>NG.out (.inr (by rw[hm];exact congrArg some e))))).on (Below.refl _ _).drew;clear d0 d1 d2 f2 lg hS;generalize(w4.setCell ⟨g,2,none⟩ (.int .i64 (max c d))).drew=w6 at*;have d0:=LsCells.c0 R6.out;have d1:=LsCells.c1 R6.out;have d2:=LsCells.c2 R6.out;go_upto_region 11 with(go_at_call 203;(with_reducible refine(CP.out _ H6.out).mono ?_);rintro e w7 ⟨mo5,rfl,hm5,hk5,hn5⟩;have R7:=zh ((hk5.block g (Array.getElem?_eq_some_iff.1 R6.out).1 NG.out).trans R6.out);have M5:=zh hm5;have K5:=zh hk5;have N5:=zh hn5;clear hm5 hk5 hn5 d0 d1 d2)
   have d2:=LsCells.c2 R7.out;go_wp2_with fail;exact bodyPost_ret (v:= .tuple #[.int .i64 (max c d),.int .i64 0]) (by simp[results,Tryz.results161,go_sem]) rfl (jkw HX.out B6.out M5.out K5.out N5.out _)
end Go.Proofs.YtpehidgjfcfjoaaGreatDoor
