/- StoreOpens: for every input the statement's function returns true, and its arguments read afterwards as before. The library's tables that the row lists lie as the program's text lays them (tied); no other condition. -/
import Derived.Test.YtabandbigckfkaaGreatDoorQx28
import Derived.Handed
import Derived.HandedShaped
import Derived.Stop.LaidErr
import Derived.Shelf.Vars
import Derived.MakeChecks
import Derived.Lay
import Derived.Test.YtabandbigckfkaaGreatDoorTie
import Derived.Test.YtabandbigckfkaaGreatDoorCards
import Derived.ShutString
import Derived.ChangeOld
import Derived.LaidMore
import Derived.SevenTiedAt
set_option maxHeartbeats 6400000
set_option maxRecDepth 100000
set_option linter.unusedSimpArgs false
set_option linter.unusedVariables false
namespace Go.Proofs.YtabandbigckfkaaGreatDoor
open Go.RowKit Go.Deep Go.Maps
theorem SA.okay{w0 W:World}{G:Nat→Prop}{p R:Nat}{m:Int}{L:List Rc.R}(h:SA w0 G p m R L W):(Fr.all (So.ens L)).length≤R:=by
 obtain⟨_,r,q,b,X,h1,_⟩:=h;exact h1.jr.dsk.okay.2.1
theorem SA.okd{w0 W:World}{G:Nat→Prop}{p R:Nat}{m:Int}{L:List Rc.R}(h:SA w0 G p m R L W):Dk.Okay (So.disk R L):=by
 obtain⟨_,r,q,b,X,h1,_⟩:=h;exact h1.jr.dsk.okay
theorem jrg{w0 W:World}{G:Nat→Prop}{p R c2:Nat}{m:Int}{ls:List Rc.R}{A2:Option Addr}{L V H:Value}(h:SA w0 G p m R ls W)(hn:ls.length≤1000)(hl:SlF Bk.rcC W A2 ls.length c2 ls):Calls Tryz.prog 24 #[.pointer (some ⟨p,0,none⟩),.agg (Ss.cs m ((So.disk R ls).room:Nat) (tA (So.disk R ls)) (tB (So.disk R ls)) (.slice A2 ls.length c2) (Bk.cells (Bk.all m ls) L V H)).toArray] W (BRet (.bool true) W):=by
 have HN:=zh hn;have okd:(Fr.all (So.ens ls)).length≤R:=h.okay;have ok3:Dk.Okay (So.disk R ls):=h.okd;obtain⟨w1,hw1⟩:∃w1,w1=W.alloc (.cells (Ss.cs m ((So.disk R ls).room:Nat) (tA (So.disk R ls)) (tB (So.disk R ls)) (.slice A2 ls.length c2) (Bk.cells (Bk.all m ls) L V H)).toArray 42):=⟨_,rfl⟩;obtain⟨g,hg⟩:∃g,g=W.heap.size:=⟨_,rfl⟩;have hb1:Below W.heap.size W w1:=by rw[hw1];exact(Below.refl _ _).alloc (Nat.le_refl _) _
 have SS0:=SsAt.new W m ((So.disk R ls).room:Nat) (tA (So.disk R ls)) (tB (So.disk R ls)) (.slice A2 ls.length c2) (Bk.all m ls) L V H;rw[←hw1,←hg]at SS0;have SA1:=zh (h.on hb1);have SL1:=zh (hl.on hb1);have B1:=zh hb1;have sA:=jo7 ok3;have sB:=jo8 (So.disk R ls);have AB0:=tAB (So.disk R ls);have TX:Hid (txt (Fr.all (So.ens ls))=txt (So.disk R ls).l):=rfl;have hrm:(So.disk R ls).room=R:=rfl;have hln:(So.disk R ls).l.length=(Fr.all (So.ens ls)).length:=rfl;have hop:Dk.opens (So.disk R ls)=(So.disk R ls).l.length -(So.disk R ls).safe:=rfl;have hsf:=ok3.1;obtain⟨sa,hsa⟩:∃sa,sa=(So.disk R ls).safe:=⟨_,rfl⟩;obtain⟨sb,hsb⟩:∃sb,sb=Dk.opens (So.disk R ls):=⟨_,rfl⟩;rw[←hsa]at sA hsf hop;rw[←hsb]at sB hop;have hr6:R≤1048576:=ok3.2.2;have ROOM:Hid (((R -(Fr.all (So.ens ls)).length:Nat):Int)=(R:Int) -sa -sb):=by show _=_;omega
 have W1E:Hid (IntKind.i64.wrap ((R:Int) -sa)=(R:Int) -sa):=IntWalk.i64_in _ (by omega);have W2E:Hid (IntKind.i64.wrap ((R:Int) -sa -sb)=(R:Int) -sa -sb):=IntWalk.i64_in _ (by omega);rw[hrm]at SS0;generalize tA (So.disk R ls)=ta at*;generalize tB (So.disk R ls)=tb at*;generalize txt (So.disk R ls).l=tx at*;have AB:=zh AB0;have SA2:=zh sA;have SB2:=zh sB;have SS:=zh SS0;have SZ:Hid (¬(9223372036854775807<ta.size+tb.size)):=by show¬_;omega
 clear h hl hn hb1 SS0 sA sB AB0 hsf hop hln hsa hsb ok3 okd;go_enter Tryz.func24,Tryz.ntmps24;go_upto_region 1 with fail
 rw[hrm]at hw1;rw[←hw1];rw[←hg];clear hw1 hg hrm;refine wp_region_held_drew (S:=fun V2=>Below w1.heap.size w1 V2) (by kernel_rfl) (Below.refl w1.heap.size w1).drew (fun hS=> ?_);refine tY 0 hS ?_;refine tY 2 hS ?_;refine tZ 3 rfl (by intro W hW;have cc:=(SS.out.on hW).c4;have lg:=(SS.out.on hW).lt;go_simp;(try with_reducible rfl)) hS ?_;simp only[Act.put,zT,zO,zS];refine rO 1 (fun K hK=> ?_);go_simp
 with_reducible refine(jen (SA1.out.on hS) HN.out).mono ?_
 rintro e w3 ⟨A3,c3,rfl,hs3,hb,_⟩;have S3:=zh (fun(W':World) (h:Below w3.heap.size w3 W')=>hs3.on h);clear hs3;replace hS:=hS.trans (hb.mono hS.size);clear hb;refine hK.out _ _ hS (fun _=> ?_);clear hK K;try simp only[Act.put,zT,zO,zS]
 refine rO 4 (fun K hK=> ?_);go_simp
 with_reducible refine(jml A3 A2 ls.length ls.length c3 c2 ls ls _ (S3.out _ (Below.refl _ _)) (SL1.out.on hS) (by have:=HN.out;omega)).mono ?_
 rintro e w4 ⟨⟨x,rfl,hx⟩,hb⟩;have hx2:=hx.2 rfl;subst hx2;clear hx;replace hS:=hS.trans (hb.mono hS.size);clear hb;refine hK.out _ _ hS (fun _=> ?_);clear hK K;refine tY 5 hS ?_;refine tY 6 hS ?_;refine tY 8 hS ?_;refine tZ 9 rfl (by intro W hW;have cc:=(SS.out.on hW).c4;have lg:=(SS.out.on hW).lt;go_simp;(try with_reducible rfl)) hS ?_;refine tY 10 hS ?_;simp only[Act.put,zT,zO,zS];refine rO 7 (fun K hK=> ?_);go_simp
 with_reducible refine(jjg (SA1.out.on hS)).mono ?_
 rintro e w5 ⟨rfl,hb⟩;replace hS:=hS.trans (hb.mono hS.size);clear hb;refine hK.out _ _ hS (fun _=> ?_);clear hK K;refine tY 11 hS ?_;refine tY 12 hS ?_;refine tY 13 hS ?_;refine tY 14 hS ?_;refine tY 17 hS ?_;refine tY 18 hS ?_;simp only[Act.put,zT,zO,zS];refine tZ 19 rfl (by intro W hW;have cc:=(SS.out.on hW).c2;have lg:=(SS.out.on hW).lt;go_simp;(try with_reducible rfl)) hS ?_;refine tY 20 hS ?_;refine tY 21 hS ?_;refine tZ 22 rfl (by intro W hW;have cc:=(SS.out.on hW).c3;have lg:=(SS.out.on hW).lt;go_simp;(try with_reducible rfl)) hS ?_;refine tZ 23 rfl (by intro W hW;have hab:=AB.out;have hsz:=SZ.out;go_simp;(try with_reducible rfl)) hS ?_;simp only[Act.put,zT,zO,zS];refine rO 15 (fun K hK=> ?_);go_simp
 with_reducible refine(jky (SA1.out.on hS)).mono ?_
 rintro e w6 ⟨A6,c6,rfl,ho6,hb⟩;have OB6:=zh ho6;clear ho6;replace hS:=hS.trans (hb.mono hS.size);clear hb;refine hK.out _ _ hS (fun _=> ?_);clear hK K;try simp only[Act.put,zT,zO,zS]
 refine rO 16 (fun K hK=> ?_);have hcv:=ja8 (c:=c6) OB6.out.sls.rd rfl;rw[TX.out]at hcv;go_simp;clear hcv;refine hK.out _ _ hS (fun _=> ?_);clear hK K;refine tY 24 hS ?_;refine tY 25 hS ?_;refine tY 26 hS ?_;refine tY 27 hS ?_;refine tY 29 hS ?_;refine tY 30 hS ?_;simp only[Act.put,zT,zO,zS];refine tZ 31 rfl (by intro W hW;have cc:=(SS.out.on hW).c1;have lg:=(SS.out.on hW).lt;go_simp;(try with_reducible rfl)) hS ?_;refine tY 32 hS ?_;refine tY 33 hS ?_;refine tZ 34 rfl (by intro W hW;have cc:=(SS.out.on hW).c2;have lg:=(SS.out.on hW).lt;go_simp;(try with_reducible rfl)) hS ?_;refine tZ 35 rfl (by intro W hW;have h1:=SA2.out;go_simp;(try with_reducible rfl)) hS ?_;refine tZ 36 rfl (by intro W hW;have h1:=W1E.out;go_simp;(try with_reducible rfl)) hS ?_;simp only[Act.put,zT,zO,zS];refine tY 37 hS ?_;refine tY 38 hS ?_;refine tZ 39 rfl (by intro W hW;have cc:=(SS.out.on hW).c3;have lg:=(SS.out.on hW).lt;go_simp;(try with_reducible rfl)) hS ?_;refine tZ 40 rfl (by intro W hW;have h1:=SB2.out;go_simp;(try with_reducible rfl)) hS ?_;refine tZ 41 rfl (by intro W hW;have h1:=W2E.out;go_simp;(try with_reducible rfl)) hS ?_;simp only[Act.put,zT,zO,zS];refine rO 28 (fun K hK=> ?_);go_simp
 with_reducible refine(jni (SA1.out.on hS)).mono ?_
 rintro e w7 ⟨rfl,hb⟩;rw[ROOM.out];replace hS:=hS.trans (hb.mono hS.size);clear hb;refine hK.out _ _ hS (fun _=> ?_);clear hK K;refine tY 42 hS ?_;refine tY 43 hS ?_;refine tY 44 hS ?_;simp only[Act.put,zT,zO,zS];refine wpAnyH_done (by kernel_rfl) ?_ _;have B9:=zh hS;clear hS;go_wp2_with fail;go_ret;exact⟨rfl,B1.out.trans (B9.out.mono B1.out.size)⟩
namespace So
def comE(m:Int)(R:Nat)(L:List Rc.R)(r:Rc.R):Int:=if Bk.chk (Bk.all m L) r=0 then(if Fits R L r then 0 else 4)else Bk.chk (Bk.all m L) r
def com(m:Int)(R:Nat)(L:List Rc.R)(r:Rc.R):List Rc.R:=if Bk.chk (Bk.all m L) r=0∧Fits R L r then L++[r]else L
def torE(m:Int)(R:Nat)(L:List Rc.R)(r:Rc.R):Int:=if Bk.chk (Bk.all m L) r=0 then(if Fits R L r then 13 else 4)else Bk.chk (Bk.all m L) r
def tor(m:Int)(R:Nat)(L:List Rc.R)(r:Rc.R)(keep:Int):List Rc.R:=if Bk.chk (Bk.all m L) r=0∧Fits R L r∧Kept r keep then L++[r]else L
theorem com_no{m:Int}{R:Nat}{L:List Rc.R}{r:Rc.R}(h:Bk.chk (Bk.all m L) r≠0):com m R L r=L∧comE m R L r=Bk.chk (Bk.all m L) r:=by unfold com comE;rw[if_neg (fun x=>h x.1),if_neg h];exact⟨rfl,rfl⟩
theorem com_full{m:Int}{R:Nat}{L:List Rc.R}{r:Rc.R}(h:Bk.chk (Bk.all m L) r=0)(hf:¬Fits R L r):com m R L r=L∧comE m R L r=4:=by unfold com comE;rw[if_neg (fun x=>hf x.2),if_pos h,if_neg hf];exact⟨rfl,rfl⟩
theorem com_fits{m:Int}{R:Nat}{L:List Rc.R}{r:Rc.R}(h:Bk.chk (Bk.all m L) r=0)(hf:Fits R L r):com m R L r=L++[r]∧comE m R L r=0:=by unfold com comE;rw[if_pos ⟨h,hf⟩,if_pos h,if_pos hf];exact⟨rfl,rfl⟩
theorem tor_no{m:Int}{R:Nat}{L:List Rc.R}{r:Rc.R}(k:Int)(h:Bk.chk (Bk.all m L) r≠0):tor m R L r k=L∧torE m R L r=Bk.chk (Bk.all m L) r:=by unfold tor torE;rw[if_neg (fun x=>h x.1),if_neg h];exact⟨rfl,rfl⟩
theorem tor_full{m:Int}{R:Nat}{L:List Rc.R}{r:Rc.R}(k:Int)(h:Bk.chk (Bk.all m L) r=0)(hf:¬Fits R L r):tor m R L r k=L∧torE m R L r=4:=by unfold tor torE;rw[if_neg (fun x=>hf x.2.1),if_pos h,if_neg hf];exact⟨rfl,rfl⟩
theorem tor_fits{m:Int}{R:Nat}{L:List Rc.R}{r:Rc.R}(k:Int)(h:Bk.chk (Bk.all m L) r=0)(hf:Fits R L r):tor m R L r k=(if Kept r k then L++[r]else L)∧torE m R L r=13:=by
 unfold tor torE;rw[if_pos h,if_pos hf];by_cases hk:Kept r k
 ·rw[if_pos ⟨h,hf,hk⟩,if_pos hk];exact⟨rfl,rfl⟩
 ·rw[if_neg (fun x=>hk x.2.2),if_neg hk];exact⟨rfl,rfl⟩
end So
theorem SA.rec{w0 W:World}{G:Nat→Prop}{p R:Nat}{m:Int}{L:List Rc.R}(h:SA w0 G p m R L W)(rc:Rc.R):SA w0 (fun i=>G i∨i=W.heap.size) p m R L (W.alloc (.cells (Rc.cells rc) 45)):=
 (h.more ((Below.refl _ _).alloc (Nat.le_refl _) _)).less fun i hi=>hi.imp id fun e=>by rw[e];exact⟨Nat.le_refl _,by simp⟩
theorem jjh{w0 W:World}{G:Nat→Prop}{p R:Nat}{m:Int}{L:List Rc.R}(h:SA w0 G p m R L W)(ht:BT w0){rc:Rc.R}(hr:Rc.In rc):
  Calls Tryz.prog 23 #[.pointer (some ⟨p,0,none⟩),.agg (Rc.cells rc)] W (SRes w0 G p m R (So.com m R L rc) (.int .i64 (So.comE m R L rc)) W):=by
 obtain⟨L2,hL2⟩:∃L2,L2=So.com m R L rc:=⟨_,rfl⟩;obtain⟨E2,hE2⟩:∃E2,E2=So.comE m R L rc:=⟨_,rfl⟩;rw[←hL2,←hE2];have HC:=zh (And.intro hL2 hE2);clear hL2 hE2;have HR:=zh hr;have HT:=zh ht;have TK:=zh h.took;have HRT:=zh h.right;obtain⟨g,hg⟩:∃g,g=W.heap.size:=⟨_,rfl⟩;have h1:=h.rec rc;rw[←hg]at h1;have O1:Hid (∀i,G i→(W.alloc (.cells (Rc.cells rc) 45)).heap[i]? =W.heap[i]?):=by
  obtain⟨_,r,q,b,X,h2,_⟩:=h;exact fun i hi=>((Below.refl W.heap.size W).alloc (Nat.le_refl _) _).block i (h2.g i hi)
 have RA:Hid (RcAt (W.alloc (.cells (Rc.cells rc) 45)) g rc):=by rw[hg];exact RcAt.new W rc
 clear h hr ht;obtain⟨W1,hW1⟩:∃W1,W1=W.alloc (.cells (Rc.cells rc) 45):=⟨_,rfl⟩;rw[←hW1]at h1 O1 RA;obtain⟨_,r,q,b,X,hj,hk⟩:=h1;have J1:=zh hj;have K1:=zh hk;have CF:=zh (ji6 hj hk (HT.out.on0 hj.below) rc HR.out);have EQ:Hid (Bk.chk (Bk.all m L) rc=0→Rc.right rc=true):=fun h0=>Bk.chk_right h0;clear hj hk;obtain⟨s,hs⟩:∃s,s=Bk.all m L:=⟨_,rfl⟩;rw[←hs]at CF K1 EQ;have HS:=zh hs;clear hs;go_enter_defers Tryz.func23,Tryz.ntmps23;go_upto_region 1 with fail
 rw[←hW1];rw[←hg];clear hW1 hg;obtain⟨ans,hans⟩:∃ans,ans=Bk.chk s rc:=⟨_,rfl⟩;rw[←hans]at CF EQ;have AN:=zh hans;clear hans;by_cases h0:ans=0
 ·have HZ:Hid (Bk.chk s rc=0):=AN.out.symm.trans h0
  have RT:=zh (EQ.out h0);subst h0;go_upto_region 4 with(first
   |((with_reducible show zL 10);refine zR (.tmp 3) RA.out ?_)
   |(go_at_call 50;(with_reducible refine CF.out.mono ?_);rintro e w2 ⟨A,n,c,rfl,hs,hb⟩;have J2:=zh (J1.out.on hb);have K2:=zh (jdo K1.out hb);have R2:=zh (RA.out.on hb);have O2:=zh (fun i (hi:G i)=>(hb.block i (J1.out.g i (.inl hi))).trans (O1.out i hi));have S2:=zh hs;clear hb hs CF J1 K1 O1 RA))
  have S3:=zh (S2.out (by trivial));clear S2;by_cases hf:So.Fits R L rc
  ·have HF:=zh hf
   have DF:=zh (So.disk_app (R:=R) RT.out HF.out);have CA:=zh (jiz J2.out.jrn J2.out.fresh S3.out (by rw[S3.out.len];have:=Rc.bytes_len RT.out;omega));have lq2:=J2.out.lt;have c12:=J2.out.cells.2.2.1;rw[DF.out.2]at CA;go_upto_region 7 with(go_at_call 62;(with_reducible refine CA.out.mono ?_);rintro e w3 ⟨rfl,hj,hk⟩;have J3:=zh (J2.out.turn hj hk);have K3:=zh (J2.out.book K2.out hk);have R3:Hid (RcAt w3 g rc):=⟨(J2.out.others hk g (.inr rfl)).trans R2.out.row⟩;have O3:=zh (fun i (hi:G i)=>(J2.out.others hk i (.inl hi)).trans (O2.out i hi));clear hj hk CA lq2 c12)
   obtain⟨d',hd'⟩:∃d',d'=Jn.app (So.disk R L) (Rc.bytes rc):=⟨_,rfl⟩;rw[←hd']at J3 DF;clear hd';obtain⟨X',hX'⟩:∃X',X'=(fun i=>(X i∨w2.heap.size≤i)∧i<w3.heap.size):=⟨_,rfl⟩;rw[←hX']at J3 K3;clear hX';refine wp_mono (h:=?_) (fun e a w (h:e=Exit.normal∧_)=>h.2);refine wp_region_held_drew (S:=fun V=>StJ w0 (fun i=>G i∨i=g) p m d' (.pointer (some ⟨b,0,none⟩)) r q X' V∧RcAt V g rc) (by kernel_rfl) ⟨J3.out.on (Below.refl _ _).drew,R3.out.on (Below.refl _ _).drew⟩ (fun hS=> ?_);refine jjn 0 (v:=?_) rfl (by kernel_rfl) (fun _ _ _ h=>nomatch h.1) rfl ?_ hS ?_
   rotate_left
   ·intro W hW;go_simp;(try with_reducible rfl)
   simp only[Act.put,zT,zO,zS];refine jjn 1 (v:=?_) rfl (by kernel_rfl) (fun _ _ _ h=>nomatch h.1) rfl ?_ hS ?_
   rotate_left
   ·intro W hW;go_simp;(try with_reducible rfl)
   simp only[Act.put,zT,zO,zS];refine jjn 2 (v:=?_) rfl (by kernel_rfl) (fun _ _ _ h=>nomatch h.1) rfl ?_ hS ?_
   rotate_left
   ·intro W hW;go_simp;(try with_reducible rfl)
   simp only[Act.put,zT,zO,zS];refine jjn 3 (v:=?_) rfl (by kernel_rfl) (fun _ _ _ h=>nomatch h.1) rfl ?_ hS ?_
   rotate_left
   ·intro W hW;have lq:=hW.1.lt;have c2:=hW.1.cells.2.2.2.1;go_simp;(try with_reducible rfl)
   simp only[Act.put,zT,zO,zS];refine jjn 4 (v:= .agg (Rc.cells rc)) rfl (by kernel_rfl) (fun _ _ _ h=>nomatch h.1) rfl (fun W hW=>jaq (.tmp 3) rfl g rc rfl hW.2) hS ?_;simp only[Act.put,zT,zO,zS];refine rO 5 (fun K hK=> ?_);go_simp;refine hK.out _ _ hS (fun _=> ?_);clear hK K;try simp only[Act.put,zT,zO,zS]
   refine wpAnyH_done (by kernel_rfl) ?_ _;refine⟨rfl,?_⟩;have J7:=zh hS.1;have R7:=zh hS.2;clear hS;have K7:=zh (jdo K3.out (Below.refl w3.heap.size w3).drew);have O7:Hid (∀i,G i→w3.drew.heap[i]? =W.heap[i]?):=O3.out;clear J3 K3 R3 O3;generalize w3.drew=w7 at*;have CS:=zh (jSync_x J7.out.jrn J7.out.fresh);have lq7:=J7.out.lt;have c17:=J7.out.cells.2.2.1;go_wp2_with(go_at_call 64;(with_reducible refine CS.out.mono ?_);rintro e w8 ⟨rfl,hj,hk⟩;have J8:=zh (J7.out.turn hj hk);have K8:=zh (J7.out.book K7.out hk);have O8:=zh (fun i (hi:G i)=>(J7.out.others hk i (.inl hi)).trans (O7.out i hi));clear hj hk CS lq7 c17);rw[DF.out.1]at J8;have C:=So.com_fits (by rw[←HS.out];exact HZ.out) HF.out;rw[←HC.out.1,←HC.out.2]at C;refine jg9 (by simp[go_sem]) (jkw K8.out (HT.out.on0 J8.out.below) HR.out) ?_;rintro e w9 ⟨rfl,hb9,hk9⟩;have J9:=J8.out.kept hk9 (fun i hi hn=>hn hi) (jb4 hb9);rw[HS.out]at hb9;refine⟨_,rfl,_,results_tmp rfl _ _ _,by rw[C.2];rfl,?_,fun i hi=>(hk9.block i (J8.out.g i (.inl hi)) (fun hn=>hn (.inl (.inl hi)))).trans (O8.out i hi)⟩;rw[C.1];have e:Bk.app (Bk.all m L) rc=Bk.all m (L++[rc]):=(Bk.run_snoc _ _ _).symm;rw[e]at hb9;exact SA.less (F:=G) ⟨So.took_snoc TK.out (by rw[←HS.out];exact HZ.out),r,q,b,_,J9,hb9⟩ (fun i hi=> .inl hi)
  ·have HF:=zh hf
   have DF:=zh (So.disk_full (R:=R) RT.out HF.out);have CA:=zh (jiz J2.out.jrn J2.out.fresh S3.out (by rw[S3.out.len];have:=Rc.bytes_len RT.out;omega));have lq2:=J2.out.lt;have c12:=J2.out.cells.2.2.1;rw[DF.out.1,DF.out.2]at CA;go_wp2_with(go_at_call 62;(with_reducible refine CA.out.mono ?_);rintro e w3 ⟨rfl,hj,hk⟩;have J3:=zh (J2.out.turn hj hk);have K3:=zh (J2.out.book K2.out hk);have R3:Hid (RcAt w3 g rc):=⟨(J2.out.others hk g (.inr rfl)).trans R2.out.row⟩;have O3:=zh (fun i (hi:G i)=>(J2.out.others hk i (.inl hi)).trans (O2.out i hi));clear hj hk CA lq2 c12);have C:=So.com_full (by rw[←HS.out];exact HZ.out) HF.out;rw[←HC.out.1,←HC.out.2]at C;have K4:=K3.out;rw[HS.out]at K4;refine⟨_,results_tmp rfl _ _ _,by rw[C.2];rfl,?_,O3.out⟩;rw[C.1];exact SA.less (F:=G) ⟨TK.out,r,q,b,_,J3.out,K4⟩ (fun i hi=> .inl hi)
 ·have h1:(ans !=0)=true:=by simpa using h0
  go_wp2_with(first
   |((with_reducible show zL 10);refine zR (.tmp 3) RA.out ?_)
   |(go_at_call 50;(with_reducible refine CF.out.mono ?_);rintro e w2 ⟨A,n,c,rfl,hs,hb⟩;have J2:=zh (J1.out.on hb);have K2:=zh (jdo K1.out hb);have R2:=zh (RA.out.on hb);have O2:=zh (fun i (hi:G i)=>(hb.block i (J1.out.g i (.inl hi))).trans (O1.out i hi));have S2:=zh hs;clear hb hs CF J1 K1 O1 RA))
  have C:=So.com_no (R:=R) (L:=L) (m:=m) (r:=rc) (by rw[←HS.out,←AN.out];exact h0);rw[←HC.out.1,←HC.out.2,←HS.out,←AN.out]at C;have K4:=K2.out;rw[HS.out]at K4;refine⟨_,results_tmp rfl _ _ _,by rw[C.2];rfl,?_,O2.out⟩;rw[C.1];exact SA.less (F:=G) ⟨TK.out,r,q,b,_,J2.out,K4⟩ (fun i hi=> .inl hi)
end Go.Proofs.YtabandbigckfkaaGreatDoor
namespace Go.Proofs.YtabandbigckfkaaGreatDoor
open Go.RowKit
def sv1:Rc.R:=⟨1,1,0,0,9,⟨#[]⟩,Spc.zero⟩
def sv2:Rc.R:=⟨2,1,0,1,0,⟨#[120]⟩,Spc.zero⟩
theorem jrh:Rc.right sv1=true:=by decide
theorem jri:Rc.right sv2=true:=by decide
theorem sv1_chk:Bk.chk (Bk.all 0 []) sv1=0:=by decide
theorem sv2_chk:Bk.chk (Bk.all 0 [sv1]) sv2=0:=by decide
theorem jrj:(Rc.bytes sv1).length=6:=by decide+kernel
theorem jrk:(Rc.bytes sv2).length=7:=by decide+kernel
theorem sv_com:So.com 0 100 [] sv1=[sv1]∧So.comE 0 100 [] sv1=0:=So.com_fits sv1_chk (by unfold So.Fits;rw[jrj];decide)
theorem sv_tor:So.tor 0 100 [sv1] sv2 0=[sv1]∧So.torE 0 100 [sv1] sv2=13:=by
 have h:=So.tor_fits (m:=0) (R:=100) (L:=[sv1]) (r:=sv2) 0 sv2_chk (by unfold So.Fits So.ens;rw[jrk];show(Fr.all [Rc.bytes sv1]).length+(7+6)≤100;rw[Fr.all_one,Fr.fr_length,jrj];decide);rw[if_neg (show¬So.Kept sv2 0 by unfold So.Kept;rw[jrk];decide)]at h;exact h
theorem sv_ep:(Bk.all 0 [sv1]).ep=1:=by decide
theorem sv_till:(Bk.all 0 [sv1]).till=9:=by decide
open Go.Deep Go.Maps
theorem So.torn_is{m:Int}{R:Nat}{L:List Rc.R}{rc:Rc.R}(ht:So.Took m L)(h0:Bk.chk (Bk.all m L) rc=0)(keep:Int):
  Jn.torn (So.disk R L) (Rc.bytes rc) keep=So.disk R (So.tor m R L rc keep)∧Jn.tornE (So.disk R L) (Rc.bytes rc)=So.torE m R L rc∧So.Took m (So.tor m R L rc keep)∧(So.tor m R L rc keep).length≤L.length+1:=by
 have hr:=Bk.chk_right h0;by_cases hf:So.Fits R L rc
 ·have h1:=So.disk_torn (So.took_right ht) hr hf keep
  have h2:=So.tor_fits keep h0 hf;rw[h1.1,h1.2,h2.1,h2.2];by_cases hk:So.Kept rc keep
  ·rw[if_pos hk,if_pos hk];exact⟨rfl,rfl,So.took_snoc ht h0,by rw[List.length_append];exact Nat.le_refl _⟩
  ·rw[if_neg hk,if_neg hk];exact⟨rfl,rfl,ht,by omega⟩
 ·have h1:=So.disk_torn_full hr hf keep
  have h2:=So.tor_full keep h0 hf;rw[h1.1,h1.2,h2.1,h2.2];exact⟨rfl,rfl,ht,by omega⟩
theorem jnk{w0 W:World}{G:Nat→Prop}{p R:Nat}{m:Int}{L:List Rc.R}(h:SA w0 G p m R L W)(ht:BT w0){rc:Rc.R}(hr:Rc.In rc)(keep:Int)(hn:L.length+1≤1000):
  Calls Tryz.prog 17 #[.pointer (some ⟨p,0,none⟩),.agg (Rc.cells rc),.int .i64 keep] W (SRes w0 G p m R (So.tor m R L rc keep) (.int .i64 (So.torE m R L rc)) W):=by
 have HN:=zh hn;clear hn;obtain⟨L2,hL2⟩:∃L2,L2=So.tor m R L rc keep:=⟨_,rfl⟩;obtain⟨E2,hE2⟩:∃E2,E2=So.torE m R L rc:=⟨_,rfl⟩;rw[←hL2,←hE2];have HC:=zh (And.intro hL2 hE2);clear hL2 hE2;have HR:=zh hr;have HT:=zh ht;have TK:=zh h.took;have HRT:=zh h.right;obtain⟨g,hg⟩:∃g,g=W.heap.size:=⟨_,rfl⟩;have h1:=h.rec rc;rw[←hg]at h1;have O1:Hid (∀i,G i→(W.alloc (.cells (Rc.cells rc) 45)).heap[i]? =W.heap[i]?):=by
  obtain⟨_,r,q,b,X,h2,_⟩:=h;exact fun i hi=>((Below.refl W.heap.size W).alloc (Nat.le_refl _) _).block i (h2.g i hi)
 have RA:Hid (RcAt (W.alloc (.cells (Rc.cells rc) 45)) g rc):=by rw[hg];exact RcAt.new W rc
 clear h hr ht;obtain⟨W1,hW1⟩:∃W1,W1=W.alloc (.cells (Rc.cells rc) 45):=⟨_,rfl⟩;rw[←hW1]at h1 O1 RA;obtain⟨_,r,q,b,X,hj,hk⟩:=h1;have J1:=zh hj;have K1:=zh hk;have CF:=zh (ji6 hj hk (HT.out.on0 hj.below) rc HR.out);have EQ:Hid (Bk.chk (Bk.all m L) rc=0→Rc.right rc=true):=fun h0=>Bk.chk_right h0;clear hj hk;obtain⟨s,hs⟩:∃s,s=Bk.all m L:=⟨_,rfl⟩;rw[←hs]at CF K1 EQ;have HS:=zh hs;clear hs;go_enter_defers Tryz.func17,Tryz.ntmps17;go_upto_region 1 with fail
 rw[←hW1];rw[←hg];clear hW1 hg;obtain⟨ans,hans⟩:∃ans,ans=Bk.chk s rc:=⟨_,rfl⟩;rw[←hans]at CF EQ;have AN:=zh hans;clear hans;by_cases h0:ans=0
 ·have HZ:Hid (Bk.chk s rc=0):=AN.out.symm.trans h0
  have RT:=zh (EQ.out h0);have TI:=zh (So.torn_is (R:=R) TK.out (by rw[←HS.out];exact HZ.out) keep);rw[←HC.out.1,←HC.out.2]at TI;subst h0;go_upto_region 4 with(first
   |((with_reducible show zL 11);refine zR (.tmp 4) RA.out ?_)
   |(go_at_call 50;(with_reducible refine CF.out.mono ?_);rintro e w2 ⟨A,n,c,rfl,hs,hb⟩;have J2:=zh (J1.out.on hb);have K2:=zh (jdo K1.out hb);have R2:=zh (RA.out.on hb);have O2:=zh (fun i (hi:G i)=>(hb.block i (J1.out.g i (.inl hi))).trans (O1.out i hi));have S2:=zh hs;clear hb hs CF J1 K1 O1 RA))
  have S3:=zh (S2.out (by trivial));clear S2;have CA:=zh (jTorn_x (keep:=keep) J2.out.jrn J2.out.fresh S3.out (by rw[S3.out.len];have:=Rc.bytes_len RT.out;omega));rw[TI.out.1,TI.out.2.1]at CA;have lq2:=J2.out.lt;have c12:=J2.out.cells.2.2.1;go_wp2_with(go_at_call 52;(with_reducible refine CA.out.mono ?_);rintro e w3 ⟨rfl,hj,hk⟩;have J3:=zh (J2.out.turn hj hk);have O3:=zh (fun i (hi:G i)=>(J2.out.others hk i (.inl hi)).trans (O2.out i hi));clear hj hk CA lq2 c12);have J4:=J3.out;unfold So.disk at J4;rw[←So.ens_len L2]at J4;have RL:=So.took_right TI.out.2.2.1;have CL:=jgh J4 HT.out (So.ens_ok RL) (by rw[So.ens_len];have:=TI.out.2.2.2;have:=HN.out;omega);unfold LdPost at CL;rw[So.recs_ens RL,So.pre_all TI.out.2.2.1]at CL;refine jg9 (by simp[go_sem]) CL ?_;rintro e w9 ⟨rfl,hs9,ho9⟩;exact⟨_,rfl,_,results_tmp rfl _ _ _,rfl,hs9.less (fun i hi=> .inl hi),fun i hi=>(ho9 i (.inl hi)).trans (O3.out i hi)⟩
 ·have h1:(ans !=0)=true:=by simpa using h0
  go_wp2_with(first
   |((with_reducible show zL 11);refine zR (.tmp 4) RA.out ?_)
   |(go_at_call 50;(with_reducible refine CF.out.mono ?_);rintro e w2 ⟨A,n,c,rfl,hs,hb⟩;have J2:=zh (J1.out.on hb);have K2:=zh (jdo K1.out hb);have R2:=zh (RA.out.on hb);have O2:=zh (fun i (hi:G i)=>(hb.block i (J1.out.g i (.inl hi))).trans (O1.out i hi));have S2:=zh hs;clear hb hs CF J1 K1 O1 RA))
  have C:=So.tor_no (R:=R) (L:=L) (m:=m) (r:=rc) keep (by rw[←HS.out,←AN.out];exact h0);rw[←HC.out.1,←HC.out.2,←HS.out,←AN.out]at C;have K4:=K2.out;rw[HS.out]at K4;refine⟨_,results_tmp rfl _ _ _,by rw[C.2];rfl,?_,O2.out⟩;rw[C.1];exact SA.less (F:=G) ⟨TK.out,r,q,b,_,J2.out,K4⟩ (fun i hi=> .inl hi)
theorem sv1_in:Rc.In sv1:=Rc.ok_in (Rc.ok_of jrh)
theorem sv2_in:Rc.In sv2:=Rc.ok_in (Rc.ok_of jri)
theorem jnl(W:World)(ht:BT W):Calls Tryz.prog 11 #[] W (BRet (.bool true) W):=by
 have T0:=zh ht;have CN:=zh (jrb W 100 0 ht);have CC:=zh (fun p w (h:SA W noG p 0 (Dk.fits 100) [] w)=>jjh h ht sv1_in);have CT:=zh (fun p w (h:SA W noG p 0 (Dk.fits 100) [sv1] w)=>jnk h ht sv2_in 0 (by decide));have e100:Dk.fits 100=100:=rfl;rw[e100]at CN CC CT;rw[sv_com.1,sv_com.2]at CC;rw[sv_tor.1,sv_tor.2]at CT;have CL:=zh (fun p w (h:SA W noG p 0 100 [sv1] w)=>jjg h);have CB:=zh (fun p w (h:SA W noG p 0 100 [sv1] w)=>jnj h ht (by decide));have hv0:∀w,(Instr.field 93 (.agg (Bk.viewC (Bk.all 0 [sv1]))) 0).run Tryz.prog w= .ok (.int .i64 1) w:=fun w=>by rw[vf0,sv_ep]
 have hv2:∀w,(Instr.field 93 (.agg (Bk.viewC (Bk.all 0 [sv1]))) 2).run Tryz.prog w= .ok (.int .i64 9) w:=fun w=>by rw[vf2,sv_till]
 clear ht e100;generalize Bk.all 0 [sv1]=s at*;go_enter Tryz.func11,Tryz.ntmps11;go_upto_region 4 with(first
  |(go_at_call 12;(with_reducible refine CN.out.mono ?_);rintro e w1 ⟨p,rfl,hs⟩;have A0:=zh hs;clear hs)
  |((with_reducible show wpList _ _ _ ({dst:=some 6,op:= .build _ _,type:=_,pos:=_,after:=_,guard:=_}::_) _ _);refine jc5 rfl 45 _ rfl (Rc.cells sv1) (by kernel_rfl) ?_)
  |((with_reducible show wpList _ _ _ ({dst:=some 9,op:= .build _ _,type:=_,pos:=_,after:=_,guard:=_}::_) _ _);refine jc5 rfl 45 _ rfl (Rc.cells sv2) (by kernel_rfl) ?_)
  |(go_at_call 23;(with_reducible refine(CC.out _ _ A0.out).mono ?_);rintro e w2 ⟨rfl,hs,_⟩;have A1:=zh hs;clear hs A0)
  |(go_at_call 17;(with_reducible refine(CT.out _ _ A1.out).mono ?_);rintro e w3 ⟨rfl,hs,_⟩;have A2:=zh hs;clear hs A1))
 clear CN CC CT
 go_wp2_with(first
  |(go_at_call 35;(with_reducible refine(CL.out _ _ A2.out).mono ?_);rintro e w4 ⟨rfl,hb⟩;have A2:=zh (A2.out.on hb);clear hb)
  |(go_at_call 27;(with_reducible refine(CB.out _ _ A2.out).mono ?_);rintro e w5 ⟨q,rfl,hk⟩;have A2:=zh (A2.out.on (jb4 hk));have K:=zh hk;clear hk)
  |(go_at_call 45;(with_reducible refine(bp_view K.out).mono ?_);rintro e w6 ⟨rfl,hb⟩;have A2:=zh (A2.out.on hb);clear hb K))
 go_ret;exact⟨rfl,A2.out.below⟩
theorem of_len(m:Int)(bs:List Nat)(h:(Fr.scan bs).1.length≤1000):(So.of m bs).length≤1000:=by
 unfold So.of;have h1:∀(l:List Rc.R) (s:Bk.St),(So.pre s l).length≤l.length:=by
  intro l
  induction l with
  |nil=>intro s;exact Nat.le_refl _
  |cons r l ih=>intro s;unfold So.pre;split;rw[List.length_cons,List.length_cons];exact Nat.succ_le_succ (ih _);exact Nat.zero_le _
 have h2:=h1 (So.recs (Fr.scan bs).1) (Bk.new m);unfold So.recs at h2⊢;rw[List.length_map]at h2;omega
theorem jgk(room margin:Int)(A:Option Addr)(n c:Nat)(l:List Nat)(W:World)(hs:Sl W A n c l)(ht:BT W):Calls Tryz.prog 4 #[.int .i64 room,.int .i64 margin,.slice A n c] W (BRet (.bool true) W):=by
 have T0:=zh ht;have S0:=zh (hs.few 400);have CL:=zh (jnl W ht);have hm1:min (n:Int) 400=((min n 400:Nat):Int):=by omega
 have hl1:((min n 400:Nat):Int)≤(c:Int):=by have:=hs.cap;omega
 have hcp:=hs.cap;have hmx:=hs.max;unfold maxLen at hmx;have hz:=jhs;have M4:Hid (min n 400≤400):=by show _≤_;omega
 have ML:Hid (min n 400=(l.take 400).length):=S0.out.len;generalize min n 400=mm at*;generalize l.take 400=lt at*;clear hs ht;have SC:Hid ((Fr.scan lt).1.length≤1000):=by show _≤_;have h1:=Fr.scan_count lt;have h2:=ML.out;have h3:=M4.out;omega
 have BY:Hid (∀x∈lt,x<256):=S0.out.rd.1;by_cases hf:lt.length≤Dk.fits room
 ·have HF:=zh hf
  go_enter Tryz.func4,Tryz.ntmps4;go_upto_region 4 with(go_at_call 11;(with_reducible refine CL.out.mono ?_);rintro e w1 ⟨rfl,hb⟩;have B1:=zh hb;have S1:=zh (S0.out.on hb);have T1:=zh (T0.out.on hb);clear hb CL)
  have CD:=zh (jgi w1 S1.out room margin T1.out HF.out SC.out);have CR:=zh (fun W'=>jjf room margin lt W' HF.out BY.out SC.out);have LN:Hid ((So.of margin lt).length≤1000):=of_len margin lt SC.out;obtain⟨x,hx⟩:∃x:Int,x=((Fr.scan lt).1.length:Int) -((So.of margin lt).length:Nat):=⟨_,rfl⟩;rw[←hx]at CD CR;clear hx hf;go_upto_region 5 with(go_at_call 20;(with_reducible refine CD.out.mono ?_);rintro e w2 ⟨p,rfl,hsa⟩;have hb:=hsa.below;have SA2:=zh hsa;have B2:=zh (B1.out.trans (hb.mono B1.out.size));have hcv:=ja8 (c:=c) (S1.out.on hb).rd S1.out.len;clear hb hsa CD)
  go_upto_region 6 with(first
   |(go_at_call 28;(with_reducible refine(CR.out _).mono ?_);rintro e w3 hp;obtain⟨A2,c2,L,V,H,rfl,hsl,hrd,hb⟩:=hp;have SL3:=zh hsl;have RD3:=zh hrd;have SA3:=zh (SA2.out.on hb);have B3:=zh (B2.out.trans (hb.mono B2.out.size));clear hsl hrd hb CR hcv SA2)
   |((with_reducible show zW);refine jbc rfl (.tmp 10) (.tmp 34) rfl rfl rfl (heap_alloc_new w3 (.cells Ss.zeros 42)) rfl (Ss.one (l:= .slice A2 (So.of margin lt).length c2) rfl RD3.out.one) ?_))
  rw[World.setRow_alloc_new];have hb4:Below w3.heap.size w3 (w3.alloc (.cells (Ss.cs margin ((So.disk (Dk.fits room) (So.of margin lt)).room:Nat) (tA (So.disk (Dk.fits room) (So.of margin lt))) (tB (So.disk (Dk.fits room) (So.of margin lt))) (.slice A2 (So.of margin lt).length c2) (Bk.cells (Bk.all margin (So.of margin lt)) L V H)).toArray 42)):=(Below.refl _ _).alloc (Nat.le_refl _) _;have SS4:=zh (SsAt.new w3 margin ((So.disk (Dk.fits room) (So.of margin lt)).room:Nat) (tA (So.disk (Dk.fits room) (So.of margin lt))) (tB (So.disk (Dk.fits room) (So.of margin lt))) (.slice A2 (So.of margin lt).length c2) (Bk.all margin (So.of margin lt)) L V H);have SL4:=zh (SL3.out.on hb4);have SA4:=zh (SA3.out.on hb4);have B4:=zh (B3.out.trans (hb4.mono B3.out.size));clear hb4 SL3 SA3 B3;obtain⟨g,hg⟩:∃g,g=w3.heap.size:=⟨_,rfl⟩;rw[←hg]at SS4⊢;clear hg;generalize w3.alloc (.cells (Ss.cs margin ((So.disk (Dk.fits room) (So.of margin lt)).room:Nat) (tA (So.disk (Dk.fits room) (So.of margin lt))) (tB (So.disk (Dk.fits room) (So.of margin lt))) (.slice A2 (So.of margin lt).length c2) (Bk.cells (Bk.all margin (So.of margin lt)) L V H)).toArray 42)=w4 at*;have CK:=zh (jrg SA4.out LN.out SL4.out (L:=L) (V:=V) (H:=H))
  go_wp2_with(first
   |((with_reducible show zL 56);refine ja5 (by rfl) 42 (.tmp 10) rfl g rfl 42 _ (0,0) _ SS4.out.row jej rfl (jdy ..) ?_)
   |(go_at_call 24;(with_reducible refine CK.out.mono ?_);rintro e w5 ⟨rfl,hb⟩;have B5:=zh (B4.out.trans (hb.mono B4.out.size));clear hb CK))
  go_ret;exact⟨rfl,B5.out⟩
 ·have HF:=zh hf
  go_enter Tryz.func4,Tryz.ntmps4;go_upto_region 4 with(go_at_call 11;(with_reducible refine CL.out.mono ?_);rintro e w1 ⟨rfl,hb⟩;have B1:=zh hb;have S1:=zh (S0.out.on hb);have T1:=zh (T0.out.on hb);clear hb CL)
  have CD:=zh (jkx w1 S1.out room margin T1.out HF.out);have CR:=zh (fun W'=>jje room margin lt W' HF.out);clear hf;go_upto_region 5 with(go_at_call 20;(with_reducible refine CD.out.mono ?_);rintro e w2 ⟨rfl,hb⟩;have B2:=zh (B1.out.trans (hb.mono B1.out.size));have hcv:=ja8 (c:=c) (S1.out.on hb).rd S1.out.len;clear hb CD)
  go_upto_region 6 with(first
   |(go_at_call 28;(with_reducible refine(CR.out _).mono ?_);rintro e w3 ⟨rfl,hb⟩;have B3:=zh (B2.out.trans (hb.mono B2.out.size));clear hb CR hcv)
   |((with_reducible show zW);refine wpList_store_row rfl 42 (.tmp 10) (.tmp 34) rfl w3.heap.size Ss.zeros rfl rfl 42 _ (heap_alloc_new w3 _) jh1 rfl jrf ?_))
  rw[World.setRow_alloc_new];have B4:=zh (B3.out.alloc B3.out.size (.cells Ss.zeros 42));generalize w3.alloc (.cells Ss.zeros 42)=w4 at*;go_wp2_with fail;go_ret;exact⟨rfl,B4.out⟩
end Go.Proofs.YtabandbigckfkaaGreatDoor
namespace Go.Proofs.YtabandbigckfkaaGreatDoor
open Go
variable{H:Type}{enc:TypeId×Value→H}
theorem jd5{a:Assume}{C:Checked}{os:Os}{f:FuncId}{fn:Func}{s:ChangeSpec}{conds:List PathCond}{apart fresh handsOn again:Bool}{X:World→Array Value→Prop}
  (hX:∀(w w':World) (args:Array Value),w.heap=w'.heap→X w args→X w' args)
  (own:ownKnob C.prog.godebug=none) (started:os.Started) (noInit:C.prog.inits.idxOf? f=none) (hfn:C.prog.funcs[f]? =some fn)
  (witness:∃(w:World) (tape:Tape) (i:Input),w.os=os∧(w.forCall tape i).Shaped C.prog∧i.vars=[]∧Input.okWide C.prog (w.forCall tape i) .any w.heap.size f i∧
   ((s.pre enc C.prog fn conds apart (w.forCall tape i).memory i.args∧X (w.forCall tape i).memory i.args)∧sizedMet enc C.prog fn (OpenSpec.ofChange s) apart (w.forCall tape i).memory i.args)∧a.holds C.prog (lone (Frame.enter C.prog f i.args .normal) [] (w.forCall tape i)))
  (contract:∀(W:World) (base:Nat) (args:Array Value) (ds gs:List (DataW H)) (before:List MemPlace),
   (∀(j:Nat) t v,fn.params[j]? =some t→args[j]? =some v→Value.okWide C.prog W .any base t v)→
   DataW.Whole enc C.prog fn.params.toList s.vars apart W args.toList ds gs before→
   X W args→W.ShapedOpen C.prog→
   Calls C.prog f args W fun e W'=>∃v,e= .returned v∧s.post enc C.prog fn apart fresh handsOn again W args v W'):
  ReturnsInHanded a C os f .any (fun w args=>(s.pre enc C.prog fn conds apart w args∧X w args)∧sizedMet enc C.prog fn (OpenSpec.ofChange s) apart w args) (s.post enc C.prog fn apart fresh handsOn again):=by
 refine returnsInHanded_of_calls own started noInit witness ?_;intro w tape i _ hsh _ hok hpre _;obtain⟨_,_,_,fn',hfn',_,_,_,_,hval⟩:=hok;have e:fn'=fn:=Option.some.inj (hfn'.symm.trans hfn);subst e;obtain⟨⟨⟨ds,gs,before,hw,_⟩,hx⟩,_⟩:=hpre;have hw':=DataW.Whole.of_heap (w':=w.forCall tape i) (by rfl) hw;refine(contract (w.forCall tape i) w.heap.size i.args ds gs before hval hw' (hX _ _ _ (by rfl) hx) hsh).mono fun e W' ⟨v,he,hp⟩=> ?_;subst he;exact ChangeSpec.post_blind hp
open Go.RowKit
theorem jnm:leaf3 (Rows.laid_pacesetter_phase_leads:DataW Unit)=jou:=by kernel_rfl
theorem jnn:jsa (Rows.laid_pacesetter_phase_words:DataW Unit)=jov:=by kernel_rfl
theorem jtx:Rows.laid_internal_strconv_uint64pow10=(Lib.tabData .u64 Lib.pow10Tab:DataW Unit):=by kernel_rfl
theorem tb_of{W:World}(hL:laidMetH Tryz.prog Rows.storeFullRow.laid W)(_:W.ShapedOpen Tryz.prog):BT W:=by
 rw[MakeChecks.laidMetH_plain _ _ _ (by kernel_rfl)]at hL;refine⟨⟨?_⟩,?_,?_⟩
 ·have h3:=hL.tail.tail
  exact Lib.tabIs_of_head (n:=20) (t:=367) (e:=312) g_pow (by kernel_rfl) (by kernel_rfl) Tryz.underlying312 (by kernel_rfl) (by kernel_rfl) (jtx▸h3)
 ·have:=jk6 (name:= "pacesetter/phase.leads") (d:=Rows.laid_pacesetter_phase_leads) (L:=leaf3) (t:=295) hL (by simp[Rows.storeFullRow]) jj8 (by kernel_rfl)
   (fun _ _ _ _=>jfy (fun _=>rfl) (jfy (n:=9) (e:=3) (L:=jop) (fun _=>rfl) (jor Tryz.underlying3) Tryz.underlying294 (by kernel_rfl)) Tryz.underlying295 (by kernel_rfl))
  rw[jnm]at this;exact this
 ·have:=jk6 (name:= "pacesetter/phase.words") (d:=Rows.laid_pacesetter_phase_words) (L:=jsa) (t:=293) hL (by simp[Rows.storeFullRow]) jhh (by kernel_rfl)
   (fun _ _ _ _=>jfy (fun _=>rfl) (jos Tryz.underlying9) Tryz.underlying293 (by kernel_rfl))
  rw[jnn]at this;exact this
end Go.Proofs.YtabandbigckfkaaGreatDoor
namespace Go.Proofs.YtabandbigckfkaaGreatDoor.storeOpens
open Go.ChangeShapes Go.WideShapes Go.ChangeAt Go.RowKit Go.Deep
open Go.ChangeMaps (open_string shut_string)
theorem own:ownKnob Tryz.prog.godebug=none:=by kernel_rfl
theorem laidOut:laidOutB Tryz.prog=true:=by kernel_rfl
theorem lifted(os:Os)(started:os.Started)(H:Type)(enc:TypeId×Value→H):
  ReturnsInHanded {} Tryz.checked os 4 .any (fun w args=>(Rows.storeOpensSpec.pre enc Tryz.prog Tryz.f4 Rows.storeOpensRow.domain false w args∧laidMetH Tryz.prog Rows.storeOpensRow.laid w)∧sizedMet enc Tryz.prog Tryz.f4 (OpenSpec.ofChange Rows.storeOpensSpec) false w args)
   (Rows.storeOpensSpec.post enc Tryz.prog Tryz.f4 false true false false):=by
 refine jd5 (C:=Tryz.checked) (X:=fun w _=>laidMetH Tryz.prog Rows.storeOpensRow.laid w) (fun _ _ _ hh h=>h.of_heap hh) own started (by kernel_rfl) Tryz.func4
  (ChangeSpec.witness_shaped (enc:=enc) (C:=Tryz.checked) (os:=os) (X:=fun w _=>laidMetH Tryz.prog Rows.storeOpensRow.laid w) false (World.laidAll Tryz.prog os Rows.storeOpensRow.laid) #[.int .i64 0,.int .i64 0,.slice none 0 0] 8 (World.laidAll_os _ _ _)
   (World.shaped_of_ZipB (by kernel_rfl) (by kernel_rfl)) (by kernel_rfl) (by kernel_rfl) (by kernel_rfl)
   (by rw[MakeChecks.laidMetH_plain _ _ _ (by kernel_rfl)];exact laidMet_laidAll _ (by kernel_rfl) (by kernel_rfl))) ?_
 intro W base args ds gs before hval0 hW hL hsh;have TB:BT W:=tb_of hL hsh;have hval:∀(j:Nat) t v,Tryz.f4.params[j]? =some t→args[j]? =some v→Value.okWide Tryz.prog W .any base t v:=hval0;have hW':=hW;obtain⟨p,q,hA0,hV,rfl,hfz,hnd⟩:=hW;have hA:DataW.TrodAll enc Tryz.prog W 0 (fun _=>true) true Tryz.f4.params.toList args.toList ds p:=hA0;rw[Tryz.params4]at hA hval;obtain⟨v0,vs0,d0,ds0,p0,q0,hargs,rfl,rfl,h0,r0⟩:=trodAll_cons hA;obtain⟨v1,vs1,d1,ds1,p1,q1,rfl,rfl,rfl,h1,r1⟩:=trodAll_cons r0;obtain⟨v2,vs2,d2,ds2,p2,q2,rfl,rfl,rfl,h2,r2⟩:=trodAll_cons r1;obtain⟨rfl,rfl,rfl⟩:=trodAll_nil r2;obtain rfl:args= #[v0,v1,v2]:=by cases args;simp_all
 obtain⟨rfl,rfl⟩:=trodVars_none hV;obtain⟨a0,rfl,rfl,rfl,w0⟩:=open_int Tryz.underlying3 (hval 0 3 v0 rfl rfl) h0;obtain⟨a1,rfl,rfl,rfl,w1⟩:=open_int Tryz.underlying3 (hval 1 3 v1 rfl rfl) h1;obtain⟨a2,len2,cap2,rfl⟩:=okWide_slice Tryz.underlying58 (hval 2 58 v2 rfl rfl);have k2:=h2;have lt2:∀x∈p2,x.block<W.heap.size:=by obtain⟨m,hm⟩:=k2;exact DataW.trod_lt m _ _ _ hm
 obtain⟨l2,s2⟩:∃l,Sl W a2 len2 cap2 l:=by
  obtain⟨fuel,hf⟩:=h2;rcases open_ints Tryz.underlying58 Tryz.underlying5 (by kernel_rfl) hf with⟨hcs,_⟩|⟨x,l,c,zs,hcs,_,hl,hm,hz,_,hcell,hwz⟩
  ·simp[Value.cells]at hcs
   obtain⟨rfl,rfl,rfl⟩:=hcs;exact sl_of (.inl ⟨rfl,rfl,rfl,rfl⟩)
  ·simp[Value.cells]at hcs
   obtain⟨rfl,rfl,rfl⟩:=hcs;exact sl_of (.inr ⟨_,rfl,hl,hm,by simpa using hz,hcell,hwz⟩)
 clear hA0 hval0;refine(jgk a0 a1 a2 len2 cap2 l2 W s2 TB).mono fun e W' ⟨he,bel⟩=> ?_;subst he;exact⟨_,rfl,_,_,_,[],_,[],hW',trodAll_mk1 (shut_bool Tryz.underlying4 _),(trodAll_cons_mk (shut_int Tryz.underlying3 w0) (trodAll_cons_mk (shut_int Tryz.underlying3 w1) (trodAll_cons_mk (Below.trod laidOut (by kernel_rfl) (of_decide_eq_true (by kernel_rfl)) k2 bel lt2) trodAll_mk0))),rfl,bel.frame _,fun h=>by cases h⟩
theorem factA:mapsRowed Tryz.prog=true:=by kernel_rfl
theorem factB:Tryz.prog.inPlace 4=Rows.storeOpensRow.inPlace:=by kernel_rfl
theorem factC:Tryz.prog.unfollowed 4=true:=by kernel_rfl
theorem factD:Tryz.prog.recurses 4=true:=by unfold Go.Program.recurses;rw[factC];rfl
theorem factE:Tryz.prog.varsNamed 4=Rows.storeOpensRow.named:=by kernel_rfl
theorem facts:joinedFacts Tryz.prog 4 Tryz.f4 Rows.storeOpensSpec Rows.storeOpensRow=true:=by
 unfold joinedFacts;rw[laidOut,factA,factB,factC,factD,factE]
 kernel_rfl
theorem over:Rows.storeOpensRow.holds Tryz.pinned (OpenSpec.ofChange Rows.storeOpensSpec):=
 OpenClaim.holds_of_wide 4 Tryz.f4 rfl rfl rfl rfl rfl rfl rfl ⟨rfl,rfl,rfl,rfl,rfl⟩ rfl rfl rfl rfl rfl (by kernel_rfl) Tryz.func4 facts
  (of_decide_eq_true (by kernel_rfl)) (by unfold Func.isWrapper;first|(rw[if_pos (by decide+kernel)];kernel_rfl)|(rw[if_neg (by decide+kernel)];exact⟨rfl,rfl⟩))
  (fun os started H enc _=>lifted os started H enc)
theorem cardA:Rows.storeOpensRow.wfByText (OpenSpec.ofChange Rows.storeOpensSpec)=true:=by kernel_rfl
theorem cardB:Tryz.prog.mainIs=some (true,("93ce36b71c697741151fc2e667110544396b296939fc760b8c82ff88397341bf").toList):=by kernel_rfl
theorem cardC:true=Tryz.prog.looks []:=by kernel_rfl
theorem cardD:false=Rows.storeOpensRow.goesBy Tryz.prog:=by kernel_rfl
theorem cardE:([3,3,58].all fun u=> !Tryz.prog.wantsStandIn u)=true:=by kernel_rfl
theorem proved:Rows.StoreOpensCardSaid:=
 Claim7.holds_tied_plain_at .later [] [.data,.data,.data,.data,.data] true (true, "93ce36b71c697741151fc2e667110544396b296939fc760b8c82ff88397341bf") true over (fun _ h=>by cases h) cardA (fun _ h=>by cases h) storeOpens_row_tie rfl ⟨rfl,rfl⟩ cardB rfl
  (fun f fn hf hfn=>by
   obtain rfl:f=4:=Option.some.inj ((show Tryz.prog.funcNamed Rows.storeOpensRow.func=some 4 by kernel_rfl).symm.trans hf)|>.symm;obtain rfl:fn=Tryz.f4:=(Option.some.inj (Tryz.func4.symm.trans hfn)).symm;exact⟨cardC,fun j t ht=>by
    rw[Tryz.params4]at ht;have hm:t∈[3,3,58]:=by simpa using Array.mem_of_getElem? ht
    exact(show Tryz.prog.wantsStandIn t=false by simpa using List.all_eq_true.1 cardE t hm)⟩)
  cardD
end Go.Proofs.YtabandbigckfkaaGreatDoor.storeOpens
