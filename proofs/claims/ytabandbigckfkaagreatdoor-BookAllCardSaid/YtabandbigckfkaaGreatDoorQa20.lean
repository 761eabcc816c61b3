import Derived.Test.YtabandbigckfkaaGreatDoorQa18
set_option maxHeartbeats 6400000
set_option maxRecDepth 100000
set_option linter.unusedSimpArgs false
set_option linter.unusedVariables false
namespace Go.Proofs.YtabandbigckfkaaGreatDoor
open Go.RowKit Go.Deep Go.Maps
theorem jc4{w:World}{q:Nat}{s:Bk.St}{ru:Nat→Bk.Un}{rv:Int}{lm km H:Value}(h:BdAt w q s ru rv lm km H):w.rangeAt q 4 (Bk.viewC s).toList:=by
 intro j v hv;rw[cell_of_row w q _ _ _ _ h.row];have hj:j<22:=by have:=(List.getElem?_eq_some_iff.1 hv).1;exact this
 rcases j with _|_|_|_|_|_|_|_|_|_|_|_|_|_|_|_|_|_|_|_|_|_|j
 all_goals first|(simp only[Bk.viewC]at hv;exact hv)|omega
theorem jaq:Tryz.prog.underlying 93=some (.struct (Tryz.prog.fieldsOf 93)):=by kernel_rfl
theorem jba(s:Bk.St):(Tryz.prog.info? 93).map (·.size)=some (Bk.viewC s).toList.length:=by kernel_rfl
theorem jfk(s:Bk.St):(Tryz.prog.info? 93).map (·.size)=some (Bk.viewC s).size:=by kernel_rfl
theorem joh(s:Bk.St):(Bk.viewC s).all (·.oneCell')=true:=by simp[Bk.viewC];simp[Value.oneCell']
structure VwCs(w:World)(g:Nat)(s:Bk.St):Prop where
 d4:w.cell? ⟨g,4,none⟩=some (.int .i64 s.from_)
 d5:w.cell? ⟨g,5,none⟩=some (.int .i64 s.ph)
 d9:w.cell? ⟨g,9,none⟩=some (.int .i64 s.seq)
 d10:w.cell? ⟨g,10,none⟩=some (.int .i64 s.sp.v)
theorem vwcs{w:World}{g:Nat}{s:Bk.St}(h:w.heap[g]? =some (.cells (Bk.viewC s) 93 (0,0))):VwCs w g s:=by
 constructor
 all_goals (rw[cell_of_row w g _ _ _ _ h];rfl)
theorem jbr{w:World}{ops:Array Oper}{rest:List Oper}{op:Oper}{a:Act}{Q:Exit→Act→World→Prop}{g:Nat}{s:Bk.St}{cs:Array Value}(hgd:op.guard=none)(x y:Operand)(ho:op.op= .store 93 x y)(hx:a.eval x= .pointer (some ⟨g,0,none⟩))(hy:a.eval y= .agg (Bk.viewC s))(hg:w.heap[g]? =some (.cells cs 93 (0,0)))(hc:cs.size=(Bk.viewC s).size)
  (h:wpList Tryz.prog ops Q rest (a.put op.dst undef) (w.setRow g (Bk.viewC s))):wpList Tryz.prog ops Q (op::rest) a w:=
 wpList_plain hgd fun _ hK=>wp_store_row 93 x y ho g (Bk.viewC s) hx hy 93 _ hg (jfk s) hc (joh s) (hK _ _ h)
theorem jmc(q:Nat)(s:Bk.St)(ru:Nat→Bk.Un)(rv:Int)(lo ko:Option Nat)(H:Value)(K:Kv.St)(w:World)(h:BdIs w q s ru rv lo ko H K)(ht:BT w)(r:Rc.R)(hin:Rc.In r):Calls Tryz.prog 140 #[.pointer (some ⟨q,0,none⟩),.agg (Rc.cells r)] w (BRet (.int .i64 (Bk.chk5 s r)) w):=by
 obtain⟨ans,hans⟩:∃ans,ans=Bk.chk5 s r:=⟨_,rfl⟩;rw[←hans];have AN:=zh hans;clear hans;have HT:=zh ht;obtain⟨W,hW⟩:∃W,W=w.alloc (.cells (Rc.cells r) 45):=⟨_,rfl⟩;obtain⟨g,hg⟩:∃g,g=w.heap.size:=⟨_,rfl⟩;have R0:=zh (RdC.open_ h r);rw[←hW,←hg]at R0;have GE:Hid (w.heap.size≤g):=Nat.le_of_eq hg.symm;have hw1:wrap64 (s.seq+1)=s.seq+1:=IntWalk.wrap64_in _ ⟨by have:=h.lok.ok.seq;omega,by have:=h.lok.ok.seq;omega⟩;clear h ht;go_enter Tryz.func140,Tryz.ntmps140;go_upto_region 1 with fail
 rw[←hW,←hg];clear hW hg;have lq:=R0.out.bd.lt.1;go_upto_region 2 with(first
   |((with_reducible show zL 9);refine wpList_load_mid rfl 93 (.tmp 8) rfl q 4 rfl (Bk.viewC s).toList _ (jc4 R0.out.bd.at_) jaq rfl (jba s) ?_)
   |((with_reducible show zW);refine jbr (s:=s) rfl (.tmp 5) (.tmp 9) rfl rfl rfl (heap_alloc_new W _) rfl ?_))
 rw[World.setRow_alloc_new];have hb2:Below W.heap.size W (W.alloc (.cells (Bk.viewC s) 93)):=(Below.refl _ _).alloc (Nat.le_refl _) _;have B2:=zh (R0.out.b.trans (hb2.mono R0.out.b.size));have RC2:=R0.out.rc.on hb2;obtain⟨d4,d5,d9,d10⟩:=vwcs (heap_alloc_new W (.cells (Bk.viewC s) 93));have c3:=RC2.cs.c3;have c4:=RC2.cs.c4;clear RC2 hb2 lq;generalize W.heap.size=g2 at*;generalize W.alloc (.cells (Bk.viewC s) 93)=W2 at*;by_cases hph:s.ph=1
 ·have o1:(s.ph !=1)=false:=by simpa using hph
  by_cases hq:r.seq=s.seq+1
  ·have q1:(r.seq !=s.seq+1)=false:=by simpa using hq
   by_cases hn0:r.n=0
   ·have E:ans=0:=by rw[AN.out];unfold Bk.chk5;rw[if_neg (by omega),if_neg (by omega),if_neg (by omega)]
    subst E;have p1:(r.n !=0)=false:=by simpa using hn0
    clear hq hn0 hph;go_wp2_with fail;go_ret;exact⟨rfl,B2.out⟩
   ·have p1:(r.n !=0)=true:=by simpa using hn0
    by_cases hnv:r.n=s.sp.v
    ·have E:ans=0:=by rw[AN.out];unfold Bk.chk5;rw[if_neg (by omega),if_neg (by omega),if_neg (by omega)]
     subst E;have p2:(r.n !=s.sp.v)=false:=by simpa using hnv
     clear hq hn0 hnv hph;go_wp2_with fail;go_ret;exact⟨rfl,B2.out⟩
    ·have p2:(r.n !=s.sp.v)=true:=by simpa using hnv
     by_cases hnf:r.n=s.from_
     ·have E:ans=0:=by rw[AN.out];unfold Bk.chk5;rw[if_neg (by omega),if_neg (by omega),if_neg (by omega)]
      subst E;have p3:(r.n !=s.from_)=false:=by simpa using hnf
      clear hq hn0 hnv hnf hph;go_wp2_with fail;go_ret;exact⟨rfl,B2.out⟩
     ·have E:ans=5:=by rw[AN.out];unfold Bk.chk5;rw[if_neg (by omega),if_neg (by omega),if_pos ⟨hn0,hnv,hnf⟩]
      subst E;have p3:(r.n !=s.from_)=true:=by simpa using hnf
      clear hq hn0 hnv hnf hph;go_wp2_with fail;go_ret;exact⟨rfl,B2.out⟩
  ·have E:ans=7:=by rw[AN.out];unfold Bk.chk5;rw[if_neg (by omega),if_pos hq]
   subst E;have q1:(r.seq !=s.seq+1)=true:=by simpa using hq
   clear hq hph;go_wp2_with fail;go_ret;exact⟨rfl,B2.out⟩
 ·have o1:(s.ph !=1)=true:=by simpa using hph
  by_cases hph4:s.ph=4
  ·have o4:(s.ph !=4)=false:=by simpa using hph4
   by_cases hq:r.seq=s.seq+1
   ·have q1:(r.seq !=s.seq+1)=false:=by simpa using hq
    by_cases hn0:r.n=0
    ·have E:ans=0:=by rw[AN.out];unfold Bk.chk5;rw[if_neg (by omega),if_neg (by omega),if_neg (by omega)]
     subst E;have p1:(r.n !=0)=false:=by simpa using hn0
     clear hq hn0 hph hph4;go_wp2_with fail;go_ret;exact⟨rfl,B2.out⟩
    ·have p1:(r.n !=0)=true:=by simpa using hn0
     by_cases hnv:r.n=s.sp.v
     ·have E:ans=0:=by rw[AN.out];unfold Bk.chk5;rw[if_neg (by omega),if_neg (by omega),if_neg (by omega)]
      subst E;have p2:(r.n !=s.sp.v)=false:=by simpa using hnv
      clear hq hn0 hnv hph hph4;go_wp2_with fail;go_ret;exact⟨rfl,B2.out⟩
     ·have p2:(r.n !=s.sp.v)=true:=by simpa using hnv
      by_cases hnf:r.n=s.from_
      ·have E:ans=0:=by rw[AN.out];unfold Bk.chk5;rw[if_neg (by omega),if_neg (by omega),if_neg (by omega)]
       subst E;have p3:(r.n !=s.from_)=false:=by simpa using hnf
       clear hq hn0 hnv hnf hph hph4;go_wp2_with fail;go_ret;exact⟨rfl,B2.out⟩
      ·have E:ans=5:=by rw[AN.out];unfold Bk.chk5;rw[if_neg (by omega),if_neg (by omega),if_pos ⟨hn0,hnv,hnf⟩]
       subst E;have p3:(r.n !=s.from_)=true:=by simpa using hnf
       clear hq hn0 hnv hnf hph hph4;go_wp2_with fail;go_ret;exact⟨rfl,B2.out⟩
   ·have E:ans=7:=by rw[AN.out];unfold Bk.chk5;rw[if_neg (by omega),if_pos hq]
    subst E;have q1:(r.seq !=s.seq+1)=true:=by simpa using hq
    clear hq hph hph4;go_wp2_with fail;go_ret;exact⟨rfl,B2.out⟩
  ·have o4:(s.ph !=4)=true:=by simpa using hph4
   have E:ans=10:=by rw[AN.out];unfold Bk.chk5;rw[if_pos ⟨hph,hph4⟩]
   subst E;clear hph hph4;go_wp2_with fail;go_ret;exact⟨rfl,B2.out⟩
theorem jmd(q:Nat)(s:Bk.St)(ru:Nat→Bk.Un)(rv:Int)(lo ko:Option Nat)(H:Value)(K:Kv.St)(w:World)(h:BdIs w q s ru rv lo ko H K)(ht:BT w)(r:Rc.R)(hin:Rc.In r)(hr:Rc.right r=true)(hk:r.kind=6):Calls Tryz.prog 142 #[.pointer (some ⟨q,0,none⟩),.agg (Rc.cells r)] w (BRet (.int .i64 (Bk.chk6 s r)) w):=by
 obtain⟨ans,hans⟩:∃ans,ans=Bk.chk6 s r:=⟨_,rfl⟩;rw[←hans];have AN:=zh hans;clear hans;have HT:=zh ht;obtain⟨W,hW⟩:∃W,W=w.alloc (.cells (Rc.cells r) 45):=⟨_,rfl⟩;obtain⟨g,hg⟩:∃g,g=w.heap.size:=⟨_,rfl⟩;have R0:=zh (RdC.open_ h r);rw[←hW,←hg]at R0;have GE:Hid (w.heap.size≤g):=Nat.le_of_eq hg.symm;obtain⟨hwho,hsq⟩:=Rc.right6 hk hr;obtain⟨k,hkk⟩:=Int.eq_ofNat_of_zero_le hwho.1;have k16:k<16:=by omega
 have i16:(k:Int)<16:=by omega
 obtain⟨hu1,hu2⟩:=h.raw k k16;have HA:Hid (ans=if(ru k).q≠r.seq then 7 else if(ru k).d=true then 10 else 0):=by
  show _=_;rw[AN.out];unfold Bk.chk6;rw[hkk,Int.toNat_natCast,hu1];by_cases hq:(ru k).q=r.seq
  ·have hd:(Bd.told (ru k)).d=(ru k).d:=by
    show((ru k).d|| decide ((ru k).q=0))=_;rw[decide_eq_false (show¬(ru k).q=0 by omega),Bool.or_false]
   rw[hd];rfl
  ·rw[if_pos (show(Bd.told (ru k)).q≠r.seq from hq),if_pos hq]
 clear AN hu1 hu2 hwho hsq hr;clear h ht;go_enter Tryz.func142,Tryz.ntmps142;go_upto_region 1 with fail
 rw[←hW,←hg];clear hW hg;have c2:=R0.out.rc.cs.c2;rw[hkk]at c2;obtain⟨u0,u1,u2⟩:=R0.out.bd.at_.unit k16;have lq:=R0.out.bd.lt.1;have lg:=R0.out.rc.cs.lt;go_upto_region 1 with fail
 go_region;have hb2:Below W.heap.size W (W.alloc (.cells #[.int .i64 (ru k).v,.int .i64 (ru k).q,.bool (ru k).d] 37)).drew:=((Below.refl _ _).alloc (Nat.le_refl _) _).drew;have B2:=zh (R0.out.b.trans (hb2.mono R0.out.b.size));have RC2:=R0.out.rc.on hb2;have c4:=RC2.cs.c4;have hn:(W.alloc (.cells #[.int .i64 (ru k).v,.int .i64 (ru k).q,.bool (ru k).d] 37)).drew.heap[W.heap.size]? =some (.cells #[.int .i64 (ru k).v,.int .i64 (ru k).q,.bool (ru k).d] 37 (0,0)):=heap_alloc_new W _;have e1:(W.alloc (.cells #[.int .i64 (ru k).v,.int .i64 (ru k).q,.bool (ru k).d] 37)).drew.cell? ⟨W.heap.size,1,none⟩=some (.int .i64 (ru k).q):=by rw[cell_of_row _ W.heap.size 1 _ _ _ hn];rfl
 have e2:(W.alloc (.cells #[.int .i64 (ru k).v,.int .i64 (ru k).q,.bool (ru k).d] 37)).drew.cell? ⟨W.heap.size,2,none⟩=some (.bool (ru k).d):=by rw[cell_of_row _ W.heap.size 2 _ _ _ hn];rfl
 clear RC2 hb2 hn u0 u1 u2 lq lg c2;generalize(W.alloc (.cells #[.int .i64 (ru k).v,.int .i64 (ru k).q,.bool (ru k).d] 37)).drew=W2 at*;generalize W.heap.size=g2 at*;generalize(ru k).q=uq at*;generalize(ru k).d=ud at*;by_cases hq:uq=r.seq
 ·have q1:(r.seq !=uq)=false:=by simpa using hq.symm
  cases ud with
  |true=>
   have E:ans=10:=by rw[HA.out,if_neg (by simpa using hq),if_pos rfl]
   subst E;clear hq;go_wp2_with fail;go_ret;exact⟨rfl,B2.out⟩
  |false=>
   have E:ans=0:=by rw[HA.out,if_neg (by simpa using hq),if_neg (by simp)]
   subst E;clear hq;go_wp2_with fail;go_ret;exact⟨rfl,B2.out⟩
 ·have q1:(r.seq !=uq)=true:=by simpa using fun e:r.seq=uq=>hq e.symm
  have E:ans=7:=by rw[HA.out,if_pos hq]
  subst E;clear hq;go_wp2_with fail;go_ret;exact⟨rfl,B2.out⟩
theorem jme(q:Nat)(s:Bk.St)(ru:Nat→Bk.Un)(rv:Int)(lo ko:Option Nat)(H:Value)(K:Kv.St)(w:World)(h:BdIs w q s ru rv lo ko H K)(ht:BT w)(r:Rc.R)(hin:Rc.In r)(hr:Rc.right r=true):Calls Tryz.prog 132 #[.pointer (some ⟨q,0,none⟩),.agg (Rc.cells r)] w (BRet (.int .i64 (Bk.leadE s r)) w):=by
 obtain⟨ans,hans⟩:∃ans,ans=Bk.leadE s r:=⟨_,rfl⟩;rw[←hans];have AN:=zh hans;clear hans;have HT:=zh ht;obtain⟨W,hW⟩:∃W,W=w.alloc (.cells (Rc.cells r) 45):=⟨_,rfl⟩;obtain⟨g,hg⟩:∃g,g=w.heap.size:=⟨_,rfl⟩;have R0:=zh (RdC.open_ h r);rw[←hW,←hg]at R0;have GE:Hid (w.heap.size≤g):=Nat.le_of_eq hg.symm;have hr1:=(Rc.ok_of hr).epoch;have CL:Hid (s.ep≠0→∀W,RdC w q s ru rv lo ko H K g r W→Calls Tryz.prog 203 #[.pointer (some ⟨q,0,none⟩),.string ⟨#[108,101,97,100,101,114]⟩,.int .i64 r.who,.int .i64 s.ep,.int .i64 r.n] W (fun e w'=>e= .returned (.bool (decide (s.who=r.who)&&decide (r.n<s.till)))∧Below W.heap.size W w')):=fun h0 W h=>jgz W q _ _ lo (Bd.tab s) h.bd.lsIs Bd.leader (by decide) r.who s.ep r.n (by rw[Bd.tab_holds s r.who s.ep r.n h0,Bool.and_eq_true,decide_eq_true_eq,decide_eq_true_eq];simp);have CF:Hid (∀W,RdC w q s ru rv lo ko H K g r W→Calls Tryz.prog 204 #[.pointer (some ⟨q,0,none⟩),.string ⟨#[108,101,97,100,101,114]⟩,.int .i64 r.n] W (fun e w'=>e= .returned (.bool (Bk.free s r.n))∧Below W.heap.size W w')):=fun W h=>jh3 W q _ _ lo (Bd.tab s) h.bd.lsIs Bd.leader (by decide) r.n (Bd.tab_free s r.n);have hw1:wrap64 (s.ep+1)=s.ep+1:=IntWalk.wrap64_in _ ⟨by have:=h.lok.ok.ep;omega,by have:=h.lok.ok.ep;omega⟩;have HA:Hid (ans=if r.epoch≠s.ep∧r.epoch≠s.ep+1 then 8 else if Bk.leadOk s r=true then 0 else 9):=AN.out;clear AN;clear h ht;go_enter Tryz.func132,Tryz.ntmps132;go_upto_region 1 with fail
 rw[←hW,←hg];clear hW hg;have c1:=R0.out.rc.cs.c1;have b4:=R0.out.bd.at_.cs.c4;have lq:=R0.out.bd.lt.1;have lg:=R0.out.rc.cs.lt;by_cases he:r.epoch=s.ep
 ·have q1:(r.epoch==s.ep)=true:=by simpa using he
  have CL2:=zh (CL.out (by omega));clear CL CF;have HE:=zh he;have HB:Hid (ans=if(decide (s.who=r.who)&&decide (r.n<s.till))=true then 0 else 9):=by show _=_;rw[HA.out,if_neg (by omega)];unfold Bk.leadOk;rw[if_pos he]
  clear HA;generalize(decide (s.who=r.who)&&decide (r.n<s.till))=b at*;go_upto_region 5 with fail
  clear c1 b4 lq lg;refine wp_region_held_drew (S:=RdC w q s ru rv lo ko H K g r) (by kernel_rfl) (R0.out.on (Below.refl W.heap.size W).drew) (fun hS=> ?_);refine tY 0 hS ?_;refine tY 1 hS ?_;refine tY 2 hS ?_;refine tY 3 hS ?_;refine tZ 4 rfl (by intro W hW;have c2:=hW.rc.cs.c2;have lg:=hW.rc.cs.lt;go_simp;(try with_reducible rfl)) hS ?_;refine tY 5 hS ?_;simp only[Act.put,zT,zO,zS];refine tZ 6 rfl (by intro W hW;have c1:=hW.rc.cs.c1;rw[HE.out]at c1;have lg:=hW.rc.cs.lt;go_simp;(try with_reducible rfl)) hS ?_;refine tY 7 hS ?_;refine tZ 8 rfl (by intro W hW;have c3:=hW.rc.cs.c3;have lg:=hW.rc.cs.lt;go_simp;(try with_reducible rfl)) hS ?_;simp only[Act.put,zT,zO,zS];refine rO 9 (fun K hK=> ?_);go_simp
  with_reducible refine(CL2.out _ hS).mono ?_
  rintro e w7 ⟨rfl,hb⟩;replace hS:=hS.on hb;clear hb;refine hK.out _ _ hS (fun _=> ?_);clear hK K;refine tY 10 hS ?_;simp only[Act.put,zT,zO,zS];refine wpAnyH_done (by kernel_rfl) ?_ _;have R1:=zh hS;clear hS
  cases b with
  |true=>
   obtain rfl:=HB.out.trans (if_pos rfl);clear HB;go_wp2_with fail;go_ret;exact⟨rfl,R1.out.b⟩
  |false=>
   obtain rfl:=HB.out.trans (if_neg (by simp));clear HB;go_wp2_with fail;go_ret;exact⟨rfl,R1.out.b⟩
 ·have q1:(r.epoch==s.ep)=false:=by simpa using he
  by_cases he2:r.epoch=s.ep+1
  ·have q2:(r.epoch==s.ep+1)=true:=by simpa using he2
   have HB:Hid (ans=if Bk.free s r.n=true then 0 else 9):=by show _=_;rw[HA.out,if_neg (by omega)];unfold Bk.leadOk;rw[if_neg he];rfl
   clear HA CL;generalize Bk.free s r.n=b at*;go_upto_region 7 with fail
   clear c1 b4 lq lg;refine wp_region_held_drew (S:=RdC w q s ru rv lo ko H K g r) (by kernel_rfl) (R0.out.on (Below.refl W.heap.size W).drew) (fun hS=> ?_);refine tY 0 hS ?_;refine tY 1 hS ?_;refine tY 2 hS ?_;refine tY 3 hS ?_;refine tZ 4 rfl (by intro W hW;have c3:=hW.rc.cs.c3;have lg:=hW.rc.cs.lt;go_simp;(try with_reducible rfl)) hS ?_;simp only[Act.put,zT,zO,zS];refine rO 5 (fun K hK=> ?_);go_simp
   with_reducible refine(CF.out _ hS).mono ?_
   rintro e w7 ⟨rfl,hb⟩;replace hS:=hS.on hb;clear hb;refine hK.out _ _ hS (fun _=> ?_);clear hK K;refine tY 6 hS ?_;simp only[Act.put,zT,zO,zS];refine wpAnyH_done (by kernel_rfl) ?_ _;have R1:=zh hS;clear hS
   cases b with
   |true=>
    obtain rfl:=HB.out.trans (if_pos rfl);clear HB;go_wp2_with fail;go_ret;exact⟨rfl,R1.out.b⟩
   |false=>
    obtain rfl:=HB.out.trans (if_neg (by simp));clear HB;go_wp2_with fail;go_ret;exact⟨rfl,R1.out.b⟩
  ·have q2:(r.epoch==s.ep+1)=false:=by simpa using he2
   obtain rfl:=HA.out.trans (if_pos ⟨he,he2⟩);clear HA CL CF he he2;go_wp2_with fail;go_ret;exact⟨rfl,R0.out.b⟩
end Go.Proofs.YtabandbigckfkaaGreatDoor
namespace Go.Proofs.YtabandbigckfkaaGreatDoor
open Go.RowKit
theorem arr_int:Tryz.prog.underlying 33=some (.array 4 3):=by kernel_rfl
theorem jmf(s:Spc.Sp)(j:Nat)(hj:j<4)(W:World):(Instr.index 33 (.agg #[.int .i64 s.a,.int .i64 s.b,.int .i64 s.c,.int .i64 s.e]) (.int .i64 (j:Nat))).run Tryz.prog W= .ok (.int .i64 (Spc.at_ s j)) W:=by
 have h1:(0:Int)≤(j:Nat)∧((j:Nat):Int)<((4:Nat):Int):=by omega
 have hp:(#[.int .i64 s.a,.int .i64 s.b,.int .i64 s.c,.int .i64 s.e]:Array Value)[j]? =some (.int .i64 (Spc.at_ s j)):=by
  rcases j with _|_|_|_|j<;>first|rfl|omega
 generalize(#[.int .i64 s.a,.int .i64 s.b,.int .i64 s.c,.int .i64 s.e]:Array Value)=cs at*;simp[Instr.index,run_underlying arr_int,asIntOf,part,isAgg,run_underlying Tryz.underlying3,h1,hp,go_sem];intro h;omega
theorem jmg(s:Spc.Sp)(w:World):Calls Tryz.prog 216 #[Spc.val s] w fun e w'=>∃A c,e= .returned (.slice A (Spc.steps s).length c)∧OwnI w' w.heap.size (.slice A (Spc.steps s).length c) (Spc.steps s)∧Below w.heap.size w w':=by
 have hb:=(Below.refl w.heap.size w).alloc (Nat.le_refl _) (.cells (Spc.cells s) 35);have A1:=zh (jae (heap_alloc_new w (.cells (Spc.cells s) 35)));have B1:=zh hb;obtain⟨f0,f1,f2,f3,f4,f5,f6,f7,f8,f9,f10,f11⟩:=A1.out;clear hb;unfold Spc.val at*;unfold Spc.cells at*;go_enter Tryz.func216,Tryz.ntmps216;go_wp2_with fail;generalize w.alloc (.cells #[.int .i64 s.v,.int .i64 s.d,.int .i64 s.u,.int .i64 s.n,.int .i64 s.g,.int .i64 s.a,.int .i64 s.b,.int .i64 s.c,.int .i64 s.e,.int .i64 s.w,.int .i64 s.x,.int .i64 s.k] 35)=w1 at*;clear f0 f1 f2 f3 f4 f5 f6 f7 f8 f9 f10 f11 A1;go_loopw [3,8] (fun v i wr=>∃(j:Nat) (l:List Int),j≤4∧i= .int .i64 (j:Nat)∧l=[s.a,s.b,s.c,s.e].take j∧(∀m,m<j→Spc.at_ s m≠0)∧OwnI wr w1.heap.size v l∧Below w1.heap.size w1 wr) (fun _ i _=>4 -(intOf i).toNat)
 case atStart=>exact⟨0,[],by omega,rfl,rfl,fun m hm=>absurd hm (by omega),World.ownsRow_nil _ _ _ _,Below.refl _ _⟩
 case round=>
  obtain⟨j,l,hj,rfl,hl,hnz,ho,hbr⟩:=hrel;have O:=zh ho;have B:=zh hbr;have HL:=zh hl;have NZ:=zh hnz;have hll:l.length≤4:=by rw[hl,List.length_take];simp;omega
  have hbase:=hbr.size;have fin:Spc.steps s=l→∃A c,u3= .slice A (Spc.steps s).length c∧OwnI wr w.heap.size (.slice A (Spc.steps s).length c) (Spc.steps s)∧Below w.heap.size w wr:=fun e=>by
   obtain⟨A',c',ev,_⟩:=O.out.sl;rw[e,ev];exact⟨A',c',rfl,jdf (by rw[←ev];exact O.out) B1.out.size,B1.out.trans (B.out.mono B1.out.size)⟩
  have FIN:=zh fin;clear ho hbr hl hnz fin;by_cases hlt:j<4
  ·have hpj:=fun W=>jmf s j hlt W
   have i1:(0:Int)≤(j:Int):=by omega
   have i2:(j:Int)<4:=by omega
   obtain⟨x,hx⟩:∃x,x=Spc.at_ s j:=⟨_,rfl⟩;rw[←hx]at hpj;by_cases h0:x=0
   ·have hxb:(x==0)=true:=by rw[h0];rfl
    have E:=zh (FIN.out (by rw[HL.out];exact jcf (j:=j) (by omega) NZ.out (.inr (by rw[←hx];exact h0))));clear h0 hx;go_wp2_with fail;go_ret;obtain⟨A',c',ev,h1,h2⟩:=E.out;exact⟨A',c',by rw[←ev];rfl,h1,h2⟩
   ·have hxb:(x==0)=false:=by rw[beq_eq_false_iff_ne];exact h0
    have NX:Hid (∀m,m<j+1→Spc.at_ s m≠0):=fun m hm=>by
     rcases Nat.lt_or_ge m j with h|h
     ·exact NZ.out m h
     ·rw[show m=j by omega,←hx];exact h0
    have HN:Hid (l++[x]=[s.a,s.b,s.c,s.e].take (j+1)):=by
     show _=_;rw[HL.out,hx];rcases j with _|_|_|_|j<;>first|rfl|omega
    clear h0 hx;go_wp2_with(at_builtin;refine ja2 rfl (.tmp 13) (.tmp 15) rfl w1.heap.size _ l rfl O.out _ rfl (by omega) hbase ?_;intro v3 w3 ho3 hg3;have O3:=zh ho3;have B3:=zh (B.out.grown hg3 hbase (jb5 O.out));clear ho3 hg3);exact⟨⟨j+1,l++[x],by omega,by go_num,HN.out,NX.out,O3.out,B3.out⟩,by simp[intOf];omega⟩
  ·obtain rfl:j=4:=by omega
   have E:=zh (FIN.out (by rw[HL.out];exact jcf (j:=4) (by omega) NZ.out (.inl rfl)));go_wp2_with fail;go_ret;obtain⟨A',c',ev,h1,h2⟩:=E.out;exact⟨A',c',by rw[←ev];rfl,h1,h2⟩
end Go.Proofs.YtabandbigckfkaaGreatDoor
