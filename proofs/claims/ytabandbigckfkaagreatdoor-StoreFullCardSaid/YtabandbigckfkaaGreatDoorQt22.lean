import Derived.Defers
import Derived.Test.YtabandbigckfkaaGreatDoorQt21
import Derived.Sort.OwnSortedInts
import Derived.Lib.ConvBytes
import Derived.Laws.MakeOwn
set_option maxHeartbeats 6400000
set_option maxRecDepth 100000
set_option linter.unusedSimpArgs false
set_option linter.unusedVariables false
namespace Go.Proofs.YtabandbigckfkaaGreatDoor
open Go.RowKit
def jgn(P:Program)(f:FuncId)(args:Array Value)(w:World)(R:Ending→World→Prop):Prop:=Calls P f args w R∧∀u,CallsD P f args u w fun e u' w'=>u'=u∧R e w'
theorem jf5{P:Program}{f:FuncId}{fn:Func}{c:Code}{args:Array Value}{w:World}{R:Ending→World→Prop}(hf:P.funcs[f]? =some fn)(hb:fn.body=some c)
 (h:c.wp P (bodyPost P fn R) {tmps:=args++Array.replicate (fn.ntmps -args.size) undef,defers:=[]} w):jgn P f args w R:=⟨calls_of_wp hf hb h,fun _=>callsD_of_wp hf hb h⟩
theorem jgn.mono{P:Program}{f:FuncId}{args:Array Value}{w:World}{R R':Ending→World→Prop}(h:jgn P f args w R)(hr:∀e w',R e w'→R' e w'):jgn P f args w R':=
 ⟨h.1.mono hr,fun u=>(h.2 u).mono fun e _ w' hp=>⟨hp.1,hr e w' hp.2⟩⟩
theorem jf6{P:Program}{fn:Func}{tmps:Array Value}{R:Ending→World→Prop}{f:FuncId}{args:Array Value}{w:World}(hi:(invoke (.fn (.func f) #[]) args).run P w= .ok (.enter f args) w)
  {S:Ending→World→Prop} (h:jgn P f args w S) (hq:∀e w',S e w'→∃x,e= .returned x∧∃v,(results fn tmps).run P w'= .ok v w'∧R (.returned v) w'):
  Leaves P fn tmps R [{target:= .fn (.func f) #[],args:=args}] .returning w:=by
 refine leaves_cons (by simp) hi ((h.2 .returning).mono ?_);rintro e u' w' ⟨rfl,hs⟩;obtain⟨x,rfl,v,h1,h2⟩:=hq e w' hs;exact⟨v,h1,h2⟩
open Go.Deep Go.Maps
theorem ji0(q:Nat)(s:Bk.St)(ru:Nat→Bk.Un)(rv:Int)(lo ko:Option Nat)(H:Value)(K:Kv.St)(w:World)(h:BdIs w q s ru rv lo ko H K)(ht:BT w)(r:Rc.R)(hin:Rc.In r):jgn Tryz.prog 63 #[.pointer (some ⟨q,0,none⟩),.agg (Rc.cells r)] w (jas q lo ko H (Bk.app s r) (.int .i64 (Bk.chk s r)) w):=by
 obtain⟨ans,hans⟩:∃ans,ans=Bk.chk s r:=⟨_,rfl⟩;rw[←hans];have AN:=zh hans;clear hans;have HI:=zh hin;have H0:=zh h;clear hin;obtain⟨s9,hs9⟩:∃t,t=Bk.app s r:=⟨_,rfl⟩;rw[←hs9];have AS:=zh hs9;clear hs9;have HT:=zh ht;obtain⟨W,hW⟩:∃W,W=w.alloc (.cells (Rc.cells r) 45):=⟨_,rfl⟩;obtain⟨g,hg⟩:∃g,g=w.heap.size:=⟨_,rfl⟩;have R0:=zh (RdC.open_ h r);rw[←hW,←hg]at R0;have GE:Hid (w.heap.size≤g):=Nat.le_of_eq hg.symm;have CC:=zh (jf4 q s ru rv lo ko H K W R0.out.bd (ht.on R0.out.b) r HI.out);rw[←AN.out]at CC;clear h ht;refine jf5 Tryz.func63 rfl ?_;simp only[Tryz.ntmps63,List.size_toArray,List.length_cons,List.length_nil,Nat.reduceAdd,Nat.reduceSub,Array.replicate_succ,Array.replicate_zero,List.push_toArray,List.append_toArray,List.nil_append,List.cons_append];go_upto_region 1 with fail
 rw[←hW,←hg];clear hW hg;by_cases hc:ans=0
 ·have HC:Hid (Bk.chk s r=0):=by show _=_;rw[←AN.out];exact hc
  subst hc;go_upto_region 4 with(first
   |((with_reducible show zL 7);refine zR (.tmp 3) R0.out.rc ?_)
   |(go_at_call 33;(with_reducible refine CC.out.mono ?_);rintro e w1 ⟨rfl,hb⟩;have R1:=zh (R0.out.on hb);clear hb))
  have hk7:=Bk.kinds HC.out;rcases hk7 with hk|hk|hk|hk|hk|hk|hk
  ·have HK:=zh hk
   clear hk;refine wp_region_held_drew (S:=fun W=>RcAt W g r) (by kernel_rfl) (R1.out.rc.on (Below.refl w1.heap.size w1).drew) (fun hS=> ?_);refine tY 1 hS ?_;refine tZ 2 rfl (by intro W hW;have c0:=(RcAt.cs hW).c0;rw[HK.out]at c0;have lg:=(RcAt.cs hW).lt;go_simp;(try with_reducible rfl)) hS ?_;refine tY 5 hS ?_;refine tZ 6 (v:= .agg (Rc.cells r)) rfl (fun W hW=>jap (.tmp 3) rfl g r rfl hW) hS ?_;simp only[Act.put,zT,zO,zS];refine rO 0 (fun K hK=> ?_);go_simp
   with_reducible refine(jaq _).mono ?_
   rintro e w7 ⟨m,rfl,hm,hb⟩;have M7:=zh hm;have R7:=zh ((R1.out.on (Below.refl w1.heap.size w1).drew).on hb);have hS2:=hS.on hb;clear hS hb hm;have hS:=hS2;clear hS2;refine hK.out _ _ hS (fun _=> ?_);clear hK K;try simp only[Act.put,zT,zO,zS]
   refine rO 3 (fun K hK=> ?_);have hlk:=M7.out.look1;go_simp;refine hK.out _ _ hS (fun _=> ?_);clear hK K;refine tZ 4 rfl (by intro W hW;have hfd:=jdj;go_simp;(try with_reducible rfl)) hS ?_;simp only[Act.put,zT,zO,zS];refine rO 7 (fun K hK=> ?_);have CF:=zh (jni q s ru rv lo ko H _ w7 R7.out.bd (HT.out.on R7.out.b) r HI.out HK.out HC.out);go_simp
   with_reducible refine CF.out.mono ?_
   intro e w8 hp;obtain⟨ru8,rv8,lo8,ko8,H8,K8,rfl,hp2,hp3,hp4⟩:=hp;have P8:=zh (show jas q lo ko H (Bk.act s r) (.tuple #[]) w7 _ w8 from⟨ru8,rv8,lo8,ko8,H8,K8,rfl,hp2,hp3,hp4⟩);have NB:¬BdF q lo ko H g:=fun h=>by have:=H0.out.ltF g h;have:=GE.out;omega
   have hS2:RcAt w8 g r:=⟨(hp3.block g hS.cs.lt NB).trans hS.row⟩;clear hS hp2 hp3 hp4 NB;have hS:=hS2;clear hS2;refine hK.out _ _ hS (fun _=> ?_);clear hK K;try simp only[Act.put,zT,zO,zS]
   refine wpAnyH_done (by kernel_rfl) ?_ _;clear hS;go_wp2_with fail;go_ret;rw[AS.out,Bk.app_ok HC.out];exact(P8.out.ahead R7.out.b H0.out.ltF).ret _
  ·have HK:=zh hk
   clear hk;refine wp_region_held_drew (S:=fun W=>RcAt W g r) (by kernel_rfl) (R1.out.rc.on (Below.refl w1.heap.size w1).drew) (fun hS=> ?_);refine tY 1 hS ?_;refine tZ 2 rfl (by intro W hW;have c0:=(RcAt.cs hW).c0;rw[HK.out]at c0;have lg:=(RcAt.cs hW).lt;go_simp;(try with_reducible rfl)) hS ?_;refine tY 5 hS ?_;refine tZ 6 (v:= .agg (Rc.cells r)) rfl (fun W hW=>jap (.tmp 3) rfl g r rfl hW) hS ?_;simp only[Act.put,zT,zO,zS];refine rO 0 (fun K hK=> ?_);go_simp
   with_reducible refine(jaq _).mono ?_
   rintro e w7 ⟨m,rfl,hm,hb⟩;have M7:=zh hm;have R7:=zh ((R1.out.on (Below.refl w1.heap.size w1).drew).on hb);have hS2:=hS.on hb;clear hS hb hm;have hS:=hS2;clear hS2;refine hK.out _ _ hS (fun _=> ?_);clear hK K;try simp only[Act.put,zT,zO,zS]
   refine rO 3 (fun K hK=> ?_);have hlk:=M7.out.look2;go_simp;refine hK.out _ _ hS (fun _=> ?_);clear hK K;refine tZ 4 rfl (by intro W hW;have hfd:=jdj;go_simp;(try with_reducible rfl)) hS ?_;simp only[Act.put,zT,zO,zS];refine rO 7 (fun K hK=> ?_);have CF:=zh (jnh q s ru rv lo ko H _ w7 R7.out.bd (HT.out.on R7.out.b) r HI.out HK.out HC.out);go_simp
   with_reducible refine CF.out.mono ?_
   intro e w8 hp;obtain⟨ru8,rv8,lo8,ko8,H8,K8,rfl,hp2,hp3,hp4⟩:=hp;have P8:=zh (show jas q lo ko H (Bk.act s r) (.tuple #[]) w7 _ w8 from⟨ru8,rv8,lo8,ko8,H8,K8,rfl,hp2,hp3,hp4⟩);have NB:¬BdF q lo ko H g:=fun h=>by have:=H0.out.ltF g h;have:=GE.out;omega
   have hS2:RcAt w8 g r:=⟨(hp3.block g hS.cs.lt NB).trans hS.row⟩;clear hS hp2 hp3 hp4 NB;have hS:=hS2;clear hS2;refine hK.out _ _ hS (fun _=> ?_);clear hK K;try simp only[Act.put,zT,zO,zS]
   refine wpAnyH_done (by kernel_rfl) ?_ _;clear hS;go_wp2_with fail;go_ret;rw[AS.out,Bk.app_ok HC.out];exact(P8.out.ahead R7.out.b H0.out.ltF).ret _
  ·have HK:=zh hk
   clear hk;refine wp_region_held_drew (S:=fun W=>RcAt W g r) (by kernel_rfl) (R1.out.rc.on (Below.refl w1.heap.size w1).drew) (fun hS=> ?_);refine tY 1 hS ?_;refine tZ 2 rfl (by intro W hW;have c0:=(RcAt.cs hW).c0;rw[HK.out]at c0;have lg:=(RcAt.cs hW).lt;go_simp;(try with_reducible rfl)) hS ?_;refine tY 5 hS ?_;refine tZ 6 (v:= .agg (Rc.cells r)) rfl (fun W hW=>jap (.tmp 3) rfl g r rfl hW) hS ?_;simp only[Act.put,zT,zO,zS];refine rO 0 (fun K hK=> ?_);go_simp
   with_reducible refine(jaq _).mono ?_
   rintro e w7 ⟨m,rfl,hm,hb⟩;have M7:=zh hm;have R7:=zh ((R1.out.on (Below.refl w1.heap.size w1).drew).on hb);have hS2:=hS.on hb;clear hS hb hm;have hS:=hS2;clear hS2;refine hK.out _ _ hS (fun _=> ?_);clear hK K;try simp only[Act.put,zT,zO,zS]
   refine rO 3 (fun K hK=> ?_);have hlk:=M7.out.look3;go_simp;refine hK.out _ _ hS (fun _=> ?_);clear hK K;refine tZ 4 rfl (by intro W hW;have hfd:=jdj;go_simp;(try with_reducible rfl)) hS ?_;simp only[Act.put,zT,zO,zS];refine rO 7 (fun K hK=> ?_);have CF:=zh (jne q s ru rv lo ko H _ w7 R7.out.bd r HI.out HK.out HC.out);go_simp
   with_reducible refine CF.out.mono ?_
   intro e w8 hp;obtain⟨ru8,rv8,lo8,ko8,H8,K8,rfl,hp2,hp3,hp4⟩:=hp;have P8:=zh (show jas q lo ko H (Bk.act s r) (.tuple #[]) w7 _ w8 from⟨ru8,rv8,lo8,ko8,H8,K8,rfl,hp2,hp3,hp4⟩);have NB:¬BdF q lo ko H g:=fun h=>by have:=H0.out.ltF g h;have:=GE.out;omega
   have hS2:RcAt w8 g r:=⟨(hp3.block g hS.cs.lt NB).trans hS.row⟩;clear hS hp2 hp3 hp4 NB;have hS:=hS2;clear hS2;refine hK.out _ _ hS (fun _=> ?_);clear hK K;try simp only[Act.put,zT,zO,zS]
   refine wpAnyH_done (by kernel_rfl) ?_ _;clear hS;go_wp2_with fail;go_ret;rw[AS.out,Bk.app_ok HC.out];exact(P8.out.ahead R7.out.b H0.out.ltF).ret _
  ·have HK:=zh hk
   clear hk;refine wp_region_held_drew (S:=fun W=>RcAt W g r) (by kernel_rfl) (R1.out.rc.on (Below.refl w1.heap.size w1).drew) (fun hS=> ?_);refine tY 1 hS ?_;refine tZ 2 rfl (by intro W hW;have c0:=(RcAt.cs hW).c0;rw[HK.out]at c0;have lg:=(RcAt.cs hW).lt;go_simp;(try with_reducible rfl)) hS ?_;refine tY 5 hS ?_;refine tZ 6 (v:= .agg (Rc.cells r)) rfl (fun W hW=>jap (.tmp 3) rfl g r rfl hW) hS ?_;simp only[Act.put,zT,zO,zS];refine rO 0 (fun K hK=> ?_);go_simp
   with_reducible refine(jaq _).mono ?_
   rintro e w7 ⟨m,rfl,hm,hb⟩;have M7:=zh hm;have R7:=zh ((R1.out.on (Below.refl w1.heap.size w1).drew).on hb);have hS2:=hS.on hb;clear hS hb hm;have hS:=hS2;clear hS2;refine hK.out _ _ hS (fun _=> ?_);clear hK K;try simp only[Act.put,zT,zO,zS]
   refine rO 3 (fun K hK=> ?_);have hlk:=M7.out.look4;go_simp;refine hK.out _ _ hS (fun _=> ?_);clear hK K;refine tZ 4 rfl (by intro W hW;have hfd:=jdj;go_simp;(try with_reducible rfl)) hS ?_;simp only[Act.put,zT,zO,zS];refine rO 7 (fun K hK=> ?_);have CF:=zh (jnc q s ru rv lo ko H _ w7 R7.out.bd r HI.out HK.out HC.out);go_simp
   with_reducible refine CF.out.mono ?_
   intro e w8 hp;obtain⟨ru8,rv8,lo8,ko8,H8,K8,rfl,hp2,hp3,hp4⟩:=hp;have P8:=zh (show jas q lo ko H (Bk.act s r) (.tuple #[]) w7 _ w8 from⟨ru8,rv8,lo8,ko8,H8,K8,rfl,hp2,hp3,hp4⟩);have NB:¬BdF q lo ko H g:=fun h=>by have:=H0.out.ltF g h;have:=GE.out;omega
   have hS2:RcAt w8 g r:=⟨(hp3.block g hS.cs.lt NB).trans hS.row⟩;clear hS hp2 hp3 hp4 NB;have hS:=hS2;clear hS2;refine hK.out _ _ hS (fun _=> ?_);clear hK K;try simp only[Act.put,zT,zO,zS]
   refine wpAnyH_done (by kernel_rfl) ?_ _;clear hS;go_wp2_with fail;go_ret;rw[AS.out,Bk.app_ok HC.out];exact(P8.out.ahead R7.out.b H0.out.ltF).ret _
  ·have HK:=zh hk
   clear hk;refine wp_region_held_drew (S:=fun W=>RcAt W g r) (by kernel_rfl) (R1.out.rc.on (Below.refl w1.heap.size w1).drew) (fun hS=> ?_);refine tY 1 hS ?_;refine tZ 2 rfl (by intro W hW;have c0:=(RcAt.cs hW).c0;rw[HK.out]at c0;have lg:=(RcAt.cs hW).lt;go_simp;(try with_reducible rfl)) hS ?_;refine tY 5 hS ?_;refine tZ 6 (v:= .agg (Rc.cells r)) rfl (fun W hW=>jap (.tmp 3) rfl g r rfl hW) hS ?_;simp only[Act.put,zT,zO,zS];refine rO 0 (fun K hK=> ?_);go_simp
   with_reducible refine(jaq _).mono ?_
   rintro e w7 ⟨m,rfl,hm,hb⟩;have M7:=zh hm;have R7:=zh ((R1.out.on (Below.refl w1.heap.size w1).drew).on hb);have hS2:=hS.on hb;clear hS hb hm;have hS:=hS2;clear hS2;refine hK.out _ _ hS (fun _=> ?_);clear hK K;try simp only[Act.put,zT,zO,zS]
   refine rO 3 (fun K hK=> ?_);have hlk:=M7.out.look5;go_simp;refine hK.out _ _ hS (fun _=> ?_);clear hK K;refine tZ 4 rfl (by intro W hW;have hfd:=jdj;go_simp;(try with_reducible rfl)) hS ?_;simp only[Act.put,zT,zO,zS];refine rO 7 (fun K hK=> ?_);have CF:=zh (jnf q s ru rv lo ko H _ w7 R7.out.bd r HI.out HK.out HC.out);go_simp
   with_reducible refine CF.out.mono ?_
   intro e w8 hp;obtain⟨ru8,rv8,lo8,ko8,H8,K8,rfl,hp2,hp3,hp4⟩:=hp;have P8:=zh (show jas q lo ko H (Bk.act s r) (.tuple #[]) w7 _ w8 from⟨ru8,rv8,lo8,ko8,H8,K8,rfl,hp2,hp3,hp4⟩);have NB:¬BdF q lo ko H g:=fun h=>by have:=H0.out.ltF g h;have:=GE.out;omega
   have hS2:RcAt w8 g r:=⟨(hp3.block g hS.cs.lt NB).trans hS.row⟩;clear hS hp2 hp3 hp4 NB;have hS:=hS2;clear hS2;refine hK.out _ _ hS (fun _=> ?_);clear hK K;try simp only[Act.put,zT,zO,zS]
   refine wpAnyH_done (by kernel_rfl) ?_ _;clear hS;go_wp2_with fail;go_ret;rw[AS.out,Bk.app_ok HC.out];exact(P8.out.ahead R7.out.b H0.out.ltF).ret _
  ·have HK:=zh hk
   clear hk;refine wp_region_held_drew (S:=fun W=>RcAt W g r) (by kernel_rfl) (R1.out.rc.on (Below.refl w1.heap.size w1).drew) (fun hS=> ?_);refine tY 1 hS ?_;refine tZ 2 rfl (by intro W hW;have c0:=(RcAt.cs hW).c0;rw[HK.out]at c0;have lg:=(RcAt.cs hW).lt;go_simp;(try with_reducible rfl)) hS ?_;refine tY 5 hS ?_;refine tZ 6 (v:= .agg (Rc.cells r)) rfl (fun W hW=>jap (.tmp 3) rfl g r rfl hW) hS ?_;simp only[Act.put,zT,zO,zS];refine rO 0 (fun K hK=> ?_);go_simp
   with_reducible refine(jaq _).mono ?_
   rintro e w7 ⟨m,rfl,hm,hb⟩;have M7:=zh hm;have R7:=zh ((R1.out.on (Below.refl w1.heap.size w1).drew).on hb);have hS2:=hS.on hb;clear hS hb hm;have hS:=hS2;clear hS2;refine hK.out _ _ hS (fun _=> ?_);clear hK K;try simp only[Act.put,zT,zO,zS]
   refine rO 3 (fun K hK=> ?_);have hlk:=M7.out.look6;go_simp;refine hK.out _ _ hS (fun _=> ?_);clear hK K;refine tZ 4 rfl (by intro W hW;have hfd:=jdj;go_simp;(try with_reducible rfl)) hS ?_;simp only[Act.put,zT,zO,zS];refine rO 7 (fun K hK=> ?_);have CF:=zh (jng q s ru rv lo ko H _ w7 R7.out.bd r HI.out HK.out HC.out);go_simp
   with_reducible refine CF.out.mono ?_
   intro e w8 hp;obtain⟨ru8,rv8,lo8,ko8,H8,K8,rfl,hp2,hp3,hp4⟩:=hp;have P8:=zh (show jas q lo ko H (Bk.act s r) (.tuple #[]) w7 _ w8 from⟨ru8,rv8,lo8,ko8,H8,K8,rfl,hp2,hp3,hp4⟩);have NB:¬BdF q lo ko H g:=fun h=>by have:=H0.out.ltF g h;have:=GE.out;omega
   have hS2:RcAt w8 g r:=⟨(hp3.block g hS.cs.lt NB).trans hS.row⟩;clear hS hp2 hp3 hp4 NB;have hS:=hS2;clear hS2;refine hK.out _ _ hS (fun _=> ?_);clear hK K;try simp only[Act.put,zT,zO,zS]
   refine wpAnyH_done (by kernel_rfl) ?_ _;clear hS;go_wp2_with fail;go_ret;rw[AS.out,Bk.app_ok HC.out];exact(P8.out.ahead R7.out.b H0.out.ltF).ret _
  ·have HK:=zh hk
   clear hk;refine wp_region_held_drew (S:=fun W=>RcAt W g r) (by kernel_rfl) (R1.out.rc.on (Below.refl w1.heap.size w1).drew) (fun hS=> ?_);refine tY 1 hS ?_;refine tZ 2 rfl (by intro W hW;have c0:=(RcAt.cs hW).c0;rw[HK.out]at c0;have lg:=(RcAt.cs hW).lt;go_simp;(try with_reducible rfl)) hS ?_;refine tY 5 hS ?_;refine tZ 6 (v:= .agg (Rc.cells r)) rfl (fun W hW=>jap (.tmp 3) rfl g r rfl hW) hS ?_;simp only[Act.put,zT,zO,zS];refine rO 0 (fun K hK=> ?_);go_simp
   with_reducible refine(jaq _).mono ?_
   rintro e w7 ⟨m,rfl,hm,hb⟩;have M7:=zh hm;have R7:=zh ((R1.out.on (Below.refl w1.heap.size w1).drew).on hb);have hS2:=hS.on hb;clear hS hb hm;have hS:=hS2;clear hS2;refine hK.out _ _ hS (fun _=> ?_);clear hK K;try simp only[Act.put,zT,zO,zS]
   refine rO 3 (fun K hK=> ?_);have hlk:=M7.out.look7;go_simp;refine hK.out _ _ hS (fun _=> ?_);clear hK K;refine tZ 4 rfl (by intro W hW;have hfd:=jdj;go_simp;(try with_reducible rfl)) hS ?_;simp only[Act.put,zT,zO,zS];refine rO 7 (fun K hK=> ?_);have CF:=zh (jnd q s ru rv lo ko H _ w7 R7.out.bd r HI.out HK.out HC.out);go_simp
   with_reducible refine CF.out.mono ?_
   intro e w8 hp;obtain⟨ru8,rv8,lo8,ko8,H8,K8,rfl,hp2,hp3,hp4⟩:=hp;have P8:=zh (show jas q lo ko H (Bk.act s r) (.tuple #[]) w7 _ w8 from⟨ru8,rv8,lo8,ko8,H8,K8,rfl,hp2,hp3,hp4⟩);have NB:¬BdF q lo ko H g:=fun h=>by have:=H0.out.ltF g h;have:=GE.out;omega
   have hS2:RcAt w8 g r:=⟨(hp3.block g hS.cs.lt NB).trans hS.row⟩;clear hS hp2 hp3 hp4 NB;have hS:=hS2;clear hS2;refine hK.out _ _ hS (fun _=> ?_);clear hK K;try simp only[Act.put,zT,zO,zS]
   refine wpAnyH_done (by kernel_rfl) ?_ _;clear hS;go_wp2_with fail;go_ret;rw[AS.out,Bk.app_ok HC.out];exact(P8.out.ahead R7.out.b H0.out.ltF).ret _
 ·have hc2:(ans !=0)=true:=by simpa using hc
  have HC:Hid (Bk.chk s r≠0):=by show _≠_;rw[←AN.out];exact hc
  clear hc
  go_wp2_with(first
   |((with_reducible show zL 7);refine zR (.tmp 3) R0.out.rc ?_)
   |(go_at_call 33;(with_reducible refine CC.out.mono ?_);rintro e w1 ⟨rfl,hb⟩;have R1:=zh (R0.out.on hb);clear hb))
  go_ret;rw[AS.out,Bk.app_no HC.out];exact jas.stay H0.out R1.out.b _
def Bd.ru0:Nat→Bk.Un:=fun _=>⟨0,0,false⟩
theorem new_bd(w:World)(m:Int)(q:Nat)(hat:BdAt w q (Bk.new m) Bd.ru0 0 (.map none) (.map none) (.slice none 0 0)):BdIs w q (Bk.new m) Bd.ru0 0 none none (.slice none 0 0) Kv.St.none where
 at_:=hat
 ls:=⟨fun _=>rfl,rfl⟩
 kv:=rfl
 kg:=Kv.Good.none_
 kr:=rfl
 kb:=Int.le_refl _
 dg:=Bd.none_digs
 raw:=Bd.new_raw
 h:=OwF.none_ _ _ _
 lk:=fun m e=>by cases e
 lok:=⟨Bk.new_ok m,fun h=>absurd rfl h⟩
theorem jql(m:Int)(w:World):Calls Tryz.prog 65 #[.int .i64 m] w (fun e w'=>∃q,e= .returned (.pointer (some ⟨q,0,none⟩))∧BdIs w' q (Bk.new m) Bd.ru0 0 none none (.slice none 0 0) Kv.St.none∧w.heap.size≤q∧Below w.heap.size w w'):=by
 have C:=zh (jmo w m);generalize hmm:(Ls.new m).margin=mm at*;have HM:=zh hmm;clear hmm;go_enter Tryz.func65,Tryz.ntmps65;go_wp2_with(go_at_call 115;(with_reducible refine C.out.mono ?_);rintro e w1 ⟨rfl,hi,hb⟩;have B1:=zh hb;obtain⟨c0,c1,f1,hq⟩:=hi.cells;rw[HM.out]at c0;clear hi hb);go_ret;refine⟨w1.heap.size,rfl,new_bd _ m _ ⟨?_⟩,B1.out.size,B1.out.trans (((Below.refl w1.heap.size w1).alloc (Nat.le_refl _) _).mono B1.out.size)⟩;have e:(Bk.new m).m=mm:=HM.out;unfold Bd.cells;rw[e];exact heap_alloc_new w1 _
theorem jnw(q:Nat)(s:Bk.St)(ru:Nat→Bk.Un)(rv:Int)(lo ko:Option Nat)(H:Value)(K:Kv.St)(w:World)(h:BdIs w q s ru rv lo ko H K):Calls Tryz.prog 45 #[.pointer (some ⟨q,0,none⟩)] w (BRet (.agg (Bk.viewC s)) w):=by
 have A0:=zh h.at_;clear h;go_enter Tryz.func45,Tryz.ntmps45;have lq:=A0.out.lt;have hb1:Below w.heap.size w (w.alloc (.cells #[.int .i64 0,.int .i64 0,.int .i64 0,.int .i64 0,.int .i64 0,.int .i64 0,.int .i64 0,.int .i64 0,.int .i64 0,.int .i64 0,.int .i64 0,.int .i64 0,.int .i64 0,.int .i64 0,.int .i64 0,.int .i64 0,.int .i64 0,.int .i64 0,.int .i64 0,.int .i64 0,.int .i64 0,.int .i64 0] 93)):=(Below.refl _ _).alloc (Nat.le_refl _) _;have A1:=zh (A0.out.on hb1);have R1:=heap_alloc_new w (.cells #[.int .i64 0,.int .i64 0,.int .i64 0,.int .i64 0,.int .i64 0,.int .i64 0,.int .i64 0,.int .i64 0,.int .i64 0,.int .i64 0,.int .i64 0,.int .i64 0,.int .i64 0,.int .i64 0,.int .i64 0,.int .i64 0,.int .i64 0,.int .i64 0,.int .i64 0,.int .i64 0,.int .i64 0,.int .i64 0] 93);go_upto_region 3 with fail
 have B1:=zh hb1;obtain⟨g,hg⟩:∃g,g=w.heap.size:=⟨_,rfl⟩;rw[←hg]at R1⊢;clear hb1 lq;have GE:Hid (w.heap.size≤g):=Nat.le_of_eq hg.symm;clear hg;have lq:=A1.out.lt;generalize w.alloc (.cells #[.int .i64 0,.int .i64 0,.int .i64 0,.int .i64 0,.int .i64 0,.int .i64 0,.int .i64 0,.int .i64 0,.int .i64 0,.int .i64 0,.int .i64 0,.int .i64 0,.int .i64 0,.int .i64 0,.int .i64 0,.int .i64 0,.int .i64 0,.int .i64 0,.int .i64 0,.int .i64 0,.int .i64 0,.int .i64 0] 93)=W1 at*
 go_wp2_with(first
  |((with_reducible show zL 9);refine wpList_load_mid rfl 93 (.tmp 8) rfl q 4 rfl (Bk.viewC s).toList _ (jf2 A1.out) jdg rfl (jhn s) ?_)
  |((with_reducible show zW);refine jcb (s:=s) rfl (.tmp 2) (.tmp 9) rfl rfl rfl R1 rfl ?_))
 exact bodyPost_ret (v:= .agg (Bk.viewC s)) (results_cell_row (P:=Tryz.prog) Tryz.results45 _ _ g 93 (Bk.viewC s) (0,0) _ rfl (setRow_heap W1 g _ _ _ _ R1) jdg rfl (jf3 s)) rfl ⟨rfl,below_setRow B1.out GE.out _⟩
theorem jjr{w w':World}{X:Nat→Prop}{q:Nat}{s:Bk.St}(h:BdP w X q s)(hz:w.heap.size≤w'.heap.size)(hk:∀i,X i→w'.heap[i]? =w.heap[i]?):BdP w' X q s:=by
 obtain⟨ru,rv,lo,ko,H,K,h1,h2,h3⟩:=h;exact⟨ru,rv,lo,ko,H,K,h1.keep (hk _ (h2 _ (.inl rfl))) (fun m e=>hk _ (h2 _ (.inr (.inl e)))) (fun m e=>hk _ (h2 _ (.inr (.inr (.inl e))))) (fun m e=>hk _ (h2 _ (.inr (.inr (.inr e))))),h2,fun i hi=>Nat.lt_of_lt_of_le (h3 i hi) hz⟩
theorem jhr{w:World}{X:Nat→Prop}{q:Nat}{s:Bk.St}(h:BdP w X q s):∀i,X i→i<w.heap.size:=by
 obtain⟨ru,rv,lo,ko,H,K,h1,h2,h3⟩:=h;exact h3
theorem jfd{w w':World}{X:Nat→Prop}{q:Nat}{s:Bk.St}(h:BdP w X q s)(hb:Below w.heap.size w w'):BdP w' X q s:=jjr h hb.size fun i hi=>hb.block i (jhr h i hi)
theorem jjs{W:World}{X:Nat→Prop}{q:Nat}{s:Bk.St}(h:BdP W X q s)(ht:BT W)(r:Rc.R)(hr:Rc.In r):jgn Tryz.prog 63 #[.pointer (some ⟨q,0,none⟩),.agg (Rc.cells r)] W (BTurn BdP X q (Bk.app s r) (.int .i64 (Bk.chk s r)) W):=by
 obtain⟨ru,rv,lo,ko,H,K,h1,h2,h3⟩:=h;exact(ji0 q s ru rv lo ko H K W h1 ht r hr).mono fun e w' hp=>hp.turn h2 h3
theorem jnx{W:World}{X:Nat→Prop}{q:Nat}{s:Bk.St}(h:BdP W X q s)(ht:BT W)(r:Rc.R)(hr:Rc.In r):Calls Tryz.prog 63 #[.pointer (some ⟨q,0,none⟩),.agg (Rc.cells r)] W (BTurn BdP X q (Bk.app s r) (.int .i64 (Bk.chk s r)) W):=(jjs h ht r hr).1
structure DA(w0:World)(q:Nat)(s:Bk.St)(W:World):Prop where
 bd:∃X,BdP W X q s∧∀i,X i→w0.heap.size≤i
 below:Below w0.heap.size w0 W
theorem DA.on{w0 W W':World}{q:Nat}{s:Bk.St}(h:DA w0 q s W)(hb:Below W.heap.size W W'):DA w0 q s W':=by
 obtain⟨X,h1,h2⟩:=h.bd;exact⟨⟨X,jfd h1 hb,h2⟩,h.below.trans (hb.mono h.below.size)⟩
theorem DA.app{w0 W:World}{q:Nat}{s:Bk.St}(h:DA w0 q s W)(ht:BT W)(r:Rc.R)(hr:Rc.In r):Calls Tryz.prog 63 #[.pointer (some ⟨q,0,none⟩),.agg (Rc.cells r)] W (fun e w'=>e= .returned (.int .i64 (Bk.chk s r))∧DA w0 q (Bk.app s r) w'):=by
 obtain⟨X,h1,h2⟩:=h.bd;refine(jnx h1 ht r hr).mono fun e w' hp=> ?_;obtain⟨X',e1,e2,e3,e4⟩:=hp;refine⟨e1,⟨X',e2,fun i hi=> ?_⟩,h.below.trans (e4.below h.below.size h2)⟩;rcases e3 i hi with h5|h5
 ·exact h2 i h5
 ·exact Nat.le_trans h.below.size h5
theorem DA.new(w:World)(m:Int):Calls Tryz.prog 65 #[.int .i64 m] w (fun e w'=>∃q,e= .returned (.pointer (some ⟨q,0,none⟩))∧DA w q (Bk.new m) w'):=by
 refine(jql m w).mono fun e w' hp=> ?_;obtain⟨q,rfl,h1,h2,h3⟩:=hp;refine⟨q,rfl,⟨BdF q none none (.slice none 0 0),⟨_,_,_,_,_,_,h1,fun i hi=>hi,h1.ltF⟩,fun i hi=> ?_⟩,h3⟩;rcases hi with rfl|e|e|e
 ·exact h2
 ·cases e
 ·cases e
 ·cases e
theorem jqm(m:Int)(A:Option Addr)(k c:Nat)(l:List Rc.R)(hin:∀r∈l,Rc.In r)(w:World)(hs:SlF Bk.rcC w A k c l)(hk:k≤100000)(ht:BT w):Calls Tryz.prog 25 #[.int .i64 m,.slice A k c] w (BMade BdP (Bk.all m l) (fun p=> .tuple #[p,.int .i64 (Bk.allN m l:Nat)]) w):=by
 have CN:=zh (DA.new w m);have S0:=zh hs;have HI:=zh hin;have HL:=zh hs.len;have T0:=zh ht;have hcap:=hs.cap;clear hs hin ht;go_enter Tryz.func25,Tryz.ntmps25;go_upto_region 2 with(go_at_call 65;(with_reducible refine CN.out.mono ?_);rintro e w1 ⟨q,rfl,hd⟩;have D1:=zh hd;clear hd)
 go_wp2_with fail;go_loopw [7,14] (fun v i wr=>∃j:Nat,j≤k∧i= .int .i64 j∧v= .int .i64 (Bk.cnt (Bk.new m) (l.take j):Nat)∧DA w q (Bk.run (Bk.new m) (l.take j)) wr) (fun _ i _=>k -(intOf i).toNat)
 case atStart=>exact⟨0,Nat.zero_le _,rfl,rfl,D1.out⟩
 case round=>
  obtain⟨j,hj,rfl,rfl,hd⟩:=hrel;have D:=zh hd;clear hd;have i1:(0:Int)≤(j:Int):=by omega
  by_cases hlt:j<k
  ·have hx:l[j]? =some (l[j]'(by have:=HL.out;omega)):=List.getElem?_eq_getElem _
   have HT:=zh (Bk.take_run (Bk.new m) l (k:=j) (by have:=HL.out;omega));generalize l[j]'(by have:=HL.out;omega)=r at hx HT;have HR:Hid (Rc.In r):=HI.out r (List.mem_of_getElem? hx);have cl:(Bk.cnt (Bk.new m) (l.take j):Int)≤100000:=by
    have:=Bk.cnt_le (Bk.new m) (l.take j);rw[List.length_take]at this;omega
   have cl0:(0:Int)≤(Bk.cnt (Bk.new m) (l.take j):Int):=by omega
   have S1:=zh (S0.out.on D.out.below);have q1:((j:Nat):Int)<(k:Nat):=by omega
   have q2:((k:Nat):Int)≤100000:=by omega
   have HLT:=zh hlt;obtain⟨b,o,rfl,hbl,hrg⟩:=jp4 S1.out hx;have RG:=zh hrg;clear hx hrg hlt;generalize Bk.run (Bk.new m) (l.take j)=s at*;generalize Bk.cnt (Bk.new m) (l.take j)=cn at*;go_upto_region 5 with(first
    |((with_reducible show zL 17);refine je4 rfl (.tmp 16) rfl b (o+j*18) (by simp[Act.eval,go_sem]) r RG.out ?_)
    |((with_reducible show zW);refine jaa rfl (.tmp 9) (.tmp 17) rfl wr.heap.size r Rc.none_ rfl rfl ⟨heap_alloc_new wr _⟩ ?_))
   rw[World.setRow_alloc_new];have RA:=zh (RcAt.new wr r);have hb:Below wr.heap.size wr (wr.alloc (.cells (Rc.cells r) 45)):=(Below.refl _ _).alloc (Nat.le_refl _) _;have D2:=zh (D.out.on hb);clear RG S1;obtain⟨g,hg⟩:∃g,g=wr.heap.size:=⟨_,rfl⟩;rw[←hg]at RA⊢;clear hg hb;generalize wr.alloc (.cells (Rc.cells r) 45)=w2 at*;have CP:=zh (D2.out.app (T0.out.on D2.out.below) r HR.out);have CK:Hid (Bk.chk s r=0∨Bk.chk s r≠0):=Decidable.em _;have HC:Hid (∃z,z=Bk.chk s r):=⟨_,rfl⟩;obtain⟨z,hz⟩:=HC.out;rw[←hz]at CP HT CK;have HZ:=zh hz;clear hz HC;rcases CK.out with h0|h0
   ·have q3:(z==0)=true:=by simpa using h0
    have E1:=zh (HT.out.2.trans (by rw[if_pos h0]));clear h0
    go_wp2_with(first
     |((with_reducible show zL 19);refine zR (.tmp 9) RA.out ?_)
     |(go_at_call 63;(with_reducible refine CP.out.mono ?_);rintro e w3 ⟨rfl,hd⟩;have D3:=zh hd;clear hd))
    exact⟨⟨j+1,by have:=HLT.out;omega,by go_num,by rw[E1.out];go_num,by rw[HT.out.1];exact D3.out⟩,by simp[intOf];have:=HLT.out;omega⟩
   ·have q3:(z==0)=false:=by simpa using h0
    have E1:=zh (HT.out.2.trans (by rw[if_neg h0]));clear h0
    go_wp2_with(first
     |((with_reducible show zL 19);refine zR (.tmp 9) RA.out ?_)
     |(go_at_call 63;(with_reducible refine CP.out.mono ?_);rintro e w3 ⟨rfl,hd⟩;have D3:=zh hd;clear hd))
    exact⟨⟨j+1,by have:=HLT.out;omega,by go_num,by rw[E1.out];go_num,by rw[HT.out.1];exact D3.out⟩,by simp[intOf];have:=HLT.out;omega⟩
  ·have q1:((k:Nat):Int)≤(j:Nat):=by omega
   have e:l.take j=l:=List.take_of_length_le (by have:=HL.out;omega);rw[e]at D⊢;go_wp2_with fail;go_ret2;obtain⟨⟨X,h1,h2⟩,h3⟩:=D.out;exact⟨q,X,rfl,h1,h2,h3⟩
abbrev BP(w0:World)(F:Nat→Prop)(q:Nat)(s:Bk.St)(W:World):Prop:=BAt BdP w0 F q s W
section
variable{w0 W W':World}{F G:Nat→Prop}{q:Nat}{s:Bk.St}
theorem jc8(h:BP w0 F q s W)(hb:Below W.heap.size W W'):BP w0 F q s W':=by
 obtain⟨X,h1,h2,h3,h4⟩:=h;exact⟨X,jfd h1 hb,h2,fun b hb2=>⟨(h3 b hb2).1,Nat.lt_of_lt_of_le (h3 b hb2).2 hb.size⟩,h4.trans (hb.mono h4.size)⟩
theorem jbr(h:BP w0 F q s W):Below w0.heap.size w0 W:=by
 obtain⟨X,h1,h2,h3,h4⟩:=h;exact h4
theorem jbn(h:BP w0 F q s W)(hG:∀b,G b→F b):BP w0 G q s W:=by
 obtain⟨X,h1,h2,h3,h4⟩:=h;exact⟨X,h1,h2,fun b hb=>h3 b (hG b hb),h4⟩
theorem ji1(h:BP w0 F q s W)(hb:Below W.heap.size W W'):BP w0 (fun b=>F b∨(W.heap.size≤b∧b<W'.heap.size)) q s W':=by
 obtain⟨X,h1,h2,h3,h4⟩:=h;refine⟨X,jfd h1 hb,h2,fun b hb2=> ?_,h4.trans (hb.mono h4.size)⟩;rcases hb2 with hf|⟨hge,hlt⟩
 ·exact⟨(h3 b hf).1,Nat.lt_of_lt_of_le (h3 b hf).2 hb.size⟩
 ·exact⟨fun hx=>by have:=jhr h1 b hx;omega,hlt⟩
theorem bp_new(w:World)(m:Int):Calls Tryz.prog 65 #[.int .i64 m] w (fun e w'=>∃q,e= .returned (.pointer (some ⟨q,0,none⟩))∧BP w (fun _=>False) q (Bk.new m) w'):=by
 refine(DA.new w m).mono fun e w' hp=> ?_;obtain⟨q,rfl,⟨X,h1,h2⟩,h3⟩:=hp;exact⟨q,rfl,X,h1,h2,fun b hb=>hb.elim,h3⟩
theorem bp_view(h:BP w0 F q s W):Calls Tryz.prog 45 #[.pointer (some ⟨q,0,none⟩)] W (BRet (.agg (Bk.viewC s)) W):=by
 obtain⟨X,⟨ru,rv,lo,ko,H,K,h1,_⟩,_⟩:=h;exact jnw q s ru rv lo ko H K W h1
theorem bp_made{m:Int}{l:List Rc.R}{f:Value→Value}{w w':World}{e:Ending}(h:BMade BdP (Bk.all m l) f w e w'):∃q,e= .returned (f (.pointer (some ⟨q,0,none⟩)))∧BP w (fun _=>False) q (Bk.all m l) w':=by
 obtain⟨q,X,rfl,h1,h2,h3⟩:=h;exact⟨q,rfl,X,h1,h2,fun b hb=>hb.elim,h3⟩
end
theorem jeg{P:Program}{ops:Array Oper}{rest:List Oper}{o:Oper}{a:Act}{w:World}{Q:Exit→Act→World→Prop}(hg:o.guard=none)(t:TypeId)(parts:Array (Nat×Operand))(ho:o.op= .build t parts)(cells:Array Value)
  (hf:P.built t (parts.map fun(i,x)=>(i,a.eval x)).toList=some cells) (h:wpList P ops Q rest (a.put o.dst (.agg cells)) w):wpList P ops Q (o::rest) a w:=
 wpList_plain hg fun _ hK=>by
  unfold Oper.wp execOp;simp only[ho,Sem.run_bind,run_build w t _ cells hf,Result.andThen_ok];exact hK _ _ h
theorem vf0(s:Bk.St)(w:World):(Instr.field 93 (.agg (Bk.viewC s)) 0).run Tryz.prog w= .ok (.int .i64 s.ep) w:=by
 simp[Instr.field,run_underlying Tryz.underlying93,asAgg,part,isAgg,run_underlying Tryz.underlying3,go_sem,Bk.viewC]
theorem vf2(s:Bk.St)(w:World):(Instr.field 93 (.agg (Bk.viewC s)) 2).run Tryz.prog w= .ok (.int .i64 s.till) w:=by
 simp[Instr.field,run_underlying Tryz.underlying93,asAgg,part,isAgg,run_underlying Tryz.underlying3,go_sem,Bk.viewC]
theorem Jrn.more{w:World}{X Y:Nat→Prop}{q r:Nat}{d:Dk.St}(h:Jrn w X q r d)(hX:∀i,X i→i<w.heap.size→Y i):Jrn w Y q r d:=
 ⟨h.blk,hX _ h.inX h.lt,h.dsk.more fun i hi hl=>⟨hX i hi.1 hl,hi.2⟩,h.whole⟩
theorem ji2{w0 W W':World}{F Y:Nat→Prop}{b:Nat}{s:Bk.St}(h:BP w0 F b s W)(hk:Kept Y W W')(hY:∀i,Y i→i<W.heap.size→F i)(hY0:∀i,Y i→w0.heap.size≤i):BP w0 (fun i=>F i∨(W.heap.size≤i∧i<W'.heap.size)) b s W':=by
 obtain⟨Z,h1,h2,h3,h4⟩:=h;refine⟨Z,jjr h1 hk.size (fun i hi=>hk.block i (jhr h1 i hi) fun hy=>(h3 i (hY i hy (jhr h1 i hi))).1 hi),h2,fun i hi=> ?_,h4.trans (hk.below h4.size hY0)⟩;rcases hi with hf|⟨hge,hlt⟩
 ·exact⟨(h3 i hf).1,Nat.lt_of_lt_of_le (h3 i hf).2 hk.size⟩
 ·exact⟨fun hx=>by have:=jhr h1 i hx;omega,hlt⟩
theorem jny{w0 W W':World}{F:Nat→Prop}{b:Nat}{s:Bk.St}(h:BP W (fun _=>False) b s W')(hb:Below w0.heap.size w0 W)(hF:∀i,F i→i<W.heap.size):BP w0 F b s W':=by
 obtain⟨Z,h1,h2,_,h4⟩:=h;exact⟨Z,h1,fun i hi=>Nat.le_trans hb.size (h2 i hi),fun i hi=>⟨fun hx=>by have:=h2 i hx;have:=hF i hi;omega,Nat.lt_of_lt_of_le (hF i hi) h4.size⟩,hb.trans (h4.mono hb.size)⟩
theorem jqn{w0 W:World}{F:Nat→Prop}{b:Nat}{s:Bk.St}(h:BP w0 F b s W)(ht:BT W){r:Rc.R}(hr:Rc.In r):Calls Tryz.prog 33 #[.pointer (some ⟨b,0,none⟩),.agg (Rc.cells r)] W (BRet (.int .i64 (Bk.chk s r)) W):=by
 obtain⟨X,⟨ru,rv,lo,ko,H,K,h1,_⟩,_⟩:=h;exact jf4 b s ru rv lo ko H K W h1 ht r hr
def StF(G:Nat→Prop)(p:Nat)(X:Nat→Prop):Nat→Prop:=fun i=>G i∨i=p∨X i
structure StJ(w0:World)(G:Nat→Prop)(p:Nat)(m:Int)(d:Dk.St)(v:Value)(r q:Nat)(X:Nat→Prop)(W:World):Prop where
 row:W.heap[p]? =some (.cells #[.pointer (some ⟨r,0,none⟩),.pointer (some ⟨q,0,none⟩),v,.int .i64 m] 104 (0,0))
 jr:Jrn W X q r d
 inX:∀i,X i→w0.heap.size≤i∧i<W.heap.size∧i≠p∧¬G i
 pG:¬G p∧w0.heap.size≤p
 g:∀i,G i→i<W.heap.size
 below:Below w0.heap.size w0 W
section
variable{w0 W W':World}{G F X:Nat→Prop}{p r q:Nat}{m:Int}{d:Dk.St}{v:Value}
theorem StJ.lt(h:StJ w0 G p m d v r q X W):p<W.heap.size:=(Array.getElem?_eq_some_iff.1 h.row).1
theorem StJ.lts(h:StJ w0 G p m d v r q X W):∀i,StF G p X i→i<W.heap.size:=by
 rintro i (hg|rfl|hx)
 ·exact h.g i hg
 ·exact h.lt
 ·exact(h.inX i hx).2.1
theorem StJ.kept(h:StJ w0 G p m d v r q X W)(hk:Kept F W W')(hF:∀i,StF G p X i→¬F i)(hb:Below w0.heap.size w0 W'):StJ w0 G p m d v r q X W':=
 ⟨(hk.block p h.lt (hF p (.inr (.inl rfl)))).trans h.row,h.jr.keep fun i hi hl=>hk.block i hl (hF i (.inr (.inr hi))),fun i hi=>⟨(h.inX i hi).1,Nat.lt_of_lt_of_le (h.inX i hi).2.1 hk.size,(h.inX i hi).2.2⟩,h.pG,fun i hi=>Nat.lt_of_lt_of_le (h.g i hi) hk.size,hb⟩
theorem StJ.on(h:StJ w0 G p m d v r q X W)(hb:Below W.heap.size W W'):StJ w0 G p m d v r q X W':=h.kept (Kept.of_below (F:=fun _=>False) hb) (fun _ _ hf=>hf) (h.below.trans (hb.mono h.below.size))
theorem StJ.cells(h:StJ w0 G p m d v r q X W):p<W.heap.size∧W.cell? ⟨p,0,none⟩=some (.pointer (some ⟨r,0,none⟩))∧W.cell? ⟨p,1,none⟩=some (.pointer (some ⟨q,0,none⟩))∧W.cell? ⟨p,2,none⟩=some v∧W.cell? ⟨p,3,none⟩=some (.int .i64 m):=
 ⟨h.lt,by rw[cell_of_row W p 0 _ _ _ h.row];rfl,by rw[cell_of_row W p 1 _ _ _ h.row];rfl,by rw[cell_of_row W p 2 _ _ _ h.row];rfl,by rw[cell_of_row W p 3 _ _ _ h.row];rfl⟩
theorem StJ.frz(h:StJ w0 G p m d v r q X W)(i:Nat):W.frozen? ⟨p,i,none⟩=false:=frozen_of_row W p i _ _ h.row
theorem StJ.jrn(h:StJ w0 G p m d v r q X W):Jrn W (fun i=>X i∨W.heap.size≤i) q r d:=h.jr.more fun i hi _=> .inl hi
theorem StJ.fresh(h:StJ w0 G p m d v r q X W):∀i,W.heap.size≤i→X i∨W.heap.size≤i:=fun _ hi=> .inr hi
theorem StJ.put(h:StJ w0 G p m d v r q X W)(v':Value):StJ w0 G p m d v' r q X (W.setCell ⟨p,2,none⟩ v'):=by
 have hg:=jad W p 2 v';have hs:(W.setCell ⟨p,2,none⟩ v').heap.size=W.heap.size:=World.size_setCell ..;refine⟨by rw[heap_setCell_same W p 2 _ _ v' h.row];rfl,h.jr.keep fun i hi hl=>hg.block i hl (fun e=>(h.inX i hi).2.2.1 (by injection e)),fun i hi=>⟨(h.inX i hi).1,Nat.lt_of_lt_of_le (h.inX i hi).2.1 (Nat.le_of_eq hs.symm),(h.inX i hi).2.2⟩,h.pG,fun i hi=>Nat.lt_of_lt_of_le (h.g i hi) (Nat.le_of_eq hs.symm),h.below.grown hg h.below.size fun k e=> ?_⟩;injection e with e
 exact e▸h.pG.2
theorem StJ.turn{d':Dk.St}{w':World}(h:StJ w0 G p m d v r q X W)(hj:Jrn w' (fun i=>X i∨W.heap.size≤i) q r d')(hk:Kept (fun i=>X i∨W.heap.size≤i) W w'):
  StJ w0 G p m d' v r q (fun i=>(X i∨W.heap.size≤i)∧i<w'.heap.size) w':=by
 refine⟨(hk.block p h.lt fun hx=> ?_).trans h.row,hj.more fun i hi hl=>⟨hi,hl⟩,fun i hi=>⟨?_,hi.2,?_,fun hg=> ?_⟩,h.pG,fun i hi=>Nat.lt_of_lt_of_le (h.g i hi) hk.size,h.below.trans (hk.below h.below.size ?_)⟩
 ·rcases hx with hx|hx
  ·exact(h.inX p hx).2.2.1 rfl
  ·have:=h.lt;omega
 ·rcases hi.1 with hx|hx
  ·exact(h.inX i hx).1
  ·exact Nat.le_trans h.below.size hx
 ·rcases hi.1 with hx|hx
  ·exact(h.inX i hx).2.2.1
  ·have:=h.lt;omega
 ·rcases hi.1 with hx|hx
  ·exact(h.inX i hx).2.2.2 hg
  ·have:=h.g i hg;omega
 ·rintro i (hx|hx)
  ·exact(h.inX i hx).1
  ·exact Nat.le_trans h.below.size hx
theorem StJ.book{w':World}{b:Nat}{s:Bk.St}(h:StJ w0 G p m d v r q X W)(hb:BP w0 (StF G p X) b s W)(hk:Kept (fun i=>X i∨W.heap.size≤i) W w'):
  BP w0 (StF G p fun i=>(X i∨W.heap.size≤i)∧i<w'.heap.size) b s w':=by
 refine jbn (ji2 hb hk (fun i hi hl=> ?_) fun i hi=> ?_) fun i hi=> ?_
 ·rcases hi with hx|hx
  ·exact .inr (.inr hx)
  ·omega
 ·rcases hi with hx|hx
  ·exact(h.inX i hx).1
  ·exact Nat.le_trans h.below.size hx
 ·rcases hi with hg|hp|⟨hx|hx,hl⟩
  ·exact .inl (.inl hg)
  ·exact .inl (.inr (.inl hp))
  ·exact .inl (.inr (.inr hx))
  ·exact .inr ⟨hx,hl⟩
theorem StJ.others{w':World}(h:StJ w0 G p m d v r q X W)(hk:Kept (fun i=>X i∨W.heap.size≤i) W w'):∀i,G i→w'.heap[i]? =W.heap[i]? :=fun i hi=>hk.block i (h.g i hi) fun hx=>by
 rcases hx with hx|hx
 ·exact(h.inX i hx).2.2.2 hi
 ·have:=h.g i hi;omega
end
def SA(w0:World)(G:Nat→Prop)(p:Nat)(m:Int)(R:Nat)(L:List Rc.R)(W:World):Prop:=
 So.Took m L∧∃r q b X,StJ w0 G p m (So.disk R L) (.pointer (some ⟨b,0,none⟩)) r q X W∧BP w0 (StF G p X) b (Bk.all m L) W
def SRes(w0:World)(G:Nat→Prop)(p:Nat)(m:Int)(R:Nat)(L:List Rc.R)(x:Value)(W:World)(e:Ending)(w':World):Prop:=e= .returned x∧SA w0 G p m R L w'∧∀i,G i→w'.heap[i]? =W.heap[i]?
section
variable{w0 W W':World}{G F:Nat→Prop}{p R:Nat}{m:Int}{L:List Rc.R}
theorem SA.below(h:SA w0 G p m R L W):Below w0.heap.size w0 W:=by obtain⟨_,r,q,b,X,h1,_⟩:=h;exact h1.below
theorem SA.took(h:SA w0 G p m R L W):So.Took m L:=h.1
theorem SA.right(h:SA w0 G p m R L W):∀r∈L,Rc.right r=true:=So.took_right h.1
theorem SA.on(h:SA w0 G p m R L W)(hb:Below W.heap.size W W'):SA w0 G p m R L W':=by
 obtain⟨h0,r,q,b,X,h1,h2⟩:=h;exact⟨h0,r,q,b,X,h1.on hb,jc8 h2 hb⟩
theorem SA.less(h:SA w0 G p m R L W)(hG:∀b,F b→G b):SA w0 F p m R L W:=by
 obtain⟨h0,r,q,b,X,h1,h2⟩:=h;refine⟨h0,r,q,b,X,⟨h1.row,h1.jr,fun i hi=>⟨(h1.inX i hi).1,(h1.inX i hi).2.1,(h1.inX i hi).2.2.1,fun hf=>(h1.inX i hi).2.2.2 (hG i hf)⟩,⟨fun hf=>h1.pG.1 (hG _ hf),h1.pG.2⟩,fun i hi=>h1.g i (hG i hi),h1.below⟩,jbn h2 ?_⟩;rintro i (hf|hp|hx)
 ·exact .inl (hG i hf)
 ·exact .inr (.inl hp)
 ·exact .inr (.inr hx)
theorem SA.more(h:SA w0 G p m R L W)(hb:Below W.heap.size W W'):SA w0 (fun i=>G i∨(W.heap.size≤i∧i<W'.heap.size)) p m R L W':=by
 obtain⟨h0,r,q,b,X,h1,h2⟩:=h;have h3:=h1.on hb;refine⟨h0,r,q,b,X,⟨h3.row,h3.jr,fun i hi=>⟨(h3.inX i hi).1,(h3.inX i hi).2.1,(h3.inX i hi).2.2.1,fun hf=> ?_⟩,⟨fun hf=> ?_,h3.pG.2⟩,fun i hi=> ?_,h3.below⟩,jbn (ji1 h2 hb) ?_⟩
 ·rcases hf with hf|hf
  ·exact(h1.inX i hi).2.2.2 hf
  ·have:=(h1.inX i hi).2.1;omega
 ·rcases hf with hf|hf
  ·exact h1.pG.1 hf
  ·have:=h1.lt;omega
 ·rcases hi with hf|hf
  ·exact h3.g i hf
  ·exact hf.2
 ·rintro i ((hf|hf)|hp|hx)
  ·exact .inl (.inl hf)
  ·exact .inr hf
  ·exact .inl (.inr (.inl hp))
  ·exact .inl (.inr (.inr hx))
end
end Go.Proofs.YtabandbigckfkaaGreatDoor
namespace Go.Proofs.YtabandbigckfkaaGreatDoor
open Go.RowKit Cdc
def RPost(l:List Nat)(err:Int)(w:World)(e:Ending)(w':World):Prop:=
 ∃A c,e= .returned (.tuple #[.slice A l.length c,.int .i64 err])∧Sl w' A l.length c l∧Below w.heap.size w w'
theorem own_sli{w:World}{B n c:Nat}{A:Option Addr}{l:List Int}(h:OwnI w B (.slice A n c) l):SlI w A n c l:=by
 obtain⟨A',c',e,h2⟩:=h.sl;injection e with e1 e2 e3
 rw[e1,e2,e3];exact h2
def Rc.bytesL(r:Rc.R):List Nat:=if Rc.right r=true then Rc.bytes r else[]
def Rc.bytesE(r:Rc.R):Int:=if Rc.right r=true then 0 else 1
theorem Rc.bytes_yes{r:Rc.R}(h:Rc.right r=true):Rc.bytesL r=Rc.bytes r∧Rc.bytesE r=0:=by unfold Rc.bytesL Rc.bytesE;rw[if_pos h,if_pos h];exact⟨rfl,rfl⟩
theorem Rc.bytes_no{r:Rc.R}(h:Rc.right r=false):Rc.bytesL r=[]∧Rc.bytesE r=1:=by unfold Rc.bytesL Rc.bytesE;rw[if_neg (by rw[h];simp),if_neg (by rw[h];simp)];exact⟨rfl,rfl⟩
theorem jf7{l:List Nat}{x:Int}(h:sz x≠0):numL l x=l++digs x.toNat∧numE x=0:=by unfold numL numE;rw[if_neg h,if_neg h];exact⟨rfl,rfl⟩
theorem fl_next{ns:List Int}{j:Nat}(hj:j<ns.length)(h:sz (ns.getD j 0)≠0):fl (ns.take (j+1))=fl (ns.take j)++digs (ns.getD j 0).toNat:=by
 obtain⟨m,hm,_⟩:=jlk h;rw[jh8 hj hm,hm,Int.toNat_natCast]
end Go.Proofs.YtabandbigckfkaaGreatDoor
namespace Go.Proofs.YtabandbigckfkaaGreatDoor
open Go.RowKit Go.Maps
def jnz(g:Nat):Array Value:=#[.pointer (some ⟨g,0,none⟩),.pointer (some ⟨g,1,none⟩),.pointer (some ⟨g,2,none⟩),.pointer (some ⟨g,3,none⟩),.pointer (some ⟨g,4,none⟩)]
theorem jeh(g:Nat)(w:World):Calls Tryz.prog 121 #[.pointer (some ⟨g,0,none⟩)] w fun e w'=>e= .returned (.agg (jnz g))∧Below w.heap.size w w':=by
 go_enter Tryz.func121,Tryz.ntmps121;go_wp2_with fail;go_region;go_wp2_with fail;exact bodyPost_ret (v:= .agg (jnz g)) (by simp[results,Tryz.results121,jnz,go_sem]) rfl ⟨rfl,((Below.refl w.heap.size w).alloc (Nat.le_refl _) _).drew⟩
theorem jqo(g j:Nat)(hj:j<5):(jnz g)[j]? =some (.pointer (some ⟨g,j,none⟩)):=by
 rcases j with _|_|_|_|_|j<;>first|rfl|omega
theorem jqp:Tryz.prog.underlying 188=some (.array 5 187):=by kernel_rfl
theorem jhs(g j:Nat)(hj:j<5)(W:World):(Instr.index 188 (.agg (jnz g)) (.int .i64 (j:Nat))).run Tryz.prog W= .ok (.pointer (some ⟨g,j,none⟩)) W:=by
 have h1:(0:Int)≤(j:Nat)∧((j:Nat):Int)<((5:Nat):Int):=by omega
 have hp:=jqo g j hj;simp[Instr.index,run_underlying jqp,asIntOf,part,isAgg,run_underlying Tryz.underlying187,h1,hp,go_sem];intro h;omega
theorem rc_at{w:World}{g:Nat}{r:Rc.R}(h:RcAt w g r){j:Nat}(hj:j<5):w.cell? ⟨g,j,none⟩=some (.int .i64 ((Rc.nums r).getD j 0)):=by
 have c:=h.cs;rcases j with _|_|_|_|_|j
 ·exact c.c0
 ·exact c.c1
 ·exact c.c2
 ·exact c.c3
 ·exact c.c4
 ·omega
end Go.Proofs.YtabandbigckfkaaGreatDoor
namespace Go.Proofs.YtabandbigckfkaaGreatDoor
open Go.RowKit
theorem mk12(w:World):∃w',(Instr.makeSlice 137 (.int .i64 0) (.int .i64 12)).run Tryz.prog w= .ok (.slice (some ⟨w.heap.size,0,none⟩) 0 12) w'∧OwnI w' w.heap.size (.slice (some ⟨w.heap.size,0,none⟩) 0 12) []∧Below w.heap.size w w':=by
 obtain⟨i0,hi0,hz0,hz1,hz2⟩:=info_parts jek;obtain⟨w',h1,h2,h3⟩:=run_make_own w w.heap.size 137 3 i0 _ _ Tryz.underlying137 hi0 hz0 hz1 .i64 .i64 12 (by rw[hz2];decide) (by unfold maxLen;omega) (Nat.le_refl _);exact⟨w',h1,h2,⟨h3.os,h3.tape,h3.output,h3.size,fun k hk=>h3.block k hk (by simp)⟩⟩
theorem jkx(s:Spc.Sp)(w:World):Calls Tryz.prog 177 #[Spc.val s] w fun e w'=>∃A c,e= .returned (.slice A 12 c)∧OwnI w' w.heap.size (.slice A 12 c) (Spc.flds s)∧Below w.heap.size w w':=by
 have hb:=(Below.refl w.heap.size w).alloc (Nat.le_refl _) (.cells (Spc.cells s) 35);have A1:=zh (jac (heap_alloc_new w (.cells (Spc.cells s) 35)));have B1:=zh hb;have hz:w.heap.size<(w.alloc (.cells (Spc.cells s) 35)).heap.size:=by simp
 have Z1:=zh hz;obtain⟨g,hg⟩:∃g,g=w.heap.size:=⟨_,rfl⟩;obtain⟨gm,hgm⟩:∃gm,gm=(w.alloc (.cells (Spc.cells s) 35)).heap.size:=⟨_,rfl⟩;obtain⟨w2,hr2,ho2,hb2⟩:=mk12 (w.alloc (.cells (Spc.cells s) 35));have CN:Hid (∀g W,Calls Tryz.prog 194 #[.pointer (some ⟨g,0,none⟩)] W fun e w'=>e= .returned (.agg (ptrs g))∧Below W.heap.size W w'):=jdh;rw[←hgm]at hr2 ho2 hb2 Z1;rw[←hg]at A1 Z1;have O2:=zh ho2;have B2:=zh hb2;have GM:=zh hgm;have G:=zh hg;clear hb hz ho2 hb2 hgm hg;unfold Spc.val;go_enter Tryz.func177,Tryz.ntmps177;go_wp2_with fail;clear hr2;rw[←G.out];generalize w.alloc (.cells (Spc.cells s) 35)=w1 at*;refine(CN.out g w2).mono ?_;rintro e w3 ⟨rfl,hb3⟩;have hs2:gm≤w2.heap.size:=by rw[GM.out];exact B2.out.size
 have O3:=zh (O2.out.below hb3);have B3:=zh (B2.out.trans (hb3.mono hs2));clear hb3 hs2 O2 B2 CN;go_wp2_with fail;go_loopw [3,8] (fun v i wr=>∃(j:Nat) (l:List Int),j≤12∧i= .int .i64 (j:Nat)∧l=(Spc.flds s).take j∧OwnI wr gm v l∧Below gm w1 wr) (fun _ i _=>12 -(intOf i).toNat)
 case atStart=>exact⟨0,[],by omega,rfl,rfl,O3.out,B3.out⟩
 case round=>
  obtain⟨j,l,hj,rfl,hl,ho,hbr⟩:=hrel;have O:=zh ho;have B:=zh hbr;have HL:=zh hl;have AX:=zh (A1.out.below (w':=wr) (by rw[←GM.out];exact Z1.out) (by rw[←GM.out];exact B.out));have hll:l.length≤12:=by rw[hl,List.length_take];have:=Spc.flds_length s;omega
  have hbase:gm≤wr.heap.size:=by rw[GM.out];exact hbr.size
  clear ho hbr hl;by_cases hlt:j<12
  ·have hpj:=fun W=>jgm g j hlt W
   have hcj:=sp_at AX.out hlt;have HN:Hid (∀x,x=(Spc.flds s).getD j 0→l++[x]=(Spc.flds s).take (j+1)):=fun x hx=>by
    have:j<(Spc.flds s).length:=hlt;rw[List.take_succ_eq_append_getElem this,HL.out,hx,jak this]
   obtain⟨x,hx⟩:∃x,x=(Spc.flds s).getD j 0:=⟨_,rfl⟩;rw[←hx]at hcj;have HX:=zh hx;have i1:(0:Int)≤(j:Int):=by omega
   have i2:(j:Int)<12:=by omega
   clear hx;go_wp2_with(at_builtin;refine jan rfl (.tmp 11) (.tmp 15) rfl gm _ l rfl O.out _ rfl (by omega) hbase ?_;intro v3 w4 ho4 hg4;have O4:=zh ho4;have B4:=zh (B.out.grown hg4 hbase (ja3 O.out));clear ho4 hg4);exact⟨⟨j+1,l++[x],by omega,by go_num,HN.out x HX.out,O4.out,B4.out⟩,by simp[intOf];omega⟩
  ·obtain rfl:j=12:=by omega
   have E:Hid (l=Spc.flds s):=by show _=_;rw[HL.out];exact List.take_of_length_le (Nat.le_refl _)
   go_wp2_with fail;go_ret;obtain⟨A',c',ev,_⟩:=O.out.sl;rw[E.out]at ev;have ho:=O.out;rw[E.out]at ho;exact⟨A',c',by rw[ev];rfl,jb8 (B:=gm) (by have h:=ho;rw[ev]at h;exact h) (by rw[GM.out];exact B1.out.size),B1.out.trans (B.out.mono (by rw[GM.out];exact B1.out.size))⟩
open Cdc
theorem jky(r:Rc.R)(hin:Rc.In r)(w:World):Calls Tryz.prog 102 #[.agg (Rc.cells r)] w (RPost (Rc.bytesL r) (Rc.bytesE r) w):=by
 have HI:=zh hin;have HSZ:Hid ((Tryz.prog.info? 45).map (·.size)=some (Rc.cells r).size):=jai _;have RA:=zh (RcAt.new w r);have B1:=zh ((Below.refl w.heap.size w).alloc (Nat.le_refl _) (.cells (Rc.cells r) 45));have CR:=zh (fun W=>jd8 r hin W);clear hin
 cases hr:Rc.right r with
 |false=>
  rw[hr]at CR;rw[(Rc.bytes_no hr).1,(Rc.bytes_no hr).2];clear hr;go_enter Tryz.func102,Tryz.ntmps102;go_upto_region 1 with fail
  obtain⟨g,hg⟩:∃g,g=w.heap.size:=⟨_,rfl⟩;rw[←hg]at RA⊢;clear hg;generalize w.alloc (.cells (Rc.cells r) 45)=ws at*
  go_wp2_with(first
   |((with_reducible show zL 7);refine wpList_load_row rfl 45 (.tmp 1) rfl g rfl 45 _ (0,0) _ RA.out.row jaf rfl HSZ.out ?_)
   |(go_at_call 75;(with_reducible refine(CR.out _).mono ?_);rintro e w1 ⟨rfl,hb⟩;have B1:=zh (B1.out.trans (hb.mono B1.out.size));clear hb))
  go_ret2;exact⟨none,0,rfl,Sl.none_ _,B1.out⟩
 |true=>
  rw[hr]at CR;have OK:=zh (Rc.ok_of hr);have EB:Hid (Rc.bytes r=fl (Rc.nums r)++((digs r.text.size++sb r.text)++(if r.kind=3 then digs 12++fl (Spc.flds r.sp)else[]))):=rfl;rw[(Rc.bytes_yes hr).1,(Rc.bytes_yes hr).2];clear hr;have SZN:Hid (∀j,j<5→sz ((Rc.nums r).getD j 0)≠0):=fun j hj=>by
   have:=OK.out.nums ((Rc.nums r).getD j 0) (by rw[jak hj];exact List.getElem_mem _);exact Rc.sz_small this.1 this.2
  have CN:=zh (fun g W=>jeh g W);go_enter Tryz.func102,Tryz.ntmps102;go_upto_region 1 with fail
  obtain⟨g,hg⟩:∃g,g=w.heap.size:=⟨_,rfl⟩;rw[←hg]at RA⊢;clear hg;generalize w.alloc (.cells (Rc.cells r) 45)=ws at*
  go_wp2_with(first
   |((with_reducible show zL 7);refine wpList_load_row rfl 45 (.tmp 1) rfl g rfl 45 _ (0,0) _ RA.out.row jaf rfl HSZ.out ?_)
   |(go_at_call 75;(with_reducible refine(CR.out _).mono ?_);rintro e w1 ⟨rfl,hb⟩;have RA:=zh (RA.out.on hb);have B1:=zh (B1.out.trans (hb.mono B1.out.size));clear hb)
   |(go_at_call 121;(with_reducible refine(CN.out _ _).mono ?_);rintro e w2 ⟨rfl,hb⟩;have RA:=zh (RA.out.on hb);have B1:=zh (B1.out.trans (hb.mono B1.out.size));clear hb))
  go_loopw [4,11] (fun b i wr=>∃j:Nat,j≤5∧i= .int .i64 j∧(∃A c,b= .slice A (fl ((Rc.nums r).take j)).length c∧Sl wr A (fl ((Rc.nums r).take j)).length c (fl ((Rc.nums r).take j)))∧Below w2.heap.size w2 wr) (fun _ i _=>5 -(intOf i).toNat)
  case atStart=>exact⟨0,by omega,rfl,⟨none,0,rfl,Sl.none_ _⟩,Below.refl _ _⟩
  case round=>
   obtain⟨j,hj,rfl,⟨A,c,rfl,hsl⟩,hbr⟩:=hrel;have SL:=zh hsl;have BR:=zh hbr;clear hsl hbr;by_cases hlt:j<5
   ·have cj:=rc_at (RA.out.on BR.out) hlt
    have hpj:=fun W=>jhs g j hlt W;have LL:Hid ((fl ((Rc.nums r).take j)).length≤1000000):=by
     have:=jlm (Rc.all_small OK.out.nums) j (by show j≤5;omega);show _≤_;omega
    have NX:=zh (fl_next (ns:=Rc.nums r) hlt (SZN.out j hlt));have CW:=zh (jj1 _ c ((Rc.nums r).getD j 0) A _ wr SL.out LL.out);rw[(jf7 (SZN.out j hlt)).1,(jf7 (l:=[]) (SZN.out j hlt)).2,←NX.out]at CW;generalize(Rc.nums r).getD j 0=x at*;generalize fl ((Rc.nums r).take j)=lj at*;obtain⟨lk,hlk⟩:∃lk,lk=fl ((Rc.nums r).take (j+1)):=⟨_,rfl⟩;rw[←hlk]at CW;have HLK:=zh hlk;clear hlk NX;go_wp2_with(go_at_call 174;(with_reducible refine CW.out.mono ?_);rintro e w3 ⟨A3,c3,rfl,hs3,hb3,_⟩;have S3:=zh hs3;have B3:=zh (BR.out.trans (hb3.mono BR.out.size));clear hs3 hb3);exact⟨⟨j+1,by omega,by go_num,(by have h:=HLK.out;subst h;exact⟨A3,c3,rfl,S3.out⟩),B3.out⟩,by simp[intOf];omega⟩
   ·have ej:j=5:=by omega
    subst ej;rw[show(Rc.nums r).take 5=Rc.nums r from rfl]at SL⊢;have LL:Hid ((fl (Rc.nums r)).length≤45):=by
     have:=Rc.fl_le OK.out.nums;rw[show(Rc.nums r).length=5 from rfl]at this;exact this
    have B2:=zh (B1.out.trans (BR.out.mono B1.out.size));have RA:=zh (RA.out.on BR.out);have TL:Hid (jpa (fl (Rc.nums r)) r.text=(fl (Rc.nums r)++digs r.text.size++sb r.text)∧jpb r.text=0):=by
     unfold jpa jpb;rw[if_pos OK.out.text,if_pos OK.out.text];exact⟨rfl,rfl⟩
    have CT:=zh (jpc _ c r.text A _ wr SL.out (by have:=LL.out;omega));rw[TL.out.1,TL.out.2]at CT;have L2:Hid ((fl (Rc.nums r)++digs r.text.size++sb r.text).length≤1000000):=by
     have h3:(digs r.text.size).length≤9:=digs_nine (by have:=OK.out.text;omega);have h4:=jbh r.text;have:=OK.out.text;have:=LL.out;rw[List.length_append,List.length_append];show _≤_;omega
    rw[←List.append_assoc,←List.append_assoc]at EB;generalize fl (Rc.nums r)=l1 at*;generalize l1++digs r.text.size++sb r.text=l2 at*;obtain⟨c0,c1,c2,c3,c4,c5,c6,c7,c8,c9,c10,c11,c12,c13,c14,c15,c16,c17,clt⟩:=RA.out.cs;by_cases hk:r.kind=3
    ·have hke:(r.kind==3)=true:=by rw[beq_iff_eq];exact hk
     rw[if_pos hk]at EB;have LA:Hid (jpg l2 (Spc.flds r.sp)=l2++digs 12++fl (Spc.flds r.sp)∧jph (Spc.flds r.sp)=0):=by
      have ha:=Rc.all_small OK.out.flds;unfold jpg jph;rw[Spc.flds_length,if_pos (by omega),if_pos ha,if_pos (by omega),if_pos ha];exact⟨rfl,rfl⟩
     have CF:=zh (fun W=>jkx r.sp W);unfold Spc.val Spc.cells at CF;rw[←List.append_assoc]at EB;clear hk
     go_wp2_with(first
      |(go_at_call 175;(with_reducible refine CT.out.mono ?_);rintro e w4 ⟨A4,k4,rfl,hs4,hb4,_⟩;have S4:=zh hs4;have B4:=zh (B2.out.trans (hb4.mono B2.out.size));have RA:=zh (RA.out.on hb4);clear hs4 hb4 c0 c1 c2 c3 c4 c5 c6 c7 c8 c9 c10 c11 c12 c13 c14 c15 c16 c17 clt;obtain⟨c0,c1,c2,c3,c4,c5,c6,c7,c8,c9,c10,c11,c12,c13,c14,c15,c16,c17,clt⟩:=RA.out.cs)
      |(go_at_call 177;(with_reducible refine(CF.out _).mono ?_);rintro e w5 ⟨A5,k5,rfl,hs5,hb5⟩;have S5:=zh hs5;have S4:=zh (S4.out.on hb5);have B5:=zh (B4.out.trans (hb5.mono B4.out.size));clear hs5 hb5)
      |(go_at_call 176;(with_reducible refine(jpi _ k4 _ _ A4 _ l2 (Spc.flds r.sp) _ S4.out L2.out (own_sli S5.out)).mono ?_);rintro e w6 ⟨A6,k6,rfl,hs6,hb6,_⟩;have S6:=zh hs6;have B6:=zh (B5.out.trans (hb6.mono B5.out.size));clear hs6 hb6))
     go_ret2;have h6:=S6.out;rw[LA.out.1]at h6;refine⟨A6,k6,?_,?_,B6.out⟩
     ·rw[EB.out,←LA.out.1];rfl
     ·rw[EB.out];exact h6
    ·have hke:(r.kind==3)=false:=by rw[beq_eq_false_iff_ne];exact hk
     rw[if_neg hk,List.append_nil]at EB;clear hk;go_wp2_with(go_at_call 175;(with_reducible refine CT.out.mono ?_);rintro e w4 ⟨A4,k4,rfl,hs4,hb4,_⟩;have S4:=zh hs4;have B4:=zh (B2.out.trans (hb4.mono B2.out.size));have RA:=zh (RA.out.on hb4);clear hs4 hb4 c0 c1 c2 c3 c4 c5 c6 c7 c8 c9 c10 c11 c12 c13 c14 c15 c16 c17 clt;obtain⟨c0,c1,c2,c3,c4,c5,c6,c7,c8,c9,c10,c11,c12,c13,c14,c15,c16,c17,clt⟩:=RA.out.cs);go_ret2;rw[EB.out];exact⟨A4,k4,rfl,S4.out,B4.out⟩
end Go.Proofs.YtabandbigckfkaaGreatDoor
