import Derived.Defers
import Derived.Test.YtkcdaigaclpfjaaGreatDoorQy24
import Derived.Sort.OwnSortedInts
set_option maxHeartbeats 6400000
set_option maxRecDepth 100000
set_option linter.unusedSimpArgs false
set_option linter.unusedVariables false
namespace Go.Proofs.YtkcdaigaclpfjaaGreatDoor
open Go.RowKit
def jh0(P:Program)(f:FuncId)(args:Array Value)(w:World)(R:Ending->World->Prop):Prop:=Calls P f args w R/\∀u,CallsD P f args u w fun e u' w'=>u'=u/\R e w'
theorem jhd{P:Program}{f:FuncId}{fn:Func}{c:Code}{args:Array Value}{w:World}{R:Ending->World->Prop}(hf:P.funcs[f]? =some fn)(hb:fn.body=some c)
 (h:c.wp P (bodyPost P fn R) {tmps:=args++Array.replicate (fn.ntmps -args.size) undef,defers:=[]} w):jh0 P f args w R:=⟨calls_of_wp hf hb h,fun _=>callsD_of_wp hf hb h⟩
theorem jh0.mono{P:Program}{f:FuncId}{args:Array Value}{w:World}{R R':Ending->World->Prop}(h:jh0 P f args w R)(hr:∀e w',R e w'->R' e w'):jh0 P f args w R':=
 ⟨h.1.mono hr,fun u=>(h.2 u).mono fun e _ w' hp=>⟨hp.1,hr e w' hp.2⟩⟩
theorem jhe{P:Program}{fn:Func}{tmps:Array Value}{R:Ending->World->Prop}{f:FuncId}{args:Array Value}{w:World}(hi:(invoke (.fn (.func f) #[]) args).run P w= .ok (.enter f args) w)
  {S:Ending->World->Prop} (h:jh0 P f args w S) (hq:∀e w',S e w'->∃x,e= .returned x/\∃v,(results fn tmps).run P w'= .ok v w'/\R (.returned v) w'):
  Leaves P fn tmps R [{target:= .fn (.func f) #[],args:=args}] .returning w:=by
 refine leaves_cons (by simp) hi ((h.2 .returning).mono ?_);rintro e u' w' ⟨rfl,hs⟩;obtain⟨x,rfl,v,h1,h2⟩:=hq e w' hs;exact⟨v,h1,h2⟩
open Go.Deep Go.Maps
theorem jkl(q:Nat)(s:Bk.St)(ru:Nat->Bk.Un)(rv:Int)(lo ko:Option Nat)(H:Value)(K:Kv.St)(w:World)(h:BdIs w q s ru rv lo ko H K)(ht:BT w)(r:Rc.R)(hin:Rc.In r):jh0 Tryz.prog 31 #[.pointer (some ⟨q,0,none⟩),.agg (Rc.cells r)] w (jaw q lo ko H (Bk.app s r) (.int .i64 (Bk.chk s r)) w):=by
 obtain⟨ans,hans⟩:∃ans,ans=Bk.chk s r:=⟨_,rfl⟩;rw[<-hans];have AN:=zh hans;clear hans;have HI:=zh hin;have H0:=zh h;clear hin;obtain⟨s9,hs9⟩:∃t,t=Bk.app s r:=⟨_,rfl⟩;rw[<-hs9];have AS:=zh hs9;clear hs9;have HT:=zh ht;obtain⟨W,hW⟩:∃W,W=w.alloc (.cells (Rc.cells r) 45):=⟨_,rfl⟩;obtain⟨g,hg⟩:∃g,g=w.heap.size:=⟨_,rfl⟩;have R0:=zh (RdC.open_ h r);rw[<-hW,<-hg]at R0;have GE:Hid (w.heap.size<=g):=Nat.le_of_eq hg.symm;have CC:=zh (jhc q s ru rv lo ko H K W R0.out.bd (ht.on R0.out.b) r HI.out);rw[<-AN.out]at CC;clear h ht;refine jhd Tryz.func31 rfl ?_;simp only[Tryz.ntmps31,List.size_toArray,List.length_cons,List.length_nil,Nat.reduceAdd,Nat.reduceSub,Array.replicate_succ,Array.replicate_zero,List.push_toArray,List.append_toArray,List.nil_append,List.cons_append];go_upto_region 1 with fail
 rw[<-hW,<-hg];clear hW hg;by_cases hc:ans=0
 ·have HC:Hid (Bk.chk s r=0):=by show _=_;rw[<-AN.out];exact hc
  subst hc;go_upto_region 4 with(first
   |((with_reducible show zL 7);refine zR (.tmp 3) R0.out.rc ?_)
   |(go_at_call 9;(with_reducible refine CC.out.mono ?_);rintro e w1 ⟨rfl,hb⟩;have R1:=zh (R0.out.on hb);clear hb))
  have hk7:=Bk.kinds HC.out;rcases hk7 with hk|hk|hk|hk|hk|hk|hk
  ·have HK:=zh hk
   clear hk;refine wp_region_held_drew (S:=fun W=>RcAt W g r) (by kernel_rfl) (R1.out.rc.on (Below.refl w1.heap.size w1).drew) (fun hS=> ?_);refine tY 1 hS ?_;refine tZ 2 rfl (by intro W hW;have c0:=(RcAt.cs hW).c0;rw[HK.out]at c0;have lg:=(RcAt.cs hW).lt;go_simp;(try with_reducible rfl)) hS ?_;refine tY 5 hS ?_;refine tZ 6 (v:= .agg (Rc.cells r)) rfl (fun W hW=>jap (.tmp 3) rfl g r rfl hW) hS ?_;simp only[Act.put,zT,zO,zS];refine rO 0 (fun K hK=> ?_);go_simp
   with_reducible refine(jat _).mono ?_
   rintro e w7 ⟨m,rfl,hm,hb⟩;have M7:=zh hm;have R7:=zh ((R1.out.on (Below.refl w1.heap.size w1).drew).on hb);have hS2:=hS.on hb;clear hS hb hm;have hS:=hS2;clear hS2;refine hK.out _ _ hS (fun _=> ?_);clear hK K;try simp only[Act.put,zT,zO,zS]
   refine rO 3 (fun K hK=> ?_);have hlk:=M7.out.look1;go_simp;refine hK.out _ _ hS (fun _=> ?_);clear hK K;refine tZ 4 rfl (by intro W hW;have hfd:=jd3;go_simp;(try with_reducible rfl)) hS ?_;simp only[Act.put,zT,zO,zS];refine rO 7 (fun K hK=> ?_);have CF:=zh (jpy q s ru rv lo ko H _ w7 R7.out.bd (HT.out.on R7.out.b) r HI.out HK.out HC.out);go_simp
   with_reducible refine CF.out.mono ?_
   intro e w8 hp;obtain⟨ru8,rv8,lo8,ko8,H8,K8,rfl,hp2,hp3,hp4⟩:=hp;have P8:=zh (show jaw q lo ko H (Bk.act s r) (.tuple #[]) w7 _ w8 from⟨ru8,rv8,lo8,ko8,H8,K8,rfl,hp2,hp3,hp4⟩);have NB:¬BdF q lo ko H g:=fun h=>by have:=H0.out.ltF g h;have:=GE.out;omega
   have hS2:RcAt w8 g r:=⟨(hp3.block g hS.cs.lt NB).trans hS.row⟩;clear hS hp2 hp3 hp4 NB;have hS:=hS2;clear hS2;refine hK.out _ _ hS (fun _=> ?_);clear hK K;try simp only[Act.put,zT,zO,zS]
   refine wpAnyH_done (by kernel_rfl) ?_ _;clear hS;go_wp2_with fail;go_ret;rw[AS.out,Bk.app_ok HC.out];exact(P8.out.ahead R7.out.b H0.out.ltF).ret _
  ·have HK:=zh hk
   clear hk;refine wp_region_held_drew (S:=fun W=>RcAt W g r) (by kernel_rfl) (R1.out.rc.on (Below.refl w1.heap.size w1).drew) (fun hS=> ?_);refine tY 1 hS ?_;refine tZ 2 rfl (by intro W hW;have c0:=(RcAt.cs hW).c0;rw[HK.out]at c0;have lg:=(RcAt.cs hW).lt;go_simp;(try with_reducible rfl)) hS ?_;refine tY 5 hS ?_;refine tZ 6 (v:= .agg (Rc.cells r)) rfl (fun W hW=>jap (.tmp 3) rfl g r rfl hW) hS ?_;simp only[Act.put,zT,zO,zS];refine rO 0 (fun K hK=> ?_);go_simp
   with_reducible refine(jat _).mono ?_
   rintro e w7 ⟨m,rfl,hm,hb⟩;have M7:=zh hm;have R7:=zh ((R1.out.on (Below.refl w1.heap.size w1).drew).on hb);have hS2:=hS.on hb;clear hS hb hm;have hS:=hS2;clear hS2;refine hK.out _ _ hS (fun _=> ?_);clear hK K;try simp only[Act.put,zT,zO,zS]
   refine rO 3 (fun K hK=> ?_);have hlk:=M7.out.look2;go_simp;refine hK.out _ _ hS (fun _=> ?_);clear hK K;refine tZ 4 rfl (by intro W hW;have hfd:=jd3;go_simp;(try with_reducible rfl)) hS ?_;simp only[Act.put,zT,zO,zS];refine rO 7 (fun K hK=> ?_);have CF:=zh (jpx q s ru rv lo ko H _ w7 R7.out.bd (HT.out.on R7.out.b) r HI.out HK.out HC.out);go_simp
   with_reducible refine CF.out.mono ?_
   intro e w8 hp;obtain⟨ru8,rv8,lo8,ko8,H8,K8,rfl,hp2,hp3,hp4⟩:=hp;have P8:=zh (show jaw q lo ko H (Bk.act s r) (.tuple #[]) w7 _ w8 from⟨ru8,rv8,lo8,ko8,H8,K8,rfl,hp2,hp3,hp4⟩);have NB:¬BdF q lo ko H g:=fun h=>by have:=H0.out.ltF g h;have:=GE.out;omega
   have hS2:RcAt w8 g r:=⟨(hp3.block g hS.cs.lt NB).trans hS.row⟩;clear hS hp2 hp3 hp4 NB;have hS:=hS2;clear hS2;refine hK.out _ _ hS (fun _=> ?_);clear hK K;try simp only[Act.put,zT,zO,zS]
   refine wpAnyH_done (by kernel_rfl) ?_ _;clear hS;go_wp2_with fail;go_ret;rw[AS.out,Bk.app_ok HC.out];exact(P8.out.ahead R7.out.b H0.out.ltF).ret _
  ·have HK:=zh hk
   clear hk;refine wp_region_held_drew (S:=fun W=>RcAt W g r) (by kernel_rfl) (R1.out.rc.on (Below.refl w1.heap.size w1).drew) (fun hS=> ?_);refine tY 1 hS ?_;refine tZ 2 rfl (by intro W hW;have c0:=(RcAt.cs hW).c0;rw[HK.out]at c0;have lg:=(RcAt.cs hW).lt;go_simp;(try with_reducible rfl)) hS ?_;refine tY 5 hS ?_;refine tZ 6 (v:= .agg (Rc.cells r)) rfl (fun W hW=>jap (.tmp 3) rfl g r rfl hW) hS ?_;simp only[Act.put,zT,zO,zS];refine rO 0 (fun K hK=> ?_);go_simp
   with_reducible refine(jat _).mono ?_
   rintro e w7 ⟨m,rfl,hm,hb⟩;have M7:=zh hm;have R7:=zh ((R1.out.on (Below.refl w1.heap.size w1).drew).on hb);have hS2:=hS.on hb;clear hS hb hm;have hS:=hS2;clear hS2;refine hK.out _ _ hS (fun _=> ?_);clear hK K;try simp only[Act.put,zT,zO,zS]
   refine rO 3 (fun K hK=> ?_);have hlk:=M7.out.look3;go_simp;refine hK.out _ _ hS (fun _=> ?_);clear hK K;refine tZ 4 rfl (by intro W hW;have hfd:=jd3;go_simp;(try with_reducible rfl)) hS ?_;simp only[Act.put,zT,zO,zS];refine rO 7 (fun K hK=> ?_);have CF:=zh (jpu q s ru rv lo ko H _ w7 R7.out.bd r HI.out HK.out HC.out);go_simp
   with_reducible refine CF.out.mono ?_
   intro e w8 hp;obtain⟨ru8,rv8,lo8,ko8,H8,K8,rfl,hp2,hp3,hp4⟩:=hp;have P8:=zh (show jaw q lo ko H (Bk.act s r) (.tuple #[]) w7 _ w8 from⟨ru8,rv8,lo8,ko8,H8,K8,rfl,hp2,hp3,hp4⟩);have NB:¬BdF q lo ko H g:=fun h=>by have:=H0.out.ltF g h;have:=GE.out;omega
   have hS2:RcAt w8 g r:=⟨(hp3.block g hS.cs.lt NB).trans hS.row⟩;clear hS hp2 hp3 hp4 NB;have hS:=hS2;clear hS2;refine hK.out _ _ hS (fun _=> ?_);clear hK K;try simp only[Act.put,zT,zO,zS]
   refine wpAnyH_done (by kernel_rfl) ?_ _;clear hS;go_wp2_with fail;go_ret;rw[AS.out,Bk.app_ok HC.out];exact(P8.out.ahead R7.out.b H0.out.ltF).ret _
  ·have HK:=zh hk
   clear hk;refine wp_region_held_drew (S:=fun W=>RcAt W g r) (by kernel_rfl) (R1.out.rc.on (Below.refl w1.heap.size w1).drew) (fun hS=> ?_);refine tY 1 hS ?_;refine tZ 2 rfl (by intro W hW;have c0:=(RcAt.cs hW).c0;rw[HK.out]at c0;have lg:=(RcAt.cs hW).lt;go_simp;(try with_reducible rfl)) hS ?_;refine tY 5 hS ?_;refine tZ 6 (v:= .agg (Rc.cells r)) rfl (fun W hW=>jap (.tmp 3) rfl g r rfl hW) hS ?_;simp only[Act.put,zT,zO,zS];refine rO 0 (fun K hK=> ?_);go_simp
   with_reducible refine(jat _).mono ?_
   rintro e w7 ⟨m,rfl,hm,hb⟩;have M7:=zh hm;have R7:=zh ((R1.out.on (Below.refl w1.heap.size w1).drew).on hb);have hS2:=hS.on hb;clear hS hb hm;have hS:=hS2;clear hS2;refine hK.out _ _ hS (fun _=> ?_);clear hK K;try simp only[Act.put,zT,zO,zS]
   refine rO 3 (fun K hK=> ?_);have hlk:=M7.out.look4;go_simp;refine hK.out _ _ hS (fun _=> ?_);clear hK K;refine tZ 4 rfl (by intro W hW;have hfd:=jd3;go_simp;(try with_reducible rfl)) hS ?_;simp only[Act.put,zT,zO,zS];refine rO 7 (fun K hK=> ?_);have CF:=zh (jps q s ru rv lo ko H _ w7 R7.out.bd r HI.out HK.out HC.out);go_simp
   with_reducible refine CF.out.mono ?_
   intro e w8 hp;obtain⟨ru8,rv8,lo8,ko8,H8,K8,rfl,hp2,hp3,hp4⟩:=hp;have P8:=zh (show jaw q lo ko H (Bk.act s r) (.tuple #[]) w7 _ w8 from⟨ru8,rv8,lo8,ko8,H8,K8,rfl,hp2,hp3,hp4⟩);have NB:¬BdF q lo ko H g:=fun h=>by have:=H0.out.ltF g h;have:=GE.out;omega
   have hS2:RcAt w8 g r:=⟨(hp3.block g hS.cs.lt NB).trans hS.row⟩;clear hS hp2 hp3 hp4 NB;have hS:=hS2;clear hS2;refine hK.out _ _ hS (fun _=> ?_);clear hK K;try simp only[Act.put,zT,zO,zS]
   refine wpAnyH_done (by kernel_rfl) ?_ _;clear hS;go_wp2_with fail;go_ret;rw[AS.out,Bk.app_ok HC.out];exact(P8.out.ahead R7.out.b H0.out.ltF).ret _
  ·have HK:=zh hk
   clear hk;refine wp_region_held_drew (S:=fun W=>RcAt W g r) (by kernel_rfl) (R1.out.rc.on (Below.refl w1.heap.size w1).drew) (fun hS=> ?_);refine tY 1 hS ?_;refine tZ 2 rfl (by intro W hW;have c0:=(RcAt.cs hW).c0;rw[HK.out]at c0;have lg:=(RcAt.cs hW).lt;go_simp;(try with_reducible rfl)) hS ?_;refine tY 5 hS ?_;refine tZ 6 (v:= .agg (Rc.cells r)) rfl (fun W hW=>jap (.tmp 3) rfl g r rfl hW) hS ?_;simp only[Act.put,zT,zO,zS];refine rO 0 (fun K hK=> ?_);go_simp
   with_reducible refine(jat _).mono ?_
   rintro e w7 ⟨m,rfl,hm,hb⟩;have M7:=zh hm;have R7:=zh ((R1.out.on (Below.refl w1.heap.size w1).drew).on hb);have hS2:=hS.on hb;clear hS hb hm;have hS:=hS2;clear hS2;refine hK.out _ _ hS (fun _=> ?_);clear hK K;try simp only[Act.put,zT,zO,zS]
   refine rO 3 (fun K hK=> ?_);have hlk:=M7.out.look5;go_simp;refine hK.out _ _ hS (fun _=> ?_);clear hK K;refine tZ 4 rfl (by intro W hW;have hfd:=jd3;go_simp;(try with_reducible rfl)) hS ?_;simp only[Act.put,zT,zO,zS];refine rO 7 (fun K hK=> ?_);have CF:=zh (jpv q s ru rv lo ko H _ w7 R7.out.bd r HI.out HK.out HC.out);go_simp
   with_reducible refine CF.out.mono ?_
   intro e w8 hp;obtain⟨ru8,rv8,lo8,ko8,H8,K8,rfl,hp2,hp3,hp4⟩:=hp;have P8:=zh (show jaw q lo ko H (Bk.act s r) (.tuple #[]) w7 _ w8 from⟨ru8,rv8,lo8,ko8,H8,K8,rfl,hp2,hp3,hp4⟩);have NB:¬BdF q lo ko H g:=fun h=>by have:=H0.out.ltF g h;have:=GE.out;omega
   have hS2:RcAt w8 g r:=⟨(hp3.block g hS.cs.lt NB).trans hS.row⟩;clear hS hp2 hp3 hp4 NB;have hS:=hS2;clear hS2;refine hK.out _ _ hS (fun _=> ?_);clear hK K;try simp only[Act.put,zT,zO,zS]
   refine wpAnyH_done (by kernel_rfl) ?_ _;clear hS;go_wp2_with fail;go_ret;rw[AS.out,Bk.app_ok HC.out];exact(P8.out.ahead R7.out.b H0.out.ltF).ret _
  ·have HK:=zh hk
   clear hk;refine wp_region_held_drew (S:=fun W=>RcAt W g r) (by kernel_rfl) (R1.out.rc.on (Below.refl w1.heap.size w1).drew) (fun hS=> ?_);refine tY 1 hS ?_;refine tZ 2 rfl (by intro W hW;have c0:=(RcAt.cs hW).c0;rw[HK.out]at c0;have lg:=(RcAt.cs hW).lt;go_simp;(try with_reducible rfl)) hS ?_;refine tY 5 hS ?_;refine tZ 6 (v:= .agg (Rc.cells r)) rfl (fun W hW=>jap (.tmp 3) rfl g r rfl hW) hS ?_;simp only[Act.put,zT,zO,zS];refine rO 0 (fun K hK=> ?_);go_simp
   with_reducible refine(jat _).mono ?_
   rintro e w7 ⟨m,rfl,hm,hb⟩;have M7:=zh hm;have R7:=zh ((R1.out.on (Below.refl w1.heap.size w1).drew).on hb);have hS2:=hS.on hb;clear hS hb hm;have hS:=hS2;clear hS2;refine hK.out _ _ hS (fun _=> ?_);clear hK K;try simp only[Act.put,zT,zO,zS]
   refine rO 3 (fun K hK=> ?_);have hlk:=M7.out.look6;go_simp;refine hK.out _ _ hS (fun _=> ?_);clear hK K;refine tZ 4 rfl (by intro W hW;have hfd:=jd3;go_simp;(try with_reducible rfl)) hS ?_;simp only[Act.put,zT,zO,zS];refine rO 7 (fun K hK=> ?_);have CF:=zh (jpw q s ru rv lo ko H _ w7 R7.out.bd r HI.out HK.out HC.out);go_simp
   with_reducible refine CF.out.mono ?_
   intro e w8 hp;obtain⟨ru8,rv8,lo8,ko8,H8,K8,rfl,hp2,hp3,hp4⟩:=hp;have P8:=zh (show jaw q lo ko H (Bk.act s r) (.tuple #[]) w7 _ w8 from⟨ru8,rv8,lo8,ko8,H8,K8,rfl,hp2,hp3,hp4⟩);have NB:¬BdF q lo ko H g:=fun h=>by have:=H0.out.ltF g h;have:=GE.out;omega
   have hS2:RcAt w8 g r:=⟨(hp3.block g hS.cs.lt NB).trans hS.row⟩;clear hS hp2 hp3 hp4 NB;have hS:=hS2;clear hS2;refine hK.out _ _ hS (fun _=> ?_);clear hK K;try simp only[Act.put,zT,zO,zS]
   refine wpAnyH_done (by kernel_rfl) ?_ _;clear hS;go_wp2_with fail;go_ret;rw[AS.out,Bk.app_ok HC.out];exact(P8.out.ahead R7.out.b H0.out.ltF).ret _
  ·have HK:=zh hk
   clear hk;refine wp_region_held_drew (S:=fun W=>RcAt W g r) (by kernel_rfl) (R1.out.rc.on (Below.refl w1.heap.size w1).drew) (fun hS=> ?_);refine tY 1 hS ?_;refine tZ 2 rfl (by intro W hW;have c0:=(RcAt.cs hW).c0;rw[HK.out]at c0;have lg:=(RcAt.cs hW).lt;go_simp;(try with_reducible rfl)) hS ?_;refine tY 5 hS ?_;refine tZ 6 (v:= .agg (Rc.cells r)) rfl (fun W hW=>jap (.tmp 3) rfl g r rfl hW) hS ?_;simp only[Act.put,zT,zO,zS];refine rO 0 (fun K hK=> ?_);go_simp
   with_reducible refine(jat _).mono ?_
   rintro e w7 ⟨m,rfl,hm,hb⟩;have M7:=zh hm;have R7:=zh ((R1.out.on (Below.refl w1.heap.size w1).drew).on hb);have hS2:=hS.on hb;clear hS hb hm;have hS:=hS2;clear hS2;refine hK.out _ _ hS (fun _=> ?_);clear hK K;try simp only[Act.put,zT,zO,zS]
   refine rO 3 (fun K hK=> ?_);have hlk:=M7.out.look7;go_simp;refine hK.out _ _ hS (fun _=> ?_);clear hK K;refine tZ 4 rfl (by intro W hW;have hfd:=jd3;go_simp;(try with_reducible rfl)) hS ?_;simp only[Act.put,zT,zO,zS];refine rO 7 (fun K hK=> ?_);have CF:=zh (jpt q s ru rv lo ko H _ w7 R7.out.bd r HI.out HK.out HC.out);go_simp
   with_reducible refine CF.out.mono ?_
   intro e w8 hp;obtain⟨ru8,rv8,lo8,ko8,H8,K8,rfl,hp2,hp3,hp4⟩:=hp;have P8:=zh (show jaw q lo ko H (Bk.act s r) (.tuple #[]) w7 _ w8 from⟨ru8,rv8,lo8,ko8,H8,K8,rfl,hp2,hp3,hp4⟩);have NB:¬BdF q lo ko H g:=fun h=>by have:=H0.out.ltF g h;have:=GE.out;omega
   have hS2:RcAt w8 g r:=⟨(hp3.block g hS.cs.lt NB).trans hS.row⟩;clear hS hp2 hp3 hp4 NB;have hS:=hS2;clear hS2;refine hK.out _ _ hS (fun _=> ?_);clear hK K;try simp only[Act.put,zT,zO,zS]
   refine wpAnyH_done (by kernel_rfl) ?_ _;clear hS;go_wp2_with fail;go_ret;rw[AS.out,Bk.app_ok HC.out];exact(P8.out.ahead R7.out.b H0.out.ltF).ret _
 ·have hc2:(ans !=0)=true:=by simpa using hc
  have HC:Hid (Bk.chk s r≠0):=by show _≠_;rw[<-AN.out];exact hc
  clear hc
  go_wp2_with(first
   |((with_reducible show zL 7);refine zR (.tmp 3) R0.out.rc ?_)
   |(go_at_call 9;(with_reducible refine CC.out.mono ?_);rintro e w1 ⟨rfl,hb⟩;have R1:=zh (R0.out.on hb);clear hb))
  go_ret;rw[AS.out,Bk.app_no HC.out];exact jaw.stay H0.out R1.out.b _
def Bd.ru0:Nat->Bk.Un:=fun _=>⟨0,0,false⟩
theorem new_bd(w:World)(m:Int)(q:Nat)(hat:BdAt w q (Bk.new m) Bd.ru0 0 (.map none) (.map none) (.slice none 0 0)):BdIs w q (Bk.new m) Bd.ru0 0 none none (.slice none 0 0) Kv.St.none where
 at_:=hat
 ls:=⟨fun _=>rfl,rfl⟩
 kv:=rfl
 kg:=Kv.Good.none_
 kr:=rfl
 kb:=Int.le_refl _
 dg:=Bd.none_digs
 raw:=Bd.new_raw
 h:=OwF.none_ _ _ _
 lk:=fun m e=>by cases e
 lok:=⟨Bk.new_ok m,fun h=>absurd rfl h⟩
theorem js5(m:Int)(w:World):Calls Tryz.prog 53 #[.int .i64 m] w (fun e w'=>∃q,e= .returned (.pointer (some ⟨q,0,none⟩))/\BdIs w' q (Bk.new m) Bd.ru0 0 none none (.slice none 0 0) Kv.St.none/\w.heap.size<=q/\Below w.heap.size w w'):=by
 have C:=zh (jn6 w m);generalize hmm:(Ls.new m).margin=mm at*;have HM:=zh hmm;clear hmm;go_enter Tryz.func53,Tryz.ntmps53;go_wp2_with(go_at_call 107;(with_reducible refine C.out.mono ?_);rintro e w1 ⟨rfl,hi,hb⟩;have B1:=zh hb;obtain⟨c0,c1,f1,hq⟩:=hi.cells;rw[HM.out]at c0;clear hi hb);go_ret;refine⟨w1.heap.size,rfl,new_bd _ m _ ⟨?_⟩,B1.out.size,B1.out.trans (((Below.refl w1.heap.size w1).alloc (Nat.le_refl _) _).mono B1.out.size)⟩;have e:(Bk.new m).m=mm:=HM.out;unfold Bd.cells;rw[e];exact heap_alloc_new w1 _
theorem jqb(q:Nat)(s:Bk.St)(ru:Nat->Bk.Un)(rv:Int)(lo ko:Option Nat)(H:Value)(K:Kv.St)(w:World)(h:BdIs w q s ru rv lo ko H K):Calls Tryz.prog 15 #[.pointer (some ⟨q,0,none⟩)] w (BRet (.agg (Bk.viewC s)) w):=by
 have A0:=zh h.at_;clear h;go_enter Tryz.func15,Tryz.ntmps15;have lq:=A0.out.lt;have hb1:Below w.heap.size w (w.alloc (.cells #[.int .i64 0,.int .i64 0,.int .i64 0,.int .i64 0,.int .i64 0,.int .i64 0,.int .i64 0,.int .i64 0,.int .i64 0,.int .i64 0,.int .i64 0,.int .i64 0,.int .i64 0,.int .i64 0,.int .i64 0,.int .i64 0,.int .i64 0,.int .i64 0,.int .i64 0,.int .i64 0,.int .i64 0,.int .i64 0] 58)):=(Below.refl _ _).alloc (Nat.le_refl _) _;have A1:=zh (A0.out.on hb1);have R1:=heap_alloc_new w (.cells #[.int .i64 0,.int .i64 0,.int .i64 0,.int .i64 0,.int .i64 0,.int .i64 0,.int .i64 0,.int .i64 0,.int .i64 0,.int .i64 0,.int .i64 0,.int .i64 0,.int .i64 0,.int .i64 0,.int .i64 0,.int .i64 0,.int .i64 0,.int .i64 0,.int .i64 0,.int .i64 0,.int .i64 0,.int .i64 0] 58);go_upto_region 3 with fail
 have B1:=zh hb1;obtain⟨g,hg⟩:∃g,g=w.heap.size:=⟨_,rfl⟩;rw[<-hg]at R1⊢;clear hb1 lq;have GE:Hid (w.heap.size<=g):=Nat.le_of_eq hg.symm;clear hg;have lq:=A1.out.lt;generalize w.alloc (.cells #[.int .i64 0,.int .i64 0,.int .i64 0,.int .i64 0,.int .i64 0,.int .i64 0,.int .i64 0,.int .i64 0,.int .i64 0,.int .i64 0,.int .i64 0,.int .i64 0,.int .i64 0,.int .i64 0,.int .i64 0,.int .i64 0,.int .i64 0,.int .i64 0,.int .i64 0,.int .i64 0,.int .i64 0,.int .i64 0] 58)=W1 at*
 go_wp2_with(first
  |((with_reducible show zL 9);refine wpList_load_mid rfl 58 (.tmp 8) rfl q 4 rfl (Bk.viewC s).toList _ (jha A1.out) jd0 rfl (ji5 s) ?_)
  |((with_reducible show zW);refine jco (s:=s) rfl (.tmp 2) (.tmp 9) rfl rfl rfl R1 rfl ?_))
 exact bodyPost_ret (v:= .agg (Bk.viewC s)) (results_cell_row (P:=Tryz.prog) Tryz.results15 _ _ g 58 (Bk.viewC s) (0,0) _ rfl (setRow_heap W1 g _ _ _ _ R1) jd0 rfl (jhb s)) rfl ⟨rfl,below_setRow B1.out GE.out _⟩
theorem jlq{w w':World}{X:Nat->Prop}{q:Nat}{s:Bk.St}(h:BdP w X q s)(hz:w.heap.size<=w'.heap.size)(hk:∀i,X i->w'.heap[i]? =w.heap[i]?):BdP w' X q s:=by
 obtain⟨ru,rv,lo,ko,H,K,h1,h2,h3⟩:=h;exact⟨ru,rv,lo,ko,H,K,h1.keep (hk _ (h2 _ (.inl rfl))) (fun m e=>hk _ (h2 _ (.inr (.inl e)))) (fun m e=>hk _ (h2 _ (.inr (.inr (.inl e))))) (fun m e=>hk _ (h2 _ (.inr (.inr (.inr e))))),h2,fun i hi=>Nat.lt_of_lt_of_le (h3 i hi) hz⟩
theorem ji9{w:World}{X:Nat->Prop}{q:Nat}{s:Bk.St}(h:BdP w X q s):∀i,X i->i<w.heap.size:=by
 obtain⟨ru,rv,lo,ko,H,K,h1,h2,h3⟩:=h;exact h3
theorem jgi{w w':World}{X:Nat->Prop}{q:Nat}{s:Bk.St}(h:BdP w X q s)(hb:Below w.heap.size w w'):BdP w' X q s:=jlq h hb.size fun i hi=>hb.block i (ji9 h i hi)
theorem jlr{W:World}{X:Nat->Prop}{q:Nat}{s:Bk.St}(h:BdP W X q s)(ht:BT W)(r:Rc.R)(hr:Rc.In r):jh0 Tryz.prog 31 #[.pointer (some ⟨q,0,none⟩),.agg (Rc.cells r)] W (BTurn BdP X q (Bk.app s r) (.int .i64 (Bk.chk s r)) W):=by
 obtain⟨ru,rv,lo,ko,H,K,h1,h2,h3⟩:=h;exact(jkl q s ru rv lo ko H K W h1 ht r hr).mono fun e w' hp=>hp.turn h2 h3
theorem jqc{W:World}{X:Nat->Prop}{q:Nat}{s:Bk.St}(h:BdP W X q s)(ht:BT W)(r:Rc.R)(hr:Rc.In r):Calls Tryz.prog 31 #[.pointer (some ⟨q,0,none⟩),.agg (Rc.cells r)] W (BTurn BdP X q (Bk.app s r) (.int .i64 (Bk.chk s r)) W):=(jlr h ht r hr).1
structure DA(w0:World)(q:Nat)(s:Bk.St)(W:World):Prop where
 bd:∃X,BdP W X q s/\∀i,X i->w0.heap.size<=i
 below:Below w0.heap.size w0 W
theorem DA.on{w0 W W':World}{q:Nat}{s:Bk.St}(h:DA w0 q s W)(hb:Below W.heap.size W W'):DA w0 q s W':=by
 obtain⟨X,h1,h2⟩:=h.bd;exact⟨⟨X,jgi h1 hb,h2⟩,h.below.trans (hb.mono h.below.size)⟩
theorem DA.app{w0 W:World}{q:Nat}{s:Bk.St}(h:DA w0 q s W)(ht:BT W)(r:Rc.R)(hr:Rc.In r):Calls Tryz.prog 31 #[.pointer (some ⟨q,0,none⟩),.agg (Rc.cells r)] W (fun e w'=>e= .returned (.int .i64 (Bk.chk s r))/\DA w0 q (Bk.app s r) w'):=by
 obtain⟨X,h1,h2⟩:=h.bd;refine(jqc h1 ht r hr).mono fun e w' hp=> ?_;obtain⟨X',e1,e2,e3,e4⟩:=hp;refine⟨e1,⟨X',e2,fun i hi=> ?_⟩,h.below.trans (e4.below h.below.size h2)⟩;rcases e3 i hi with h5|h5
 ·exact h2 i h5
 ·exact Nat.le_trans h.below.size h5
theorem DA.new(w:World)(m:Int):Calls Tryz.prog 53 #[.int .i64 m] w (fun e w'=>∃q,e= .returned (.pointer (some ⟨q,0,none⟩))/\DA w q (Bk.new m) w'):=by
 refine(js5 m w).mono fun e w' hp=> ?_;obtain⟨q,rfl,h1,h2,h3⟩:=hp;refine⟨q,rfl,⟨BdF q none none (.slice none 0 0),⟨_,_,_,_,_,_,h1,fun i hi=>hi,h1.ltF⟩,fun i hi=> ?_⟩,h3⟩;rcases hi with rfl|e|e|e
 ·exact h2
 ·cases e
 ·cases e
 ·cases e
theorem js6(m:Int)(A:Option Addr)(k c:Nat)(l:List Rc.R)(hin:∀r∈l,Rc.In r)(w:World)(hs:SlF Bk.rcC w A k c l)(hk:k<=100000)(ht:BT w):Calls Tryz.prog 23 #[.int .i64 m,.slice A k c] w (BMade BdP (Bk.all m l) (fun p=> .tuple #[p,.int .i64 (Bk.allN m l:Nat)]) w):=by
 have CN:=zh (DA.new w m);have S0:=zh hs;have HI:=zh hin;have HL:=zh hs.len;have T0:=zh ht;have hcap:=hs.cap;clear hs hin ht;go_enter Tryz.func23,Tryz.ntmps23;go_upto_region 2 with(go_at_call 53;(with_reducible refine CN.out.mono ?_);rintro e w1 ⟨q,rfl,hd⟩;have D1:=zh hd;clear hd)
 go_wp2_with fail;go_loopw [7,14] (fun v i wr=>∃j:Nat,j<=k/\i= .int .i64 j/\v= .int .i64 (Bk.cnt (Bk.new m) (l.take j):Nat)/\DA w q (Bk.run (Bk.new m) (l.take j)) wr) (fun _ i _=>k -(intOf i).toNat)
 case atStart=>exact⟨0,Nat.zero_le _,rfl,rfl,D1.out⟩
 case round=>
  obtain⟨j,hj,rfl,rfl,hd⟩:=hrel;have D:=zh hd;clear hd;have i1:(0:Int)<=(j:Int):=by omega
  by_cases hlt:j<k
  ·have hx:l[j]? =some (l[j]'(by have:=HL.out;omega)):=List.getElem?_eq_getElem _
   have HT:=zh (Bk.take_run (Bk.new m) l (k:=j) (by have:=HL.out;omega));generalize l[j]'(by have:=HL.out;omega)=r at hx HT;have HR:Hid (Rc.In r):=HI.out r (List.mem_of_getElem? hx);have cl:(Bk.cnt (Bk.new m) (l.take j):Int)<=100000:=by
    have:=Bk.cnt_le (Bk.new m) (l.take j);rw[List.length_take]at this;omega
   have cl0:(0:Int)<=(Bk.cnt (Bk.new m) (l.take j):Int):=by omega
   have S1:=zh (S0.out.on D.out.below);have q1:((j:Nat):Int)<(k:Nat):=by omega
   have q2:((k:Nat):Int)<=100000:=by omega
   have HLT:=zh hlt;obtain⟨b,o,rfl,hbl,hrg⟩:=jea S1.out hx;have RG:=zh hrg;clear hx hrg hlt;generalize Bk.run (Bk.new m) (l.take j)=s at*;generalize Bk.cnt (Bk.new m) (l.take j)=cn at*;go_upto_region 5 with(first
    |((with_reducible show zL 17);refine jc0 rfl (.tmp 16) rfl b (o+j*18) (by simp[Act.eval,go_sem]) r RG.out ?_)
    |((with_reducible show zW);refine jaa rfl (.tmp 9) (.tmp 17) rfl wr.heap.size r Rc.none_ rfl rfl ⟨heap_alloc_new wr _⟩ ?_))
   rw[World.setRow_alloc_new];have RA:=zh (RcAt.new wr r);have hb:Below wr.heap.size wr (wr.alloc (.cells (Rc.cells r) 45)):=(Below.refl _ _).alloc (Nat.le_refl _) _;have D2:=zh (D.out.on hb);clear RG S1;obtain⟨g,hg⟩:∃g,g=wr.heap.size:=⟨_,rfl⟩;rw[<-hg]at RA⊢;clear hg hb;generalize wr.alloc (.cells (Rc.cells r) 45)=w2 at*;have CP:=zh (D2.out.app (T0.out.on D2.out.below) r HR.out);have CK:Hid (Bk.chk s r=0\/Bk.chk s r≠0):=Decidable.em _;have HC:Hid (∃z,z=Bk.chk s r):=⟨_,rfl⟩;obtain⟨z,hz⟩:=HC.out;rw[<-hz]at CP HT CK;have HZ:=zh hz;clear hz HC;rcases CK.out with h0|h0
   ·have q3:(z==0)=true:=by simpa using h0
    have E1:=zh (HT.out.2.trans (by rw[if_pos h0]));clear h0
    go_wp2_with(first
     |((with_reducible show zL 19);refine zR (.tmp 9) RA.out ?_)
     |(go_at_call 31;(with_reducible refine CP.out.mono ?_);rintro e w3 ⟨rfl,hd⟩;have D3:=zh hd;clear hd))
    exact⟨⟨j+1,by have:=HLT.out;omega,by go_num,by rw[E1.out];go_num,by rw[HT.out.1];exact D3.out⟩,by simp[intOf];have:=HLT.out;omega⟩
   ·have q3:(z==0)=false:=by simpa using h0
    have E1:=zh (HT.out.2.trans (by rw[if_neg h0]));clear h0
    go_wp2_with(first
     |((with_reducible show zL 19);refine zR (.tmp 9) RA.out ?_)
     |(go_at_call 31;(with_reducible refine CP.out.mono ?_);rintro e w3 ⟨rfl,hd⟩;have D3:=zh hd;clear hd))
    exact⟨⟨j+1,by have:=HLT.out;omega,by go_num,by rw[E1.out];go_num,by rw[HT.out.1];exact D3.out⟩,by simp[intOf];have:=HLT.out;omega⟩
  ·have q1:((k:Nat):Int)<=(j:Nat):=by omega
   have e:l.take j=l:=List.take_of_length_le (by have:=HL.out;omega);rw[e]at D⊢;go_wp2_with fail;go_ret2;obtain⟨⟨X,h1,h2⟩,h3⟩:=D.out;exact⟨q,X,rfl,h1,h2,h3⟩
abbrev BP(w0:World)(F:Nat->Prop)(q:Nat)(s:Bk.St)(W:World):Prop:=BAt BdP w0 F q s W
section
variable{w0 W W':World}{F G:Nat->Prop}{q:Nat}{s:Bk.St}
theorem jdq(h:BP w0 F q s W)(hb:Below W.heap.size W W'):BP w0 F q s W':=by
 obtain⟨X,h1,h2,h3,h4⟩:=h;exact⟨X,jgi h1 hb,h2,fun b hb2=>⟨(h3 b hb2).1,Nat.lt_of_lt_of_le (h3 b hb2).2 hb.size⟩,h4.trans (hb.mono h4.size)⟩
theorem jbl(h:BP w0 F q s W):Below w0.heap.size w0 W:=by
 obtain⟨X,h1,h2,h3,h4⟩:=h;exact h4
theorem jby(h:BP w0 F q s W)(hG:∀b,G b->F b):BP w0 G q s W:=by
 obtain⟨X,h1,h2,h3,h4⟩:=h;exact⟨X,h1,h2,fun b hb=>h3 b (hG b hb),h4⟩
theorem jkm(h:BP w0 F q s W)(hb:Below W.heap.size W W'):BP w0 (fun b=>F b\/(W.heap.size<=b/\b<W'.heap.size)) q s W':=by
 obtain⟨X,h1,h2,h3,h4⟩:=h;refine⟨X,jgi h1 hb,h2,fun b hb2=> ?_,h4.trans (hb.mono h4.size)⟩;rcases hb2 with hf|⟨hge,hlt⟩
 ·exact⟨(h3 b hf).1,Nat.lt_of_lt_of_le (h3 b hf).2 hb.size⟩
 ·exact⟨fun hx=>by have:=ji9 h1 b hx;omega,hlt⟩
theorem bp_new(w:World)(m:Int):Calls Tryz.prog 53 #[.int .i64 m] w (fun e w'=>∃q,e= .returned (.pointer (some ⟨q,0,none⟩))/\BP w (fun _=>False) q (Bk.new m) w'):=by
 refine(DA.new w m).mono fun e w' hp=> ?_;obtain⟨q,rfl,⟨X,h1,h2⟩,h3⟩:=hp;exact⟨q,rfl,X,h1,h2,fun b hb=>hb.elim,h3⟩
theorem bp_view(h:BP w0 F q s W):Calls Tryz.prog 15 #[.pointer (some ⟨q,0,none⟩)] W (BRet (.agg (Bk.viewC s)) W):=by
 obtain⟨X,⟨ru,rv,lo,ko,H,K,h1,_⟩,_⟩:=h;exact jqb q s ru rv lo ko H K W h1
theorem bp_made{m:Int}{l:List Rc.R}{f:Value->Value}{w w':World}{e:Ending}(h:BMade BdP (Bk.all m l) f w e w'):∃q,e= .returned (f (.pointer (some ⟨q,0,none⟩)))/\BP w (fun _=>False) q (Bk.all m l) w':=by
 obtain⟨q,X,rfl,h1,h2,h3⟩:=h;exact⟨q,rfl,X,h1,h2,fun b hb=>hb.elim,h3⟩
end
theorem jcg{P:Program}{ops:Array Oper}{rest:List Oper}{o:Oper}{a:Act}{w:World}{Q:Exit->Act->World->Prop}(hg:o.guard=none)(t:TypeId)(parts:Array (Nat×Operand))(ho:o.op= .build t parts)(cells:Array Value)
  (hf:P.built t (parts.map fun(i,x)=>(i,a.eval x)).toList=some cells) (h:wpList P ops Q rest (a.put o.dst (.agg cells)) w):wpList P ops Q (o::rest) a w:=
 wpList_plain hg fun _ hK=>by
  unfold Oper.wp execOp;simp only[ho,Sem.run_bind,run_build w t _ cells hf,Result.andThen_ok];exact hK _ _ h
theorem vf0(s:Bk.St)(w:World):(Instr.field 58 (.agg (Bk.viewC s)) 0).run Tryz.prog w= .ok (.int .i64 s.ep) w:=by
 simp[Instr.field,run_underlying Tryz.underlying58,asAgg,part,isAgg,run_underlying Tryz.underlying3,go_sem,Bk.viewC]
theorem vf2(s:Bk.St)(w:World):(Instr.field 58 (.agg (Bk.viewC s)) 2).run Tryz.prog w= .ok (.int .i64 s.till) w:=by
 simp[Instr.field,run_underlying Tryz.underlying58,asAgg,part,isAgg,run_underlying Tryz.underlying3,go_sem,Bk.viewC]
theorem Jrn.more{w:World}{X Y:Nat->Prop}{q r:Nat}{d:Dk.St}(h:Jrn w X q r d)(hX:∀i,X i->i<w.heap.size->Y i):Jrn w Y q r d:=
 ⟨h.blk,hX _ h.inX h.lt,h.dsk.more fun i hi hl=>⟨hX i hi.1 hl,hi.2⟩,h.whole⟩
theorem jkn{w0 W W':World}{F Y:Nat->Prop}{b:Nat}{s:Bk.St}(h:BP w0 F b s W)(hk:Kept Y W W')(hY:∀i,Y i->i<W.heap.size->F i)(hY0:∀i,Y i->w0.heap.size<=i):BP w0 (fun i=>F i\/(W.heap.size<=i/\i<W'.heap.size)) b s W':=by
 obtain⟨Z,h1,h2,h3,h4⟩:=h;refine⟨Z,jlq h1 hk.size (fun i hi=>hk.block i (ji9 h1 i hi) fun hy=>(h3 i (hY i hy (ji9 h1 i hi))).1 hi),h2,fun i hi=> ?_,h4.trans (hk.below h4.size hY0)⟩;rcases hi with hf|⟨hge,hlt⟩
 ·exact⟨(h3 i hf).1,Nat.lt_of_lt_of_le (h3 i hf).2 hk.size⟩
 ·exact⟨fun hx=>by have:=ji9 h1 i hx;omega,hlt⟩
theorem jqd{w0 W W':World}{F:Nat->Prop}{b:Nat}{s:Bk.St}(h:BP W (fun _=>False) b s W')(hb:Below w0.heap.size w0 W)(hF:∀i,F i->i<W.heap.size):BP w0 F b s W':=by
 obtain⟨Z,h1,h2,_,h4⟩:=h;exact⟨Z,h1,fun i hi=>Nat.le_trans hb.size (h2 i hi),fun i hi=>⟨fun hx=>by have:=h2 i hx;have:=hF i hi;omega,Nat.lt_of_lt_of_le (hF i hi) h4.size⟩,hb.trans (h4.mono hb.size)⟩
theorem jh1{w0 W:World}{F:Nat->Prop}{b:Nat}{s:Bk.St}(h:BP w0 F b s W)(ht:BT W){r:Rc.R}(hr:Rc.In r):Calls Tryz.prog 9 #[.pointer (some ⟨b,0,none⟩),.agg (Rc.cells r)] W (BRet (.int .i64 (Bk.chk s r)) W):=by
 obtain⟨X,⟨ru,rv,lo,ko,H,K,h1,_⟩,_⟩:=h;exact jhc b s ru rv lo ko H K W h1 ht r hr
def StF(G:Nat->Prop)(p:Nat)(X:Nat->Prop):Nat->Prop:=fun i=>G i\/i=p\/X i
structure StJ(w0:World)(G:Nat->Prop)(p:Nat)(m:Int)(d:Dk.St)(v:Value)(r q:Nat)(X:Nat->Prop)(W:World):Prop where
 row:W.heap[p]? =some (.cells #[.pointer (some ⟨r,0,none⟩),.pointer (some ⟨q,0,none⟩),v,.int .i64 m] 76 (0,0))
 jr:Jrn W X q r d
 inX:∀i,X i->w0.heap.size<=i/\i<W.heap.size/\i≠p/\¬G i
 pG:¬G p/\w0.heap.size<=p
 g:∀i,G i->i<W.heap.size
 below:Below w0.heap.size w0 W
section
variable{w0 W W':World}{G F X:Nat->Prop}{p r q:Nat}{m:Int}{d:Dk.St}{v:Value}
theorem StJ.lt(h:StJ w0 G p m d v r q X W):p<W.heap.size:=(Array.getElem?_eq_some_iff.1 h.row).1
theorem StJ.lts(h:StJ w0 G p m d v r q X W):∀i,StF G p X i->i<W.heap.size:=by
 rintro i (hg|rfl|hx)
 ·exact h.g i hg
 ·exact h.lt
 ·exact(h.inX i hx).2.1
theorem StJ.kept(h:StJ w0 G p m d v r q X W)(hk:Kept F W W')(hF:∀i,StF G p X i->¬F i)(hb:Below w0.heap.size w0 W'):StJ w0 G p m d v r q X W':=
 ⟨(hk.block p h.lt (hF p (.inr (.inl rfl)))).trans h.row,h.jr.keep fun i hi hl=>hk.block i hl (hF i (.inr (.inr hi))),fun i hi=>⟨(h.inX i hi).1,Nat.lt_of_lt_of_le (h.inX i hi).2.1 hk.size,(h.inX i hi).2.2⟩,h.pG,fun i hi=>Nat.lt_of_lt_of_le (h.g i hi) hk.size,hb⟩
theorem StJ.on(h:StJ w0 G p m d v r q X W)(hb:Below W.heap.size W W'):StJ w0 G p m d v r q X W':=h.kept (Kept.of_below (F:=fun _=>False) hb) (fun _ _ hf=>hf) (h.below.trans (hb.mono h.below.size))
theorem StJ.cells(h:StJ w0 G p m d v r q X W):p<W.heap.size/\W.cell? ⟨p,0,none⟩=some (.pointer (some ⟨r,0,none⟩))/\W.cell? ⟨p,1,none⟩=some (.pointer (some ⟨q,0,none⟩))/\W.cell? ⟨p,2,none⟩=some v/\W.cell? ⟨p,3,none⟩=some (.int .i64 m):=
 ⟨h.lt,by rw[cell_of_row W p 0 _ _ _ h.row];rfl,by rw[cell_of_row W p 1 _ _ _ h.row];rfl,by rw[cell_of_row W p 2 _ _ _ h.row];rfl,by rw[cell_of_row W p 3 _ _ _ h.row];rfl⟩
theorem StJ.frz(h:StJ w0 G p m d v r q X W)(i:Nat):W.frozen? ⟨p,i,none⟩=false:=frozen_of_row W p i _ _ h.row
theorem StJ.jrn(h:StJ w0 G p m d v r q X W):Jrn W (fun i=>X i\/W.heap.size<=i) q r d:=h.jr.more fun i hi _=> .inl hi
theorem StJ.fresh(h:StJ w0 G p m d v r q X W):∀i,W.heap.size<=i->X i\/W.heap.size<=i:=fun _ hi=> .inr hi
theorem StJ.put(h:StJ w0 G p m d v r q X W)(v':Value):StJ w0 G p m d v' r q X (W.setCell ⟨p,2,none⟩ v'):=by
 have hg:=jad W p 2 v';have hs:(W.setCell ⟨p,2,none⟩ v').heap.size=W.heap.size:=World.size_setCell ..;refine⟨by rw[heap_setCell_same W p 2 _ _ v' h.row];rfl,h.jr.keep fun i hi hl=>hg.block i hl (fun e=>(h.inX i hi).2.2.1 (by injection e)),fun i hi=>⟨(h.inX i hi).1,Nat.lt_of_lt_of_le (h.inX i hi).2.1 (Nat.le_of_eq hs.symm),(h.inX i hi).2.2⟩,h.pG,fun i hi=>Nat.lt_of_lt_of_le (h.g i hi) (Nat.le_of_eq hs.symm),h.below.grown hg h.below.size fun k e=> ?_⟩;injection e with e
 exact e▸h.pG.2
theorem StJ.turn{d':Dk.St}{w':World}(h:StJ w0 G p m d v r q X W)(hj:Jrn w' (fun i=>X i\/W.heap.size<=i) q r d')(hk:Kept (fun i=>X i\/W.heap.size<=i) W w'):
  StJ w0 G p m d' v r q (fun i=>(X i\/W.heap.size<=i)/\i<w'.heap.size) w':=by
 refine⟨(hk.block p h.lt fun hx=> ?_).trans h.row,hj.more fun i hi hl=>⟨hi,hl⟩,fun i hi=>⟨?_,hi.2,?_,fun hg=> ?_⟩,h.pG,fun i hi=>Nat.lt_of_lt_of_le (h.g i hi) hk.size,h.below.trans (hk.below h.below.size ?_)⟩
 ·rcases hx with hx|hx
  ·exact(h.inX p hx).2.2.1 rfl
  ·have:=h.lt;omega
 ·rcases hi.1 with hx|hx
  ·exact(h.inX i hx).1
  ·exact Nat.le_trans h.below.size hx
 ·rcases hi.1 with hx|hx
  ·exact(h.inX i hx).2.2.1
  ·have:=h.lt;omega
 ·rcases hi.1 with hx|hx
  ·exact(h.inX i hx).2.2.2 hg
  ·have:=h.g i hg;omega
 ·rintro i (hx|hx)
  ·exact(h.inX i hx).1
  ·exact Nat.le_trans h.below.size hx
theorem StJ.book{w':World}{b:Nat}{s:Bk.St}(h:StJ w0 G p m d v r q X W)(hb:BP w0 (StF G p X) b s W)(hk:Kept (fun i=>X i\/W.heap.size<=i) W w'):
  BP w0 (StF G p fun i=>(X i\/W.heap.size<=i)/\i<w'.heap.size) b s w':=by
 refine jby (jkn hb hk (fun i hi hl=> ?_) fun i hi=> ?_) fun i hi=> ?_
 ·rcases hi with hx|hx
  ·exact .inr (.inr hx)
  ·omega
 ·rcases hi with hx|hx
  ·exact(h.inX i hx).1
  ·exact Nat.le_trans h.below.size hx
 ·rcases hi with hg|hp|⟨hx|hx,hl⟩
  ·exact .inl (.inl hg)
  ·exact .inl (.inr (.inl hp))
  ·exact .inl (.inr (.inr hx))
  ·exact .inr ⟨hx,hl⟩
theorem StJ.others{w':World}(h:StJ w0 G p m d v r q X W)(hk:Kept (fun i=>X i\/W.heap.size<=i) W w'):∀i,G i->w'.heap[i]? =W.heap[i]? :=fun i hi=>hk.block i (h.g i hi) fun hx=>by
 rcases hx with hx|hx
 ·exact(h.inX i hx).2.2.2 hi
 ·have:=h.g i hi;omega
end
def SA(w0:World)(G:Nat->Prop)(p:Nat)(m:Int)(R:Nat)(L:List Rc.R)(W:World):Prop:=
 So.Took m L/\∃r q b X,StJ w0 G p m (So.disk R L) (.pointer (some ⟨b,0,none⟩)) r q X W/\BP w0 (StF G p X) b (Bk.all m L) W
def SRes(w0:World)(G:Nat->Prop)(p:Nat)(m:Int)(R:Nat)(L:List Rc.R)(x:Value)(W:World)(e:Ending)(w':World):Prop:=e= .returned x/\SA w0 G p m R L w'/\∀i,G i->w'.heap[i]? =W.heap[i]?
section
variable{w0 W W':World}{G F:Nat->Prop}{p R:Nat}{m:Int}{L:List Rc.R}
theorem SA.below(h:SA w0 G p m R L W):Below w0.heap.size w0 W:=by obtain⟨_,r,q,b,X,h1,_⟩:=h;exact h1.below
theorem SA.took(h:SA w0 G p m R L W):So.Took m L:=h.1
theorem SA.right(h:SA w0 G p m R L W):∀r∈L,Rc.right r=true:=So.took_right h.1
theorem SA.on(h:SA w0 G p m R L W)(hb:Below W.heap.size W W'):SA w0 G p m R L W':=by
 obtain⟨h0,r,q,b,X,h1,h2⟩:=h;exact⟨h0,r,q,b,X,h1.on hb,jdq h2 hb⟩
theorem SA.less(h:SA w0 G p m R L W)(hG:∀b,F b->G b):SA w0 F p m R L W:=by
 obtain⟨h0,r,q,b,X,h1,h2⟩:=h;refine⟨h0,r,q,b,X,⟨h1.row,h1.jr,fun i hi=>⟨(h1.inX i hi).1,(h1.inX i hi).2.1,(h1.inX i hi).2.2.1,fun hf=>(h1.inX i hi).2.2.2 (hG i hf)⟩,⟨fun hf=>h1.pG.1 (hG _ hf),h1.pG.2⟩,fun i hi=>h1.g i (hG i hi),h1.below⟩,jby h2 ?_⟩;rintro i (hf|hp|hx)
 ·exact .inl (hG i hf)
 ·exact .inr (.inl hp)
 ·exact .inr (.inr hx)
theorem SA.more(h:SA w0 G p m R L W)(hb:Below W.heap.size W W'):SA w0 (fun i=>G i\/(W.heap.size<=i/\i<W'.heap.size)) p m R L W':=by
 obtain⟨h0,r,q,b,X,h1,h2⟩:=h;have h3:=h1.on hb;refine⟨h0,r,q,b,X,⟨h3.row,h3.jr,fun i hi=>⟨(h3.inX i hi).1,(h3.inX i hi).2.1,(h3.inX i hi).2.2.1,fun hf=> ?_⟩,⟨fun hf=> ?_,h3.pG.2⟩,fun i hi=> ?_,h3.below⟩,jby (jkm h2 hb) ?_⟩
 ·rcases hf with hf|hf
  ·exact(h1.inX i hi).2.2.2 hf
  ·have:=(h1.inX i hi).2.1;omega
 ·rcases hf with hf|hf
  ·exact h1.pG.1 hf
  ·have:=h1.lt;omega
 ·rcases hi with hf|hf
  ·exact h3.g i hf
  ·exact hf.2
 ·rintro i ((hf|hf)|hp|hx)
  ·exact .inl (.inl hf)
  ·exact .inr hf
  ·exact .inl (.inr (.inl hp))
  ·exact .inl (.inr (.inr hx))
end
end Go.Proofs.YtkcdaigaclpfjaaGreatDoor
namespace Go.Proofs.YtkcdaigaclpfjaaGreatDoor
open Go.RowKit
theorem jko(s:Spc.Sp)(w:World):Calls Tryz.prog 92 #[Spc.val s] w fun e w'=>∃A c,e= .returned (.slice A 12 c)/\OwnI w' w.heap.size (.slice A 12 c) (Spc.flds s)/\Below w.heap.size w w':=by
 unfold Spc.val Spc.cells;go_enter Tryz.func92,Tryz.ntmps92;go_wp2_with fail;go_ret;have hn:=heap_alloc_new (w.alloc (.cells (Spc.cells s) 34)) (.cells (vali (Spc.flds s)).toArray 3);rw[show(w.alloc (.cells (Spc.cells s) 34)).heap.size=w.heap.size+1 from by simp]at hn;exact⟨_,12,rfl,⟨rfl,.inr ⟨w.heap.size+1,12,(vali (Spc.flds s)).toArray,rfl,Nat.le_succ _,hn,Nat.le_refl _,(by unfold maxLen;omega:12<=maxLen),rfl,rfl⟩⟩,((Below.refl _ w).alloc (Nat.le_refl _) _).alloc (by simp) _⟩
open Cdc
theorem js7(s:ByteArray)(w:World)(hs:s.size<=1000000):
  ∃c W',(convert 9 78 (.string s)).run Tryz.prog w= .ok (.slice (some ⟨w.heap.size,0,none⟩) s.size c) W'/\Sl W' (some ⟨w.heap.size,0,none⟩) s.size c (sb s)/\Below w.heap.size w W':=by
 refine⟨_,_,Lib.run_convert_string_bytes w 9 78 5 s Tryz.underlying9 Tryz.underlying78 Tryz.underlying5,⟨⟨jhg s,fun _=>⟨w.heap.size,0,rfl,?_,fun j hj=> ?_⟩⟩,(ja7 s).symm,grownCap_ge _ _ _ _,grownCap_le_maxLen _ _ _ _ (by unfold maxLen;omega),fun h=>by cases h⟩,rfl,rfl,rfl,?_,fun k hk=>Lib.bytesWorld_at_old _ _ _ _ hk⟩
 ·rw[Lib.bytesWorld_size];omega
 ·rw[ja7]at hj
  rw[Nat.zero_add,Lib.bytesWorld_cell _ _ _ _ hj,jak (by simpa using hj),jak (by rw[ja7];exact hj)];simp[sb]
 ·rw[Lib.bytesWorld_size];omega
def mayB(n:Int):Bool:=decide (sz n≠0)
theorem jkp(n:Int)(w:World):
  Calls Tryz.prog 148 #[.int .i64 n] w fun e w'=>e= .returned (.bool (mayB n))/\w=w':=by
 by_cases h0:n<0
 ·have HB:Hid (mayB n=false):=decide_eq_false (by rw[jso (.inl h0)];omega)
  go_enter Tryz.func148,Tryz.ntmps148;go_wp2_with fail;go_ret;exact⟨jbz HB.out.symm,rfl⟩
 ·have h0':0<=n:=by omega
  by_cases h1:4611686018427387903<n
  ·have HB:Hid (mayB n=false):=decide_eq_false (by rw[jso (.inr h1)];omega)
   have h2:decide (n<=4611686018427387903)=false:=decide_eq_false zv;clear h1;go_enter Tryz.func148,Tryz.ntmps148;go_wp2_with fail;go_ret;exact⟨jbz HB.out.symm,rfl⟩
  ·have HB:Hid (mayB n=true):=decide_eq_true (by
    unfold sz;rw[if_pos zv];have:=digs_pos n.toNat;omega)
   have h2:decide (n<=4611686018427387903)=true:=decide_eq_true zv;clear h1;go_enter Tryz.func148,Tryz.ntmps148;go_wp2_with fail;go_ret;exact⟨jbz HB.out.symm,rfl⟩
theorem jeo(n:Nat)(w:World)(hn:n<4611686018427387904):
  Calls Tryz.prog 150 #[.int .i64 n] w (jht w.heap.size (digs n) w):=by
 have h9:=digs_nine (n:=n) zv;have HN:=zh hn;clear hn;go_enter Tryz.func150,Tryz.ntmps150;go_wp2_with fail;go_loopw [0,3] (fun a v wr=>∃(m:Nat) (l':List Nat),a= .int .i64 m/\(m:Int)<=4611686018427387903/\OwnB wr w.heap.size v l'/\l'++digs m=digs n/\Below w.heap.size w wr) (fun a _ _=>(intOf a).toNat)
 case atStart=>exact⟨n,[],rfl,by have:=HN.out;omega,⟨World.ownsRow_nil _ _ _ _,by simp⟩,rfl,Below.refl _ _⟩
 case round=>
  obtain⟨m,l',rfl,hm,hO,hfull,hb⟩:=hrel;have O:=zh hO;clear hO;have BB:=zh hb;clear hb;have FF:Hid (l'++digs m=[]++digs n):=hfull;clear hfull;have hlen:l'.length<=9:=by have h2:=FF.out;have h3:=congrArg List.length h2;rw[List.length_append,List.nil_append]at h3;omega
  by_cases hlt:128<=m
  ·go_wp2_with(at_builtin;refine ja9 rfl (.tmp 6) (.tmp 11) rfl w.heap.size _ l' rfl O.out _ (m%128+128) zv zv rfl zv BB.out.size ?_;intro v1 w1 ho1 hb1;have O1:=zh ho1;have B1:=zh (BB.out.trans hb1);clear ho1 hb1)
   go_roundw
   case rel=>exact⟨m/128,_,by go_num,zv,O1.out,jlh FF.out hlt,B1.out⟩
   case measure=>simp[intOf];omega
  ·go_wp2_with(at_builtin;refine ja9 rfl (.tmp 15) (.tmp 18) rfl w.heap.size _ l' rfl O.out _ m zv zv rfl zv BB.out.size ?_;intro v1 w1 ho1 hb1;have O1:=zh ho1;have B1:=zh (BB.out.trans hb1);clear ho1 hb1)
   go_ret;exact⟨v1,rfl,by have:=jli FF.out zv;rw[List.nil_append]at this;rw[<-this];exact O1.out,B1.out⟩
theorem OwnB.join{w:World}{B n m:Nat}{v:Value}{l l2:List Nat}(h:w.ownsRow B 5 1 v (n+m) (vals l++vals l2))(hn:n=l.length)(hm:m=l2.length)(h1:∀y∈l,y<256)(h2:∀y∈l2,y<256):OwnB w B v (l++l2):=by
 subst hn;subst hm;refine⟨?_,?_⟩
 ·rw[jbc,List.length_append];exact h
 ·intro y hy
  exact(List.mem_append.1 hy).elim (h1 y) (h2 y)
theorem jfp(n c m d:Nat)(A D:Option Addr)(l l2:List Nat)(w:World)(hs:Sl w A n c l)(ht:Sl w D m d l2)(hn:n<=1000000)(hm:m<=1000000):
  Calls Tryz.prog 149 #[.slice A n c,.slice D m d] w (jht w.heap.size (l++l2) w):=by
 obtain⟨i0,hi0,hz0,hz1,hz2⟩:=info_parts jbs;have I0:=zh hi0;clear hi0;have I1:=zh hz0;clear hz0;have I2:=zh hz1;clear hz1;have I3:=zh hz2;clear hz2;have S:=zh hs;clear hs;have T:=zh ht;clear ht;go_enter Tryz.func149,Tryz.ntmps149
 go_wp2_with(first
  |(at_builtin;refine jam rfl (.tmp 6) (.tmp 7) _ rfl w.heap.size 5 i0 _ Tryz.underlying78 I0.out I1.out I2.out I3.out rfl (.slice none 0 0) 0 [] rfl (World.ownsRow_nil _ _ _ _) w.heap.size n c A l rfl S.out.rd S.out.len S.out.nil zv (Nat.le_refl _) ?_;intro v1 w1 hown1 hg1;have O1:=zh hown1;have B1:=zh ((Below.refl w.heap.size w).grown hg1 (Nat.le_refl _) (by simp[Value.ownBlock]));clear hown1 hg1)
  |(at_builtin;refine jam rfl (.tmp 9) (.tmp 10) _ rfl w.heap.size 5 i0 _ Tryz.underlying78 I0.out I1.out I2.out I3.out rfl v1 (0+n) ([]++vals l) rfl O1.out w1.heap.size m d D l2 rfl (T.out.rd.on B1.out) T.out.len T.out.nil zv B1.out.size ?_;intro v2 w2 hown2 hg2;have O2:=zh hown2;have G2:=zh hg2;clear hown2 hg2))
 go_ret;have hO:=O2.out;rw[Nat.zero_add,List.nil_append]at hO;exact⟨v2,rfl,OwnB.join hO S.out.len T.out.len S.out.rd.1 T.out.rd.1,B1.out.grown G2.out B1.out.size (ja0 O1.out)⟩
def jqe(l:List Nat)(err:Int)(w:World)(e:Ending)(w':World):Prop:=
 ∃A c,e= .returned (.tuple #[.slice A l.length c,.int .i64 err])/\Sl w' A l.length c l/\Below w.heap.size w w'
theorem jh2(n c:Nat)(x:Int)(A:Option Addr)(l:List Nat)(w:World)(hs:Sl w A n c l)(hn:n<=1000000):
  Calls Tryz.prog 89 #[.slice A n c,.int .i64 x] w (jqe (numL l x) (numE x) w):=by
 have S:=zh hs;clear hs;have M:=zh (jkp x w);by_cases hz:sz x=0
 ·have HM:Hid (mayB x=false):=decide_eq_false zv
  rw[show numL l x=l from by unfold numL;rw[if_pos hz],show numE x=1 from by unfold numE;rw[if_pos hz]];rw[HM.out]at M;clear hz;go_enter Tryz.func89,Tryz.ntmps89;go_wp2_with fail
  (with_reducible refine M.out.mono ?_)
  rintro e w1 ⟨rfl,rfl⟩;go_wp2_with fail;go_ret2;have:=S.out.len;subst this;exact⟨A,c,rfl,S.out,Below.refl _ _⟩
 ·have HM:Hid (mayB x=true):=decide_eq_true hz
  rw[show numL l x=l++digs x.toNat from by unfold numL;rw[if_neg hz],show numE x=0 from by unfold numE;rw[if_neg hz]];rw[HM.out]at M;obtain⟨m,rfl,hm⟩:=ji0 hz;rw[Int.toNat_natCast];have HQ:=zh hm;clear hm hz;have h9:=digs_nine (n:=m) (by have:=HQ.out;omega);go_enter Tryz.func89,Tryz.ntmps89;go_wp2_with fail
  (with_reducible refine M.out.mono ?_)
  rintro e w1 ⟨rfl,rfl⟩;go_wp2_with fail
  (with_reducible refine(jeo m w HQ.out).mono ?_)
  rintro e w1 ⟨v1,rfl,ho,hb⟩;obtain⟨A1,c1,rfl,h1⟩:=OwnB.sl ho;have T1:=zh h1;clear h1 ho;have B1:=zh hb;clear hb;go_wp2_with fail
  (with_reducible refine(jfp n c _ c1 A A1 l _ w1 (S.out.on B1.out) T1.out hn zv).mono ?_)
  rintro e w2 ⟨v2,rfl,ho,hb⟩;obtain⟨A2,c2,hv,h2⟩:=OwnB.sl ho;have T2:=zh h2;clear h2 ho;have B2:=zh (B1.out.trans (hb.mono B1.out.size));clear hb;have HV:=zh hv;clear hv;go_wp2_with fail;go_ret2;rw[HV.out];exact⟨A2,c2,rfl,T2.out,B2.out⟩
theorem jkq(n c:Nat)(s:ByteArray)(A:Option Addr)(l:List Nat)(w:World)(hs:Sl w A n c l)(hn:n<=900000):
  Calls Tryz.prog 90 #[.slice A n c,.string s] w (jqe (jgd l s) (jge s) w):=by
 have S:=zh hs;clear hs;by_cases hz:s.size<=64
 ·rw[show jgd l s=l++digs s.size++sb s from by unfold jgd;rw[if_pos hz],show jge s=0 from by unfold jge;rw[if_pos hz]]
  have h9:=digs_nine (n:=s.size) zv;have HL:=S.out.len;have H9:Hid ((l++digs s.size).length<=900009):=by show _<=_;rw[List.length_append];omega
  clear HL;obtain⟨q,hq⟩:∃q,q=l++digs s.size:=⟨_,rfl⟩;have Q:=zh hq;clear hq;rw[<-Q.out]at H9⊢;go_enter Tryz.func90,Tryz.ntmps90;go_wp2_with fail
  (with_reducible refine(jeo s.size w zv).mono ?_)
  rintro e w1 ⟨v1,rfl,ho,hb⟩;obtain⟨A1,c1,rfl,h1⟩:=OwnB.sl ho;have T1:=zh h1;clear h1 ho;have B1:=zh hb;clear hb;have C2:=zh (jfp n c _ c1 A A1 l _ w1 (S.out.on B1.out) T1.out zv zv);rw[<-Q.out]at C2;go_wp2_with fail
  (with_reducible refine C2.out.mono ?_)
  rintro e w2 ⟨v2,rfl,ho,hb⟩;obtain⟨A2,c2,rfl,h2⟩:=OwnB.sl ho;have T2:=zh h2;clear h2 ho;have B2:=zh (B1.out.trans (hb.mono B1.out.size));clear hb;obtain⟨c3,w3,hcv,h3,hb3⟩:=js7 s w2 zv;have T3:=zh h3;clear h3;have B3:=zh (B2.out.trans (hb3.mono B2.out.size));have T23:=zh (T2.out.on hb3);clear hb3;go_wp2_with fail
  (with_reducible refine(jfp _ c2 s.size c3 A2 _ q (sb s) w3 T23.out T3.out (by have:=H9.out;omega) zv).mono ?_)
  rintro e w4 ⟨v4,rfl,ho,hb⟩;obtain⟨A4,c4,hv,h4⟩:=OwnB.sl ho;have T4:=zh h4;clear h4 ho;have B4:=zh (B3.out.trans (hb.mono B3.out.size));clear hb;have HV:=zh hv;clear hv;go_wp2_with fail;go_ret2;rw[HV.out];exact⟨A4,c4,rfl,T4.out,B4.out⟩
 ·rw[show jgd l s=l from by unfold jgd;rw[if_neg hz],show jge s=12 from by unfold jge;rw[if_neg hz]]
  go_enter Tryz.func90,Tryz.ntmps90;go_wp2_with fail;go_ret2;have:=S.out.len;subst this;exact⟨A,c,rfl,S.out,Below.refl _ _⟩
theorem jqf{os:List Int}{l:List Nat}{k m:Nat}(hk:k<os.length)(hm:os.getD k 0=(m:Int)):l++fl (os.take (k+1))=(l++fl (os.take k))++digs m:=by
 rw[jhv hk hm,List.append_assoc]
theorem jkr(n c k d:Nat)(A D:Option Addr)(l:List Nat)(ns:List Int)(w:World)(hs:Sl w A n c l)(hn:n<=900000)(hd:SlI w D k d ns):
  Calls Tryz.prog 91 #[.slice A n c,.slice D k d] w (jqe (jdv l ns) (jdw ns) w):=by
 obtain⟨i0,hi0,hz0,hz1,hz2⟩:=info_parts jbs;have I0:=zh hi0;clear hi0;have I1:=zh hz0;clear hz0;have I2:=zh hz1;clear hz1;have I3:=zh hz2;clear hz2;have S:=zh hs;clear hs;have SD:=zh hd;clear hd;have hkn:=SD.out.len;by_cases hk:k<=64
 ·have P1:Hid (jb8 ns=true->jdv l ns=l++digs k++fl ns/\jdw ns=0):=fun ha=>by
   unfold jdv jdw;rw[if_pos zv,if_pos ha,if_pos zv,if_pos ha,<-hkn];exact⟨rfl,rfl⟩
  have P2:Hid (jb8 ns=false->jdv l ns=l/\jdw ns=1):=fun ha=>by
   unfold jdv jdw;rw[if_pos zv,if_neg (by rw[ha];simp),if_pos zv,if_neg (by rw[ha];simp)];exact⟨rfl,rfl⟩
  have h9:=digs_nine (n:=k) zv;have H9:Hid ((l++digs k).length<=900009):=by show _<=_;have:=S.out.len;rw[List.length_append];omega
  clear hkn;obtain⟨q,hq⟩:∃q,q=l++digs k:=⟨_,rfl⟩;have Q:=zh hq;clear hq;rw[<-Q.out]at H9 P1;generalize jdv l ns=LL at*;generalize jdw ns=LE at*;go_enter Tryz.func91,Tryz.ntmps91;go_wp2_with fail
  (with_reducible refine(jeo k w zv).mono ?_)
  rintro e w1 ⟨v1,rfl,ho,hb⟩;obtain⟨A1,c1,rfl,h1⟩:=OwnB.sl ho;have T1:=zh h1;clear h1 ho;have B1:=zh hb;clear hb;have C2:=zh (jfp n c _ c1 A A1 l _ w1 (S.out.on B1.out) T1.out zv zv);rw[<-Q.out]at C2;go_wp2_with fail
  (with_reducible refine C2.out.mono ?_)
  rintro e w2 ⟨v2,rfl,ho,hb⟩;have O2:=zh ho;clear ho;have G1:=zh B1.out.size;have Z2:=zh hb.size;have B2:=zh (B1.out.trans (hb.mono B1.out.size));clear hb B1;go_wp2_with fail;go_loopw [6,7] (fun v i wr=>∃m:Nat,m<=k/\i= .int .i64 m/\OwnB wr w1.heap.size v (q++fl (ns.take m))/\(∀j,j<m->sz (ns.getD j 0)≠0)/\Below w.heap.size w wr/\w1.heap.size<=wr.heap.size) (fun _ i _=>k -(intOf i).toNat)
  case atStart=>exact⟨0,zv,rfl,by simpa[fl]using O2.out,fun j hj=>by omega,B2.out,Z2.out⟩
  case round=>
   obtain⟨m,hm,rfl,ho,hall,hb,hsz⟩:=hrel;clear O2 B2;have O:=zh ho;clear ho;have B:=zh hb;clear hb;have ALL:=zh hall;clear hall;have HZ:=zh hsz;clear hsz;by_cases hlt:m<k
   ·have hml:m<ns.length:=by rw[<-SD.out.len];exact hlt
    obtain⟨b,o,rfl,_,hc⟩:=(SD.out.on B.out).rd zv;have hck:=hc m hml;clear hc;by_cases hz:sz (ns.getD m 0)=0
    ·have P3:=zh (P2.out (jlj hml hz))
     have M:Hid (mayB (ns.getD m 0)=false):=decide_eq_false zv;clear hz P1 P2 O ALL;generalize ns.getD m 0=x at*;go_wp2_with fail
     (with_reducible refine(jkp x wr).mono ?_)
     rw[M.out];rintro e w3 ⟨rfl,rfl⟩;go_wp2_with fail;go_ret2;rw[P3.out.1,P3.out.2];have:=S.out.len;subst this;exact⟨A,c,rfl,S.out.on B.out,B.out⟩
    ·have M:Hid (mayB (ns.getD m 0)=true):=decide_eq_true hz
     have ALL2:Hid (∀j,j<m+1->sz (ns.getD j 0)≠0):=fun j hj=>by
      by_cases e:j=m
      ·subst e;exact hz
      ·exact ALL.out j zv
     obtain⟨x,hx,hxl⟩:=ji0 hz;rw[hx]at M;have hck2:=hck;rw[hx]at hck2;have TF:=zh (jqf (l:=q) hml hx);have HX:=zh hxl;have hb9:=digs_nine (n:=x) zv;have LF:Hid ((q++fl (ns.take m)).length<=910000):=by
      show _<=_;have h1:jb8 (ns.take m)=true:=jgf fun j hj=>by
       rw[List.length_take]at hj;have:=ALL.out j zv;rw[jak zv]at this;rw[jak (by rw[List.length_take];omega),List.getElem_take];exact this
      have h2:=ji1 h1 (ns.take m).length (Nat.le_refl _);rw[List.take_length,List.length_take]at h2;have h3:=H9.out;rw[List.length_append];omega
     have HBW:Hid (b<wr.heap.size):=block_lt_of_cell hck;clear hz hx hxl hck ALL P1 P2;obtain⟨f,hf⟩:∃f,f=q++fl (ns.take m):=⟨_,rfl⟩;have FF:=zh hf;clear hf;rw[<-FF.out]at TF LF O;go_wp2_with fail
     (with_reducible refine(jkp _ wr).mono ?_)
     rw[M.out];rintro e w3 ⟨rfl,rfl⟩;go_wp2_with fail
     (with_reducible refine(jeo x wr HX.out).mono ?_)
     rintro e w3 ⟨v3,rfl,ho3,hb3⟩;obtain⟨A3,c3,rfl,h3⟩:=OwnB.sl ho3;have T3:=zh h3;clear h3 ho3;have B3:=zh (B.out.trans (hb3.mono B.out.size));have O3:=zh (OwnB.below O.out hb3);have HZ3:=zh (Nat.le_trans HZ.out hb3.size);clear hb3;go_wp2_with(at_builtin;refine jam rfl (.tmp 32) (.tmp 37) _ rfl w1.heap.size 5 i0 _ Tryz.underlying78 I0.out I1.out I2.out I3.out rfl _ f.length (vals f) rfl O3.out.1 w3.heap.size _ c3 A3 (digs x) rfl T3.out.rd rfl T3.out.nil (by have:=LF.out;omega) HZ3.out ?_;intro v4 w4 hown4 hg4;have O4:=zh hown4;have G4:=zh hg4;clear hown4 hg4);go_roundw
     case rel=>exact⟨m+1,zv,by go_num,by rw[TF.out];exact OwnB.join O4.out rfl rfl O3.out.2 (digs_byte x),ALL2.out,B3.out.grown G4.out B3.out.size (fun i hi=>Nat.le_trans G1.out (ja0 O3.out.1 i hi)),Nat.le_trans HZ3.out G4.out.size⟩
     case measure=>simp[intOf];omega
   ·obtain rfl:m=k:=by omega
    have P3:=zh (P1.out (jgf fun j hj=>ALL.out j (by rw[SD.out.len];exact hj)));have O4:=zh (jpb O.out SD.out.len);obtain⟨A2,c2,hv,h2⟩:=OwnB.sl O4.out;have HV:=zh hv;clear hv;have H2:=zh h2;clear h2;clear P1 P2 ALL;go_wp2_with fail;go_ret2;rw[HV.out,P3.out.1,P3.out.2];exact⟨A2,c2,rfl,H2.out,B.out⟩
 ·have HL:Hid (jdv l ns=l/\jdw ns=12):=by
   show _/\_;unfold jdv jdw;rw[if_neg zv,if_neg zv];exact⟨rfl,rfl⟩
  clear hkn;generalize jdv l ns=LL at*;generalize jdw ns=LE at*;go_enter Tryz.func91,Tryz.ntmps91;go_wp2_with fail;go_ret2;rw[HL.out.1,HL.out.2];have:=S.out.len;subst this;exact⟨A,c,rfl,S.out,Below.refl _ _⟩
end Go.Proofs.YtkcdaigaclpfjaaGreatDoor
