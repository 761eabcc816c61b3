import Derived.Test.YtabandbigckfkaaGreatDoorQa19
import Derived.Test.YtabandbigckfkaaGreatDoorQa23
import Derived.Sort.OwnSortedInts
set_option maxHeartbeats 6400000
set_option maxRecDepth 100000
set_option linter.unusedSimpArgs false
set_option linter.unusedVariables false
namespace Go.Proofs.YtabandbigckfkaaGreatDoor
open Go.RowKit Go.Deep Go.Maps
theorem jid(q:Nat)(s:Bk.St)(ru:Nat→Bk.Un)(rv:Int)(lo ko:Option Nat)(H:Value)(K:Kv.St)(w:World)(h:BdIs w q s ru rv lo ko H K)(ht:BT w)(r:Rc.R)(hin:Rc.In r):jic Tryz.prog 63 #[.pointer (some ⟨q,0,none⟩),.agg (Rc.cells r)] w (jav q lo ko H (Bk.app s r) (.int .i64 (Bk.chk s r)) w):=by
 obtain⟨ans,hans⟩:∃ans,ans=Bk.chk s r:=⟨_,rfl⟩;rw[←hans];have AN:=zh hans;clear hans;have HI:=zh hin;have H0:=zh h;clear hin;obtain⟨s9,hs9⟩:∃t,t=Bk.app s r:=⟨_,rfl⟩;rw[←hs9];have AS:=zh hs9;clear hs9;have HT:=zh ht;obtain⟨W,hW⟩:∃W,W=w.alloc (.cells (Rc.cells r) 45):=⟨_,rfl⟩;obtain⟨g,hg⟩:∃g,g=w.heap.size:=⟨_,rfl⟩;have R0:=zh (RdC.open_ h r);rw[←hW,←hg]at R0;have GE:Hid (w.heap.size≤g):=Nat.le_of_eq hg.symm;have CC:=zh (jj2 q s ru rv lo ko H K W R0.out.bd (ht.on R0.out.b) r HI.out);rw[←AN.out]at CC;clear h ht;refine jj3 Tryz.func63 rfl ?_;simp only[Tryz.ntmps63,List.size_toArray,List.length_cons,List.length_nil,Nat.reduceAdd,Nat.reduceSub,Array.replicate_succ,Array.replicate_zero,List.push_toArray,List.append_toArray,List.nil_append,List.cons_append];go_upto_region 1 with fail
 rw[←hW,←hg];clear hW hg;by_cases hc:ans=0
 ·have HC:Hid (Bk.chk s r=0):=by show _=_;rw[←AN.out];exact hc
  subst hc;go_upto_region 4 with(first
   |((with_reducible show zL 7);refine zR (.tmp 3) R0.out.rc ?_)
   |(go_at_call 33;(with_reducible refine CC.out.mono ?_);rintro e w1 ⟨rfl,hb⟩;have R1:=zh (R0.out.on hb);clear hb))
  have hk7:=Bk.kinds HC.out;rcases hk7 with hk|hk|hk|hk|hk|hk|hk
  ·have HK:=zh hk
   clear hk;refine wp_region_held_drew (S:=fun W=>RcAt W g r) (by kernel_rfl) (R1.out.rc.on (Below.refl w1.heap.size w1).drew) (fun hS=> ?_);refine tY 1 hS ?_;refine tZ 2 rfl (by intro W hW;have c0:=(RcAt.cs hW).c0;rw[HK.out]at c0;have lg:=(RcAt.cs hW).lt;go_simp;(try with_reducible rfl)) hS ?_;refine tY 5 hS ?_;refine tZ 6 (v:= .agg (Rc.cells r)) rfl (fun W hW=>ja1 (.tmp 3) rfl g r rfl hW) hS ?_;simp only[Act.put,zT,zO,zS];refine rO 0 (fun K hK=> ?_);go_simp
   with_reducible refine(jat _).mono ?_
   rintro e w7 ⟨m,rfl,hm,hb⟩;have M7:=zh hm;have R7:=zh ((R1.out.on (Below.refl w1.heap.size w1).drew).on hb);have hS2:=hS.on hb;clear hS hb hm;have hS:=hS2;clear hS2;refine hK.out _ _ hS (fun _=> ?_);clear hK K;try simp only[Act.put,zT,zO,zS]
   refine rO 3 (fun K hK=> ?_);have hlk:=M7.out.look1;go_simp;refine hK.out _ _ hS (fun _=> ?_);clear hK K;refine tZ 4 rfl (by intro W hW;have hfd:=jdc;go_simp;(try with_reducible rfl)) hS ?_;simp only[Act.put,zT,zO,zS];refine rO 7 (fun K hK=> ?_);have CF:=zh (jmb q s ru rv lo ko H _ w7 R7.out.bd (HT.out.on R7.out.b) r HI.out HK.out HC.out);go_simp
   with_reducible refine CF.out.mono ?_
   intro e w8 hp;obtain⟨ru8,rv8,lo8,ko8,H8,K8,rfl,hp2,hp3,hp4⟩:=hp;have P8:=zh (show jav q lo ko H (Bk.act s r) (.tuple #[]) w7 _ w8 from⟨ru8,rv8,lo8,ko8,H8,K8,rfl,hp2,hp3,hp4⟩);have NB:¬BdF q lo ko H g:=fun h=>by have:=H0.out.ltF g h;have:=GE.out;omega
   have hS2:RcAt w8 g r:=⟨(hp3.block g hS.cs.lt NB).trans hS.row⟩;clear hS hp2 hp3 hp4 NB;have hS:=hS2;clear hS2;refine hK.out _ _ hS (fun _=> ?_);clear hK K;try simp only[Act.put,zT,zO,zS]
   refine wpAnyH_done (by kernel_rfl) ?_ _;clear hS;go_wp2_with fail;go_ret;rw[AS.out,Bk.app_ok HC.out];exact(P8.out.ahead R7.out.b H0.out.ltF).ret _
  ·have HK:=zh hk
   clear hk;refine wp_region_held_drew (S:=fun W=>RcAt W g r) (by kernel_rfl) (R1.out.rc.on (Below.refl w1.heap.size w1).drew) (fun hS=> ?_);refine tY 1 hS ?_;refine tZ 2 rfl (by intro W hW;have c0:=(RcAt.cs hW).c0;rw[HK.out]at c0;have lg:=(RcAt.cs hW).lt;go_simp;(try with_reducible rfl)) hS ?_;refine tY 5 hS ?_;refine tZ 6 (v:= .agg (Rc.cells r)) rfl (fun W hW=>ja1 (.tmp 3) rfl g r rfl hW) hS ?_;simp only[Act.put,zT,zO,zS];refine rO 0 (fun K hK=> ?_);go_simp
   with_reducible refine(jat _).mono ?_
   rintro e w7 ⟨m,rfl,hm,hb⟩;have M7:=zh hm;have R7:=zh ((R1.out.on (Below.refl w1.heap.size w1).drew).on hb);have hS2:=hS.on hb;clear hS hb hm;have hS:=hS2;clear hS2;refine hK.out _ _ hS (fun _=> ?_);clear hK K;try simp only[Act.put,zT,zO,zS]
   refine rO 3 (fun K hK=> ?_);have hlk:=M7.out.look2;go_simp;refine hK.out _ _ hS (fun _=> ?_);clear hK K;refine tZ 4 rfl (by intro W hW;have hfd:=jdc;go_simp;(try with_reducible rfl)) hS ?_;simp only[Act.put,zT,zO,zS];refine rO 7 (fun K hK=> ?_);have CF:=zh (jma q s ru rv lo ko H _ w7 R7.out.bd (HT.out.on R7.out.b) r HI.out HK.out HC.out);go_simp
   with_reducible refine CF.out.mono ?_
   intro e w8 hp;obtain⟨ru8,rv8,lo8,ko8,H8,K8,rfl,hp2,hp3,hp4⟩:=hp;have P8:=zh (show jav q lo ko H (Bk.act s r) (.tuple #[]) w7 _ w8 from⟨ru8,rv8,lo8,ko8,H8,K8,rfl,hp2,hp3,hp4⟩);have NB:¬BdF q lo ko H g:=fun h=>by have:=H0.out.ltF g h;have:=GE.out;omega
   have hS2:RcAt w8 g r:=⟨(hp3.block g hS.cs.lt NB).trans hS.row⟩;clear hS hp2 hp3 hp4 NB;have hS:=hS2;clear hS2;refine hK.out _ _ hS (fun _=> ?_);clear hK K;try simp only[Act.put,zT,zO,zS]
   refine wpAnyH_done (by kernel_rfl) ?_ _;clear hS;go_wp2_with fail;go_ret;rw[AS.out,Bk.app_ok HC.out];exact(P8.out.ahead R7.out.b H0.out.ltF).ret _
  ·have HK:=zh hk
   clear hk;refine wp_region_held_drew (S:=fun W=>RcAt W g r) (by kernel_rfl) (R1.out.rc.on (Below.refl w1.heap.size w1).drew) (fun hS=> ?_);refine tY 1 hS ?_;refine tZ 2 rfl (by intro W hW;have c0:=(RcAt.cs hW).c0;rw[HK.out]at c0;have lg:=(RcAt.cs hW).lt;go_simp;(try with_reducible rfl)) hS ?_;refine tY 5 hS ?_;refine tZ 6 (v:= .agg (Rc.cells r)) rfl (fun W hW=>ja1 (.tmp 3) rfl g r rfl hW) hS ?_;simp only[Act.put,zT,zO,zS];refine rO 0 (fun K hK=> ?_);go_simp
   with_reducible refine(jat _).mono ?_
   rintro e w7 ⟨m,rfl,hm,hb⟩;have M7:=zh hm;have R7:=zh ((R1.out.on (Below.refl w1.heap.size w1).drew).on hb);have hS2:=hS.on hb;clear hS hb hm;have hS:=hS2;clear hS2;refine hK.out _ _ hS (fun _=> ?_);clear hK K;try simp only[Act.put,zT,zO,zS]
   refine rO 3 (fun K hK=> ?_);have hlk:=M7.out.look3;go_simp;refine hK.out _ _ hS (fun _=> ?_);clear hK K;refine tZ 4 rfl (by intro W hW;have hfd:=jdc;go_simp;(try with_reducible rfl)) hS ?_;simp only[Act.put,zT,zO,zS];refine rO 7 (fun K hK=> ?_);have CF:=zh (jl7 q s ru rv lo ko H _ w7 R7.out.bd r HI.out HK.out HC.out);go_simp
   with_reducible refine CF.out.mono ?_
   intro e w8 hp;obtain⟨ru8,rv8,lo8,ko8,H8,K8,rfl,hp2,hp3,hp4⟩:=hp;have P8:=zh (show jav q lo ko H (Bk.act s r) (.tuple #[]) w7 _ w8 from⟨ru8,rv8,lo8,ko8,H8,K8,rfl,hp2,hp3,hp4⟩);have NB:¬BdF q lo ko H g:=fun h=>by have:=H0.out.ltF g h;have:=GE.out;omega
   have hS2:RcAt w8 g r:=⟨(hp3.block g hS.cs.lt NB).trans hS.row⟩;clear hS hp2 hp3 hp4 NB;have hS:=hS2;clear hS2;refine hK.out _ _ hS (fun _=> ?_);clear hK K;try simp only[Act.put,zT,zO,zS]
   refine wpAnyH_done (by kernel_rfl) ?_ _;clear hS;go_wp2_with fail;go_ret;rw[AS.out,Bk.app_ok HC.out];exact(P8.out.ahead R7.out.b H0.out.ltF).ret _
  ·have HK:=zh hk
   clear hk;refine wp_region_held_drew (S:=fun W=>RcAt W g r) (by kernel_rfl) (R1.out.rc.on (Below.refl w1.heap.size w1).drew) (fun hS=> ?_);refine tY 1 hS ?_;refine tZ 2 rfl (by intro W hW;have c0:=(RcAt.cs hW).c0;rw[HK.out]at c0;have lg:=(RcAt.cs hW).lt;go_simp;(try with_reducible rfl)) hS ?_;refine tY 5 hS ?_;refine tZ 6 (v:= .agg (Rc.cells r)) rfl (fun W hW=>ja1 (.tmp 3) rfl g r rfl hW) hS ?_;simp only[Act.put,zT,zO,zS];refine rO 0 (fun K hK=> ?_);go_simp
   with_reducible refine(jat _).mono ?_
   rintro e w7 ⟨m,rfl,hm,hb⟩;have M7:=zh hm;have R7:=zh ((R1.out.on (Below.refl w1.heap.size w1).drew).on hb);have hS2:=hS.on hb;clear hS hb hm;have hS:=hS2;clear hS2;refine hK.out _ _ hS (fun _=> ?_);clear hK K;try simp only[Act.put,zT,zO,zS]
   refine rO 3 (fun K hK=> ?_);have hlk:=M7.out.look4;go_simp;refine hK.out _ _ hS (fun _=> ?_);clear hK K;refine tZ 4 rfl (by intro W hW;have hfd:=jdc;go_simp;(try with_reducible rfl)) hS ?_;simp only[Act.put,zT,zO,zS];refine rO 7 (fun K hK=> ?_);have CF:=zh (jl5 q s ru rv lo ko H _ w7 R7.out.bd r HI.out HK.out HC.out);go_simp
   with_reducible refine CF.out.mono ?_
   intro e w8 hp;obtain⟨ru8,rv8,lo8,ko8,H8,K8,rfl,hp2,hp3,hp4⟩:=hp;have P8:=zh (show jav q lo ko H (Bk.act s r) (.tuple #[]) w7 _ w8 from⟨ru8,rv8,lo8,ko8,H8,K8,rfl,hp2,hp3,hp4⟩);have NB:¬BdF q lo ko H g:=fun h=>by have:=H0.out.ltF g h;have:=GE.out;omega
   have hS2:RcAt w8 g r:=⟨(hp3.block g hS.cs.lt NB).trans hS.row⟩;clear hS hp2 hp3 hp4 NB;have hS:=hS2;clear hS2;refine hK.out _ _ hS (fun _=> ?_);clear hK K;try simp only[Act.put,zT,zO,zS]
   refine wpAnyH_done (by kernel_rfl) ?_ _;clear hS;go_wp2_with fail;go_ret;rw[AS.out,Bk.app_ok HC.out];exact(P8.out.ahead R7.out.b H0.out.ltF).ret _
  ·have HK:=zh hk
   clear hk;refine wp_region_held_drew (S:=fun W=>RcAt W g r) (by kernel_rfl) (R1.out.rc.on (Below.refl w1.heap.size w1).drew) (fun hS=> ?_);refine tY 1 hS ?_;refine tZ 2 rfl (by intro W hW;have c0:=(RcAt.cs hW).c0;rw[HK.out]at c0;have lg:=(RcAt.cs hW).lt;go_simp;(try with_reducible rfl)) hS ?_;refine tY 5 hS ?_;refine tZ 6 (v:= .agg (Rc.cells r)) rfl (fun W hW=>ja1 (.tmp 3) rfl g r rfl hW) hS ?_;simp only[Act.put,zT,zO,zS];refine rO 0 (fun K hK=> ?_);go_simp
   with_reducible refine(jat _).mono ?_
   rintro e w7 ⟨m,rfl,hm,hb⟩;have M7:=zh hm;have R7:=zh ((R1.out.on (Below.refl w1.heap.size w1).drew).on hb);have hS2:=hS.on hb;clear hS hb hm;have hS:=hS2;clear hS2;refine hK.out _ _ hS (fun _=> ?_);clear hK K;try simp only[Act.put,zT,zO,zS]
   refine rO 3 (fun K hK=> ?_);have hlk:=M7.out.look5;go_simp;refine hK.out _ _ hS (fun _=> ?_);clear hK K;refine tZ 4 rfl (by intro W hW;have hfd:=jdc;go_simp;(try with_reducible rfl)) hS ?_;simp only[Act.put,zT,zO,zS];refine rO 7 (fun K hK=> ?_);have CF:=zh (jl8 q s ru rv lo ko H _ w7 R7.out.bd r HI.out HK.out HC.out);go_simp
   with_reducible refine CF.out.mono ?_
   intro e w8 hp;obtain⟨ru8,rv8,lo8,ko8,H8,K8,rfl,hp2,hp3,hp4⟩:=hp;have P8:=zh (show jav q lo ko H (Bk.act s r) (.tuple #[]) w7 _ w8 from⟨ru8,rv8,lo8,ko8,H8,K8,rfl,hp2,hp3,hp4⟩);have NB:¬BdF q lo ko H g:=fun h=>by have:=H0.out.ltF g h;have:=GE.out;omega
   have hS2:RcAt w8 g r:=⟨(hp3.block g hS.cs.lt NB).trans hS.row⟩;clear hS hp2 hp3 hp4 NB;have hS:=hS2;clear hS2;refine hK.out _ _ hS (fun _=> ?_);clear hK K;try simp only[Act.put,zT,zO,zS]
   refine wpAnyH_done (by kernel_rfl) ?_ _;clear hS;go_wp2_with fail;go_ret;rw[AS.out,Bk.app_ok HC.out];exact(P8.out.ahead R7.out.b H0.out.ltF).ret _
  ·have HK:=zh hk
   clear hk;refine wp_region_held_drew (S:=fun W=>RcAt W g r) (by kernel_rfl) (R1.out.rc.on (Below.refl w1.heap.size w1).drew) (fun hS=> ?_);refine tY 1 hS ?_;refine tZ 2 rfl (by intro W hW;have c0:=(RcAt.cs hW).c0;rw[HK.out]at c0;have lg:=(RcAt.cs hW).lt;go_simp;(try with_reducible rfl)) hS ?_;refine tY 5 hS ?_;refine tZ 6 (v:= .agg (Rc.cells r)) rfl (fun W hW=>ja1 (.tmp 3) rfl g r rfl hW) hS ?_;simp only[Act.put,zT,zO,zS];refine rO 0 (fun K hK=> ?_);go_simp
   with_reducible refine(jat _).mono ?_
   rintro e w7 ⟨m,rfl,hm,hb⟩;have M7:=zh hm;have R7:=zh ((R1.out.on (Below.refl w1.heap.size w1).drew).on hb);have hS2:=hS.on hb;clear hS hb hm;have hS:=hS2;clear hS2;refine hK.out _ _ hS (fun _=> ?_);clear hK K;try simp only[Act.put,zT,zO,zS]
   refine rO 3 (fun K hK=> ?_);have hlk:=M7.out.look6;go_simp;refine hK.out _ _ hS (fun _=> ?_);clear hK K;refine tZ 4 rfl (by intro W hW;have hfd:=jdc;go_simp;(try with_reducible rfl)) hS ?_;simp only[Act.put,zT,zO,zS];refine rO 7 (fun K hK=> ?_);have CF:=zh (jl9 q s ru rv lo ko H _ w7 R7.out.bd r HI.out HK.out HC.out);go_simp
   with_reducible refine CF.out.mono ?_
   intro e w8 hp;obtain⟨ru8,rv8,lo8,ko8,H8,K8,rfl,hp2,hp3,hp4⟩:=hp;have P8:=zh (show jav q lo ko H (Bk.act s r) (.tuple #[]) w7 _ w8 from⟨ru8,rv8,lo8,ko8,H8,K8,rfl,hp2,hp3,hp4⟩);have NB:¬BdF q lo ko H g:=fun h=>by have:=H0.out.ltF g h;have:=GE.out;omega
   have hS2:RcAt w8 g r:=⟨(hp3.block g hS.cs.lt NB).trans hS.row⟩;clear hS hp2 hp3 hp4 NB;have hS:=hS2;clear hS2;refine hK.out _ _ hS (fun _=> ?_);clear hK K;try simp only[Act.put,zT,zO,zS]
   refine wpAnyH_done (by kernel_rfl) ?_ _;clear hS;go_wp2_with fail;go_ret;rw[AS.out,Bk.app_ok HC.out];exact(P8.out.ahead R7.out.b H0.out.ltF).ret _
  ·have HK:=zh hk
   clear hk;refine wp_region_held_drew (S:=fun W=>RcAt W g r) (by kernel_rfl) (R1.out.rc.on (Below.refl w1.heap.size w1).drew) (fun hS=> ?_);refine tY 1 hS ?_;refine tZ 2 rfl (by intro W hW;have c0:=(RcAt.cs hW).c0;rw[HK.out]at c0;have lg:=(RcAt.cs hW).lt;go_simp;(try with_reducible rfl)) hS ?_;refine tY 5 hS ?_;refine tZ 6 (v:= .agg (Rc.cells r)) rfl (fun W hW=>ja1 (.tmp 3) rfl g r rfl hW) hS ?_;simp only[Act.put,zT,zO,zS];refine rO 0 (fun K hK=> ?_);go_simp
   with_reducible refine(jat _).mono ?_
   rintro e w7 ⟨m,rfl,hm,hb⟩;have M7:=zh hm;have R7:=zh ((R1.out.on (Below.refl w1.heap.size w1).drew).on hb);have hS2:=hS.on hb;clear hS hb hm;have hS:=hS2;clear hS2;refine hK.out _ _ hS (fun _=> ?_);clear hK K;try simp only[Act.put,zT,zO,zS]
   refine rO 3 (fun K hK=> ?_);have hlk:=M7.out.look7;go_simp;refine hK.out _ _ hS (fun _=> ?_);clear hK K;refine tZ 4 rfl (by intro W hW;have hfd:=jdc;go_simp;(try with_reducible rfl)) hS ?_;simp only[Act.put,zT,zO,zS];refine rO 7 (fun K hK=> ?_);have CF:=zh (jl6 q s ru rv lo ko H _ w7 R7.out.bd r HI.out HK.out HC.out);go_simp
   with_reducible refine CF.out.mono ?_
   intro e w8 hp;obtain⟨ru8,rv8,lo8,ko8,H8,K8,rfl,hp2,hp3,hp4⟩:=hp;have P8:=zh (show jav q lo ko H (Bk.act s r) (.tuple #[]) w7 _ w8 from⟨ru8,rv8,lo8,ko8,H8,K8,rfl,hp2,hp3,hp4⟩);have NB:¬BdF q lo ko H g:=fun h=>by have:=H0.out.ltF g h;have:=GE.out;omega
   have hS2:RcAt w8 g r:=⟨(hp3.block g hS.cs.lt NB).trans hS.row⟩;clear hS hp2 hp3 hp4 NB;have hS:=hS2;clear hS2;refine hK.out _ _ hS (fun _=> ?_);clear hK K;try simp only[Act.put,zT,zO,zS]
   refine wpAnyH_done (by kernel_rfl) ?_ _;clear hS;go_wp2_with fail;go_ret;rw[AS.out,Bk.app_ok HC.out];exact(P8.out.ahead R7.out.b H0.out.ltF).ret _
 ·have hc2:(ans !=0)=true:=by simpa using hc
  have HC:Hid (Bk.chk s r≠0):=by show _≠_;rw[←AN.out];exact hc
  clear hc
  go_wp2_with(first
   |((with_reducible show zL 7);refine zR (.tmp 3) R0.out.rc ?_)
   |(go_at_call 33;(with_reducible refine CC.out.mono ?_);rintro e w1 ⟨rfl,hb⟩;have R1:=zh (R0.out.on hb);clear hb))
  go_ret;rw[AS.out,Bk.app_no HC.out];exact jav.stay H0.out R1.out.b _
def Bd.ru0:Nat→Bk.Un:=fun _=>⟨0,0,false⟩
theorem new_bd(w:World)(m:Int)(q:Nat)(hat:BdAt w q (Bk.new m) Bd.ru0 0 (.map none) (.map none) (.slice none 0 0)):BdIs w q (Bk.new m) Bd.ru0 0 none none (.slice none 0 0) Kv.St.none where
 at_:=hat
 ls:=⟨fun _=>rfl,rfl⟩
 kv:=rfl
 kg:=Kv.Good.none_
 kr:=rfl
 kb:=Int.le_refl _
 dg:=Bd.none_digs
 raw:=Bd.new_raw
 h:=OwF.none_ _ _ _
 lk:=fun m e=>by cases e
 lok:=⟨Bk.new_ok m,fun h=>absurd rfl h⟩
theorem jom(m:Int)(w:World):Calls Tryz.prog 65 #[.int .i64 m] w (fun e w'=>∃q,e= .returned (.pointer (some ⟨q,0,none⟩))∧BdIs w' q (Bk.new m) Bd.ru0 0 none none (.slice none 0 0) Kv.St.none∧w.heap.size≤q∧Below w.heap.size w w'):=by
 have C:=zh (jgp w m);generalize hmm:(Ls.new m).margin=mm at*;have HM:=zh hmm;clear hmm;go_enter Tryz.func65,Tryz.ntmps65;go_wp2_with(go_at_call 115;(with_reducible refine C.out.mono ?_);rintro e w1 ⟨rfl,hi,hb⟩;have B1:=zh hb;obtain⟨c0,c1,f1,hq⟩:=hi.cells;rw[HM.out]at c0;clear hi hb);go_ret;refine⟨w1.heap.size,rfl,new_bd _ m _ ⟨?_⟩,B1.out.size,B1.out.trans (((Below.refl w1.heap.size w1).alloc (Nat.le_refl _) _).mono B1.out.size)⟩;have e:(Bk.new m).m=mm:=HM.out;unfold Bd.cells;rw[e];exact heap_alloc_new w1 _
theorem jf2{T:Type}{enc:T→List Value}{k:Nat}{e:TypeId}(w:World):OwF enc k e (w.alloc (.cells #[] e)) w.heap.size (.slice (some ⟨w.heap.size,0,none⟩) 0 0) []:=⟨by simp,.inr ⟨w.heap.size,0,#[],rfl,Nat.le_refl _,heap_alloc_new w _,Nat.le_refl _,Nat.zero_le _,by simp,by simp⟩⟩
theorem slnil{T:Type}{enc:T→List Value}{w:World}{n c:Nat}{l:List T}(h:SlF enc w none n c l):l=[]∧n=0∧c=0:=by
 have h0:=h.nil rfl;have h1:=h.cap;have h2:=h.len;exact⟨List.eq_nil_of_length_eq_zero (by omega),by omega,h0⟩
theorem jmo(u:Bk.Un):(Bk.unC u).length=3:=rfl
theorem unC_one(u:Bk.Un):∀x∈Bk.unC u,x.oneCell'=true:=by intro x hx;simp[Bk.unC]at hx;rcases hx with rfl|rfl|rfl<;>rfl
theorem jj4(w:World)(A:Option Addr)(n c:Nat)(l:List Rc.R)(hs:SlF Bk.rcC w A n c l)(hn:n≤1000):Calls Tryz.prog 152 #[.slice A n c] w (jdv Bk.rcC l w):=by
 have hl:=hs.len;have hcap:=hs.cap;have hmax:=hs.max;have hc63:(c:Int)≤9223372036854775807:=by unfold maxLen at hmax;omega
 have hnil:=fun W a n c=>Lib.run_eql_slice_nil (P:=Tryz.prog) W 28 45 a n c 0 0 Tryz.underlying28
 cases A with
 |none=>
  obtain⟨rfl,rfl,rfl⟩:=slnil hs;clear hl hcap hmax hc63 hs hn;go_enter Tryz.func152,Tryz.ntmps152;go_wp2_with fail;go_ret;exact⟨none,0,rfl,SlF.none_ w,Below.refl _ _,fun b o e=>by cases e⟩
 |some ad=>
  have O0:=zh (jf2 (enc:=Bk.rcC) (k:=18) (e:=45) w);have hb1:Below w.heap.size w (w.alloc (.cells #[] 45)):=(Below.refl _ _).alloc (Nat.le_refl _) _;have S1:=zh (hs.on hb1);have B1:=zh hb1;have HN:=zh hn;have HL:=zh hl;clear hs hn hl hb1 hmax;go_enter Tryz.func152,Tryz.ntmps152;go_upto_region 3 with fail
  go_wp2_with(at_builtin;refine jao Bk.rcC_len Bk.rcC_one Tryz.underlying28 jak rfl (by omega) rfl (.tmp 5) (.tmp 6) rfl w.heap.size _ [] l rfl O0.out rfl S1.out (by have:=HN.out;have:=HL.out;simp;unfold maxLen;omega) (by have:=HN.out;have:=HL.out;simp;omega) (by have:=B1.out.size;omega) ?_;intro v1 w1 ho1 hb1 _ _;have O1:=zh ho1;have B2:=zh hb1;clear ho1 hb1);go_ret;obtain⟨A9,c9,hf⟩:=O1.out.form;have ho:=O1.out;rw[hf]at ho⊢;rw[List.nil_append]at ho;refine⟨A9,c9,rfl,ho.sl,B1.out.trans B2.out,fun b o e=> ?_⟩;subst e;exact(ho.lt b rfl).1
theorem jmp(q:Nat)(s:Bk.St)(ru:Nat→Bk.Un)(rv:Int)(lo ko:Option Nat)(H:Value)(K:Kv.St)(w:World)(h:BdIs w q s ru rv lo ko H K):Calls Tryz.prog 45 #[.pointer (some ⟨q,0,none⟩)] w (BRet (.agg (Bk.viewC s)) w):=by
 have A0:=zh h.at_;clear h;go_enter Tryz.func45,Tryz.ntmps45;have lq:=A0.out.lt;have hb1:Below w.heap.size w (w.alloc (.cells #[.int .i64 0,.int .i64 0,.int .i64 0,.int .i64 0,.int .i64 0,.int .i64 0,.int .i64 0,.int .i64 0,.int .i64 0,.int .i64 0,.int .i64 0,.int .i64 0,.int .i64 0,.int .i64 0,.int .i64 0,.int .i64 0,.int .i64 0,.int .i64 0,.int .i64 0,.int .i64 0,.int .i64 0,.int .i64 0] 93)):=(Below.refl _ _).alloc (Nat.le_refl _) _;have A1:=zh (A0.out.on hb1);have R1:=heap_alloc_new w (.cells #[.int .i64 0,.int .i64 0,.int .i64 0,.int .i64 0,.int .i64 0,.int .i64 0,.int .i64 0,.int .i64 0,.int .i64 0,.int .i64 0,.int .i64 0,.int .i64 0,.int .i64 0,.int .i64 0,.int .i64 0,.int .i64 0,.int .i64 0,.int .i64 0,.int .i64 0,.int .i64 0,.int .i64 0,.int .i64 0] 93);go_upto_region 3 with fail
 have B1:=zh hb1;obtain⟨g,hg⟩:∃g,g=w.heap.size:=⟨_,rfl⟩;rw[←hg]at R1⊢;clear hb1 lq;have GE:Hid (w.heap.size≤g):=Nat.le_of_eq hg.symm;clear hg;have lq:=A1.out.lt;generalize w.alloc (.cells #[.int .i64 0,.int .i64 0,.int .i64 0,.int .i64 0,.int .i64 0,.int .i64 0,.int .i64 0,.int .i64 0,.int .i64 0,.int .i64 0,.int .i64 0,.int .i64 0,.int .i64 0,.int .i64 0,.int .i64 0,.int .i64 0,.int .i64 0,.int .i64 0,.int .i64 0,.int .i64 0,.int .i64 0,.int .i64 0] 93)=W1 at*
 go_wp2_with(first
  |((with_reducible show zL 9);refine wpList_load_mid rfl 93 (.tmp 8) rfl q 4 rfl (Bk.viewC s).toList _ (jc4 A1.out) jaq rfl (jba s) ?_)
  |((with_reducible show zW);refine jbr (s:=s) rfl (.tmp 2) (.tmp 9) rfl rfl rfl R1 rfl ?_))
 exact bodyPost_ret (v:= .agg (Bk.viewC s)) (results_cell_row (P:=Tryz.prog) Tryz.results45 _ _ g 93 (Bk.viewC s) (0,0) _ rfl (setRow_heap W1 g _ _ _ _ R1) jaq rfl (jfk s)) rfl ⟨rfl,below_setRow B1.out GE.out _⟩
theorem jmq(q:Nat)(s:Bk.St)(ru:Nat→Bk.Un)(rv:Int)(lo ko:Option Nat)(H:Value)(K:Kv.St)(w:World)(h:BdIs w q s ru rv lo ko H K):Calls Tryz.prog 85 #[.pointer (some ⟨q,0,none⟩)] w (jdv Bk.rcC s.h w):=by
 have A0:=zh h.at_;have H0:=zh h;obtain⟨A,c,hH⟩:=h.form;have b74:=A0.out.cs.c74;rw[hH]at b74;have lq:=A0.out.lt;have hs:=h.h;rw[hH]at hs;have CC:=zh (jj4 w A s.h.length c s.h hs.sl (by have:=h.lok.ok.hl;omega));clear h hH hs;generalize s.h.length=n at b74 CC;go_enter Tryz.func85,Tryz.ntmps85;go_wp2_with(go_at_call 152;(with_reducible refine CC.out.mono ?_);rintro e w1 hp;obtain⟨A9,c9,rfl,p1,p2,p3⟩:=hp;have P1:=zh p1;have P2:=zh p2;have P3:=zh p3;clear p1 p2 p3);go_ret;exact⟨A9,c9,rfl,P1.out,P2.out,P3.out⟩
theorem jf3{w w':World}{X:Nat→Prop}{q:Nat}{s:Bk.St}(h:BdP w X q s)(hz:w.heap.size≤w'.heap.size)(hk:∀i,X i→w'.heap[i]? =w.heap[i]?):BdP w' X q s:=by
 obtain⟨ru,rv,lo,ko,H,K,h1,h2,h3⟩:=h;exact⟨ru,rv,lo,ko,H,K,h1.keep (hk _ (h2 _ (.inl rfl))) (fun m e=>hk _ (h2 _ (.inr (.inl e)))) (fun m e=>hk _ (h2 _ (.inr (.inr (.inl e))))) (fun m e=>hk _ (h2 _ (.inr (.inr (.inr e))))),h2,fun i hi=>Nat.lt_of_lt_of_le (h3 i hi) hz⟩
theorem jdo{w:World}{X:Nat→Prop}{q:Nat}{s:Bk.St}(h:BdP w X q s):∀i,X i→i<w.heap.size:=by
 obtain⟨ru,rv,lo,ko,H,K,h1,h2,h3⟩:=h;exact h3
theorem bdp_ok{w:World}{X:Nat→Prop}{q:Nat}{s:Bk.St}(h:BdP w X q s):Bk.Ok s:=by
 obtain⟨ru,rv,lo,ko,H,K,h1,h2,h3⟩:=h;exact h1.lok.ok
theorem jbw{w w':World}{X:Nat→Prop}{q:Nat}{s:Bk.St}(h:BdP w X q s)(hb:Below w.heap.size w w'):BdP w' X q s:=jf3 h hb.size fun i hi=>hb.block i (jdo h i hi)
theorem jiv{W:World}{X:Nat→Prop}{q:Nat}{s:Bk.St}(h:BdP W X q s)(ht:BT W)(r:Rc.R)(hr:Rc.In r):jic Tryz.prog 63 #[.pointer (some ⟨q,0,none⟩),.agg (Rc.cells r)] W (BTurn BdP X q (Bk.app s r) (.int .i64 (Bk.chk s r)) W):=by
 obtain⟨ru,rv,lo,ko,H,K,h1,h2,h3⟩:=h;exact(jid q s ru rv lo ko H K W h1 ht r hr).mono fun e w' hp=>hp.turn h2 h3
theorem jg5{W:World}{X:Nat→Prop}{q:Nat}{s:Bk.St}(h:BdP W X q s)(ht:BT W)(r:Rc.R)(hr:Rc.In r):Calls Tryz.prog 63 #[.pointer (some ⟨q,0,none⟩),.agg (Rc.cells r)] W (BTurn BdP X q (Bk.app s r) (.int .i64 (Bk.chk s r)) W):=(jiv h ht r hr).1
structure DA(w0:World)(q:Nat)(s:Bk.St)(W:World):Prop where
 bd:∃X,BdP W X q s∧∀i,X i→w0.heap.size≤i
 below:Below w0.heap.size w0 W
theorem DA.on{w0 W W':World}{q:Nat}{s:Bk.St}(h:DA w0 q s W)(hb:Below W.heap.size W W'):DA w0 q s W':=by
 obtain⟨X,h1,h2⟩:=h.bd;exact⟨⟨X,jbw h1 hb,h2⟩,h.below.trans (hb.mono h.below.size)⟩
theorem DA.app{w0 W:World}{q:Nat}{s:Bk.St}(h:DA w0 q s W)(ht:BT W)(r:Rc.R)(hr:Rc.In r):Calls Tryz.prog 63 #[.pointer (some ⟨q,0,none⟩),.agg (Rc.cells r)] W (fun e w'=>e= .returned (.int .i64 (Bk.chk s r))∧DA w0 q (Bk.app s r) w'):=by
 obtain⟨X,h1,h2⟩:=h.bd;refine(jg5 h1 ht r hr).mono fun e w' hp=> ?_;obtain⟨X',e1,e2,e3,e4⟩:=hp;refine⟨e1,⟨X',e2,fun i hi=> ?_⟩,h.below.trans (e4.below h.below.size h2)⟩;rcases e3 i hi with h5|h5
 ·exact h2 i h5
 ·exact Nat.le_trans h.below.size h5
theorem DA.new(w:World)(m:Int):Calls Tryz.prog 65 #[.int .i64 m] w (fun e w'=>∃q,e= .returned (.pointer (some ⟨q,0,none⟩))∧DA w q (Bk.new m) w'):=by
 refine(jom m w).mono fun e w' hp=> ?_;obtain⟨q,rfl,h1,h2,h3⟩:=hp;refine⟨q,rfl,⟨BdF q none none (.slice none 0 0),⟨_,_,_,_,_,_,h1,fun i hi=>hi,h1.ltF⟩,fun i hi=> ?_⟩,h3⟩;rcases hi with rfl|e|e|e
 ·exact h2
 ·cases e
 ·cases e
 ·cases e
theorem jec(m:Int)(A:Option Addr)(k c:Nat)(l:List Rc.R)(hin:∀r∈l,Rc.In r)(w:World)(hs:SlF Bk.rcC w A k c l)(hk:k≤100000)(ht:BT w):Calls Tryz.prog 25 #[.int .i64 m,.slice A k c] w (jn3 BdP (Bk.all m l) (fun p=> .tuple #[p,.int .i64 (Bk.allN m l:Nat)]) w):=by
 have CN:=zh (DA.new w m);have S0:=zh hs;have HI:=zh hin;have HL:=zh hs.len;have T0:=zh ht;have hcap:=hs.cap;clear hs hin ht;go_enter Tryz.func25,Tryz.ntmps25;go_upto_region 2 with(go_at_call 65;(with_reducible refine CN.out.mono ?_);rintro e w1 ⟨q,rfl,hd⟩;have D1:=zh hd;clear hd)
 go_wp2_with fail;go_loopw [7,14] (fun v i wr=>∃j:Nat,j≤k∧i= .int .i64 j∧v= .int .i64 (Bk.cnt (Bk.new m) (l.take j):Nat)∧DA w q (Bk.run (Bk.new m) (l.take j)) wr) (fun _ i _=>k -(intOf i).toNat)
 case atStart=>exact⟨0,Nat.zero_le _,rfl,rfl,D1.out⟩
 case round=>
  obtain⟨j,hj,rfl,rfl,hd⟩:=hrel;have D:=zh hd;clear hd;have i1:(0:Int)≤(j:Int):=by omega
  by_cases hlt:j<k
  ·have hx:l[j]? =some (l[j]'(by have:=HL.out;omega)):=List.getElem?_eq_getElem _
   have HT:=zh (Bk.take_run (Bk.new m) l (k:=j) (by have:=HL.out;omega));generalize l[j]'(by have:=HL.out;omega)=r at hx HT;have HR:Hid (Rc.In r):=HI.out r (List.mem_of_getElem? hx);have cl:(Bk.cnt (Bk.new m) (l.take j):Int)≤100000:=by
    have:=Bk.cnt_le (Bk.new m) (l.take j);rw[List.length_take]at this;omega
   have cl0:(0:Int)≤(Bk.cnt (Bk.new m) (l.take j):Int):=by omega
   have S1:=zh (S0.out.on D.out.below);have q1:((j:Nat):Int)<(k:Nat):=by omega
   have q2:((k:Nat):Int)≤100000:=by omega
   have HLT:=zh hlt;obtain⟨b,o,rfl,hbl,hrg⟩:=jbi S1.out hx;have RG:=zh hrg;clear hx hrg hlt;generalize Bk.run (Bk.new m) (l.take j)=s at*;generalize Bk.cnt (Bk.new m) (l.take j)=cn at*;go_upto_region 5 with(first
    |((with_reducible show zL 17);refine ja5 rfl (.tmp 16) rfl b (o+j*18) (by simp[Act.eval,go_sem]) r RG.out ?_)
    |((with_reducible show zW);refine jac rfl (.tmp 9) (.tmp 17) rfl wr.heap.size r Rc.none_ rfl rfl ⟨heap_alloc_new wr _⟩ ?_))
   rw[World.setRow_alloc_new];have RA:=zh (RcAt.new wr r);have hb:Below wr.heap.size wr (wr.alloc (.cells (Rc.cells r) 45)):=(Below.refl _ _).alloc (Nat.le_refl _) _;have D2:=zh (D.out.on hb);clear RG S1;obtain⟨g,hg⟩:∃g,g=wr.heap.size:=⟨_,rfl⟩;rw[←hg]at RA⊢;clear hg hb;generalize wr.alloc (.cells (Rc.cells r) 45)=w2 at*;have CP:=zh (D2.out.app (T0.out.on D2.out.below) r HR.out);have CK:Hid (Bk.chk s r=0∨Bk.chk s r≠0):=Decidable.em _;have HC:Hid (∃z,z=Bk.chk s r):=⟨_,rfl⟩;obtain⟨z,hz⟩:=HC.out;rw[←hz]at CP HT CK;have HZ:=zh hz;clear hz HC;rcases CK.out with h0|h0
   ·have q3:(z==0)=true:=by simpa using h0
    have E1:=zh (HT.out.2.trans (by rw[if_pos h0]));clear h0
    go_wp2_with(first
     |((with_reducible show zL 19);refine zR (.tmp 9) RA.out ?_)
     |(go_at_call 63;(with_reducible refine CP.out.mono ?_);rintro e w3 ⟨rfl,hd⟩;have D3:=zh hd;clear hd))
    exact⟨⟨j+1,by have:=HLT.out;omega,by go_num,by rw[E1.out];go_num,by rw[HT.out.1];exact D3.out⟩,by simp[intOf];have:=HLT.out;omega⟩
   ·have q3:(z==0)=false:=by simpa using h0
    have E1:=zh (HT.out.2.trans (by rw[if_neg h0]));clear h0
    go_wp2_with(first
     |((with_reducible show zL 19);refine zR (.tmp 9) RA.out ?_)
     |(go_at_call 63;(with_reducible refine CP.out.mono ?_);rintro e w3 ⟨rfl,hd⟩;have D3:=zh hd;clear hd))
    exact⟨⟨j+1,by have:=HLT.out;omega,by go_num,by rw[E1.out];go_num,by rw[HT.out.1];exact D3.out⟩,by simp[intOf];have:=HLT.out;omega⟩
  ·have q1:((k:Nat):Int)≤(j:Nat):=by omega
   have e:l.take j=l:=List.take_of_length_le (by have:=HL.out;omega);rw[e]at D⊢;go_wp2_with fail;go_ret2;obtain⟨⟨X,h1,h2⟩,h3⟩:=D.out;exact⟨q,X,rfl,h1,h2,h3⟩
def inC(n:Int):List Value:=[.int .i64 n]
theorem inC_len(n:Int):(inC n).length=1:=rfl
theorem inC_one(n:Int):∀u∈inC n,u.oneCell'=true:=by intro u hu;rw[List.mem_singleton.1 hu];rfl
theorem jmr(l:List Int):l.flatMap inC=l.map (Value.int .i64):=by
 induction l with
 |nil=>rfl
 |cons x l ih=>rw[List.flatMap_cons,ih];rfl
theorem jms:(Tryz.prog.info? 3).map (fun i=>(i.zero,i.size,i.bytes))=some (some (.int .i64 0),1,8):=by kernel_rfl
def jj5(l:List Int):List Int:=l.mergeSort fun x y=>decide (x≤y)
theorem jcu(l:List Int):(jj5 l).length=l.length:=List.length_mergeSort l
theorem jj6{l L:List Int}(h:l.Perm L)(hr:L.Pairwise fun a b=>a<b):jj5 l=L:=by
 unfold jj5;refine List.Perm.eq_of_pairwise (le:=fun a b=>decide (a≤b)=true) (fun a b _ _ h1 h2=> ?_) (List.pairwise_mergeSort (fun a b c h1 h2=> ?_) (fun a b=> ?_) _) (hr.imp fun{a b} h=> ?_) ((List.mergeSort_perm l _).trans h)
 ·rw[decide_eq_true_eq]at h1 h2;omega
 ·rw[decide_eq_true_eq]at*;omega
 ·rw[Bool.or_eq_true,decide_eq_true_eq,decide_eq_true_eq];omega
 ·rw[decide_eq_true_eq];omega
theorem jmt{w:World}{B:Nat}{v:Value}{ns:List Int}(h:OwF inC 1 3 w B v ns)(hz:ns.length≤1000000):
  Calls Tryz.prog 158 #[v] w fun en w'=>en= .returned (.tuple #[])∧OwF inC 1 3 w' B v (jj5 ns)∧w.grownBy w' v.ownBlock:=by
 rcases h.2 with⟨rfl,h0⟩|⟨g,cap,cur,rfl,hbase,hb,c1,c2,c3,c4⟩
 ·obtain rfl:ns=[]:=List.eq_nil_of_length_eq_zero h0
  refine(Tryz.slices_Sort_int_none none 0 w).mono fun en w' ⟨he,hw⟩=>⟨he,?_,?_⟩
  ·rw[show jj5 []=[]from List.eq_nil_of_length_eq_zero (jcu [])]
   exact OwF.none_ _ _ _
  ·subst hw
   exact⟨rfl,rfl,rfl,Nat.le_refl _,fun i hi _=>rfl⟩
 ·rw[Nat.mul_one,jmr]at c4
  refine(Tryz.slices_Sort_int g 0 cap ns w (holds_of_blockI hb c4) (Array.getElem?_eq_some_iff.1 hb).1 (by omega)).mono fun en w' ⟨he,n,os,hw⟩=>⟨he,?_,?_⟩
  ·subst hw
   have h6:=ownsRow_sortedI (base:=B) (g:=g) (cap:=cap) (n:=n) (os:=os) (ss:=ns) (ts:=jj5 ns) (jcu ns) hbase hb c1 c2 c3;unfold OwF;rw[jcu,jmr];exact h6
  ·subst hw
   exact grownBy_sortedI _
def jdd(t:ByteArray):Int:=(Lib.atoi t.data.toList).getD 0
theorem jg6(n:Int):Lib.atoi (Bd.key n).data.toList=some n:=by
 unfold Bd.key;rw[Spc.txt_bts,←Spc.itoa_is,Spc.atoi_itoa]
structure Nums(K:Kv.St)(vs:List Bk.Vn):Prop where
 perm:((Kv.keysOf K.l).map jdd).Perm (vs.map (·.n))
 key:∀k∈Kv.keysOf K.l,k.size≤18∧Lib.atoi k.data.toList=some (jdd k)
theorem jmu{K:Kv.St}{vs:List Bk.Vn}(h:Bd.Digs K vs)(hv:∀v∈vs,1≤v.n∧v.n≤1048576∧v.t.size≤64):Nums K vs:=by
 refine⟨?_,fun k hk=> ?_⟩
 ·refine(h.keys.map jdd).trans ?_
  rw[List.map_map];have:(jdd∘fun v:Bk.Vn=>Bd.key v.n)=fun v=>v.n:=by funext v;show jdd (Bd.key v.n)=v.n;unfold jdd;rw[jg6];rfl
  rw[this]
 ·obtain⟨v,hm,rfl⟩:=List.mem_map.1 (h.keys.mem_iff.1 hk)
  have h1:=hv v hm;refine⟨?_,?_⟩
  ·have:=Bd.key_ten (n:=v.n) (by omega) (by omega)
   unfold Bd.key;rw[jce];omega
  ·unfold jdd
   rw[jg6];rfl
theorem jon{k:ByteArray}(h:k.size≤18∧Lib.atoi k.data.toList=some (jdd k))(w:World):Calls Tryz.prog 157 #[.string k] w (BRet (.tuple #[.int .i64 (jdd k),.nilIface]) w):=by
 refine(Tryz.strconv_Atoi k (jdd k) h.1 h.2 w).mono ?_;rintro e w' ⟨rfl,t,rfl⟩;exact⟨rfl,Joins.below_bytesWorld _ _ _ _ (Nat.le_refl _)⟩
theorem jmv(q:Nat)(s:Bk.St)(ru:Nat→Bk.Un)(rv:Int)(lo ko:Option Nat)(H:Value)(K:Kv.St)(w:World)(h:BdIs w q s ru rv lo ko H K):Calls Tryz.prog 89 #[.pointer (some ⟨q,0,none⟩)] w (jdv (fun n:Int=>[.int .i64 n]) (s.vs.map (·.n)) w):=by
 have CK:=zh (jfh w _ ko K h.kvIs.ask);have NP:=zh (jmu h.dg h.lok.ok.vs).perm;have NK:=zh (jmu h.dg h.lok.ok.vs).key;have RI:=zh h.lok.ok.rise;have HL:Hid ((Kv.keysOf K.l).length≤64):=by show _≤_;unfold Kv.keysOf;rw[List.length_map];exact h.kg.len
 have H0:=zh h;have lq:=h.lt.1;clear h;unfold KTx at CK;generalize Kv.keysOf K.l=ks at*;go_enter Tryz.func89,Tryz.ntmps89;go_upto_region 4 with fail
 generalize hv0:Value.slice none 0 0=v0;have HV:=zh hv0;clear hv0;go_wp2_with(go_at_call 156;(with_reducible refine CK.out.mono ?_);rintro e w1 hp;obtain⟨v1,rfl,ho,hb⟩:=hp;obtain⟨A9,c9,rfl,s9⟩:=(jh1.any (w1:=w1) ho).slr ETx.on (Below.refl _ _);have SK:=zh s9;have B1:=zh hb;clear ho hb s9);go_loopw [3,15] (fun v i wr=>∃j:Nat,j≤ks.length∧i= .int .i64 j∧OwF inC 1 3 wr w1.heap.size v ((ks.take j).map jdd)∧Below w1.heap.size w1 wr) (fun v i wr=>ks.length -(intOf i).toNat)
 case atStart=>exact⟨0,Nat.zero_le _,rfl,by rw[←HV.out];exact OwF.none_ _ _ _,Below.refl _ _⟩
 case round=>
  obtain⟨j,hj,rfl,ho,hbr⟩:=hrel;have O:=zh ho;have B:=zh hbr;clear ho hbr;have i1:(0:Int)≤(j:Int):=by omega
  by_cases hlt:j<ks.length
  ·have hx:ks[j]? =some ks[j]:=List.getElem?_eq_getElem hlt
   have NX:Hid (((ks.take (j+1)).map jdd)=(ks.take j).map jdd++[jdd ks[j]]):=by show _=_;rw[List.take_add_one,hx,List.map_append];rfl
   obtain⟨b,o,rfl⟩:=(SK.out).addr (by omega);have S2:=zh (SlR.on ETx.on SK.out B.out);obtain⟨hbl,cs,hcl,hce,hE⟩:=S2.out.cell hlt;have hE2:cs=[.string ks[j]]:=hE;subst hE2;have e0:=hce 0 (by omega);simp only[Nat.mul_one,Nat.add_zero,List.getElem?_cons_zero]at e0;have CA:=zh (fun W=>jon (NK.out ks[j] (List.getElem_mem hlt)) W);generalize ks[j]=x at*;have q1:((j:Nat):Int)<(ks.length:Nat):=by omega
   have q2:((ks.length:Nat):Int)≤64:=by have:=HL.out;omega
   have LT:=zh hlt;clear hx hce hE hcl hlt;go_upto_region 8 with(go_at_call 157;(with_reducible refine(CA.out _).mono ?_);rintro e w2 ⟨rfl,hb2⟩;have B2:=zh hb2;clear hb2)
   have O2:=zh (O.out.below B2.out);have B3:=zh (B.out.trans (B2.out.mono B.out.size));generalize jdd x=n at*;clear CA e0
   go_wp2_with(first
    |((with_reducible show zB 26);refine jah Tryz.underlying137 jms (by omega) (by omega) rfl (.tmp 25) rfl #[.int .i64 n] rfl rfl ?_)
    |(at_builtin;refine jad inC_len inC_one Tryz.underlying137 jms rfl (by omega) rfl (.tmp 24) (.tmp 26) rfl w1.heap.size _ _ rfl O2.out n rfl (by have:=HL.out;have:=LT.out;rw[List.length_map,List.length_take];unfold maxLen;omega) (by have:=HL.out;have:=LT.out;rw[List.length_map,List.length_take];omega) B3.out.size ?_;intro v9 w9 ho9 hb9 _ _;have O9:=zh ho9;have B9:=zh (B3.out.trans hb9);clear ho9 hb9))
   have hq:=LT.out;have hq2:=HL.out;refine⟨⟨j+1,by omega,by go_num,?_,B9.out⟩,by simp[intOf];omega⟩;rw[NX.out];exact O9.out
  ·have q1:((ks.length:Nat):Int)≤(j:Nat):=by omega
   obtain rfl:j=ks.length:=by omega
   have O1:=O.out;rw[List.take_length]at O1;have O2:=zh O1;clear O1;have CS:=zh (jmt O2.out (by rw[List.length_map];have:=HL.out;omega));go_wp2_with(go_at_call 158;(with_reducible refine CS.out.mono ?_);rintro e w3 ⟨rfl,ho3,hg3⟩;have O3:=zh ho3;have G3:=zh hg3;clear ho3 hg3);go_ret;rw[jj6 NP.out (List.pairwise_map.2 RI.out)]at O3;have BW:Below w1.heap.size wr w3:=(Below.refl wr.heap.size wr|>.mono B.out.size).grown G3.out B.out.size (fun k hk=>(O2.out.lt k hk).1);have BZ:=B1.out.trans ((B.out.trans BW).mono B1.out.size);obtain⟨AF,cF,rfl⟩:=O3.out.form;refine⟨AF,cF,rfl,O3.out.sl,BZ,fun b o e=> ?_⟩;subst e;have:=(O3.out.lt b rfl).1;have:=B1.out.size;omega
def Bd.mix(ru:Nat→Bk.Un)(j:Nat):List Bk.Un:=(List.range 16).map fun i=>if i<j then Bd.told (ru i)else ru i
theorem jmw{ru:Nat→Bk.Un}{s:Bk.St}(h:Bd.Raw ru s.us):Bd.mix ru 16=Bk.units s:=by
 unfold Bd.mix Bk.units;refine List.map_congr_left fun i hi=> ?_;rw[if_pos (List.mem_range.1 hi),(h i (List.mem_range.1 hi)).1]
theorem mix_set(ru:Nat→Bk.Un){j:Nat}(hj:j<16):((Bd.mix ru j).flatMap Bk.unC).set (j*3+2) (.bool ((ru j).d|| decide ((ru j).q=0)))=(Bd.mix ru (j+1)).flatMap Bk.unC:=by
 rcases j with _|_|_|_|_|_|_|_|_|_|_|_|_|_|_|_|j
 all_goals first|rfl|omega
theorem mix_get(ru:Nat→Bk.Un){j:Nat}(hj:j<16):((Bd.mix ru j).flatMap Bk.unC)[j*3]? =some (.int .i64 (ru j).v)∧((Bd.mix ru j).flatMap Bk.unC)[j*3+1]? =some (.int .i64 (ru j).q)∧((Bd.mix ru j).flatMap Bk.unC)[j*3+2]? =some (.bool (ru j).d):=by
 rcases j with _|_|_|_|_|_|_|_|_|_|_|_|_|_|_|_|j
 all_goals first|exact⟨rfl,rfl,rfl⟩|omega
theorem jmx{w:World}{q:Nat}{s:Bk.St}{ru:Nat→Bk.Un}{rv:Int}{lm km H:Value}(h:BdAt w q s ru rv lm km H):SlF Bk.unC w (some ⟨q,26,none⟩) 16 16 (Bd.mix ru 0):=by
 refine⟨fun _=>⟨q,26,rfl,h.lt,fun j u hj=> ?_⟩,rfl,Nat.le_refl _,by unfold maxLen;omega,fun e=>by cases e⟩;have hl:j<48:=(List.getElem?_eq_some_iff.1 hj).1;rw[cell_of_row w q _ _ _ _ h.row];rcases j with _|_|_|_|_|_|_|_|_|_|_|_|_|_|_|_|_|_|_|_|_|_|_|_|_|_|_|_|_|_|_|_|_|_|_|_|_|_|_|_|_|_|_|_|_|_|_|_|j
 all_goals first|exact hj|omega
theorem jj7(w:World)(q o:Nat)(l:List Bk.Un)(hs:SlF Bk.unC w (some ⟨q,o,none⟩) 16 16 l):Calls Tryz.prog 153 #[.slice (some ⟨q,o,none⟩) 16 16] w (fun e w'=>∃g c,e= .returned (.slice (some ⟨g,0,none⟩) 16 c)∧w'.ownsRow w.heap.size 37 3 (.slice (some ⟨g,0,none⟩) 16 c) 16 (l.flatMap Bk.unC)∧Below w.heap.size w w'):=by
 have hl:=hs.len;have hnil:=fun W a n c=>Lib.run_eql_slice_nil (P:=Tryz.prog) W 154 37 a n c 0 0 Tryz.underlying154;have O0:=zh (jf2 (enc:=Bk.unC) (k:=3) (e:=37) w);have hb1:Below w.heap.size w (w.alloc (.cells #[] 37)):=(Below.refl _ _).alloc (Nat.le_refl _) _;have S1:=zh (hs.on hb1);have B1:=zh hb1;have HL:=zh hl;clear hs hl hb1;go_enter Tryz.func153,Tryz.ntmps153;go_upto_region 3 with fail
 go_wp2_with(at_builtin;refine jao jmo unC_one Tryz.underlying154 jk2 rfl (by omega) rfl (.tmp 5) (.tmp 6) rfl w.heap.size _ [] l rfl O0.out rfl S1.out (by have:=HL.out;simp;unfold maxLen;omega) (by have:=HL.out;simp;omega) (by have:=B1.out.size;omega) ?_;intro v1 w1 ho1 hb1 _ _;have O1:=zh ho1;have B2:=zh hb1;clear ho1 hb1);go_ret;have ho:=O1.out;rw[List.nil_append]at ho;have h16:=ho;unfold OwF at h16;rw[←HL.out]at h16;obtain⟨g,c,rfl⟩:=Joins.ownsRow_form h16 (by omega);exact⟨g,c,rfl,h16,B1.out.trans B2.out⟩
theorem jj8(q:Nat)(s:Bk.St)(ru:Nat→Bk.Un)(rv:Int)(lo ko:Option Nat)(H:Value)(K:Kv.St)(w:World)(h:BdIs w q s ru rv lo ko H K):Calls Tryz.prog 86 #[.pointer (some ⟨q,0,none⟩)] w (jdv Bk.unC (Bk.units s) w):=by
 have A0:=zh h.at_;have HR:=zh (jmw h.raw);have CC:=zh (jj7 w q 26 _ (jmx h.at_));have lq:=h.lt.1;clear h;go_enter Tryz.func86,Tryz.ntmps86;go_upto_region 3 with fail
 go_wp2_with(go_at_call 153;(with_reducible refine CC.out.mono ?_);rintro e w1 hp;obtain⟨g,c9,rfl,ho,hb⟩:=hp;have O1:=zh ho;have B1:=zh hb;clear ho hb);go_loopw [15] (fun i wr=>∃j:Nat,j≤16∧i= .int .i64 j∧wr.ownsRow w.heap.size 37 3 (.slice (some ⟨g,0,none⟩) 16 c9) 16 ((Bd.mix ru j).flatMap Bk.unC)∧Below w.heap.size w wr) (fun i wr=>16 -(intOf i).toNat)
 case atStart=>exact⟨0,Nat.zero_le _,rfl,O1.out,B1.out⟩
 case round=>
  obtain⟨j,hj,rfl,ho,hbr⟩:=hrel;have O:=zh ho;have B:=zh hbr;clear ho hbr;have i1:(0:Int)≤(j:Int):=by omega
  by_cases hlt:j<16
  ·have q1:((j:Nat):Int)<16:=by omega
   have lg:=(O.out.lt g rfl).2;have lb:=(O.out.lt g rfl).1;have hm:=mix_get ru hlt;have u0:=(O.out.cellAt (j*3) (by omega)).trans hm.1;have u1:=(O.out.cellAt (j*3+1) (by omega)).trans hm.2.1;have u2:=(O.out.cellAt (j*3+2) (by omega)).trans hm.2.2;have MS:=zh (mix_set ru hlt);clear hm;generalize(ru j).v=uv at*;generalize(ru j).q=uq at*;generalize(ru j).d=ud at*;go_upto_region 7 with fail
   have hb2:Below wr.heap.size wr (wr.alloc (.cells #[.int .i64 uv,.int .i64 uq,.bool ud] 37)):=(Below.refl _ _).alloc (Nat.le_refl _) _;have hn:(wr.alloc (.cells #[.int .i64 uv,.int .i64 uq,.bool ud] 37)).heap[wr.heap.size]? =some (.cells #[.int .i64 uv,.int .i64 uq,.bool ud] 37 (0,0)):=heap_alloc_new wr _;have B2:=zh (B.out.trans (hb2.mono B.out.size));have O2:=zh (World.ownsRow.alloc O.out (.cells #[.int .i64 uv,.int .i64 uq,.bool ud] 37));have e1:(wr.alloc (.cells #[.int .i64 uv,.int .i64 uq,.bool ud] 37)).cell? ⟨wr.heap.size,1,none⟩=some (.int .i64 uq):=by rw[cell_of_row _ wr.heap.size 1 _ _ _ hn];rfl
   have e2:(wr.alloc (.cells #[.int .i64 uv,.int .i64 uq,.bool ud] 37)).cell? ⟨wr.heap.size,2,none⟩=some (.bool ud):=by rw[cell_of_row _ wr.heap.size 2 _ _ _ hn];rfl
   have ec:=(World.ownsRow.alloc O.out (.cells #[.int .i64 uv,.int .i64 uq,.bool ud] 37)).cellAt (j*3+2) (by omega);have fc:=(World.ownsRow.alloc O.out (.cells #[.int .i64 uv,.int .i64 uq,.bool ud] 37)).frozenAt (j*3+2);have ec2:=ec.trans ((O.out.cellAt (j*3+2) (by omega)).symm.trans u2);clear hb2 hn u0 u1 u2 ec;generalize wr.alloc (.cells #[.int .i64 uv,.int .i64 uq,.bool ud] 37)=W2 at*;obtain⟨g2,hg2⟩:∃g2,g2=wr.heap.size:=⟨_,rfl⟩;rw[←hg2]at e1 e2⊢;clear hg2;have FIN:Hid (∀b,b=(ud|| decide (uq=0))→(W2.setCell ⟨g,j*3+2,none⟩ (.bool b)).ownsRow w.heap.size 37 3 (.slice (some ⟨g,0,none⟩) 16 c9) 16 ((Bd.mix ru (j+1)).flatMap Bk.unC)∧Below w.heap.size w (W2.setCell ⟨g,j*3+2,none⟩ (.bool b))):=by
    intro b hb;have h1:=(O2.out.stored (j*3+2) (.bool b)).1;rw[hb,MS.out]at h1;exact⟨hb▸h1,B2.out.setCell (p:=⟨g,j*3+2,none⟩) lb _⟩
   clear MS
   cases ud with
   |true=>
    go_wp2_with fail;refine⟨⟨j+1,by omega,by go_num,(FIN.out true (by simp)).1,(FIN.out true (by simp)).2⟩,by simp[intOf];omega⟩
   |false=>
    by_cases h0:uq=0
    ·have q2:(uq==0)=true:=by simpa using h0
     go_wp2_with fail;refine⟨⟨j+1,by omega,by go_num,(FIN.out true (by simp[h0])).1,(FIN.out true (by simp[h0])).2⟩,by simp[intOf];omega⟩
    ·have q2:(uq==0)=false:=by simpa using h0
     go_wp2_with fail;refine⟨⟨j+1,by omega,by go_num,(FIN.out false (by simp[h0])).1,(FIN.out false (by simp[h0])).2⟩,by simp[intOf];omega⟩
  ·have q1:(16:Int)≤(j:Nat):=by omega
   obtain rfl:j=16:=by omega
   have O2:=O.out;rw[HR.out]at O2;have O3:OwF Bk.unC 3 37 wr w.heap.size (.slice (some ⟨g,0,none⟩) 16 c9) (Bk.units s):=O2;have O4:=zh O3;clear O2 O3;go_wp2_with fail;go_ret;refine⟨_,c9,rfl,O4.out.sl,B.out,fun b o e=> ?_⟩;injection e with e
   injection e with e
   subst e;exact(O4.out.lt g rfl).1
abbrev BP(w0:World)(F:Nat→Prop)(q:Nat)(s:Bk.St)(W:World):Prop:=BAt BdP w0 F q s W
section
variable{w0 W W':World}{F G:Nat→Prop}{q:Nat}{s:Bk.St}
theorem jby(h:BP w0 F q s W)(hb:Below W.heap.size W W'):BP w0 F q s W':=by
 obtain⟨X,h1,h2,h3,h4⟩:=h;exact⟨X,jbw h1 hb,h2,fun b hb2=>⟨(h3 b hb2).1,Nat.lt_of_lt_of_le (h3 b hb2).2 hb.size⟩,h4.trans (hb.mono h4.size)⟩
theorem joo(h:BP w0 F q s W):Bk.Ok s:=by
 obtain⟨X,h1,h2,h3,h4⟩:=h;exact bdp_ok h1
theorem ja9(h:BP w0 F q s W):Below w0.heap.size w0 W:=by
 obtain⟨X,h1,h2,h3,h4⟩:=h;exact h4
theorem jdy(h:BP w0 F q s W)(hG:∀b,G b→F b):BP w0 G q s W:=by
 obtain⟨X,h1,h2,h3,h4⟩:=h;exact⟨X,h1,h2,fun b hb=>h3 b (hG b hb),h4⟩
theorem bp_more(h:BP w0 F q s W)(hb:Below W.heap.size W W'):BP w0 (fun b=>F b∨(W.heap.size≤b∧b<W'.heap.size)) q s W':=by
 obtain⟨X,h1,h2,h3,h4⟩:=h;refine⟨X,jbw h1 hb,h2,fun b hb2=> ?_,h4.trans (hb.mono h4.size)⟩;rcases hb2 with hf|⟨hge,hlt⟩
 ·exact⟨(h3 b hf).1,Nat.lt_of_lt_of_le (h3 b hf).2 hb.size⟩
 ·exact⟨fun hx=>by have:=jdo h1 b hx;omega,hlt⟩
theorem bp_both(h:BP w0 F q s W)(ht:BT W){r:Rc.R}(hr:Rc.In r):jic Tryz.prog 63 #[.pointer (some ⟨q,0,none⟩),.agg (Rc.cells r)] W (BRes BdP w0 F q (Bk.app s r) (.int .i64 (Bk.chk s r)) W):=by
 obtain⟨X,h1,h2,h3,h4⟩:=h;refine(jiv h1 ht r hr).mono fun _ w' hp=> ?_;obtain⟨X',e1,e2,e3,e4⟩:=hp;refine⟨e1,⟨X',e2,fun i hi=> ?_,fun b hb=>⟨fun hx=> ?_,Nat.lt_of_lt_of_le (h3 b hb).2 e4.size⟩,h4.trans (e4.below h4.size h2)⟩,fun b hb=>e4.block b (h3 b hb).2 (h3 b hb).1⟩
 ·rcases e3 i hi with h|h
  ·exact h2 i h
  ·exact Nat.le_trans h4.size h
 ·rcases e3 b hx with h|h
  ·exact(h3 b hb).1 h
  ·have:=(h3 b hb).2;omega
theorem jiw(h:BP w0 F q s W)(ht:BT W){r:Rc.R}(hr:Rc.In r):Calls Tryz.prog 63 #[.pointer (some ⟨q,0,none⟩),.agg (Rc.cells r)] W (BRes BdP w0 F q (Bk.app s r) (.int .i64 (Bk.chk s r)) W):=(bp_both h ht hr).1
theorem bp_new(w:World)(m:Int):Calls Tryz.prog 65 #[.int .i64 m] w (fun e w'=>∃q,e= .returned (.pointer (some ⟨q,0,none⟩))∧BP w (fun _=>False) q (Bk.new m) w'):=by
 refine(DA.new w m).mono fun e w' hp=> ?_;obtain⟨q,rfl,⟨X,h1,h2⟩,h3⟩:=hp;exact⟨q,rfl,X,h1,h2,fun b hb=>hb.elim,h3⟩
theorem jmy(h:BP w0 F q s W):Calls Tryz.prog 45 #[.pointer (some ⟨q,0,none⟩)] W (BRet (.agg (Bk.viewC s)) W):=by
 obtain⟨X,⟨ru,rv,lo,ko,H,K,h1,_⟩,_⟩:=h;exact jmp q s ru rv lo ko H K W h1
theorem jix(h:BP w0 F q s W):Calls Tryz.prog 86 #[.pointer (some ⟨q,0,none⟩)] W (jdv Bk.unC (Bk.units s) W):=by
 obtain⟨X,⟨ru,rv,lo,ko,H,K,h1,_⟩,_⟩:=h;exact jj8 q s ru rv lo ko H K W h1
theorem jmz(h:BP w0 F q s W):Calls Tryz.prog 85 #[.pointer (some ⟨q,0,none⟩)] W (jdv Bk.rcC s.h W):=by
 obtain⟨X,⟨ru,rv,lo,ko,H,K,h1,_⟩,_⟩:=h;exact jmq q s ru rv lo ko H K W h1
theorem jf4(h:BP w0 F q s W):Calls Tryz.prog 89 #[.pointer (some ⟨q,0,none⟩)] W (jdv (fun n:Int=>[.int .i64 n]) (s.vs.map (·.n)) W):=by
 obtain⟨X,⟨ru,rv,lo,ko,H,K,h1,_⟩,_⟩:=h;exact jmv q s ru rv lo ko H K W h1
theorem jie{m:Int}{l:List Rc.R}{f:Value→Value}{w w':World}{e:Ending}(h:jn3 BdP (Bk.all m l) f w e w'):∃q,e= .returned (f (.pointer (some ⟨q,0,none⟩)))∧BP w (fun _=>False) q (Bk.all m l) w':=by
 obtain⟨q,X,rfl,h1,h2,h3⟩:=h;exact⟨q,rfl,X,h1,h2,fun b hb=>hb.elim,h3⟩
end
theorem jbk{P:Program}{ops:Array Oper}{rest:List Oper}{o:Oper}{a:Act}{w:World}{Q:Exit→Act→World→Prop}(hg:o.guard=none)(t:TypeId)(parts:Array (Nat×Operand))(ho:o.op= .build t parts)(cells:Array Value)
  (hf:P.built t (parts.map fun(i,x)=>(i,a.eval x)).toList=some cells) (h:wpList P ops Q rest (a.put o.dst (.agg cells)) w):wpList P ops Q (o::rest) a w:=
 wpList_plain hg fun _ hK=>by
  unfold Oper.wp execOp;simp only[ho,Sem.run_bind,run_build w t _ cells hf,Result.andThen_ok];exact hK _ _ h
theorem vf3(s:Bk.St)(w:World):(Instr.field 93 (.agg (Bk.viewC s)) 3).run Tryz.prog w= .ok (.int .i64 s.stable) w:=by
 simp[Instr.field,run_underlying Tryz.underlying93,asAgg,part,isAgg,run_underlying Tryz.underlying3,go_sem,Bk.viewC]
theorem vf5(s:Bk.St)(w:World):(Instr.field 93 (.agg (Bk.viewC s)) 5).run Tryz.prog w= .ok (.int .i64 s.ph) w:=by
 simp[Instr.field,run_underlying Tryz.underlying93,asAgg,part,isAgg,run_underlying Tryz.underlying3,go_sem,Bk.viewC]
def lvr1:Rc.R:=⟨1,1,0,0,9,⟨#[]⟩,⟨0,0,0,0,0,0,0,0,0,0,0,0⟩⟩
def lvr2:Rc.R:=⟨2,1,0,1,0,⟨#[120]⟩,⟨0,0,0,0,0,0,0,0,0,0,0,0⟩⟩
def lvsp:Spc.Sp:=⟨1,1,1,0,1,0,0,0,0,1,0,9⟩
def lvr3:Rc.R:=⟨3,1,0,0,0,⟨#[]⟩,lvsp⟩
def lvr4:Rc.R:=⟨4,1,0,3,0,⟨#[100,111,110,101]⟩,⟨0,0,0,0,0,0,0,0,0,0,0,0⟩⟩
def lvrs:List Rc.R:=[lvr1,lvr2,lvr3,lvr4]
theorem lvrs_n:Bk.allN 2 lvrs=4:=by kernel_rfl
theorem jif:(Bk.all 2 lvrs).stable=1:=by kernel_rfl
theorem lvrs_ph:(Bk.all 2 lvrs).ph=3:=by kernel_rfl
theorem lvrs_h:(Bk.all 2 lvrs).h.length=2:=by kernel_rfl
theorem lvrs_in:∀r∈lvrs,Rc.In r:=by
 intro r hr;simp only[lvrs,List.mem_cons,List.not_mem_nil,or_false]at hr;rcases hr with rfl|rfl|rfl|rfl
 all_goals refine⟨by intro x hx;simp[Rc.nums,lvr1,lvr2,lvr3,lvr4]at hx;unfold Spc.i64;omega,by decide,by intro x hx;simp[Spc.flds,lvr1,lvr2,lvr3,lvr4,lvsp]at hx;unfold Spc.i64;omega⟩
theorem jop(w:World):SlF Bk.rcC (w.alloc (.cells (lvrs.flatMap Bk.rcC).toArray 45)) (some ⟨w.heap.size,0,none⟩) 4 4 lvrs:=by
 refine⟨fun _=>⟨w.heap.size,0,rfl,by simp,fun j u hj=> ?_⟩,rfl,Nat.le_refl _,by unfold maxLen;omega,fun e=>by cases e⟩;rw[cell_of_row _ w.heap.size _ _ _ _ (heap_alloc_new w _),Nat.zero_add,List.getElem?_toArray];exact hj
theorem jg7(s:Bk.St):(Bk.units s).length=16:=rfl
def je4(n:Int):Array Value:=#[.int .i64 n,.int .i64 1,.int .i64 1,.int .i64 0,.int .i64 1,.int .i64 0,.int .i64 0,.int .i64 0,.int .i64 0,.int .i64 1,.int .i64 0,.int .i64 9]
theorem jfl(n:Int):(Tryz.prog.info? 35).map (·.size)=some (je4 n).size:=by kernel_rfl
theorem jm0(n:Int):(je4 n).all (·.oneCell')=true:=by
 simp[je4];simp[Value.oneCell']
theorem jdz{w:World}{ops:Array Oper}{rest:List Oper}{op:Oper}{a:Act}{Q:Exit→Act→World→Prop}{g:Nat}{n:Int}{cs:Array Value}(hgd:op.guard=none)(x y:Operand)(ho:op.op= .store 35 x y)(hx:a.eval x= .pointer (some ⟨g,0,none⟩))(hy:a.eval y= .agg (je4 n))(hg:w.heap[g]? =some (.cells cs 35 (0,0)))(hc:cs.size=(je4 n).size)
  (h:wpList Tryz.prog ops Q rest (a.put op.dst undef) (w.setRow g (je4 n))):wpList Tryz.prog ops Q (op::rest) a w:=
 wpList_store_row hgd 35 x y ho g (je4 n) hx hy 35 _ hg (jfl n) hc (jm0 n) h
theorem joq(n:Int)(w:World):Calls Tryz.prog 84 #[.int .i64 n] w (BRet (.agg (je4 n)) w):=by
 have hzs:∀W:World,(zeroValue 35).run Tryz.prog W= .ok (.agg #[.int .i64 0,.int .i64 0,.int .i64 0,.int .i64 0,.int .i64 0,.int .i64 0,.int .i64 0,.int .i64 0,.int .i64 0,.int .i64 0,.int .i64 0,.int .i64 0]) W:=(zero_of_info (n:=12) (by kernel_rfl)).1;have R0:=heap_alloc_new w (.cells #[.int .i64 0,.int .i64 0,.int .i64 0,.int .i64 0,.int .i64 0,.int .i64 0,.int .i64 0,.int .i64 0,.int .i64 0,.int .i64 0,.int .i64 0,.int .i64 0] 35);have B0:=zh ((Below.refl w.heap.size w).alloc (Nat.le_refl _) (.cells #[.int .i64 0,.int .i64 0,.int .i64 0,.int .i64 0,.int .i64 0,.int .i64 0,.int .i64 0,.int .i64 0,.int .i64 0,.int .i64 0,.int .i64 0,.int .i64 0] 35));go_enter Tryz.func84,Tryz.ntmps84;go_upto_region 1 with fail
 obtain⟨g,hg⟩:∃g,g=w.heap.size:=⟨_,rfl⟩;rw[←hg]at R0⊢;have GE:Hid (w.heap.size≤g):=Nat.le_of_eq hg.symm;clear hg;generalize w.alloc (.cells #[.int .i64 0,.int .i64 0,.int .i64 0,.int .i64 0,.int .i64 0,.int .i64 0,.int .i64 0,.int .i64 0,.int .i64 0,.int .i64 0,.int .i64 0,.int .i64 0] 35)=W1 at*
 go_wp2_with(first
  |((with_reducible show wpList _ _ _ ({dst:=some 4,op:= .build _ _,type:=_,pos:=_,after:=_,guard:=_}::_) _ _);refine jbk rfl 35 _ rfl (je4 n) (by kernel_rfl) ?_)
  |((with_reducible show zW);refine jdz (n:=n) rfl (.tmp 2) (.tmp 4) rfl rfl rfl R0 rfl ?_))
 try simp only[Exit.inBlock,Exit.then]
 exact bodyPost_ret (v:= .agg (je4 n)) (results_cell_row (P:=Tryz.prog) Tryz.results84 _ _ g 35 (je4 n) (0,0) _ rfl (setRow_heap W1 g _ _ _ _ R0) jef rfl (jfl n)) rfl ⟨rfl,below_setRow B0.out GE.out _⟩
theorem jm1(W:World)(ht:BT W):Calls Tryz.prog 38 #[] W (BRet (.bool true) W):=by
 have CSM:=zh (fun w=>joq 1 w);have CA:=zh (fun(w:World) (h2:BT w)=>jec 2 _ 4 4 lvrs lvrs_in (w.alloc (.cells (lvrs.flatMap Bk.rcC).toArray 45)) (jop w) (by omega) (h2.on ((Below.refl _ _).alloc (Nat.le_refl _) _)));have T0:=zh ht;have E1:=zh lvrs_n;have E2:=zh jif;have E3:=zh lvrs_ph;have E4:=zh lvrs_h;have AB:Hid (∀(w w':World) e,jn3 BdP (Bk.all 2 lvrs) (fun p=> .tuple #[p,.int .i64 (Bk.allN 2 lvrs:Nat)]) w e w'→∃q,e= .returned (.tuple #[.pointer (some ⟨q,0,none⟩),.int .i64 4])∧BP w (fun _=>False) q (Bk.all 2 lvrs) w'):=fun w w' e h=>by
  obtain⟨q,rfl,h2⟩:=jie h;exact⟨q,by show _=_;rw[E1.out];rfl,h2⟩
 clear E1 ht;have hv3:∀w,(Instr.field 93 (.agg (Bk.viewC (Bk.all 2 lvrs))) 3).run Tryz.prog w= .ok (.int .i64 1) w:=fun w=>by rw[vf3,E2.out]
 have hv5:∀w,(Instr.field 93 (.agg (Bk.viewC (Bk.all 2 lvrs))) 5).run Tryz.prog w= .ok (.int .i64 3) w:=fun w=>by rw[vf5,E3.out]
 clear E2 E3;generalize Bk.all 2 lvrs=s at*;go_enter Tryz.func38,Tryz.ntmps38;go_upto_region 2 with(first
  |((with_reducible show wpList _ _ _ ({dst:=some 4,op:= .build _ _,type:=_,pos:=_,after:=_,guard:=_}::_) _ _);refine jbk rfl 45 _ rfl (Rc.cells lvr1) (by kernel_rfl) ?_)
  |((with_reducible show wpList _ _ _ ({dst:=some 5,op:= .build _ _,type:=_,pos:=_,after:=_,guard:=_}::_) _ _);refine jbk rfl 45 _ rfl (Rc.cells lvr2) (by kernel_rfl) ?_)
  |((with_reducible show wpList _ _ _ ({dst:=some 7,op:= .build _ _,type:=_,pos:=_,after:=_,guard:=_}::_) _ _);refine jbk rfl 45 _ rfl (Rc.cells lvr3) (by kernel_rfl) ?_)
  |((with_reducible show wpList _ _ _ ({dst:=some 8,op:= .build _ _,type:=_,pos:=_,after:=_,guard:=_}::_) _ _);refine jbk rfl 45 _ rfl (Rc.cells lvr4) (by kernel_rfl) ?_)
  |((with_reducible show zB 9);obtain⟨i0,hi,hz0,hz1,hz2⟩:=info_parts jak;refine wpList_buildSlice rfl 28 45 4 _ rfl (lvrs.flatMap Bk.rcC).toArray i0 _ Tryz.underlying28 hi hz0 (by rw[hz1];omega) (by rw[hz1];omega) (by rw[hz1];kernel_rfl) ?_;clear hi hz0 hz1 hz2 i0)
  |(go_at_call 84;(with_reducible refine(CSM.out _).mono ?_);rintro e w1 ⟨rfl,hb⟩;have B1:=zh hb;clear hb)
  |(go_at_call 25;(with_reducible refine(CA.out _ (T0.out.on B1.out)).mono ?_);rintro e w2 hp;have B2:=zh (B1.out.trans (((Below.refl w1.heap.size w1).alloc (Nat.le_refl _) (.cells (lvrs.flatMap Bk.rcC).toArray 45)).mono B1.out.size));obtain⟨q,rfl,hbp⟩:=AB.out _ _ _ hp;have D:=zh hbp;clear hp hbp))
 have B3:=zh (B2.out.trans ((ja9 D.out).mono B2.out.size));clear B2 B1 CA CSM AB;have hl2:s.h.length=2:=E4.out
 go_wp2_with(first
  |(go_at_call 45;(with_reducible refine(jmy D.out).mono ?_);rintro e w4 ⟨rfl,hb⟩;have D:=zh (jby D.out hb);have B3:=zh (B3.out.trans (hb.mono B3.out.size));clear hb)
  |(go_at_call 85;(with_reducible refine(jmz D.out).mono ?_);rintro e w4 hp;obtain⟨A8,c8,rfl,p1,hb,p3⟩:=hp;have D:=zh (jby D.out hb);have B3:=zh (B3.out.trans (hb.mono B3.out.size));clear hb p1 p3)
  |(go_at_call 86;(with_reducible refine(jix D.out).mono ?_);rintro e w4 hp;obtain⟨A7,c7,rfl,p1,hb,p3⟩:=hp;have B9:=zh (B3.out.trans (hb.mono B3.out.size));clear hb p1 p3))
 go_ret;exact⟨rfl,B9.out⟩
end Go.Proofs.YtabandbigckfkaaGreatDoor
