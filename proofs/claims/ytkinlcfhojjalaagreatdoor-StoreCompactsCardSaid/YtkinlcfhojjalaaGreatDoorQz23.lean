import Derived.Defers
import Derived.Test.YtkinlcfhojjalaaGreatDoorQz22
import Derived.Test.YtkinlcfhojjalaaGreatDoorQz11
import Derived.Sort.OwnSortedInts
set_option maxHeartbeats 6400000
set_option maxRecDepth 100000
set_option linter.all false
namespace Go.Proofs.YtkinlcfhojjalaaGreatDoor
open Go.RowKit
def jhn(P:Program)(f:FuncId)(args:Array Value)(w:World)(R:Ending->World->Prop):Prop:=Calls P f args w R/\∀u,CallsD P f args u w fun e u' w'=>u'=u/\R e w'
theorem jh4{P:Program}{f:FuncId}{fn:Func}{c:Code}{args:Array Value}{w:World}{R:Ending->World->Prop}(hf:P.funcs[f]? =some fn)(hb:fn.body=some c)
 (h:c.wp P (bodyPost P fn R) {tmps:=args++Array.replicate (fn.ntmps -args.size) undef,defers:=[]} w):jhn P f args w R:=⟨calls_of_wp hf hb h,fun _=>callsD_of_wp hf hb h⟩
theorem jhn.mono{P:Program}{f:FuncId}{args:Array Value}{w:World}{R R':Ending->World->Prop}(h:jhn P f args w R)(hr:∀e w',R e w'->R' e w'):jhn P f args w R':=
 ⟨h.1.mono hr,fun u=>(h.2 u).mono fun e _ w' hp=>⟨hp.1,hr e w' hp.2⟩⟩
theorem jh5{P:Program}{fn:Func}{tmps:Array Value}{R:Ending->World->Prop}{f:FuncId}{args:Array Value}{w:World}(hi:(invoke (.fn (.func f) #[]) args).run P w= .ok (.enter f args) w)
  {S:Ending->World->Prop} (h:jhn P f args w S) (hq:∀e w',S e w'->∃x,e= .returned x/\∃v,(results fn tmps).run P w'= .ok v w'/\R (.returned v) w'):
  Leaves P fn tmps R [{target:= .fn (.func f) #[],args:=args}] .returning w:=by
 refine leaves_cons (by simp) hi ((h.2 .returning).mono ?_);rintro e u' w' ⟨rfl,hs⟩;obtain⟨x,rfl,v,h1,h2⟩:=hq e w' hs;exact⟨v,h1,h2⟩
open Go.Deep Go.Maps
theorem zzo{p:Prop}(h:p:=by
 go_simp
 refine CF.o.mono ?_
 intro e w8 hp;obtain⟨ru8,rv8,lo8,ko8,H8,K8,rfl,hp2,hp3,hp4⟩:=hp;have P8:=zh (show ja1 q lo ko H (Bk.act s r) (.tuple #[]) w7 _ w8 from⟨ru8,rv8,lo8,ko8,H8,K8,rfl,hp2,hp3,hp4⟩);have NB:¬BdF q lo ko H g:=fun h=>by have:=H0.o.ltF g h;have:=GE.o;omega
 have hS2:RcAt w8 g r:=⟨(hp3.block g hS.cs.lt NB).trans hS.row⟩;clear hS hp2 hp3 hp4 NB;have hS:=hS2;clear hS2;refine hK.out _ _ hS (fun _=> ?_);clear hK K;try simp only[Act.put,zT,zO,zS]
 refine wpAnyH_done zk ?_ _;clear hS;go_wp2;go_ret;rw[AS.o,Bk.app_ok HC.o];exact(P8.o.ahead R7.o.b H0.o.ltF).ret _):p:=h
theorem jlt(q:Nat)(s:Bk.St)(ru:Nat->Bk.Un)(rv:Int)(lo ko:Option Nat)(H:Value)(K:Kv.St)(w:World)(h:BdIs w q s ru rv lo ko H K)(ht:BT w)(r:Rc.R)(hin:Rc.In r):jhn Tryz.prog 37 #[.pointer (some ⟨q,0,none⟩),.agg (Rc.cells r)] w (ja1 q lo ko H (Bk.app s r) (.int .i64 (Bk.chk s r)) w):=by
 obtain⟨ans,hans⟩:∃ans,ans=Bk.chk s r:=zx;rw[<-hans];have AN:=zh hans;clear hans;have HI:=zh hin;have H0:=zh h;clear hin;obtain⟨s9,hs9⟩:∃t,t=Bk.app s r:=zx;rw[<-hs9];have AS:=zh hs9;clear hs9;have HT:=zh ht;obtain⟨W,hW⟩:∃W,W=w.alloc (.cells (Rc.cells r) 56):=zx;obtain⟨g,hg⟩:∃g,g=w.heap.size:=zx;have R0:=zh (RdC.open_ h r);rw[<-hW,<-hg]at R0;have GE:Hid (w.heap.size<=g):=Nat.le_of_eq hg.symm;have CC:=zh (jh3 q s ru rv lo ko H K W R0.o.bd (ht.on R0.o.b) r HI.o);rw[<-AN.o]at CC;clear h ht;refine jh4 Tryz.func37 rfl ?_;simp only[Tryz.ntmps37,List.size_toArray,List.length_cons,List.length_nil,Nat.reduceAdd,Nat.reduceSub,Array.replicate_succ,Array.replicate_zero,List.push_toArray,List.append_toArray,List.nil_append,List.cons_append];go_upto_region 1 with fail
 rw[<-hW,<-hg];clear hW hg;by_cases hc:ans=0
 ·have HC:Hid (Bk.chk s r=0):=by show _=_;rw[<-AN.o];exact hc
  subst hc;go_upto_region 4 with(first
   |((with_reducible show zL 7);refine zR (.tmp 3) R0.o.rc ?_)
   |(go_at_call 66;refine CC.o.mono ?_;rintro e w1 ⟨rfl,hb⟩;have R1:=zh (R0.o.on hb);clear hb))
  have hk7:=Bk.kinds HC.o;rcases hk7 with hk|hk|hk|hk|hk|hk|hk
  ·have HK:=zh hk
   clear hk;refine wp_region_held_drew (S:=fun W=>RcAt W g r) zk (R1.o.rc.on (Below.refl w1.heap.size w1).drew) (fun hS=> ?_);refine tY 1 hS ?_;refine tZ 2 rfl (by intro W hW;have c0:=(RcAt.cs hW).c0;rw[HK.o]at c0;have lg:=(RcAt.cs hW).lt;go_simp;(try with_reducible rfl)) hS ?_;refine tY 5 hS ?_;refine tZ 6 (v:= .agg (Rc.cells r)) rfl (fun W hW=>jax (.tmp 3) rfl g r rfl hW) hS ?_;simp only[Act.put,zT,zO,zS];refine rO 0 (fun K hK=> ?_);go_simp
   refine(jay _).mono ?_
   rintro e w7 ⟨m,rfl,hm,hb⟩;have M7:=zh hm;have R7:=zh ((R1.o.on (Below.refl w1.heap.size w1).drew).on hb);have hS2:=hS.on hb;clear hS hb hm;have hS:=hS2;clear hS2;refine hK.out _ _ hS (fun _=> ?_);clear hK K;try simp only[Act.put,zT,zO,zS]
   refine rO 3 (fun K hK=> ?_);have hlk:=M7.o.look1;go_simp;refine hK.out _ _ hS (fun _=> ?_);clear hK K;refine tZ 4 rfl (by intro W hW;have hfd:=jei;go_simp;(try with_reducible rfl)) hS ?_;simp only[Act.put,zT,zO,zS];refine rO 7 (fun K hK=> ?_);have CF:=zh (jri q s ru rv lo ko H _ w7 R7.o.bd (HT.o.on R7.o.b) r HI.o HK.o HC.o);exact zzo
  ·have HK:=zh hk
   clear hk;refine wp_region_held_drew (S:=fun W=>RcAt W g r) zk (R1.o.rc.on (Below.refl w1.heap.size w1).drew) (fun hS=> ?_);refine tY 1 hS ?_;refine tZ 2 rfl (by intro W hW;have c0:=(RcAt.cs hW).c0;rw[HK.o]at c0;have lg:=(RcAt.cs hW).lt;go_simp;(try with_reducible rfl)) hS ?_;refine tY 5 hS ?_;refine tZ 6 (v:= .agg (Rc.cells r)) rfl (fun W hW=>jax (.tmp 3) rfl g r rfl hW) hS ?_;simp only[Act.put,zT,zO,zS];refine rO 0 (fun K hK=> ?_);go_simp
   refine(jay _).mono ?_
   rintro e w7 ⟨m,rfl,hm,hb⟩;have M7:=zh hm;have R7:=zh ((R1.o.on (Below.refl w1.heap.size w1).drew).on hb);have hS2:=hS.on hb;clear hS hb hm;have hS:=hS2;clear hS2;refine hK.out _ _ hS (fun _=> ?_);clear hK K;try simp only[Act.put,zT,zO,zS]
   refine rO 3 (fun K hK=> ?_);have hlk:=M7.o.look2;go_simp;refine hK.out _ _ hS (fun _=> ?_);clear hK K;refine tZ 4 rfl (by intro W hW;have hfd:=jei;go_simp;(try with_reducible rfl)) hS ?_;simp only[Act.put,zT,zO,zS];refine rO 7 (fun K hK=> ?_);have CF:=zh (jrh q s ru rv lo ko H _ w7 R7.o.bd (HT.o.on R7.o.b) r HI.o HK.o HC.o);exact zzo
  ·have HK:=zh hk
   clear hk;refine wp_region_held_drew (S:=fun W=>RcAt W g r) zk (R1.o.rc.on (Below.refl w1.heap.size w1).drew) (fun hS=> ?_);refine tY 1 hS ?_;refine tZ 2 rfl (by intro W hW;have c0:=(RcAt.cs hW).c0;rw[HK.o]at c0;have lg:=(RcAt.cs hW).lt;go_simp;(try with_reducible rfl)) hS ?_;refine tY 5 hS ?_;refine tZ 6 (v:= .agg (Rc.cells r)) rfl (fun W hW=>jax (.tmp 3) rfl g r rfl hW) hS ?_;simp only[Act.put,zT,zO,zS];refine rO 0 (fun K hK=> ?_);go_simp
   refine(jay _).mono ?_
   rintro e w7 ⟨m,rfl,hm,hb⟩;have M7:=zh hm;have R7:=zh ((R1.o.on (Below.refl w1.heap.size w1).drew).on hb);have hS2:=hS.on hb;clear hS hb hm;have hS:=hS2;clear hS2;refine hK.out _ _ hS (fun _=> ?_);clear hK K;try simp only[Act.put,zT,zO,zS]
   refine rO 3 (fun K hK=> ?_);have hlk:=M7.o.look3;go_simp;refine hK.out _ _ hS (fun _=> ?_);clear hK K;refine tZ 4 rfl (by intro W hW;have hfd:=jei;go_simp;(try with_reducible rfl)) hS ?_;simp only[Act.put,zT,zO,zS];refine rO 7 (fun K hK=> ?_);have CF:=zh (jre q s ru rv lo ko H _ w7 R7.o.bd r HI.o HK.o HC.o);exact zzo
  ·have HK:=zh hk
   clear hk;refine wp_region_held_drew (S:=fun W=>RcAt W g r) zk (R1.o.rc.on (Below.refl w1.heap.size w1).drew) (fun hS=> ?_);refine tY 1 hS ?_;refine tZ 2 rfl (by intro W hW;have c0:=(RcAt.cs hW).c0;rw[HK.o]at c0;have lg:=(RcAt.cs hW).lt;go_simp;(try with_reducible rfl)) hS ?_;refine tY 5 hS ?_;refine tZ 6 (v:= .agg (Rc.cells r)) rfl (fun W hW=>jax (.tmp 3) rfl g r rfl hW) hS ?_;simp only[Act.put,zT,zO,zS];refine rO 0 (fun K hK=> ?_);go_simp
   refine(jay _).mono ?_
   rintro e w7 ⟨m,rfl,hm,hb⟩;have M7:=zh hm;have R7:=zh ((R1.o.on (Below.refl w1.heap.size w1).drew).on hb);have hS2:=hS.on hb;clear hS hb hm;have hS:=hS2;clear hS2;refine hK.out _ _ hS (fun _=> ?_);clear hK K;try simp only[Act.put,zT,zO,zS]
   refine rO 3 (fun K hK=> ?_);have hlk:=M7.o.look4;go_simp;refine hK.out _ _ hS (fun _=> ?_);clear hK K;refine tZ 4 rfl (by intro W hW;have hfd:=jei;go_simp;(try with_reducible rfl)) hS ?_;simp only[Act.put,zT,zO,zS];refine rO 7 (fun K hK=> ?_);have CF:=zh (jrc q s ru rv lo ko H _ w7 R7.o.bd r HI.o HK.o HC.o);exact zzo
  ·have HK:=zh hk
   clear hk;refine wp_region_held_drew (S:=fun W=>RcAt W g r) zk (R1.o.rc.on (Below.refl w1.heap.size w1).drew) (fun hS=> ?_);refine tY 1 hS ?_;refine tZ 2 rfl (by intro W hW;have c0:=(RcAt.cs hW).c0;rw[HK.o]at c0;have lg:=(RcAt.cs hW).lt;go_simp;(try with_reducible rfl)) hS ?_;refine tY 5 hS ?_;refine tZ 6 (v:= .agg (Rc.cells r)) rfl (fun W hW=>jax (.tmp 3) rfl g r rfl hW) hS ?_;simp only[Act.put,zT,zO,zS];refine rO 0 (fun K hK=> ?_);go_simp
   refine(jay _).mono ?_
   rintro e w7 ⟨m,rfl,hm,hb⟩;have M7:=zh hm;have R7:=zh ((R1.o.on (Below.refl w1.heap.size w1).drew).on hb);have hS2:=hS.on hb;clear hS hb hm;have hS:=hS2;clear hS2;refine hK.out _ _ hS (fun _=> ?_);clear hK K;try simp only[Act.put,zT,zO,zS]
   refine rO 3 (fun K hK=> ?_);have hlk:=M7.o.look5;go_simp;refine hK.out _ _ hS (fun _=> ?_);clear hK K;refine tZ 4 rfl (by intro W hW;have hfd:=jei;go_simp;(try with_reducible rfl)) hS ?_;simp only[Act.put,zT,zO,zS];refine rO 7 (fun K hK=> ?_);have CF:=zh (jrf q s ru rv lo ko H _ w7 R7.o.bd r HI.o HK.o HC.o);exact zzo
  ·have HK:=zh hk
   clear hk;refine wp_region_held_drew (S:=fun W=>RcAt W g r) zk (R1.o.rc.on (Below.refl w1.heap.size w1).drew) (fun hS=> ?_);refine tY 1 hS ?_;refine tZ 2 rfl (by intro W hW;have c0:=(RcAt.cs hW).c0;rw[HK.o]at c0;have lg:=(RcAt.cs hW).lt;go_simp;(try with_reducible rfl)) hS ?_;refine tY 5 hS ?_;refine tZ 6 (v:= .agg (Rc.cells r)) rfl (fun W hW=>jax (.tmp 3) rfl g r rfl hW) hS ?_;simp only[Act.put,zT,zO,zS];refine rO 0 (fun K hK=> ?_);go_simp
   refine(jay _).mono ?_
   rintro e w7 ⟨m,rfl,hm,hb⟩;have M7:=zh hm;have R7:=zh ((R1.o.on (Below.refl w1.heap.size w1).drew).on hb);have hS2:=hS.on hb;clear hS hb hm;have hS:=hS2;clear hS2;refine hK.out _ _ hS (fun _=> ?_);clear hK K;try simp only[Act.put,zT,zO,zS]
   refine rO 3 (fun K hK=> ?_);have hlk:=M7.o.look6;go_simp;refine hK.out _ _ hS (fun _=> ?_);clear hK K;refine tZ 4 rfl (by intro W hW;have hfd:=jei;go_simp;(try with_reducible rfl)) hS ?_;simp only[Act.put,zT,zO,zS];refine rO 7 (fun K hK=> ?_);have CF:=zh (jrg q s ru rv lo ko H _ w7 R7.o.bd r HI.o HK.o HC.o);exact zzo
  ·have HK:=zh hk
   clear hk;refine wp_region_held_drew (S:=fun W=>RcAt W g r) zk (R1.o.rc.on (Below.refl w1.heap.size w1).drew) (fun hS=> ?_);refine tY 1 hS ?_;refine tZ 2 rfl (by intro W hW;have c0:=(RcAt.cs hW).c0;rw[HK.o]at c0;have lg:=(RcAt.cs hW).lt;go_simp;(try with_reducible rfl)) hS ?_;refine tY 5 hS ?_;refine tZ 6 (v:= .agg (Rc.cells r)) rfl (fun W hW=>jax (.tmp 3) rfl g r rfl hW) hS ?_;simp only[Act.put,zT,zO,zS];refine rO 0 (fun K hK=> ?_);go_simp
   refine(jay _).mono ?_
   rintro e w7 ⟨m,rfl,hm,hb⟩;have M7:=zh hm;have R7:=zh ((R1.o.on (Below.refl w1.heap.size w1).drew).on hb);have hS2:=hS.on hb;clear hS hb hm;have hS:=hS2;clear hS2;refine hK.out _ _ hS (fun _=> ?_);clear hK K;try simp only[Act.put,zT,zO,zS]
   refine rO 3 (fun K hK=> ?_);have hlk:=M7.o.look7;go_simp;refine hK.out _ _ hS (fun _=> ?_);clear hK K;refine tZ 4 rfl (by intro W hW;have hfd:=jei;go_simp;(try with_reducible rfl)) hS ?_;simp only[Act.put,zT,zO,zS];refine rO 7 (fun K hK=> ?_);have CF:=zh (jrd q s ru rv lo ko H _ w7 R7.o.bd r HI.o HK.o HC.o);exact zzo
 ·have hc2:(ans !=0)=true:=by simpa using hc
  have HC:Hid (Bk.chk s r≠0):=by show _≠_;rw[<-AN.o];exact hc
  clear hc
  go_wp2_with(first
   |((with_reducible show zL 7);refine zR (.tmp 3) R0.o.rc ?_)
   |(go_at_call 66;refine CC.o.mono ?_;rintro e w1 ⟨rfl,hb⟩;have R1:=zh (R0.o.on hb);clear hb))
  go_ret;rw[AS.o,Bk.app_no HC.o];exact ja1.stay H0.o R1.o.b _
def Bd.ru0:Nat->Bk.Un:=fun _=>⟨0,0,false⟩
theorem new_bd(w:World)(m:Int)(q:Nat)(hat:BdAt w q (Bk.new m) Bd.ru0 0 (.map none) (.map none) (.slice none 0 0)):BdIs w q (Bk.new m) Bd.ru0 0 none none (.slice none 0 0) Kv.St.none where
 at_:=hat
 ls:=⟨fun _=>rfl,rfl⟩
 kv:=rfl
 kg:=Kv.Good.none_
 kr:=rfl
 kb:=Int.le_refl _
 dg:=Bd.none_digs
 raw:=Bd.new_raw
 h:=OwF.none_ _ _ _
 lk:=fun m e=>by cases e
 lok:=⟨Bk.new_ok m,fun h=>absurd rfl h⟩
theorem ju8(m:Int)(w:World):Calls Tryz.prog 49 #[.int .i64 m] w (fun e w'=>∃q,e= .returned (.pointer (some ⟨q,0,none⟩))/\BdIs w' q (Bk.new m) Bd.ru0 0 none none (.slice none 0 0) Kv.St.none/\w.heap.size<=q/\zF w w'):=by
 have C:=zh (jjw w m);generalize hmm:(Ls.new m).margin=mm at*;have HM:=zh hmm;clear hmm;go_in;go_wp2_with(go_at_call 89;refine C.o.mono ?_;rintro e w1 ⟨rfl,hi,hb⟩;have B1:=zh hb;obtain⟨c0,c1,f1,hq⟩:=hi.cells;rw[HM.o]at c0;clear hi hb);go_ret;refine⟨w1.heap.size,rfl,new_bd _ m _ ⟨?_⟩,B1.o.size,B1.o.trans (((Below.refl w1.heap.size w1).alloc zl _).mono B1.o.size)⟩;have e:(Bk.new m).m=mm:=HM.o;unfold Bd.cells;rw[e];exact heap_alloc_new w1 _
theorem ju9{T:Type}{enc:T->List Value}{k:Nat}{e:TypeId}(w:World):OwF enc k e (w.alloc (.cells #[] e)) w.heap.size (.slice (some ⟨w.heap.size,0,none⟩) 0 0) []:=⟨by simp,.inr ⟨w.heap.size,0,#[],rfl,zl,heap_alloc_new w _,zl,Nat.zero_le _,by simp,by simp⟩⟩
theorem slnil{T:Type}{enc:T->List Value}{w:World}{n c:Nat}{l:List T}(h:SlF enc w none n c l):l=[]/\n=0/\c=0:=by
 have h0:=h.nil rfl;have h1:=h.cap;have h2:=h.len;exact⟨List.eq_nil_of_length_eq_zero zv,zv,h0⟩
theorem jrx(q:Nat)(s:Bk.St)(ru:Nat->Bk.Un)(rv:Int)(lo ko:Option Nat)(H:Value)(K:Kv.St)(w:World)(h:BdIs w q s ru rv lo ko H K):Calls Tryz.prog 16 #[.pointer (some ⟨q,0,none⟩)] w (BRet (.agg (Bk.viewC s)) w):=by
 have A0:=zh h.at_;clear h;go_in;have lq:=A0.o.lt;have hb1:zF w (w.alloc (.cells #[zi,zi,zi,zi,zi,zi,zi,zi,zi,zi,zi,zi,zi,zi,zi,zi,zi,zi,zi,zi,zi,zi] 59)):=zE;have A1:=zh (A0.o.on hb1);have R1:=heap_alloc_new w (.cells #[zi,zi,zi,zi,zi,zi,zi,zi,zi,zi,zi,zi,zi,zi,zi,zi,zi,zi,zi,zi,zi,zi] 59);go_upto_region 3 with fail
 have B1:=zh hb1;obtain⟨g,hg⟩:∃g,g=w.heap.size:=zx;rw[<-hg]at R1⊢;clear hb1 lq;have GE:Hid (w.heap.size<=g):=Nat.le_of_eq hg.symm;clear hg;have lq:=A1.o.lt;generalize w.alloc (.cells #[zi,zi,zi,zi,zi,zi,zi,zi,zi,zi,zi,zi,zi,zi,zi,zi,zi,zi,zi,zi,zi,zi] 59)=W1 at*
 go_wp2_with(first
  |((with_reducible show zL 9);refine wpList_load_mid rfl 59 (.tmp 8) rfl q 4 rfl (Bk.viewC s).toList _ (jdx A1.o) jau rfl (jbe s) ?_)
  |((with_reducible show zW);refine jcy (s:=s) rfl (.tmp 2) (.tmp 9) rfl rfl rfl R1 rfl ?_))
 exact bodyPost_ret (v:= .agg (Bk.viewC s)) (results_cell_row (P:=Tryz.prog) Tryz.results16 _ _ g 59 (Bk.viewC s) (0,0) _ rfl (setRow_heap W1 g _ _ _ _ R1) jau rfl (jh2 s)) rfl ⟨rfl,below_setRow B1.o GE.o _⟩
theorem je4{w w':World}{X:Nat->Prop}{q:Nat}{s:Bk.St}(h:BdP w X q s)(hz:w.heap.size<=w'.heap.size)(hk:∀i,X i->w'.heap[i]? =w.heap[i]?):BdP w' X q s:=by
 obtain⟨ru,rv,lo,ko,H,K,h1,h2,h3⟩:=h;exact⟨ru,rv,lo,ko,H,K,h1.keep (hk _ (h2 _ (.inl rfl))) (fun m e=>hk _ (h2 _ (.inr (.inl e)))) (fun m e=>hk _ (h2 _ (.inr (.inr (.inl e))))) (fun m e=>hk _ (h2 _ (.inr (.inr (.inr e))))),h2,fun i hi=>Nat.lt_of_lt_of_le (h3 i hi) hz⟩
theorem jcz{w:World}{X:Nat->Prop}{q:Nat}{s:Bk.St}(h:BdP w X q s):∀i,X i->i<w.heap.size:=by
 obtain⟨ru,rv,lo,ko,H,K,h1,h2,h3⟩:=h;exact h3
theorem bdp_ok{w:World}{X:Nat->Prop}{q:Nat}{s:Bk.St}(h:BdP w X q s):Bk.Ok s:=by
 obtain⟨ru,rv,lo,ko,H,K,h1,h2,h3⟩:=h;exact h1.lok.ok
theorem jb9{w w':World}{X:Nat->Prop}{q:Nat}{s:Bk.St}(h:BdP w X q s)(hb:zF w w'):BdP w' X q s:=je4 h hb.size fun i hi=>hb.block i (jcz h i hi)
theorem jiv{W:World}{X:Nat->Prop}{q:Nat}{s:Bk.St}(h:BdP W X q s)(ht:BT W)(r:Rc.R)(hr:Rc.In r):jhn Tryz.prog 37 #[.pointer (some ⟨q,0,none⟩),.agg (Rc.cells r)] W (BTurn BdP X q (Bk.app s r) (.int .i64 (Bk.chk s r)) W):=by
 obtain⟨ru,rv,lo,ko,H,K,h1,h2,h3⟩:=h;exact(jlt q s ru rv lo ko H K W h1 ht r hr).mono fun e w' hp=>hp.turn h2 h3
theorem jkc{W:World}{X:Nat->Prop}{q:Nat}{s:Bk.St}(h:BdP W X q s)(ht:BT W)(r:Rc.R)(hr:Rc.In r):Calls Tryz.prog 37 #[.pointer (some ⟨q,0,none⟩),.agg (Rc.cells r)] W (BTurn BdP X q (Bk.app s r) (.int .i64 (Bk.chk s r)) W):=(jiv h ht r hr).1
structure DA(w0:World)(q:Nat)(s:Bk.St)(W:World):Prop where
 bd:∃X,BdP W X q s/\∀i,X i->w0.heap.size<=i
 below:zF w0 W
theorem DA.on{w0 W W':World}{q:Nat}{s:Bk.St}(h:DA w0 q s W)(hb:zF W W'):DA w0 q s W':=by
 obtain⟨X,h1,h2⟩:=h.bd;exact⟨⟨X,jb9 h1 hb,h2⟩,h.below.trans (hb.mono h.below.size)⟩
theorem DA.app{w0 W:World}{q:Nat}{s:Bk.St}(h:DA w0 q s W)(ht:BT W)(r:Rc.R)(hr:Rc.In r):Calls Tryz.prog 37 #[.pointer (some ⟨q,0,none⟩),.agg (Rc.cells r)] W (fun e w'=>e= .returned (.int .i64 (Bk.chk s r))/\DA w0 q (Bk.app s r) w'):=by
 obtain⟨X,h1,h2⟩:=h.bd;refine(jkc h1 ht r hr).mono fun e w' hp=> ?_;obtain⟨X',e1,e2,e3,e4⟩:=hp;refine⟨e1,⟨X',e2,fun i hi=> ?_⟩,h.below.trans (e4.below h.below.size h2)⟩;rcases e3 i hi with h5|h5
 ·exact h2 i h5
 ·exact Nat.le_trans h.below.size h5
theorem DA.new(w:World)(m:Int):Calls Tryz.prog 49 #[.int .i64 m] w (fun e w'=>∃q,e= .returned (.pointer (some ⟨q,0,none⟩))/\DA w q (Bk.new m) w'):=by
 refine(ju8 m w).mono fun e w' hp=> ?_;obtain⟨q,rfl,h1,h2,h3⟩:=hp;refine⟨q,rfl,⟨BdF q none none (.slice none 0 0),⟨_,_,_,_,_,_,h1,fun i hi=>hi,h1.ltF⟩,fun i hi=> ?_⟩,h3⟩;rcases hi with rfl|e|e|e
 ·exact h2
 ·cases e
 ·cases e
 ·cases e
theorem zzx{p:Prop}(h:p:=by
 clear h0
 go_wp2_with(first
  |((with_reducible show zL 19);refine zR (.tmp 9) RA.o ?_)
  |(go_at_call 37;refine CP.o.mono ?_;rintro e w3 ⟨rfl,hd⟩;have D3:=zh hd;clear hd))
 exact⟨⟨j+1,by have:=HLT.o;omega,by go_num,by rw[E1.o];go_num,by rw[HT.o.1];exact D3.o⟩,by simp[intOf];have:=HLT.o;omega⟩):p:=h
theorem jm4(m:Int)(A:Option Addr)(k c:Nat)(l:List Rc.R)(hin:∀r∈l,Rc.In r)(w:World)(hs:SlF Bk.rcC w A k c l)(hk:k<=100000)(ht:BT w):Calls Tryz.prog 20 #[.int .i64 m,.slice A k c] w (BMade BdP (Bk.all m l) (fun p=> .tuple #[p,.int .i64 (Bk.allN m l:Nat)]) w):=by
 have CN:=zh (DA.new w m);have S0:=zh hs;have HI:=zh hin;have HL:=zh hs.len;have T0:=zh ht;have hcap:=hs.cap;clear hs hin ht;go_in;go_upto_region 2 with(go_at_call 49;refine CN.o.mono ?_;rintro e w1 ⟨q,rfl,hd⟩;have D1:=zh hd;clear hd)
 go_wp2_with fail;go_loopw [7,14] (fun v i wr=>∃j:Nat,j<=k/\i= .int .i64 j/\v= .int .i64 (Bk.cnt (Bk.new m) (l.take j):Nat)/\DA w q (Bk.run (Bk.new m) (l.take j)) wr) (fun _ i _=>k -(intOf i).toNat)
 case atStart=>exact⟨0,Nat.zero_le _,rfl,rfl,D1.o⟩
 case round=>
  obtain⟨j,hj,rfl,rfl,hd⟩:=hrel;have D:=zh hd;clear hd;have i1:(0:Int)<=(j:Int):=by omega
  by_cases hlt:j<k
  ·have hx:l[j]? =some (l[j]'(by have:=HL.o;omega)):=List.getElem?_eq_getElem _
   have HT:=zh (Bk.take_run (Bk.new m) l (k:=j) (by have:=HL.o;omega));generalize l[j]'(by have:=HL.o;omega)=r at hx HT;have HR:Hid (Rc.In r):=HI.o r (List.mem_of_getElem? hx);have cl:(Bk.cnt (Bk.new m) (l.take j):Int)<=100000:=by
    have:=Bk.cnt_le (Bk.new m) (l.take j);rw[List.length_take]at this;omega
   have cl0:(0:Int)<=(Bk.cnt (Bk.new m) (l.take j):Int):=by omega
   have S1:=zh (S0.o.on D.o.below);have q1:((j:Nat):Int)<(k:Nat):=by omega
   have q2:((k:Nat):Int)<=100000:=by omega
   have HLT:=zh hlt;obtain⟨b,o,rfl,hbl,hrg⟩:=jc3 S1.o hx;have RG:=zh hrg;clear hx hrg hlt;generalize Bk.run (Bk.new m) (l.take j)=s at*;generalize Bk.cnt (Bk.new m) (l.take j)=cn at*;go_upto_region 5 with(first
    |((with_reducible show zL 17);refine jbm rfl (.tmp 16) rfl b (o+j*18) (by simp[Act.eval,go_sem]) r RG.o ?_)
    |((with_reducible show zW);refine jaa rfl (.tmp 9) (.tmp 17) rfl wr.heap.size r Rc.none_ rfl rfl ⟨heap_alloc_new wr _⟩ ?_))
   rw[World.setRow_alloc_new];have RA:=zh (RcAt.new wr r);have hb:zF wr (wr.alloc (.cells (Rc.cells r) 56)):=zE;have D2:=zh (D.o.on hb);clear RG S1;obtain⟨g,hg⟩:∃g,g=wr.heap.size:=zx;rw[<-hg]at RA⊢;clear hg hb;generalize wr.alloc (.cells (Rc.cells r) 56)=w2 at*;have CP:=zh (D2.o.app (T0.o.on D2.o.below) r HR.o);have CK:Hid (Bk.chk s r=0\/Bk.chk s r≠0):=Decidable.em _;have HC:Hid (∃z,z=Bk.chk s r):=⟨_,rfl⟩;obtain⟨z,hz⟩:=HC.o;rw[<-hz]at CP HT CK;have HZ:=zh hz;clear hz HC;rcases CK.o with h0|h0
   ·have q3:(z==0)=true:=by simpa using h0
    have E1:=zh (HT.o.2.trans (by rw[if_pos h0]));exact zzx
   ·have q3:(z==0)=false:=by simpa using h0
    have E1:=zh (HT.o.2.trans (by rw[if_neg h0]));exact zzx
  ·have q1:((k:Nat):Int)<=(j:Nat):=by omega
   have e:l.take j=l:=List.take_of_length_le (by have:=HL.o;omega);rw[e]at D⊢;go_wp2;go_ret2;obtain⟨⟨X,h1,h2⟩,h3⟩:=D.o;exact⟨q,X,rfl,h1,h2,h3⟩
def inC(n:Int):List Value:=[.int .i64 n]
theorem inC_len(n:Int):(inC n).length=1:=rfl
theorem inC_one(n:Int):∀u∈inC n,u.oneCell'=true:=by intro u hu;rw[List.mem_singleton.1 hu];rfl
theorem zz33{p:Prop}(h:p:=by
 induction l with
 |nil=>rfl
 |cons x l ih=>rw[List.flatMap_cons,ih];rfl):p:=h
theorem jry(l:List Int):l.flatMap inC=l.map (Value.int .i64):=by
 exact zz33
theorem jrz:(Tryz.prog.info? 3).map (fun i=>(i.zero,i.size,i.bytes))=some (some (zi),1,8):=by kernel_rfl
def jog(l:List Int):List Int:=l.mergeSort fun x y=>decide (x<=y)
theorem jdj(l:List Int):(jog l).length=l.length:=List.length_mergeSort l
theorem joh{l L:List Int}(h:l.Perm L)(hr:L.Pairwise fun a b=>a<b):jog l=L:=by
 unfold jog;refine List.Perm.eq_of_pairwise (le:=fun a b=>decide (a<=b)=true) (fun a b _ _ h1 h2=> ?_) (List.pairwise_mergeSort (fun a b c h1 h2=> ?_) (fun a b=> ?_) _) (hr.imp fun{a b} h=> ?_) ((List.mergeSort_perm l _).trans h)
 ·rw[decide_eq_true_eq]at h1 h2;omega
 ·rw[decide_eq_true_eq]at*;omega
 ·rw[Bool.or_eq_true,decide_eq_true_eq,decide_eq_true_eq];omega
 ·rw[decide_eq_true_eq];omega
theorem jr0{w:World}{B:Nat}{v:Value}{ns:List Int}(h:OwF inC 1 3 w B v ns)(hz:ns.length<=1000000):
  Calls Tryz.prog 108 #[v] w fun en w'=>en= .returned (.tuple #[])/\OwF inC 1 3 w' B v (jog ns)/\w.grownBy w' v.ownBlock:=by
 rcases h.2 with⟨rfl,h0⟩|⟨g,cap,cur,rfl,hbase,hb,c1,c2,c3,c4⟩
 ·obtain rfl:ns=[]:=List.eq_nil_of_length_eq_zero h0
  refine(Tryz.slices_Sort_int_none none 0 w).mono fun en w' ⟨he,hw⟩=>⟨he,?_,?_⟩
  ·rw[show jog []=[]from List.eq_nil_of_length_eq_zero (jdj [])]
   exact OwF.none_ _ _ _
  ·subst hw
   exact⟨rfl,rfl,rfl,zl,fun i hi _=>rfl⟩
 ·rw[Nat.mul_one,jry]at c4
  refine(Tryz.slices_Sort_int g 0 cap ns w (holds_of_blockI hb c4) (zg hb).1 zv).mono fun en w' ⟨he,n,os,hw⟩=>⟨he,?_,?_⟩
  ·subst hw
   have h6:=ownsRow_sortedI (base:=B) (g:=g) (cap:=cap) (n:=n) (os:=os) (ss:=ns) (ts:=jog ns) (jdj ns) hbase hb c1 c2 c3;unfold OwF;rw[jdj,jry];exact h6
  ·subst hw
   exact grownBy_sortedI _
def jej(t:ByteArray):Int:=(Lib.atoi t.data.toList).getD 0
theorem jkd(n:Int):Lib.atoi (Bd.key n).data.toList=some n:=by
 unfold Bd.key;rw[Spc.txt_bts,<-Spc.itoa_is,Spc.atoi_itoa]
structure Nums(K:Kv.St)(vs:List Bk.Vn):Prop where
 perm:((Kv.keysOf K.l).map jej).Perm (vs.map (·.n))
 key:∀k∈Kv.keysOf K.l,k.size<=18/\Lib.atoi k.data.toList=some (jej k)
theorem jr1{K:Kv.St}{vs:List Bk.Vn}(h:Bd.Digs K vs)(hv:∀v∈vs,1<=v.n/\v.n<=1048576/\v.t.size<=64):Nums K vs:=by
 refine⟨?_,fun k hk=> ?_⟩
 ·refine(h.keys.map jej).trans ?_
  rw[List.map_map];have:(jej∘fun v:Bk.Vn=>Bd.key v.n)=fun v=>v.n:=by funext v;show jej (Bd.key v.n)=v.n;unfold jej;rw[jkd];rfl
  rw[this]
 ·obtain⟨v,hm,rfl⟩:=List.mem_map.1 (h.keys.mem_iff.1 hk)
  have h1:=hv v hm;refine⟨?_,?_⟩
  ·have:=Bd.key_ten (n:=v.n) zv zv
   unfold Bd.key;rw[jbr];omega
  ·unfold jej
   rw[jkd];rfl
theorem jva{k:ByteArray}(h:k.size<=18/\Lib.atoi k.data.toList=some (jej k))(w:World):Calls Tryz.prog 107 #[.string k] w (BRet (.tuple #[.int .i64 (jej k),.nilIface]) w):=by
 refine(Tryz.strconv_Atoi k (jej k) h.1 h.2 w).mono ?_;rintro e w' ⟨rfl,t,rfl⟩;exact⟨rfl,Joins.below_bytesWorld _ _ _ _ zl⟩
theorem jr2(q:Nat)(s:Bk.St)(ru:Nat->Bk.Un)(rv:Int)(lo ko:Option Nat)(H:Value)(K:Kv.St)(w:World)(h:BdIs w q s ru rv lo ko H K):Calls Tryz.prog 58 #[.pointer (some ⟨q,0,none⟩)] w (jnx (fun n:Int=>[.int .i64 n]) (s.vs.map (·.n)) w):=by
 have CK:=zh (jhz w _ ko K h.kvIs.ask);have NP:=zh (jr1 h.dg h.lok.ok.vs).perm;have NK:=zh (jr1 h.dg h.lok.ok.vs).key;have RI:=zh h.lok.ok.rise;have HL:Hid ((Kv.keysOf K.l).length<=64):=by show _<=_;unfold Kv.keysOf;rw[List.length_map];exact h.kg.len
 have H0:=zh h;have lq:=h.lt.1;clear h;unfold KTx at CK;generalize Kv.keysOf K.l=ks at*;go_in;go_upto_region 4 with fail
 generalize hv0:Value.slice none 0 0=v0;have HV:=zh hv0;clear hv0;go_wp2_with(go_at_call 106;refine CK.o.mono ?_;rintro e w1 hp;obtain⟨v1,rfl,ho,hb⟩:=hp;obtain⟨A9,c9,rfl,s9⟩:=(jlj.any (w1:=w1) ho).slr ETx.on zD;have SK:=zh s9;have B1:=zh hb;clear ho hb s9);go_loopw [3,15] (fun v i wr=>∃j:Nat,j<=ks.length/\i= .int .i64 j/\OwF inC 1 3 wr w1.heap.size v ((ks.take j).map jej)/\zF w1 wr) (fun v i wr=>ks.length -(intOf i).toNat)
 case atStart=>exact⟨0,Nat.zero_le _,rfl,by rw[<-HV.o];exact OwF.none_ _ _ _,zD⟩
 case round=>
  obtain⟨j,hj,rfl,ho,hbr⟩:=hrel;have O:=zh ho;have B:=zh hbr;clear ho hbr;have i1:(0:Int)<=(j:Int):=by omega
  by_cases hlt:j<ks.length
  ·have hx:ks[j]? =some ks[j]:=List.getElem?_eq_getElem hlt
   have NX:Hid (((ks.take (j+1)).map jej)=(ks.take j).map jej++[jej ks[j]]):=by show _=_;rw[List.take_add_one,hx,List.map_append];rfl
   obtain⟨b,o,rfl⟩:=(SK.o).addr zv;have S2:=zh (SlR.on ETx.on SK.o B.o);obtain⟨hbl,cs,hcl,hce,hE⟩:=S2.o.cell hlt;have hE2:cs=[.string ks[j]]:=hE;subst hE2;have e0:=hce 0 zv;simp only[Nat.mul_one,Nat.add_zero,List.getElem?_cons_zero]at e0;have CA:=zh (fun W=>jva (NK.o ks[j] (List.getElem_mem hlt)) W);generalize ks[j]=x at*;have q1:((j:Nat):Int)<(ks.length:Nat):=by omega
   have q2:((ks.length:Nat):Int)<=64:=by have:=HL.o;omega
   have LT:=zh hlt;clear hx hce hE hcl hlt;go_upto_region 8 with(go_at_call 107;refine(CA.o _).mono ?_;rintro e w2 ⟨rfl,hb2⟩;have B2:=zh hb2;clear hb2)
   have O2:=zh (O.o.below B2.o);have B3:=zh (B.o.trans (B2.o.mono B.o.size));generalize jej x=n at*;clear CA e0
   go_wp2_with(first
    |((with_reducible show zB 26);refine jap Tryz.underlying102 jrz zv zv rfl (.tmp 25) rfl #[.int .i64 n] rfl rfl ?_)
    |(at_builtin;refine jaf inC_len inC_one Tryz.underlying102 jrz rfl zv rfl (.tmp 24) (.tmp 26) rfl w1.heap.size _ _ rfl O2.o n rfl (by have:=HL.o;have:=LT.o;rw[List.length_map,List.length_take];unfold maxLen;omega) (by have:=HL.o;have:=LT.o;rw[List.length_map,List.length_take];omega) B3.o.size ?_;intro v9 w9 ho9 hb9 _ _;have O9:=zh ho9;have B9:=zh (B3.o.trans hb9);clear ho9 hb9))
   have hq:=LT.o;have hq2:=HL.o;refine⟨⟨j+1,zv,by go_num,?_,B9.o⟩,by simp[intOf];omega⟩;rw[NX.o];exact O9.o
  ·have q1:((ks.length:Nat):Int)<=(j:Nat):=by omega
   obtain rfl:j=ks.length:=by omega
   have O1:=O.o;rw[List.take_length]at O1;have O2:=zh O1;clear O1;have CS:=zh (jr0 O2.o (by rw[List.length_map];have:=HL.o;omega));go_wp2_with(go_at_call 108;refine CS.o.mono ?_;rintro e w3 ⟨rfl,ho3,hg3⟩;have O3:=zh ho3;have G3:=zh hg3;clear ho3 hg3);go_ret;rw[joh NP.o (List.pairwise_map.2 RI.o)]at O3;have BW:Below w1.heap.size wr w3:=(Below.refl wr.heap.size wr|>.mono B.o.size).grown G3.o B.o.size (fun k hk=>(O2.o.lt k hk).1);have BZ:=B1.o.trans ((B.o.trans BW).mono B1.o.size);obtain⟨AF,cF,rfl⟩:=O3.o.form;refine⟨AF,cF,rfl,O3.o.sl,BZ,fun b o e=> ?_⟩;subst e;have:=(O3.o.lt b rfl).1;have:=B1.o.size;omega
abbrev BP(w0:World)(F:Nat->Prop)(q:Nat)(s:Bk.St)(W:World):Prop:=BAt BdP w0 F q s W
section
variable{w0 W W':World}{F G:Nat->Prop}{q:Nat}{s:Bk.St}
theorem jbf(h:BP w0 F q s W)(hb:zF W W'):BP w0 F q s W':=by
 obtain⟨X,h1,h2,h3,h4⟩:=h;exact⟨X,jb9 h1 hb,h2,fun b hb2=>⟨(h3 b hb2).1,Nat.lt_of_lt_of_le (h3 b hb2).2 hb.size⟩,h4.trans (hb.mono h4.size)⟩
theorem bp_ok(h:BP w0 F q s W):Bk.Ok s:=by
 obtain⟨X,h1,h2,h3,h4⟩:=h;exact bdp_ok h1
theorem jar(h:BP w0 F q s W):zF w0 W:=by
 obtain⟨X,h1,h2,h3,h4⟩:=h;exact h4
theorem jbh(h:BP w0 F q s W)(hG:∀b,G b->F b):BP w0 G q s W:=by
 obtain⟨X,h1,h2,h3,h4⟩:=h;exact⟨X,h1,h2,fun b hb=>h3 b (hG b hb),h4⟩
theorem jiw(h:BP w0 F q s W)(hb:zF W W'):BP w0 (fun b=>F b\/(W.heap.size<=b/\b<W'.heap.size)) q s W':=by
 obtain⟨X,h1,h2,h3,h4⟩:=h;refine⟨X,jb9 h1 hb,h2,fun b hb2=> ?_,h4.trans (hb.mono h4.size)⟩;rcases hb2 with hf|⟨hge,hlt⟩
 ·exact⟨(h3 b hf).1,Nat.lt_of_lt_of_le (h3 b hf).2 hb.size⟩
 ·exact⟨fun hx=>by have:=jcz h1 b hx;omega,hlt⟩
theorem zz2x{p:Prop}(h:p:=by
 rcases e3 b hx with h|h
 ·exact(h3 b hb).1 h
 ·have:=(h3 b hb).2;omega):p:=h
theorem zz30{p:Prop}(h:p:=by
 rcases e3 i hi with h|h
 ·exact h2 i h
 ·exact Nat.le_trans h4.size h):p:=h
theorem bp_both(h:BP w0 F q s W)(ht:BT W){r:Rc.R}(hr:Rc.In r):jhn Tryz.prog 37 #[.pointer (some ⟨q,0,none⟩),.agg (Rc.cells r)] W (BRes BdP w0 F q (Bk.app s r) (.int .i64 (Bk.chk s r)) W):=by
 obtain⟨X,h1,h2,h3,h4⟩:=h;refine(jiv h1 ht r hr).mono fun _ w' hp=> ?_;obtain⟨X',e1,e2,e3,e4⟩:=hp;refine⟨e1,⟨X',e2,fun i hi=> ?_,fun b hb=>⟨fun hx=> ?_,Nat.lt_of_lt_of_le (h3 b hb).2 e4.size⟩,h4.trans (e4.below h4.size h2)⟩,fun b hb=>e4.block b (h3 b hb).2 (h3 b hb).1⟩
 ·exact zz30
 ·exact zz2x
theorem jm5(h:BP w0 F q s W)(ht:BT W){r:Rc.R}(hr:Rc.In r):Calls Tryz.prog 37 #[.pointer (some ⟨q,0,none⟩),.agg (Rc.cells r)] W (BRes BdP w0 F q (Bk.app s r) (.int .i64 (Bk.chk s r)) W):=(bp_both h ht hr).1
theorem bp_new(w:World)(m:Int):Calls Tryz.prog 49 #[.int .i64 m] w (fun e w'=>∃q,e= .returned (.pointer (some ⟨q,0,none⟩))/\BP w (fun _=>False) q (Bk.new m) w'):=by
 refine(DA.new w m).mono fun e w' hp=> ?_;obtain⟨q,rfl,⟨X,h1,h2⟩,h3⟩:=hp;exact⟨q,rfl,X,h1,h2,fun b hb=>hb.elim,h3⟩
theorem bp_view(h:BP w0 F q s W):Calls Tryz.prog 16 #[.pointer (some ⟨q,0,none⟩)] W (BRet (.agg (Bk.viewC s)) W):=by
 obtain⟨X,⟨ru,rv,lo,ko,H,K,h1,_⟩,_⟩:=h;exact jrx q s ru rv lo ko H K W h1
theorem jlu(h:BP w0 F q s W):Calls Tryz.prog 58 #[.pointer (some ⟨q,0,none⟩)] W (jnx (fun n:Int=>[.int .i64 n]) (s.vs.map (·.n)) W):=by
 obtain⟨X,⟨ru,rv,lo,ko,H,K,h1,_⟩,_⟩:=h;exact jr2 q s ru rv lo ko H K W h1
theorem bp_made{m:Int}{l:List Rc.R}{f:Value->Value}{w w':World}{e:Ending}(h:BMade BdP (Bk.all m l) f w e w'):∃q,e= .returned (f (.pointer (some ⟨q,0,none⟩)))/\BP w (fun _=>False) q (Bk.all m l) w':=by
 obtain⟨q,X,rfl,h1,h2,h3⟩:=h;exact⟨q,rfl,X,h1,h2,fun b hb=>hb.elim,h3⟩
end
theorem jdk{P:Program}{ops:Array Oper}{rest:List Oper}{o:Oper}{a:Act}{w:World}{Q:Exit->Act->World->Prop}(hg:o.guard=none)(t:TypeId)(parts:Array (Nat×Operand))(ho:o.op= .build t parts)(cells:Array Value)
  (hf:P.built t (parts.map fun(i,x)=>(i,a.eval x)).toList=some cells) (h:wpList P ops Q rest (a.put o.dst (.agg cells)) w):wpList P ops Q (o::rest) a w:=
 wpList_plain hg fun _ hK=>by
  unfold Oper.wp execOp;simp only[ho,Sem.run_bind,run_build w t _ cells hf,Result.andThen_ok];exact hK _ _ h
theorem zz1z{p:Prop}(h:p:=by
 simp[Instr.field,run_underlying Tryz.underlying59,asAgg,part,isAgg,run_underlying Tryz.underlying3,go_sem,Bk.viewC]):p:=h
theorem vf0(s:Bk.St)(w:World):(Instr.field 59 (.agg (Bk.viewC s)) 0).run Tryz.prog w= .ok (.int .i64 s.ep) w:=by
 exact zz1z
theorem vf2(s:Bk.St)(w:World):(Instr.field 59 (.agg (Bk.viewC s)) 2).run Tryz.prog w= .ok (.int .i64 s.till) w:=by
 exact zz1z
theorem Jrn.more{w:World}{X Y:Nat->Prop}{q r:Nat}{d:Dk.St}(h:Jrn w X q r d)(hX:∀i,X i->i<w.heap.size->Y i):Jrn w Y q r d:=
 ⟨h.blk,hX _ h.inX h.lt,h.dsk.more fun i hi hl=>⟨hX i hi.1 hl,hi.2⟩,h.whole⟩
theorem jlv{w0 W W':World}{F Y:Nat->Prop}{b:Nat}{s:Bk.St}(h:BP w0 F b s W)(hk:Kept Y W W')(hY:∀i,Y i->i<W.heap.size->F i)(hY0:∀i,Y i->w0.heap.size<=i):BP w0 (fun i=>F i\/(W.heap.size<=i/\i<W'.heap.size)) b s W':=by
 obtain⟨Z,h1,h2,h3,h4⟩:=h;refine⟨Z,je4 h1 hk.size (fun i hi=>hk.block i (jcz h1 i hi) fun hy=>(h3 i (hY i hy (jcz h1 i hi))).1 hi),h2,fun i hi=> ?_,h4.trans (hk.below h4.size hY0)⟩;rcases hi with hf|⟨hge,hlt⟩
 ·exact⟨(h3 i hf).1,Nat.lt_of_lt_of_le (h3 i hf).2 hk.size⟩
 ·exact⟨fun hx=>by have:=jcz h1 i hx;omega,hlt⟩
theorem jr3{w0 W W':World}{F:Nat->Prop}{b:Nat}{s:Bk.St}(h:BP W (fun _=>False) b s W')(hb:zF w0 W)(hF:∀i,F i->i<W.heap.size):BP w0 F b s W':=by
 obtain⟨Z,h1,h2,_,h4⟩:=h;exact⟨Z,h1,fun i hi=>Nat.le_trans hb.size (h2 i hi),fun i hi=>⟨fun hx=>by have:=h2 i hx;have:=hF i hi;omega,Nat.lt_of_lt_of_le (hF i hi) h4.size⟩,hb.trans (h4.mono hb.size)⟩
theorem jvb{w0 W:World}{F:Nat->Prop}{b:Nat}{s:Bk.St}(h:BP w0 F b s W)(ht:BT W){r:Rc.R}(hr:Rc.In r):Calls Tryz.prog 66 #[.pointer (some ⟨b,0,none⟩),.agg (Rc.cells r)] W (BRet (.int .i64 (Bk.chk s r)) W):=by
 obtain⟨X,⟨ru,rv,lo,ko,H,K,h1,_⟩,_⟩:=h;exact jh3 b s ru rv lo ko H K W h1 ht r hr
def StF(G:Nat->Prop)(p:Nat)(X:Nat->Prop):Nat->Prop:=fun i=>G i\/i=p\/X i
structure StJ(w0:World)(G:Nat->Prop)(p:Nat)(m:Int)(d:Dk.St)(v:Value)(r q:Nat)(X:Nat->Prop)(W:World):Prop where
 row:W.heap[p]? =some (.cells #[.pointer (some ⟨r,0,none⟩),.pointer (some ⟨q,0,none⟩),v,.int .i64 m] 70 (0,0))
 jr:Jrn W X q r d
 inX:∀i,X i->w0.heap.size<=i/\i<W.heap.size/\i≠p/\¬G i
 pG:¬G p/\w0.heap.size<=p
 g:∀i,G i->i<W.heap.size
 below:zF w0 W
section
variable{w0 W W':World}{G F X:Nat->Prop}{p r q:Nat}{m:Int}{d:Dk.St}{v:Value}
theorem StJ.lt(h:StJ w0 G p m d v r q X W):p<W.heap.size:=(zg h.row).1
theorem StJ.lts(h:StJ w0 G p m d v r q X W):∀i,StF G p X i->i<W.heap.size:=by
 rintro i (hg|rfl|hx)
 ·exact h.g i hg
 ·exact h.lt
 ·exact(h.inX i hx).2.1
theorem StJ.kept(h:StJ w0 G p m d v r q X W)(hk:Kept F W W')(hF:∀i,StF G p X i->¬F i)(hb:zF w0 W'):StJ w0 G p m d v r q X W':=
 ⟨(hk.block p h.lt (hF p (.inr (.inl rfl)))).trans h.row,h.jr.keep fun i hi hl=>hk.block i hl (hF i (.inr (.inr hi))),fun i hi=>⟨(h.inX i hi).1,Nat.lt_of_lt_of_le (h.inX i hi).2.1 hk.size,(h.inX i hi).2.2⟩,h.pG,fun i hi=>Nat.lt_of_lt_of_le (h.g i hi) hk.size,hb⟩
theorem StJ.on(h:StJ w0 G p m d v r q X W)(hb:zF W W'):StJ w0 G p m d v r q X W':=h.kept (Kept.of_below (F:=fun _=>False) hb) (fun _ _ hf=>hf) (h.below.trans (hb.mono h.below.size))
theorem StJ.cells(h:StJ w0 G p m d v r q X W):p<W.heap.size/\W.cell? ⟨p,0,none⟩=some (.pointer (some ⟨r,0,none⟩))/\W.cell? ⟨p,1,none⟩=some (.pointer (some ⟨q,0,none⟩))/\W.cell? ⟨p,2,none⟩=some v/\W.cell? ⟨p,3,none⟩=some (.int .i64 m):=
 ⟨h.lt,by rw[cell_of_row W p 0 _ _ _ h.row];rfl,by rw[cell_of_row W p 1 _ _ _ h.row];rfl,by rw[cell_of_row W p 2 _ _ _ h.row];rfl,by rw[cell_of_row W p 3 _ _ _ h.row];rfl⟩
theorem StJ.frz(h:StJ w0 G p m d v r q X W)(i:Nat):W.frozen? ⟨p,i,none⟩=false:=frozen_of_row W p i _ _ h.row
theorem StJ.jrn(h:StJ w0 G p m d v r q X W):Jrn W (fun i=>X i\/W.heap.size<=i) q r d:=h.jr.more fun i hi _=> .inl hi
theorem StJ.fresh(h:StJ w0 G p m d v r q X W):∀i,W.heap.size<=i->X i\/W.heap.size<=i:=fun _ hi=> .inr hi
theorem StJ.put(h:StJ w0 G p m d v r q X W)(v':Value):StJ w0 G p m d v' r q X (W.setCell ⟨p,2,none⟩ v'):=by
 have hg:=jad W p 2 v';have hs:(W.setCell ⟨p,2,none⟩ v').heap.size=W.heap.size:=World.size_setCell ..;refine⟨by rw[heap_setCell_same W p 2 _ _ v' h.row];rfl,h.jr.keep fun i hi hl=>hg.block i hl (fun e=>(h.inX i hi).2.2.1 (by injection e)),fun i hi=>⟨(h.inX i hi).1,Nat.lt_of_lt_of_le (h.inX i hi).2.1 (Nat.le_of_eq hs.symm),(h.inX i hi).2.2⟩,h.pG,fun i hi=>Nat.lt_of_lt_of_le (h.g i hi) (Nat.le_of_eq hs.symm),h.below.grown hg h.below.size fun k e=> ?_⟩;injection e with e
 exact e▸h.pG.2
theorem StJ.turn{d':Dk.St}{w':World}(h:StJ w0 G p m d v r q X W)(hj:Jrn w' (fun i=>X i\/W.heap.size<=i) q r d')(hk:Kept (fun i=>X i\/W.heap.size<=i) W w'):
  StJ w0 G p m d' v r q (fun i=>(X i\/W.heap.size<=i)/\i<w'.heap.size) w':=by
 refine⟨(hk.block p h.lt fun hx=> ?_).trans h.row,hj.more fun i hi hl=>⟨hi,hl⟩,fun i hi=>⟨?_,hi.2,?_,fun hg=> ?_⟩,h.pG,fun i hi=>Nat.lt_of_lt_of_le (h.g i hi) hk.size,h.below.trans (hk.below h.below.size ?_)⟩
 ·rcases hx with hx|hx
  ·exact(h.inX p hx).2.2.1 rfl
  ·have:=h.lt;omega
 ·rcases hi.1 with hx|hx
  ·exact(h.inX i hx).1
  ·exact Nat.le_trans h.below.size hx
 ·rcases hi.1 with hx|hx
  ·exact(h.inX i hx).2.2.1
  ·have:=h.lt;omega
 ·rcases hi.1 with hx|hx
  ·exact(h.inX i hx).2.2.2 hg
  ·have:=h.g i hg;omega
 ·rintro i (hx|hx)
  ·exact(h.inX i hx).1
  ·exact Nat.le_trans h.below.size hx
theorem StJ.book{w':World}{b:Nat}{s:Bk.St}(h:StJ w0 G p m d v r q X W)(hb:BP w0 (StF G p X) b s W)(hk:Kept (fun i=>X i\/W.heap.size<=i) W w'):
  BP w0 (StF G p fun i=>(X i\/W.heap.size<=i)/\i<w'.heap.size) b s w':=by
 refine jbh (jlv hb hk (fun i hi hl=> ?_) fun i hi=> ?_) fun i hi=> ?_
 ·rcases hi with hx|hx
  ·exact .inr (.inr hx)
  ·omega
 ·rcases hi with hx|hx
  ·exact(h.inX i hx).1
  ·exact Nat.le_trans h.below.size hx
 ·rcases hi with hg|hp|⟨hx|hx,hl⟩
  ·exact .inl (.inl hg)
  ·exact .inl (.inr (.inl hp))
  ·exact .inl (.inr (.inr hx))
  ·exact .inr ⟨hx,hl⟩
theorem StJ.others{w':World}(h:StJ w0 G p m d v r q X W)(hk:Kept (fun i=>X i\/W.heap.size<=i) W w'):∀i,G i->w'.heap[i]? =W.heap[i]? :=fun i hi=>hk.block i (h.g i hi) fun hx=>by
 rcases hx with hx|hx
 ·exact(h.inX i hx).2.2.2 hi
 ·have:=h.g i hi;omega
end
def SA(w0:World)(G:Nat->Prop)(p:Nat)(m:Int)(R:Nat)(L:List Rc.R)(W:World):Prop:=
 So.Took m L/\∃r q b X,StJ w0 G p m (So.disk R L) (.pointer (some ⟨b,0,none⟩)) r q X W/\BP w0 (StF G p X) b (Bk.all m L) W
def SRes(w0:World)(G:Nat->Prop)(p:Nat)(m:Int)(R:Nat)(L:List Rc.R)(x:Value)(W:World)(e:Ending)(w':World):Prop:=e= .returned x/\SA w0 G p m R L w'/\∀i,G i->w'.heap[i]? =W.heap[i]?
section
variable{w0 W W':World}{G F:Nat->Prop}{p R:Nat}{m:Int}{L:List Rc.R}
theorem SA.below(h:SA w0 G p m R L W):zF w0 W:=by obtain⟨_,r,q,b,X,h1,_⟩:=h;exact h1.below
theorem SA.took(h:SA w0 G p m R L W):So.Took m L:=h.1
theorem SA.right(h:SA w0 G p m R L W):∀r∈L,Rc.right r=true:=So.took_right h.1
theorem SA.on(h:SA w0 G p m R L W)(hb:zF W W'):SA w0 G p m R L W':=by
 obtain⟨h0,r,q,b,X,h1,h2⟩:=h;exact⟨h0,r,q,b,X,h1.on hb,jbf h2 hb⟩
theorem SA.less(h:SA w0 G p m R L W)(hG:∀b,F b->G b):SA w0 F p m R L W:=by
 obtain⟨h0,r,q,b,X,h1,h2⟩:=h;refine⟨h0,r,q,b,X,⟨h1.row,h1.jr,fun i hi=>⟨(h1.inX i hi).1,(h1.inX i hi).2.1,(h1.inX i hi).2.2.1,fun hf=>(h1.inX i hi).2.2.2 (hG i hf)⟩,⟨fun hf=>h1.pG.1 (hG _ hf),h1.pG.2⟩,fun i hi=>h1.g i (hG i hi),h1.below⟩,jbh h2 ?_⟩;rintro i (hf|hp|hx)
 ·exact .inl (hG i hf)
 ·exact .inr (.inl hp)
 ·exact .inr (.inr hx)
theorem SA.more(h:SA w0 G p m R L W)(hb:zF W W'):SA w0 (fun i=>G i\/(W.heap.size<=i/\i<W'.heap.size)) p m R L W':=by
 obtain⟨h0,r,q,b,X,h1,h2⟩:=h;have h3:=h1.on hb;refine⟨h0,r,q,b,X,⟨h3.row,h3.jr,fun i hi=>⟨(h3.inX i hi).1,(h3.inX i hi).2.1,(h3.inX i hi).2.2.1,fun hf=> ?_⟩,⟨fun hf=> ?_,h3.pG.2⟩,fun i hi=> ?_,h3.below⟩,jbh (jiw h2 hb) ?_⟩
 ·rcases hf with hf|hf
  ·exact(h1.inX i hi).2.2.2 hf
  ·have:=(h1.inX i hi).2.1;omega
 ·rcases hf with hf|hf
  ·exact h1.pG.1 hf
  ·have:=h1.lt;omega
 ·rcases hi with hf|hf
  ·exact h3.g i hf
  ·exact hf.2
 ·rintro i ((hf|hf)|hp|hx)
  ·exact .inl (.inl hf)
  ·exact .inr hf
  ·exact .inl (.inr (.inl hp))
  ·exact .inl (.inr (.inr hx))
end
open Go.RowKit
theorem jlw(s:Spc.Sp)(w:World):Calls Tryz.prog 86 #[Spc.val s] w fun e w'=>∃A c,e= .returned (.slice A 12 c)/\OwnI w' w.heap.size (.slice A 12 c) (Spc.flds s)/\zF w w':=by
 unfold Spc.val Spc.cells;go_in;go_wp2;go_ret;have hn:=heap_alloc_new (w.alloc (.cells (Spc.cells s) 33)) (.cells (vali (Spc.flds s)).toArray 3);rw[show(w.alloc (.cells (Spc.cells s) 33)).heap.size=w.heap.size+1 from by simp]at hn;exact⟨_,12,rfl,⟨rfl,.inr ⟨w.heap.size+1,12,(vali (Spc.flds s)).toArray,rfl,Nat.le_succ _,hn,zl,(by unfold maxLen;omega:12<=maxLen),rfl,rfl⟩⟩,((Below.refl _ w).alloc zl _).alloc (by simp) _⟩
