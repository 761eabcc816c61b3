import Derived.Test.YtabandbigckfkaaGreatDoorQa18
set_option maxHeartbeats 6400000
set_option maxRecDepth 100000
set_option linter.unusedSimpArgs false
set_option linter.unusedVariables false
namespace Go.Proofs.YtabandbigckfkaaGreatDoor
open Go.RowKit Go.Deep Go.Maps
theorem jfj(W:World)(X:Nat→Prop)(q:Nat)(cs:Array Value)(ty:TypeId)(mo:Option Nat)(s:Ls.St)(hx:LsX W X q mo)(h:LsIs W q cs ty mo s)(hf:Ls.Few s 2199023255552)(k:ByteArray)(hk:k.size≤maxLen)(ho now ttl:Int):
  Calls Tryz.prog 206 #[.pointer (some ⟨q,0,none⟩),.string k,.int .i64 ho,.int .i64 now,.int .i64 ttl] W (jfi q cs ty mo (Ls.takeS s k ho now ttl) (.tuple #[.int .i64 (Ls.takeN s k ho now ttl),.int .i64 (Ls.takeE s k ho now ttl:Nat)]) W):=by
 have HX:=zh hx;have H0:=zh h;have HF:=zh hf;have HKS:=zh hk;have RIs:∀n e,Ls.takeE s k ho now ttl=e→Ls.takeN s k ho now ttl=n→Hid (Ls.takeE s k ho now ttl=e∧Ls.takeN s k ho now ttl=n):=fun _ _ h1 h2=>⟨h1,h2⟩;clear hx h hf hk;by_cases hr:Ls.Right k ho now ttl
 case neg=>
  have e1:Ls.takeE s k ho now ttl=1:=by unfold Ls.takeE;rw[if_pos hr]
  have e2:Ls.takeN s k ho now ttl=0:=by unfold Ls.takeN;rw[if_neg (by rw[e1];omega)]
  have e3:Ls.takeS s k ho now ttl=s:=by unfold Ls.takeS;rw[if_neg (by rw[e1];omega)]
  rw[e1,e2,e3];have CM:=zh (jdk W k ho now ttl HKS.out (x:=false) (by simpa using hr));clear e1 e2 e3 hr RIs;go_enter Tryz.func206,Tryz.ntmps206;go_wp2_with(go_at_call 249;(with_reducible refine CM.out.mono ?_);rintro e w1 ⟨rfl,rfl⟩);exact bodyPost_ret (v:= .tuple #[.int .i64 0,.int .i64 1]) (by simp[results,Tryz.results206,go_sem]) rfl (jc9 HX.out H0.out (Below.refl _ _) _)
 have CM:=zh (jdk W k ho now ttl HKS.out (x:=true) (by simpa using hr));have HR:=zh hr;obtain⟨a,ha⟩:∃a,a=Ls.holderOf s.l k:=⟨_,rfl⟩;obtain⟨b,hb⟩:∃b,b=Ls.epochOf s.l k:=⟨_,rfl⟩;obtain⟨c,hc⟩:∃c,c=Ls.tillOf s.l k:=⟨_,rfl⟩;have TT:=zh (Ls.till_time H0.out.good k);rw[←hc]at TT;have EP:=zh (And.intro (Ls.epoch_pos H0.out.good k) (Ls.few_epoch HF.out k));rw[←hb]at EP;have EA:=zh ha.symm;have EB:=zh hb.symm;have EC:=zh hc.symm;have FI:=zh (Ls.free_iff H0.out.good k now);rw[←hc]at FI;have CFx:Hid (∀x:Bool,(x=true↔Ls.Free s k now)→∀W,Calls Tryz.prog 248 #[.agg #[.int .i64 a,.int .i64 b,.int .i64 c],.int .i64 now,.int .i64 s.margin] W (fun e w'=>e= .returned (.bool x)∧Below W.heap.size W w')):=fun x hx W=>jfg W a b c now s.margin TT.out.1 TT.out.2 H0.out.good.m0 H0.out.good.m1 (hx.trans FI.out);clear ha hb hc hr RIs;by_cases hfr:Ls.Free s k now
 case neg=>
  have e1:Ls.takeE s k ho now ttl=9:=by unfold Ls.takeE;rw[if_neg (fun h=>h HR.out),if_pos hfr]
  have e2:Ls.takeN s k ho now ttl=0:=by unfold Ls.takeN;rw[if_neg (by rw[e1];omega)]
  have e3:Ls.takeS s k ho now ttl=s:=by unfold Ls.takeS;rw[if_neg (by rw[e1];omega)]
  rw[e1,e2,e3];have CF:=zh (CFx.out false (by simpa using hfr));clear e1 e2 e3 hfr CFx;go_enter Tryz.func206,Tryz.ntmps206;go_upto_region 3 with(go_at_call 249;(with_reducible refine CM.out.mono ?_);rintro e w1 ⟨rfl,rfl⟩)
  obtain⟨c0,c1,f1,hq⟩:=H0.out.cells;have hlk:=H0.out.look k HKS.out;rw[EA.out,EB.out,EC.out]at hlk;unfold leV at hlk;go_upto_region 4 with fail
  have B2:=zh ((Below.refl w1.heap.size w1).alloc (Nat.le_refl _) (.cells #[.int .i64 a,.int .i64 b,.int .i64 c] 260));have R2:=zh (heap_alloc_new w1 (.cells #[.int .i64 a,.int .i64 b,.int .i64 c] 260));have H2:=zh (H0.out.on B2.out);obtain⟨g,hg⟩:∃g,g=w1.heap.size:=⟨_,rfl⟩;rw[←hg]at R2⊢;have GB:Hid (w1.heap.size≤g):=Nat.le_of_eq hg.symm;clear hg c0 c1 f1 hq hlk;generalize w1.alloc (.cells #[.int .i64 a,.int .i64 b,.int .i64 c] 260)=w2 at*;refine wp_region_held_drew (S:=fun W=>LsIs W q cs ty mo s∧W.heap[g]? =some (.cells #[.int .i64 a,.int .i64 b,.int .i64 c] 260 (0,0))) (by kernel_rfl) ⟨H2.out.on (Below.refl w2.heap.size w2).drew,R2.out⟩ (fun hS=> ?_);refine tZ 0 rfl (by intro W hW;have d0:=LsCells.c0 hW.2;have d1:=LsCells.c1 hW.2;have d2:=LsCells.c2 hW.2;go_simp;(try with_reducible rfl)) hS ?_;refine tY 1 hS ?_;refine tY 2 hS ?_;refine tY 3 hS ?_;refine tY 4 hS ?_;refine tZ 5 rfl (by intro W hW;obtain⟨c0,c1,f1,hq⟩:=hW.1.cells;go_simp;(try with_reducible rfl)) hS ?_;simp only[Act.put,zT,zO,zS];refine rO 6 (fun K hK=> ?_);go_simp
  with_reducible refine(CF.out _).mono ?_
  rintro e w3 ⟨rfl,hb⟩;have hS2:LsIs w3 q cs ty mo s∧_:=⟨hS.1.on hb,jaf hS.2 hb⟩;have B3:=zh (B2.out.drew.trans (hb.mono B2.out.drew.size));clear hS hb;have hS:=hS2;clear hS2;refine hK.out _ _ hS (fun _=> ?_);clear hK K;refine tY 7 hS ?_;simp only[Act.put,zT,zO,zS];refine wpAnyH_done (by kernel_rfl) ?_ _;go_wp2_with fail;exact bodyPost_ret (v:= .tuple #[.int .i64 0,.int .i64 9]) (by simp[results,Tryz.results206,go_sem]) rfl (jc9 HX.out H0.out B3.out _)
 case pos=>
  have e1:Ls.takeE s k ho now ttl=0:=by unfold Ls.takeE;rw[if_neg (fun h=>h HR.out),if_neg (fun h=>h hfr)]
  have e2:Ls.takeN s k ho now ttl=b+1:=by unfold Ls.takeN;rw[if_pos e1,EB.out]
  have e3:Ls.takeS s k ho now ttl=⟨s.margin,Ls.put s.l ⟨k,ho,b+1,Ls.late now ttl,false⟩⟩:=by unfold Ls.takeS;rw[if_pos e1];unfold Ls.taken;rw[EB.out]
  have GD:=Ls.taken_good H0.out.good HR.out;have FW:=Ls.take_few HF.out k ho now ttl;unfold Ls.taken at GD;rw[EB.out]at GD;rw[e3]at FW;rw[e1,e2,e3];have CF:=zh (CFx.out true (by simpa using hfr));have CL:=zh (fun W=>jc8 W now ttl (by have:=HR.out.2.2.2.2.1.1;omega) (by have:=HR.out.2.2.2.2.1.2;omega) (by have:=HR.out.2.2.2.2.2.1;omega) (by have:=HR.out.2.2.2.2.2.2;omega));generalize Ls.late now ttl=d at*;have CP:Hid (∀W,LsIs W q cs ty mo s→Calls Tryz.prog 252 #[.pointer (some ⟨q,0,none⟩),.string k,.agg #[.int .i64 ho,.int .i64 (b+1),.int .i64 d]] W (jn7 W q cs ty mo ⟨s.margin,Ls.put s.l ⟨k,ho,b+1,d,false⟩⟩)):=fun W h=>jew W q cs ty mo s h k HKS.out ho (b+1) d false GD FW;have hs1:IntKind.i64.wrap (b+1)=b+1:=by have:=EP.out.1;have:=EP.out.2;rw[IntKind.wrap_i64];omega
  have hs2:wrap64 (b+1)=b+1:=by have:=EP.out.1;have:=EP.out.2;exact IntWalk.wrap64_in _ ⟨by omega,by omega⟩
  clear e1 e2 e3 hfr CFx GD FW;go_enter Tryz.func206,Tryz.ntmps206;go_upto_region 3 with(go_at_call 249;(with_reducible refine CM.out.mono ?_);rintro e w1 ⟨rfl,rfl⟩)
  obtain⟨c0,c1,f1,hq⟩:=H0.out.cells;have hlk:=H0.out.look k HKS.out;rw[EA.out,EB.out,EC.out]at hlk;unfold leV at hlk;go_upto_region 4 with fail
  have B2:=zh ((Below.refl w1.heap.size w1).alloc (Nat.le_refl _) (.cells #[.int .i64 a,.int .i64 b,.int .i64 c] 260));have R2:=zh (heap_alloc_new w1 (.cells #[.int .i64 a,.int .i64 b,.int .i64 c] 260));have H2:=zh (H0.out.on B2.out);obtain⟨g,hg⟩:∃g,g=w1.heap.size:=⟨_,rfl⟩;rw[←hg]at R2⊢;have GB:Hid (w1.heap.size≤g):=Nat.le_of_eq hg.symm;clear hg c0 c1 f1 hq hlk;generalize w1.alloc (.cells #[.int .i64 a,.int .i64 b,.int .i64 c] 260)=w2 at*;refine wp_region_held_drew (S:=fun W=>LsIs W q cs ty mo s∧W.heap[g]? =some (.cells #[.int .i64 a,.int .i64 b,.int .i64 c] 260 (0,0))) (by kernel_rfl) ⟨H2.out.on (Below.refl w2.heap.size w2).drew,R2.out⟩ (fun hS=> ?_);refine tZ 0 rfl (by intro W hW;have d0:=LsCells.c0 hW.2;have d1:=LsCells.c1 hW.2;have d2:=LsCells.c2 hW.2;go_simp;(try with_reducible rfl)) hS ?_;refine tY 1 hS ?_;refine tY 2 hS ?_;refine tY 3 hS ?_;refine tY 4 hS ?_;refine tZ 5 rfl (by intro W hW;obtain⟨c0,c1,f1,hq⟩:=hW.1.cells;go_simp;(try with_reducible rfl)) hS ?_;simp only[Act.put,zT,zO,zS];refine rO 6 (fun K hK=> ?_);go_simp
  with_reducible refine(CF.out _).mono ?_
  rintro e w3 ⟨rfl,hb⟩;have hS2:LsIs w3 q cs ty mo s∧_:=⟨hS.1.on hb,jaf hS.2 hb⟩;have B3:=zh (B2.out.drew.trans (hb.mono B2.out.drew.size));clear hS hb;have hS:=hS2;clear hS2;refine hK.out _ _ hS (fun _=> ?_);clear hK K;refine tY 7 hS ?_;simp only[Act.put,zT,zO,zS];refine wpAnyH_done (by kernel_rfl) ?_ _;go_upto_region 6 with fail
  have H4:=zh (hS.1.on (Below.refl w3.heap.size w3).drew);have RW:=zh hS.2;have B4:=zh B3.out.drew;have NG:Hid (¬(g=q∨mo=some g)):=fun h=>by
   have:=GB.out;rcases h with rfl|h
   ·have:=HX.out.lt g HX.out.q;omega
   ·have:=HX.out.lt g (HX.out.m g h);omega
  clear hS;refine wp_region_held_drew (S:=fun W=>W.heap[g]? =some (.cells #[.int .i64 a,.int .i64 b,.int .i64 c] 260 (0,0))) (by kernel_rfl) RW.out (fun hS=> ?_);refine tY 0 hS ?_;refine tY 1 hS ?_;refine tY 2 hS ?_;refine tY 3 hS ?_;refine tZ 4 rfl (by intro W hW;have d0:=LsCells.c0 hW;have d1:=LsCells.c1 hW;have d2:=LsCells.c2 hW;go_simp;(try with_reducible rfl)) hS ?_;refine tY 5 hS ?_;simp only[Act.put,zT,zO,zS];refine tY 6 hS ?_;refine tY 7 hS ?_;simp only[Act.put,zT,zO,zS];refine rO 8 (fun K hK=> ?_);go_simp
  with_reducible refine(CL.out _).mono ?_
  rintro e w4 ⟨rfl,hw⟩;obtain rfl:=hw.symm;refine hK.out _ _ hS (fun _=> ?_);clear hK K;refine tY 9 hS ?_;simp only[Act.put,zT,zO,zS];refine rO 10 (fun K hK=> ?_);go_simp
  with_reducible refine(CP.out _ H4.out).mono ?_
  rintro e w5 ⟨mo5,rfl,hm5,hk5,hn5⟩;have hS2:=(hk5.block g (Array.getElem?_eq_some_iff.1 hS).1 NG.out).trans hS;have M5:=zh hm5;have K5:=zh hk5;have N5:=zh hn5;clear hS hm5 hk5 hn5;have hS:=hS2;clear hS2;refine hK.out _ _ hS (fun _=> ?_);clear hK K;try simp only[Act.put,zT,zO,zS]
  refine wpAnyH_done (by kernel_rfl) ?_ _;have d0:=LsCells.c0 hS;have d1:=LsCells.c1 hS;have d2:=LsCells.c2 hS;go_wp2_with fail;exact bodyPost_ret (v:= .tuple #[.int .i64 (b+1),.int .i64 0]) (by simp[results,Tryz.results206,go_sem]) rfl (jf0 HX.out B4.out M5.out K5.out N5.out _)
namespace Ls
theorem few_same{s:St}{n:Nat}{m:Int}{e x:En}(hf:Few s n)(hr:Rise s.l)(he:find s.l x.name=some e)(hx:x.epoch=e.epoch):Few ⟨m,put s.l x⟩ n:=by
 refine⟨fun y hy=> ?_,?_⟩
 ·rcases mem_put hy with rfl|hy
  ·rw[hx];exact hf.1 e (find_some he).1
  ·exact hf.1 y hy
 ·show(put s.l x).length≤n
  rw[put_length hr,he];exact hf.2
theorem note_found{s:St}{k:ByteArray}{h ep:Int}(h0:notE s k h ep=0):∃e,find s.l k=some e∧e.holder=h∧e.epoch=ep:=by
 unfold notE at h0
 cases he:find s.l k with
 |none=>rw[he]at h0;cases h0
 |some e=>
  rw[he]at h0;refine⟨e,rfl,?_⟩;by_cases h1:Other e h ep
  ·simp[h1]at h0
  ·unfold Other at h1;omega
theorem renew_no{s:St}{k:ByteArray}{h ep now ttl:Int}(hr:Right k h now ttl)(h0:notE s k h ep≠0):renewE s k h ep now ttl=notE s k h ep:=by
 unfold renewE notE at*;rw[if_neg (fun h=>h hr)]
 cases he:find s.l k with
 |none=>rfl
 |some e=>
  rw[he]at h0;by_cases h1:Other e h ep
  ·simp[h1]
  ·simp[h1]at h0
open Classical in
theorem renew_is{s:St}(hs:Good s){k:ByteArray}{h ep now ttl:Int}(hr:Right k h now ttl)(h0:notE s k h ep=0):(tillOf s.l k≠0∧now<tillOf s.l k→renewE s k h ep now ttl=0)∧(¬(tillOf s.l k≠0∧now<tillOf s.l k)→renewE s k h ep now ttl=9):=by
 obtain⟨e,he,e1,e2⟩:=note_found h0;have h1:=hs.each e (find_some he).1;have ht:tillOf s.l k=e.till:=by unfold tillOf;rw[he]
 have hno:¬Other e h ep:=by unfold Other;omega
 have hE:renewE s k h ep now ttl=if e.dropped=true∨e.till≤now then 9 else 0:=by
  unfold renewE;rw[if_neg (fun h=>h hr),he];show(if Other e h ep then 8 else _)=_;rw[if_neg hno]
 rw[ht,hE]
 cases hd:e.dropped with
 |true=>
  have:=h1.2.2.2.2.2.2.1 hd;exact⟨fun h=>absurd this h.1,fun _=>by simp⟩
 |false=>
  have:=h1.2.2.2.2.2.2.2 hd;exact⟨fun h=>by rw[if_neg];rintro(h2|h2);cases h2;omega,fun h=>by rw[if_pos];exact .inr (by omega)⟩
theorem renewed_is{s:St}(hs:Good s)(hf:Few s 2199023255553){k:ByteArray}{h ep now ttl:Int}(hr:Right k h now ttl)(h0:notE s k h ep=0)(h2:tillOf s.l k≠0∧now<tillOf s.l k):
  renewed s k now ttl=⟨s.margin,put s.l ⟨k,holderOf s.l k,epochOf s.l k,max (tillOf s.l k) (late now ttl),false⟩⟩∧Good (renewed s k now ttl)∧Few (renewed s k now ttl) 2199023255553:=by
 obtain⟨e,he,e1,e2⟩:=note_found h0;have h1:=hs.each e (find_some he).1;have hn:=(find_some he).2;have ht:tillOf s.l k=e.till:=by unfold tillOf;rw[he]
 have hh:holderOf s.l k=e.holder:=by unfold holderOf;rw[he]
 have hp:epochOf s.l k=e.epoch:=by unfold epochOf;rw[he]
 have hd:e.dropped=false:=by
  cases hd:e.dropped with
  |false=>rfl
  |true=>exact absurd (h1.2.2.2.2.2.2.1 hd) (by rw[←ht];exact h2.1)
 have E:renewed s k now ttl=⟨s.margin,put s.l ⟨k,holderOf s.l k,epochOf s.l k,max (tillOf s.l k) (late now ttl),false⟩⟩:=by
  unfold renewed;rw[he,ht,hh,hp];show St.mk _ (put s.l ⟨e.name,_,_,_,e.dropped⟩)=_;rw[hn,hd]
 refine⟨E,renewed_good hs hr he hd,?_⟩;rw[E];exact few_same hf hs.rise he hp
theorem drop_no{s:St}{k:ByteArray}{h ep:Int}(h0:notE s k h ep≠0):dropE s k h ep=notE s k h ep:=by
 unfold dropE notE at*
 cases he:find s.l k with
 |none=>rfl
 |some e=>
  rw[he]at h0;by_cases h1:Other e h ep
  ·simp[h1]
  ·simp[h1]at h0
open Classical in
theorem drop_is{s:St}(hs:Good s){k:ByteArray}{h ep:Int}(h0:notE s k h ep=0):(tillOf s.l k≠0→dropE s k h ep=0)∧(tillOf s.l k=0→dropE s k h ep=10):=by
 obtain⟨e,he,e1,e2⟩:=note_found h0;have h1:=hs.each e (find_some he).1;have ht:tillOf s.l k=e.till:=by unfold tillOf;rw[he]
 have hno:¬Other e h ep:=by unfold Other;omega
 have hE:dropE s k h ep=if e.dropped=true then 10 else 0:=by
  unfold dropE;rw[he];show(if Other e h ep then 8 else _)=_;rw[if_neg hno]
 rw[ht,hE]
 cases hd:e.dropped with
 |true=>
  have:=h1.2.2.2.2.2.2.1 hd;exact⟨fun h=>absurd this h,fun _=>rfl⟩
 |false=>
  have:=h1.2.2.2.2.2.2.2 hd;exact⟨fun h=>by rw[if_neg (by simp)],fun h=>by omega⟩
theorem dropped_is{s:St}(hs:Good s)(hf:Few s 2199023255553){k:ByteArray}{h ep:Int}(h0:notE s k h ep=0):
  droppedS s k=⟨s.margin,put s.l ⟨k,h,ep,0,true⟩⟩∧Good (droppedS s k)∧Few (droppedS s k) 2199023255553:=by
 obtain⟨e,he,e1,e2⟩:=note_found h0;have hn:=(find_some he).2;have E:droppedS s k=⟨s.margin,put s.l ⟨k,h,ep,0,true⟩⟩:=by
  unfold droppedS;rw[he];show St.mk _ (put s.l ⟨e.name,e.holder,e.epoch,0,true⟩)=_;rw[hn,e1,e2]
 refine⟨E,dropped_good hs k,?_⟩;rw[E];exact few_same hf hs.rise he e2.symm
end Ls
theorem jju(W:World)(X:Nat→Prop)(q:Nat)(cs:Array Value)(ty:TypeId)(mo:Option Nat)(s:Ls.St)(hx:LsX W X q mo)(h:LsIs W q cs ty mo s)(k:ByteArray)(hk:k.size≤maxLen)(ho ep:Int):
  Calls Tryz.prog 278 #[.pointer (some ⟨q,0,none⟩),.string k,.int .i64 ho,.int .i64 ep] W (jfi q cs ty mo (Ls.dropS s k ho ep) (.int .i64 (Ls.dropE s k ho ep:Nat)) W):=by
 have HX:=zh hx;have H0:=zh h;have HKS:=zh hk;have CN:=zh (jg0 W q cs ty mo s h k hk ho ep);clear hx h hk;by_cases h0:Ls.notE s k ho ep=0
 case neg=>
  have e1:=Ls.drop_no h0;have e3:Ls.dropS s k ho ep=s:=by unfold Ls.dropS;rw[if_neg (by rw[e1];exact h0)]
  rw[e1,e3];obtain⟨z,hz⟩:∃z,z=Ls.notE s k ho ep:=⟨_,rfl⟩;rw[←hz]at h0 CN⊢;have hz0:((z:Int)==0)=false:=by rw[beq_eq_false_iff_ne];omega
  have HZ:=zh h0;clear e1 e3 hz h0;go_enter Tryz.func278,Tryz.ntmps278;go_wp2_with(go_at_call 250;(with_reducible refine CN.out.mono ?_);rintro e w1 ⟨rfl,hb⟩;have B1:=zh hb;clear hb);go_ret;exact jc9 HX.out H0.out B1.out _
 case pos=>
  rw[h0]at CN;have HI:=Ls.drop_is H0.out.good h0;have HD:=zh (Ls.dropped_is H0.out.good H0.out.few h0);obtain⟨a,ha⟩:∃a,a=Ls.holderOf s.l k:=⟨_,rfl⟩;obtain⟨b,hb⟩:∃b,b=Ls.epochOf s.l k:=⟨_,rfl⟩;obtain⟨c,hc⟩:∃c,c=Ls.tillOf s.l k:=⟨_,rfl⟩;rw[←hc]at HI;have EA:=zh ha.symm;have EB:=zh hb.symm;have EC:=zh hc.symm;have CD:=zh (fun W=>jch W a b c);clear ha hb hc h0;by_cases hc0:c=0
  ·have e1:=HI.2 hc0
   have e3:Ls.dropS s k ho ep=s:=by unfold Ls.dropS;rw[if_neg (by rw[e1];omega)]
   rw[e1,e3];rw[show(c==0)=true by simp[hc0]]at CD;clear e1 e3 hc0 HI HD;go_enter Tryz.func278,Tryz.ntmps278;go_upto_region 6 with(go_at_call 250;(with_reducible refine CN.out.mono ?_);rintro e w1 ⟨rfl,hb⟩;have B1:=zh hb;clear hb)
   have H1:=zh (H0.out.on B1.out);obtain⟨c0,c1,f1,hq⟩:=H1.out.cells;have hlk:=H1.out.look k HKS.out;rw[EA.out,EB.out,EC.out]at hlk;unfold leV at*;go_wp2_with(go_at_call 287;(with_reducible refine(CD.out _).mono ?_);rintro e w2 ⟨rfl,hb⟩;have B2:=zh (B1.out.trans (hb.mono B1.out.size));clear hb);go_ret;exact jc9 HX.out H0.out B2.out _
  ·have e1:=HI.1 hc0
   have e3:Ls.dropS s k ho ep=⟨s.margin,Ls.put s.l ⟨k,ho,ep,0,true⟩⟩:=by unfold Ls.dropS;rw[if_pos e1,HD.out.1]
   have GD:=HD.out.2.1;have FW:=HD.out.2.2;rw[HD.out.1]at GD FW;rw[e1,e3];rw[show(c==0)=false by simp[hc0]]at CD;have CP:Hid (∀W,LsIs W q cs ty mo s→Calls Tryz.prog 252 #[.pointer (some ⟨q,0,none⟩),.string k,.agg #[.int .i64 ho,.int .i64 ep,.int .i64 0]] W (jn7 W q cs ty mo ⟨s.margin,Ls.put s.l ⟨k,ho,ep,0,true⟩⟩)):=fun W h=>jew W q cs ty mo s h k HKS.out ho ep 0 true GD FW;clear e1 e3 hc0 HI HD GD FW;go_enter Tryz.func278,Tryz.ntmps278;go_upto_region 6 with(go_at_call 250;(with_reducible refine CN.out.mono ?_);rintro e w1 ⟨rfl,hb⟩;have B1:=zh hb;clear hb)
   have H1:=zh (H0.out.on B1.out);obtain⟨c0,c1,f1,hq⟩:=H1.out.cells;have hlk:=H1.out.look k HKS.out;rw[EA.out,EB.out,EC.out]at hlk;unfold leV at*
   go_wp2_with(first
    |(go_at_call 287;(with_reducible refine(CD.out _).mono ?_);rintro e w2 ⟨rfl,hb⟩;have B2:=zh (B1.out.trans (hb.mono B1.out.size));have H2:=zh (H1.out.on hb);clear hb)
    |(go_at_call 252;(with_reducible refine(CP.out _ H2.out).mono ?_);rintro e w5 ⟨mo5,rfl,hm5,hk5,hn5⟩;have M5:=zh hm5;have K5:=zh hk5;have N5:=zh hn5;clear hm5 hk5 hn5))
   go_ret;exact jf0 HX.out B2.out M5.out K5.out N5.out _
theorem jh8(W:World)(X:Nat→Prop)(q:Nat)(cs:Array Value)(ty:TypeId)(mo:Option Nat)(s:Ls.St)(hx:LsX W X q mo)(h:LsIs W q cs ty mo s)(k:ByteArray)(hk:k.size≤maxLen)(ho ep now ttl:Int):
  Calls Tryz.prog 205 #[.pointer (some ⟨q,0,none⟩),.string k,.int .i64 ho,.int .i64 ep,.int .i64 now,.int .i64 ttl] W (jfi q cs ty mo (Ls.renewS s k ho ep now ttl) (.tuple #[.int .i64 (Ls.renewN s k ho ep now ttl),.int .i64 (Ls.renewE s k ho ep now ttl:Nat)]) W):=by
 have HX:=zh hx;have H0:=zh h;have HKS:=zh hk;have CN:=zh (jg0 W q cs ty mo s h k hk ho ep);clear hx h hk;by_cases hr:Ls.Right k ho now ttl
 case neg=>
  have e1:Ls.renewE s k ho ep now ttl=1:=by unfold Ls.renewE;rw[if_pos hr]
  have e2:Ls.renewN s k ho ep now ttl=0:=by unfold Ls.renewN;rw[if_neg (by rw[e1];omega)]
  have e3:Ls.renewS s k ho ep now ttl=s:=by unfold Ls.renewS;rw[if_neg (by rw[e1];omega)]
  rw[e1,e2,e3];have CM:=zh (jdk W k ho now ttl HKS.out (x:=false) (by simpa using hr));clear e1 e2 e3 hr CN;go_enter Tryz.func205,Tryz.ntmps205;go_wp2_with(go_at_call 249;(with_reducible refine CM.out.mono ?_);rintro e w1 ⟨rfl,rfl⟩);exact bodyPost_ret (v:= .tuple #[.int .i64 0,.int .i64 1]) (by simp[results,Tryz.results205,go_sem]) rfl (jc9 HX.out H0.out (Below.refl _ _) _)
 have CM:=zh (jdk W k ho now ttl HKS.out (x:=true) (by simpa using hr));have HR:=zh hr;by_cases h0:Ls.notE s k ho ep=0
 case neg=>
  have e1:=Ls.renew_no (now:=now) (ttl:=ttl) hr h0;have e2:Ls.renewN s k ho ep now ttl=0:=by unfold Ls.renewN;rw[if_neg (by rw[e1];exact h0)]
  have e3:Ls.renewS s k ho ep now ttl=s:=by unfold Ls.renewS;rw[if_neg (by rw[e1];exact h0)]
  rw[e1,e2,e3];obtain⟨z,hz⟩:∃z,z=Ls.notE s k ho ep:=⟨_,rfl⟩;rw[←hz]at h0 CN⊢;have hz0:((z:Int)==0)=false:=by rw[beq_eq_false_iff_ne];omega
  have HZ:=zh h0;clear e1 e2 e3 hz h0 hr;go_enter Tryz.func205,Tryz.ntmps205
  go_wp2_with(first
   |(go_at_call 249;(with_reducible refine CM.out.mono ?_);rintro e w1 ⟨rfl,rfl⟩)
   |(go_at_call 250;(with_reducible refine CN.out.mono ?_);rintro e w2 ⟨rfl,hb⟩;have B1:=zh hb;clear hb))
  exact bodyPost_ret (v:= .tuple #[.int .i64 0,.int .i64 (z:Nat)]) (by simp[results,Tryz.results205,go_sem]) rfl (jc9 HX.out H0.out B1.out _)
 rw[h0]at CN;have HI:=Ls.renew_is (now:=now) (ttl:=ttl) H0.out.good hr h0;have HD:=zh (fun h2=>Ls.renewed_is (now:=now) (ttl:=ttl) H0.out.good H0.out.few hr h0 h2);obtain⟨a,ha⟩:∃a,a=Ls.holderOf s.l k:=⟨_,rfl⟩;obtain⟨b,hb⟩:∃b,b=Ls.epochOf s.l k:=⟨_,rfl⟩;obtain⟨c,hc⟩:∃c,c=Ls.tillOf s.l k:=⟨_,rfl⟩;rw[←hc]at HI HD;rw[←ha,←hb]at HD;have EA:=zh ha.symm;have EB:=zh hb.symm;have EC:=zh hc.symm;clear ha hb hc h0 hr;by_cases hhe:c≠0∧now<c
 case neg=>
  have e1:=HI.2 hhe;have e2:Ls.renewN s k ho ep now ttl=0:=by unfold Ls.renewN;rw[if_neg (by rw[e1];omega)]
  have e3:Ls.renewS s k ho ep now ttl=s:=by unfold Ls.renewS;rw[if_neg (by rw[e1];omega)]
  rw[e1,e2,e3];have CH:=zh (fun W=>jdw W a b c now (x:=false) (by simpa using hhe));clear e1 e2 e3 hhe HI HD;go_enter Tryz.func205,Tryz.ntmps205;go_upto_region 6 with(first
   |(go_at_call 249;(with_reducible refine CM.out.mono ?_);rintro e w1 ⟨rfl,rfl⟩)
   |(go_at_call 250;(with_reducible refine CN.out.mono ?_);rintro e w2 ⟨rfl,hb⟩;have B1:=zh hb;clear hb))
  have H1:=zh (H0.out.on B1.out);obtain⟨c0,c1,f1,hq⟩:=H1.out.cells;have hlk:=H1.out.look k HKS.out;rw[EA.out,EB.out,EC.out]at hlk;unfold leV at*;have B2:=zh (B1.out.alloc (by have:=B1.out.size;omega) (.cells #[.int .i64 a,.int .i64 b,.int .i64 c] 260));go_wp2_with(go_at_call 247;(with_reducible refine(CH.out _).mono ?_);rintro e w3 ⟨rfl,hb⟩;have B3:=zh (B2.out.trans (hb.mono B2.out.size));clear hb);exact bodyPost_ret (v:= .tuple #[.int .i64 0,.int .i64 9]) (by simp[results,Tryz.results205,go_sem]) rfl (jc9 HX.out H0.out B3.out _)
 case pos=>
  have e1:=HI.1 hhe;have HD2:=HD.out hhe;have e2:Ls.renewN s k ho ep now ttl=max c (Ls.late now ttl):=by unfold Ls.renewN;rw[if_pos e1,EC.out]
  have e3:Ls.renewS s k ho ep now ttl=⟨s.margin,Ls.put s.l ⟨k,a,b,max c (Ls.late now ttl),false⟩⟩:=by unfold Ls.renewS;rw[if_pos e1,HD2.1]
  have GD:=HD2.2.1;have FW:=HD2.2.2;rw[HD2.1]at GD FW;rw[e1,e2,e3];have CH:=zh (fun W=>jdw W a b c now (x:=true) (by simpa using hhe));have CL:=zh (fun W=>jc8 W now ttl (by have:=HR.out.2.2.2.2.1.1;omega) (by have:=HR.out.2.2.2.2.1.2;omega) (by have:=HR.out.2.2.2.2.2.1;omega) (by have:=HR.out.2.2.2.2.2.2;omega));generalize Ls.late now ttl=d at*;have CP:Hid (∀W,LsIs W q cs ty mo s→Calls Tryz.prog 252 #[.pointer (some ⟨q,0,none⟩),.string k,.agg #[.int .i64 a,.int .i64 b,.int .i64 (max c d)]] W (jn7 W q cs ty mo ⟨s.margin,Ls.put s.l ⟨k,a,b,max c d,false⟩⟩)):=fun W h=>jew W q cs ty mo s h k HKS.out a b (max c d) false GD FW;clear e1 e2 e3 hhe HI HD HD2 GD FW;go_enter Tryz.func205,Tryz.ntmps205;go_upto_region 6 with(first
   |(go_at_call 249;(with_reducible refine CM.out.mono ?_);rintro e w1 ⟨rfl,rfl⟩)
   |(go_at_call 250;(with_reducible refine CN.out.mono ?_);rintro e w2 ⟨rfl,hb⟩;have B1:=zh hb;clear hb))
  have H1:=zh (H0.out.on B1.out);obtain⟨c0,c1,f1,hq⟩:=H1.out.cells;have hlk:=H1.out.look k HKS.out;rw[EA.out,EB.out,EC.out]at hlk;unfold leV at*;go_upto_region 7 with fail
  have B2:=zh (B1.out.alloc (by have:=B1.out.size;omega) (.cells #[.int .i64 a,.int .i64 b,.int .i64 c] 260));have R2:=zh (heap_alloc_new w2 (.cells #[.int .i64 a,.int .i64 b,.int .i64 c] 260));have H2:=zh (H1.out.on ((Below.refl w2.heap.size w2).alloc (Nat.le_refl _) (.cells #[.int .i64 a,.int .i64 b,.int .i64 c] 260)));obtain⟨g,hg⟩:∃g,g=w2.heap.size:=⟨_,rfl⟩;rw[←hg]at R2⊢;have GB:Hid (w2.heap.size≤g):=Nat.le_of_eq hg.symm;clear hg c0 c1 f1 hq hlk;have NG:Hid (¬(g=q∨mo=some g)):=fun h=>by
   have:=GB.out;have:=B1.out.size;rcases h with rfl|h
   ·have:=HX.out.lt g HX.out.q;omega
   ·have:=HX.out.lt g (HX.out.m g h);omega
  generalize w2.alloc (.cells #[.int .i64 a,.int .i64 b,.int .i64 c] 260)=w3 at*;have d0:=LsCells.c0 R2.out;have d1:=LsCells.c1 R2.out;have d2:=LsCells.c2 R2.out;go_upto_region 9 with(go_at_call 247;(with_reducible refine(CH.out _).mono ?_);rintro e w4 ⟨rfl,hb⟩;have B4:=zh (B2.out.trans (hb.mono B2.out.size));have R4:=zh (jaf R2.out hb);have H4:=zh (H2.out.on hb);clear hb d0 d1 d2)
  have H5:=zh (H4.out.on (Below.refl w4.heap.size w4).drew);have B5:=zh B4.out.drew;have d0:w4.drew.cell? ⟨g,0,none⟩=some (.int .i64 a):=LsCells.c0 R4.out;have d1:w4.drew.cell? ⟨g,1,none⟩=some (.int .i64 b):=LsCells.c1 R4.out;have d2:w4.drew.cell? ⟨g,2,none⟩=some (.int .i64 c):=LsCells.c2 R4.out;have f2:w4.drew.frozen? ⟨g,2,none⟩=false:=frozen_of_row _ g 2 _ _ (show w4.drew.heap[g]? =_ from R4.out);have lg:g<w4.drew.heap.size:=(Array.getElem?_eq_some_iff.1 (show w4.drew.heap[g]? =_ from R4.out)).1;have R5:Hid (w4.drew.heap[g]? =some (.cells #[.int .i64 a,.int .i64 b,.int .i64 c] 260 (0,0))):=R4.out;have hdr:Hid (Below w1.heap.size w1 w4.drew):=B5.out;refine wp_region_held_drew (S:=fun _=>True) (by kernel_rfl) trivial (fun hS=> ?_);refine tY 0 hS ?_;refine tY 2 hS ?_;refine tY 3 hS ?_;simp only[Act.put,zT,zO,zS];refine jdq 1 4 rfl rfl (by kernel_rfl) rfl rfl (fun K hK=> ?_) (fun K hK=> ?_)
  ·go_simp
   refine hK.out _ _ hS (fun _=> ?_);clear hK K;try simp only[Act.put,zT,zO,zS]
   refine rO 4 (fun K hK=> ?_);go_simp
   with_reducible refine(CL.out _).mono ?_
   rintro e w6 ⟨rfl,hw⟩;obtain rfl:=hw.symm;refine hK.out _ _ hS (fun _=> ?_);clear hK K;refine tY 5 hS ?_;refine tY 6 hS ?_;simp only[Act.put,zT,zO,zS];refine rO 7 (fun K hK=> ?_);go_simp;refine hK.out _ _ hS (fun _=> ?_);clear hK K;refine wpAnyH_done (by kernel_rfl) ?_ _;have R6:Hid ((w4.setCell ⟨g,2,none⟩ (.int .i64 (max c d))).drew.heap[g]? =some (.cells #[.int .i64 a,.int .i64 b,.int .i64 (max c d)] 260 (0,0))):=heap_setCell_same w4 g 2 _ _ (.int .i64 (max c d)) R4.out;have B6:Hid (Below w1.heap.size w1 (w4.setCell ⟨g,2,none⟩ (.int .i64 (max c d))).drew):=(B4.out.setCell (p:=⟨g,2,none⟩) (by have:=GB.out;have:=B1.out.size;show w1.heap.size≤g;omega) _).drew;have H6:Hid (LsIs (w4.setCell ⟨g,2,none⟩ (.int .i64 (max c d))).drew q cs ty mo s):=(H4.out.keep (heap_setCell_other _ _ _ _ (fun e=>NG.out (.inl e.symm))) (fun m hm=>heap_setCell_other _ _ _ _ (fun e=>NG.out (.inr (by rw[hm];exact congrArg some e))))).on (Below.refl _ _).drew;clear d0 d1 d2 f2 lg hS;generalize(w4.setCell ⟨g,2,none⟩ (.int .i64 (max c d))).drew=w6 at*;have d0:=LsCells.c0 R6.out;have d1:=LsCells.c1 R6.out;have d2:=LsCells.c2 R6.out;go_upto_region 11 with(go_at_call 252;(with_reducible refine(CP.out _ H6.out).mono ?_);rintro e w7 ⟨mo5,rfl,hm5,hk5,hn5⟩;have R7:=zh ((hk5.block g (Array.getElem?_eq_some_iff.1 R6.out).1 NG.out).trans R6.out);have M5:=zh hm5;have K5:=zh hk5;have N5:=zh hn5;clear hm5 hk5 hn5 d0 d1 d2)
   have d2:=LsCells.c2 R7.out;go_wp2_with fail;exact bodyPost_ret (v:= .tuple #[.int .i64 (max c d),.int .i64 0]) (by simp[results,Tryz.results205,go_sem]) rfl (jf0 HX.out B6.out M5.out K5.out N5.out _)
  ·go_simp
   with_reducible refine(CL.out _).mono ?_
   rintro e w6 ⟨rfl,hw⟩;obtain rfl:=hw.symm;refine hK.out _ _ hS (fun _=> ?_);clear hK K;try simp only[Act.put,zT,zO,zS]
   refine rO 1 (fun K hK=> ?_);go_simp;refine hK.out _ _ hS (fun _=> ?_);clear hK K;refine tY 5 hS ?_;refine tY 6 hS ?_;simp only[Act.put,zT,zO,zS];refine rO 7 (fun K hK=> ?_);go_simp;refine hK.out _ _ hS (fun _=> ?_);clear hK K;refine wpAnyH_done (by kernel_rfl) ?_ _;have R6:Hid ((w4.setCell ⟨g,2,none⟩ (.int .i64 (max c d))).drew.heap[g]? =some (.cells #[.int .i64 a,.int .i64 b,.int .i64 (max c d)] 260 (0,0))):=heap_setCell_same w4 g 2 _ _ (.int .i64 (max c d)) R4.out;have B6:Hid (Below w1.heap.size w1 (w4.setCell ⟨g,2,none⟩ (.int .i64 (max c d))).drew):=(B4.out.setCell (p:=⟨g,2,none⟩) (by have:=GB.out;have:=B1.out.size;show w1.heap.size≤g;omega) _).drew;have H6:Hid (LsIs (w4.setCell ⟨g,2,none⟩ (.int .i64 (max c d))).drew q cs ty mo s):=(H4.out.keep (heap_setCell_other _ _ _ _ (fun e=>NG.out (.inl e.symm))) (fun m hm=>heap_setCell_other _ _ _ _ (fun e=>NG.out (.inr (by rw[hm];exact congrArg some e))))).on (Below.refl _ _).drew;clear d0 d1 d2 f2 lg hS;generalize(w4.setCell ⟨g,2,none⟩ (.int .i64 (max c d))).drew=w6 at*;have d0:=LsCells.c0 R6.out;have d1:=LsCells.c1 R6.out;have d2:=LsCells.c2 R6.out;go_upto_region 11 with(go_at_call 252;(with_reducible refine(CP.out _ H6.out).mono ?_);rintro e w7 ⟨mo5,rfl,hm5,hk5,hn5⟩;have R7:=zh ((hk5.block g (Array.getElem?_eq_some_iff.1 R6.out).1 NG.out).trans R6.out);have M5:=zh hm5;have K5:=zh hk5;have N5:=zh hn5;clear hm5 hk5 hn5 d0 d1 d2)
   have d2:=LsCells.c2 R7.out;go_wp2_with fail;exact bodyPost_ret (v:= .tuple #[.int .i64 (max c d),.int .i64 0]) (by simp[results,Tryz.results205,go_sem]) rfl (jf0 HX.out B6.out M5.out K5.out N5.out _)
section
variable{w w4 w':World}{q:Nat}{s s':Bk.St}{ru:Nat→Bk.Un}{rv:Int}{lo lo4 ko:Option Nat}{H:Value}{K:Kv.St}{cs:Array Value}{ty:TypeId}
theorem turn_l(h:BdIs w q s ru rv lo ko H K)(h4:LsIs w4 q cs ty lo4 (Bd.tab s'))(k4:Kept (fun i=>i=q∨lo=some i) w w4)(n4:∀m,lo4=some m→lo=some m∨w.heap.size≤m)(kq:KQ q w4 w')(ha:BdAt w' q s' ru rv (.map lo4) (.map ko) H)(hv:s'.vs=s.vs)(hh:s'.h=s.h)(hu:s'.us=s.us)(hl:Bd.Lok s'):
  jav q lo ko H s' (.tuple #[]) w (.returned (.tuple #[])) w':=by
 have hk2:Kept (fun i=>i=q∨lo=some i) w w':=k4.trans kq fun _ _ h=> .inl h;refine⟨ru,rv,lo4,ko,H,K,rfl,⟨ha,?_,?_,h.kg,h.kr,by rw[hv];exact h.kb,by rw[hv];exact h.dg,by rw[hu];exact h.raw,?_,fun m e e2=> ?_,hl⟩,hk2.more fun i _ e=> ?_,fun i hi=> ?_⟩
 ·exact h4.map.keep fun m e=>kq.block m (by subst e;exact MapW.Opt.lt h4.map) (fun e2=>by subst e;exact h4.ne e2.symm)
 ·exact h.kv.keep fun m e=>hk2.block m (h.lt.2.2.1 m e) (fun e2=>by rcases e2 with e2|e2;exact h.qk (by rw[e,e2]);exact h.lk m e2 e)
 ·rw[hh];exact h.h.keep fun m e=>hk2.block m (h.lt.2.2.2 m e) (fun e2=>by rcases e2 with e2|e2;exact h.qh (by rw[e,e2]);exact h.hl m e2 e)
 ·rcases n4 m e with h6|h6
  ·exact h.lk m h6 e2
  ·have:=h.lt.2.2.1 m e2;omega
 ·rcases e with e|e
  ·exact .inl e
  ·exact .inr (.inl e)
 ·rcases hi with hi|hi|hi|hi
  ·exact .inl (.inl hi)
  ·rcases n4 i hi with h6|h6
   ·exact .inl (.inr (.inl h6))
   ·exact .inr h6
  ·exact .inl (.inr (.inr (.inl hi)))
  ·exact .inl (.inr (.inr (.inr hi)))
theorem turn_k{ops:List Kv.Po}{e:Ending}(h:BdIs w q s ru rv lo ko H K)(h4:KbDo q 2 (Bd.cells s ru rv (.map lo) (.map ko) H) 125 ko K ops w e w')(hr:(Kv.doS K ops).rev=K.rev+1)(hs:s'.vs.length=s.vs.length+1)(hd:Bd.Digs (Kv.doS K ops) s'.vs)(hc:∀rv' km',Bd.cells s' ru rv' (.map lo) km' H=Bd.cells s ru rv' (.map lo) km' H)(ht:Bd.tab s'=Bd.tab s)(hh:s'.h=s.h)(hu:s'.us=s.us)(hl:Bd.Lok s')(u:Value):
  jav q lo ko H s' u w (.returned u) w':=by
 obtain⟨mo,_,h5,k5,n5⟩:=h4;refine⟨ru,(Kv.doS K ops).rev,lo,mo,H,Kv.doS K ops,rfl,⟨⟨?_⟩,?_,h5.map,h5.good,rfl,by rw[hr,hs,h.kr];have:=h.kb;omega,hd,by rw[hu];exact h.raw,?_,fun m e e2=> ?_,hl⟩,k5.more fun i _ e=> ?_,fun i hi=> ?_⟩
 ·rw[hc];exact h5.row
 ·rw[ht];exact h.ls.keep fun m e=>k5.block m (h.lt.2.1 m e) (fun e2=>by rcases e2 with e2|e2;exact h.ql (by rw[e,e2]);exact h.lk m e e2)
 ·rw[hh];exact h.h.keep fun m e=>k5.block m (h.lt.2.2.2 m e) (fun e2=>by rcases e2 with e2|e2;exact h.qh (by rw[e,e2]);exact h.hk m e2 e)
 ·rcases n5 m e2 with h6|h6
  ·exact h.lk m e h6
  ·have:=h.lt.2.1 m e;omega
 ·rcases e with e|e
  ·exact .inl e
  ·exact .inr (.inr (.inl e))
 ·rcases hi with hi|hi|hi|hi
  ·exact .inl (.inl hi)
  ·exact .inl (.inr (.inl hi))
  ·rcases n5 i hi with h6|h6
   ·exact .inl (.inr (.inr (.inl h6)))
   ·exact .inr h6
  ·exact .inl (.inr (.inr (.inr hi)))
theorem slp_one{m:Nat}{k v:ByteArray}{x:Int}{d:Bool}(h:w.heap[m]? =some (.cells #[.string k,.string v,.int .i64 x,.bool d] 265 (0,0)))(hk:k.size≤maxLen)(hv:v.size≤maxLen)(hx:jjk x):SlP w (some ⟨m,0,none⟩) 1 1 [⟨k,v,x,d⟩]:=by
 refine⟨fun j t hj=> ?_,rfl,Nat.le_refl _,by unfold maxLen;omega,fun e=>by cases e⟩;rcases j with _|j
 ·injection hj with hj
  subst hj;refine⟨m,0,[.string k,.string v,.int .i64 x,.bool d],rfl,(Array.getElem?_eq_some_iff.1 h).1,rfl,fun i hi=> ?_,rfl,hk,hv,hx⟩;rw[cell_of_row w m _ _ _ _ h];rcases i with _|_|_|_|i
  all_goals first|rfl|omega
 ·simp at hj
end
theorem jma(q:Nat)(s:Bk.St)(ru:Nat→Bk.Un)(rv:Int)(lo ko:Option Nat)(H:Value)(K:Kv.St)(w:World)(h:BdIs w q s ru rv lo ko H K)(ht:BT w)(r:Rc.R)(hin:Rc.In r)(hk:r.kind=2)(hc:Bk.chk s r=0):Calls Tryz.prog 135 #[.pointer (some ⟨q,0,none⟩),.agg (Rc.cells r)] w (jav q lo ko H (Bk.act s r) (.tuple #[]) w):=by
 have HT:=zh ht;have HR:=zh (Bk.chk_right hc);have LK:=zh (Bd.act_lok h.lok hc);have H0:=zh h;rw[Bk.act2 hk]at LK⊢;have HK:=zh hk;have GQ:Hid (w.heap.size≠q):=by have:=h.lt.1;show _≠_;omega
 obtain⟨hx1,hx2⟩:=Rc.right2 hk HR.out;obtain⟨hy1,hy2⟩:=Bk.two_ok (by rw[←Bk.chk_two HR.out hk (Bk.chk_epoch hc (by omega))];exact hc);have DP:=zh (h.dg.pub (t:=r.text) h.kg h.lok.ok.rise hy1 hy2 (by omega) (by omega) hx1);have PL:=zh (Bk.pub_length s.vs ⟨r.n,r.text⟩);have HI:=zh (hin.nums r.n (by simp[Rc.nums]));have CK:Hid (∀W,BT W→Calls Tryz.prog 155 #[.int .i64 r.n] W (BRet (.string (Bd.key r.n)) W)):=fun W h=>jis r.n HI.out W h;have KS:Hid ((Bd.key r.n).size≤maxLen):=by have:=Bd.digs_len HI.out;show _≤_;unfold Bd.key maxLen;rw[jce];omega
 have TS:Hid (r.text.size≤maxLen):=by show _≤_;unfold maxLen;omega
 have RV:Hid (K.rev≤1000):=by have:=h.kb;have:=h.kr;show _≤_;omega
 have CDo:Hid (∀W m,BdIs W q s ru rv lo ko H K→SlP W (some ⟨m,0,none⟩) 1 1 [⟨Bd.key r.n,r.text,0,false⟩]→Calls Tryz.prog 210 #[.pointer (some ⟨q,2,none⟩),.slice (some ⟨m,0,none⟩) 1 1] W (KbDo q 2 (Bd.cells s ru rv (.map lo) (.map ko) H) 125 ko K [⟨Bd.key r.n,r.text,0,false⟩] W)):=fun W m h hs=>jip W q 2 _ _ ko K 1 1 (some ⟨m,0,none⟩) _ h.kvIs RV.out hs (by simp);clear hx1 hx2 hy1 hy2;obtain⟨W,hW⟩:∃W,W=w.alloc (.cells (Rc.cells r) 45):=⟨_,rfl⟩;obtain⟨g,hg⟩:∃g,g=w.heap.size:=⟨_,rfl⟩;have R0:=zh (RdC.open_ h r);rw[←hW,←hg]at R0;rw[←hg]at GQ;have GE:Hid (w.heap.size=g):=hg.symm;clear h hk hc hin ht;go_enter Tryz.func135,Tryz.ntmps135;go_upto_region 1 with fail
 rw[←hW,←hg];clear hW hg;refine wp_region_held_drew (S:=fun W=>RcAt W g r) (by kernel_rfl) (R0.out.rc.on (Below.refl W.heap.size W).drew) (fun hS=> ?_);refine tY 0 hS ?_;refine tY 1 hS ?_;refine tY 2 hS ?_;refine tY 3 hS ?_;refine tZ 4 rfl (by intro W hW;have c3:=(RcAt.cs hW).c3;have lg:=(RcAt.cs hW).lt;go_simp;(try with_reducible rfl)) hS ?_;refine tY 6 hS ?_;simp only[Act.put,zT,zO,zS];refine tZ 7 rfl (by intro W hW;have c5:=(RcAt.cs hW).c5;have lg:=(RcAt.cs hW).lt;go_simp;(try with_reducible rfl)) hS ?_;simp only[Act.put,zT,zO,zS];refine rO 5 (fun K hK=> ?_);go_simp
 with_reducible refine(CK.out _ (HT.out.on R0.out.b.drew)).mono ?_
 rintro e w7 ⟨rfl,hb⟩;have B7:=zh (R0.out.b.drew.trans (hb.mono R0.out.b.drew.size));replace hS:=hS.on hb;clear hb;generalize hkk:Bd.key r.n=kk at*;refine hK.out _ _ hS (fun _=> ?_);clear hK K;refine tY 8 hS ?_;simp only[Act.put,zT,zO,zS];refine rO 9 (fun K hK=> ?_);go_simp;have hb5:Below w7.heap.size w7 (w7.alloc (.cells #[.string kk,.string r.text,.int .i64 0,.bool false] 265)):=(Below.refl _ _).alloc (Nat.le_refl _) _;have SP:=zh (slp_one (heap_alloc_new w7 (.cells #[.string kk,.string r.text,.int .i64 0,.bool false] 265)) KS.out TS.out (by unfold jjk;omega));have B5:=zh (B7.out.trans (hb5.mono B7.out.size));have hS2:=hS.on hb5;clear hS hb5;have hS:=hS2;clear hS2;generalize w7.alloc (.cells #[.string kk,.string r.text,.int .i64 0,.bool false] 265)=W5 at*;generalize w7.heap.size=m5 at*;refine hK.out _ _ hS (fun _=> ?_);clear hK K;try simp only[Act.put,zT,zO,zS]
 refine rO 10 (fun K hK=> ?_);go_simp
 with_reducible refine(CDo.out W5 m5 (H0.out.on B5.out) SP.out).mono ?_
 intro e w8 hp8;obtain⟨mo8,rfl,hp81,hp82,hp83⟩:=hp8;have P8:=zh (show KbDo q 2 _ _ ko _ [⟨kk,r.text,0,false⟩] W5 _ w8 from⟨mo8,rfl,hp81,hp82,hp83⟩);have NE:g≠q:=GQ.out;have NM:ko≠some g:=fun e=>by have:=H0.out.lt.2.2.1 g e;have:=GE.out;omega
 have hS2:RcAt w8 g r:=⟨(hp82.block g hS.cs.lt (fun e=>by rcases e with e|e;exact NE e;exact NM e)).trans hS.row⟩
 clear hS hp81 hp82 hp83 NE NM;have hS:=hS2;clear hS2;refine hK.out _ _ hS (fun _=> ?_);clear hK K;try simp only[Act.put,zT,zO,zS]
 refine wpAnyH_done (by kernel_rfl) ?_ _;clear hS;go_wp2_with fail;go_end0;have HX:=H0.out.on B5.out;exact(turn_k (s':={s with vs:=Bk.pub s.vs ⟨r.n,r.text⟩}) HX P8.out DP.out.2.1 PL.out DP.out.2.2.2 (fun _ _=>rfl) rfl rfl rfl LK.out _).ahead B5.out H0.out.ltF
theorem jmb(q:Nat)(s:Bk.St)(ru:Nat→Bk.Un)(rv:Int)(lo ko:Option Nat)(H:Value)(K:Kv.St)(w:World)(h:BdIs w q s ru rv lo ko H K)(ht:BT w)(r:Rc.R)(hin:Rc.In r)(hk:r.kind=1)(hc:Bk.chk s r=0):Calls Tryz.prog 133 #[.pointer (some ⟨q,0,none⟩),.agg (Rc.cells r)] w (jav q lo ko H (Bk.act s r) (.tuple #[]) w):=by
 have HT:=zh ht;have HR:=zh (Bk.chk_right hc);have LK:=zh (Bd.act_lok h.lok hc);have H0:=zh h;rw[Bk.act1 hk]at LK⊢;have HK:=zh hk;have GQ:Hid (w.heap.size≠q):=by have:=h.lt.1;show _≠_;omega
 obtain⟨hw1,hn1,hs1⟩:=Rc.right1 hk HR.out;have RE:=zh (Rc.ok_of HR.out).epoch;have hlo:=Bk.lead_ok (by rw[←Bk.chk_lead HR.out hk];exact hc);have RI:Hid (Ls.Right Bd.leader r.who r.n r.seq):=⟨by decide,by decide,hw1.1,hw1.2,hn1,hs1.1,hs1.2⟩;have OKS:=zh h.lok.ok;clear hw1 hn1 hs1;have FEW:Hid (Ls.Few (Bd.tab s) 2199023255552):=by
  refine⟨fun e he=> ?_,?_⟩
  ·have:=OKS.out.ep
   unfold Bd.tab at he;by_cases h0:s.ep=0
   ·simp[h0]at he
   ·simp only[if_neg h0,List.mem_singleton]at he
    subst he;show s.ep≤_;omega
  ·unfold Bd.tab
   show(if s.ep=0 then[]else[_]).length≤_;split<;>simp
 obtain⟨s9,hs9⟩:∃t,t=({s with ep:=r.epoch,who:=r.who,till:=Bk.leadT s r}:Bk.St):=⟨_,rfl⟩
 rw[←hs9]at LK⊢;have HS:=zh hs9;clear hs9;obtain⟨W,hW⟩:∃W,W=w.alloc (.cells (Rc.cells r) 45):=⟨_,rfl⟩;obtain⟨g,hg⟩:∃g,g=w.heap.size:=⟨_,rfl⟩;have R0:=zh (RdC.open_ h r);rw[←hW,←hg]at R0;rw[←hg]at GQ;have GE:Hid (w.heap.size=g):=hg.symm;clear h hk hc hin ht;go_enter Tryz.func133,Tryz.ntmps133;go_upto_region 1 with fail
 rw[←hW,←hg];clear hW hg;have c1:=R0.out.rc.cs.c1;have b4:=R0.out.bd.at_.cs.c4;have lq:=R0.out.bd.lt.1;have lg:=R0.out.rc.cs.lt;by_cases he:r.epoch=s.ep
 ·have q1:(r.epoch==s.ep)=true:=by simpa using he
  have HE:=zh he;clear he;have hq:=hlo.2;unfold Bk.leadOk at hq;rw[if_pos HE.out,Bool.and_eq_true,decide_eq_true_eq,decide_eq_true_eq]at hq;obtain⟨t1,t2⟩:=Bd.tab_renew (s:=s) (ep:=r.epoch) RI.out (by have:=RE.out;have:=HE.out;omega) hq.1 HE.out.symm hq.2;have TE:Hid (Ls.renewS (Bd.tab s) Bd.leader r.who r.epoch r.n r.seq=Bd.tab s9):=by show _=_;rw[t1,HS.out];unfold Bk.leadT;rw[if_pos HE.out,HE.out,←hq.1]
  clear hq hlo t1 t2;go_upto_region 1 with fail
  go_region;go_upto_region 2 with fail
  clear c1 b4 lq lg;have R1:=zh (R0.out.on (Below.refl W.heap.size W).drew);generalize W.drew=W1 at*;have CT:=zh (jh8 W1.drew (fun i=>i=q∨lo=some i) q _ _ lo (Bd.tab s) ⟨.inl rfl,fun m e=> .inr e,fun i hi=>by rcases hi with rfl|hi;exact(R1.out.bd.on (Below.refl W1.heap.size W1).drew).lt.1;exact(R1.out.bd.on (Below.refl W1.heap.size W1).drew).lt.2.1 i hi⟩ (R1.out.bd.on (Below.refl W1.heap.size W1).drew).lsIs Bd.leader (by decide) r.who r.epoch r.n r.seq)
  rw[TE.out]at CT;unfold Bd.leader at CT;refine wp_region_held_drew (S:=fun W=>RcAt W g r) (by kernel_rfl) (R1.out.rc.on (Below.refl W1.heap.size W1).drew) (fun hS=> ?_);refine tY 0 hS ?_;refine tY 1 hS ?_;refine tY 2 hS ?_;refine tY 3 hS ?_;refine tZ 4 rfl (by intro W hW;have c2:=(RcAt.cs hW).c2;have lg:=(RcAt.cs hW).lt;go_simp;(try with_reducible rfl)) hS ?_;refine tY 5 hS ?_;simp only[Act.put,zT,zO,zS];refine tZ 6 rfl (by intro W hW;have c1:=(RcAt.cs hW).c1;have lg:=(RcAt.cs hW).lt;go_simp;(try with_reducible rfl)) hS ?_;refine tY 7 hS ?_;refine tZ 8 rfl (by intro W hW;have c3:=(RcAt.cs hW).c3;have lg:=(RcAt.cs hW).lt;go_simp;(try with_reducible rfl)) hS ?_;refine tY 9 hS ?_;refine tZ 10 rfl (by intro W hW;have c4:=(RcAt.cs hW).c4;have lg:=(RcAt.cs hW).lt;go_simp;(try with_reducible rfl)) hS ?_;simp only[Act.put,zT,zO,zS];refine rO 11 (fun K hK=> ?_);go_simp
  with_reducible refine CT.out.mono ?_
  intro e w4 hp4;obtain⟨lo4,rfl,hp41,hp42,hp43⟩:=hp4;have L4:=zh hp41;have K4:=zh ((Kept.of_below (F:=fun i=>i=q∨lo=some i) R1.out.b.drew).trans hp42 fun _ _ h=>h);have N4:Hid (∀m,lo4=some m→lo=some m∨w.heap.size≤m):=fun m e=>(hp43 m e).imp id (Nat.le_trans R1.out.b.drew.size);have NG1:g≠q:=GQ.out;have NG2:lo≠some g:=fun e=>by have:=H0.out.lt.2.1 g e;have:=GE.out;omega
  have hS2:RcAt w4 g r:=⟨(hp42.block g hS.cs.lt (fun e=>by rcases e with e|e;exact NG1 e;exact NG2 e)).trans hS.row⟩
  clear hS hp41 hp42 hp43 NG1 NG2;have hS:=hS2;clear hS2;refine hK.out _ _ hS (fun _=> ?_);clear hK K;try simp only[Act.put,zT,zO,zS]
  refine wpAnyH_done (by kernel_rfl) ?_ _;clear hS;have AT4:Hid (BdAt w4 q s ru rv (.map lo4) (.map ko) H):=⟨L4.out.row⟩;have CG:=zh (jc3 w4 q _ _ lo4 _ L4.out Bd.leader (by decide));obtain⟨ge1,ge2,ge3⟩:=Bd.get_tab (s:=s9) (by rw[HS.out];show r.epoch≠0;have:=RE.out;omega);unfold LGet lval at CG;rw[ge1,ge2,ge3]at CG;rw[HS.out]at CG;clear ge1 ge2 ge3;unfold Bd.leader at CG;obtain⟨tl,htl⟩:∃tl,tl=Bk.leadT s r:=⟨_,rfl⟩;have CG2:Hid (Calls Tryz.prog 207 #[.pointer (some ⟨q,0,none⟩),.string ⟨#[108,101,97,100,101,114]⟩] w4 (fun e w'=>∃fb,e= .returned (.tuple #[.agg #[.int .i64 r.who,.int .i64 r.epoch,.int .i64 tl],.bool fb])∧Below w4.heap.size w4 w')):=by rw[htl];exact CG.out.mono fun e w' h=>⟨_,h.1,h.2⟩
  clear CG;have HTL:=zh htl;clear htl;go_upto_region 5 with(go_at_call 207;(with_reducible refine CG2.out.mono ?_);rintro e w5 ⟨fb,rfl,hb⟩;have B5:=zh hb;clear hb)
  have hb6:Below w5.heap.size w5 (w5.alloc (.cells #[.int .i64 r.who,.int .i64 r.epoch,.int .i64 tl] 260)):=(Below.refl _ _).alloc (Nat.le_refl _) _;have R6:=heap_alloc_new w5 (.cells #[.int .i64 r.who,.int .i64 r.epoch,.int .i64 tl] 260);have d0:=LsCells.c0 R6;have d1:=LsCells.c1 R6;have d2:=LsCells.c2 R6;have A6:=zh ((AT4.out.on B5.out).on hb6);have K6:=zh (KQ.of (B5.out.trans (hb6.mono B5.out.size)) q);have l6:=(Array.getElem?_eq_some_iff.1 R6).1;have NE6:w5.heap.size≠q:=by have:=(AT4.out.on B5.out).lt;omega
  have NE7:q≠w5.heap.size:=by omega
  clear R6 hb6;generalize w5.alloc (.cells #[.int .i64 r.who,.int .i64 r.epoch,.int .i64 tl] 260)=W6 at*;generalize w5.heap.size=g6 at*;have b4:=A6.out.cs.c4;have b5:=A6.out.cs.c5;have b6:=A6.out.cs.c6;have fz:=fun i=>A6.out.fz i;have lq:=A6.out.lt;go_region;clear b4 b5 b6 fz lq d0 d1 d2;have A7:=zh (show BdAt ((((W6.setCell ⟨q,4,none⟩ (.int .i64 r.epoch)).setCell ⟨q,5,none⟩ (.int .i64 r.who)).setCell ⟨q,6,none⟩ (.int .i64 tl)).drew) q _ _ _ _ _ _ from(jda (((A6.out.ep r.epoch).who r.who).till tl)));have K7:=zh (KQ.drew (KQ.set (KQ.set (KQ.set K6.out (4) (.int .i64 r.epoch)) (5) (.int .i64 r.who)) (6) (.int .i64 tl)));generalize hW7:(((W6.setCell ⟨q,4,none⟩ (.int .i64 r.epoch)).setCell ⟨q,5,none⟩ (.int .i64 r.who)).setCell ⟨q,6,none⟩ (.int .i64 tl)).drew=W7 at*;clear hW7;go_wp2_with fail;go_end0;refine turn_l (s':=s9) H0.out L4.out K4.out N4.out K7.out ?_ (by rw[HS.out]) (by rw[HS.out]) (by rw[HS.out]) LK.out;rw[HS.out,←HTL.out];exact A7.out
 ·have q1:(r.epoch==s.ep)=false:=by simpa using he
  have HE:=zh he;have he2:r.epoch=s.ep+1:=by omega
  have HE2:=zh he2;clear he he2;have hq:=hlo.2;unfold Bk.leadOk at hq;rw[if_neg HE.out]at hq;obtain⟨t1,t2⟩:=Bd.tab_take (s:=s) RI.out hq (by have:=RE.out;have:=HE2.out;omega);have TE:Hid (Ls.takeS (Bd.tab s) Bd.leader r.who r.n r.seq=Bd.tab s9):=by show _=_;rw[t1,HS.out];unfold Bk.leadT;rw[if_neg HE.out,HE2.out]
  clear hq hlo t1 t2;go_upto_region 1 with fail
  go_region;go_upto_region 3 with fail
  clear c1 b4 lq lg;have R1:=zh (R0.out.on (Below.refl W.heap.size W).drew);generalize W.drew=W1 at*;have CT:=zh (jfj W1.drew (fun i=>i=q∨lo=some i) q _ _ lo (Bd.tab s) ⟨.inl rfl,fun m e=> .inr e,fun i hi=>by rcases hi with rfl|hi;exact(R1.out.bd.on (Below.refl W1.heap.size W1).drew).lt.1;exact(R1.out.bd.on (Below.refl W1.heap.size W1).drew).lt.2.1 i hi⟩ (R1.out.bd.on (Below.refl W1.heap.size W1).drew).lsIs FEW.out Bd.leader (by decide) r.who r.n r.seq)
  rw[TE.out]at CT;unfold Bd.leader at CT;refine wp_region_held_drew (S:=fun W=>RcAt W g r) (by kernel_rfl) (R1.out.rc.on (Below.refl W1.heap.size W1).drew) (fun hS=> ?_);refine tY 0 hS ?_;refine tY 1 hS ?_;refine tY 2 hS ?_;refine tY 3 hS ?_;refine tZ 4 rfl (by intro W hW;have c2:=(RcAt.cs hW).c2;have lg:=(RcAt.cs hW).lt;go_simp;(try with_reducible rfl)) hS ?_;refine tY 5 hS ?_;simp only[Act.put,zT,zO,zS];refine tZ 6 rfl (by intro W hW;have c3:=(RcAt.cs hW).c3;have lg:=(RcAt.cs hW).lt;go_simp;(try with_reducible rfl)) hS ?_;refine tY 7 hS ?_;refine tZ 8 rfl (by intro W hW;have c4:=(RcAt.cs hW).c4;have lg:=(RcAt.cs hW).lt;go_simp;(try with_reducible rfl)) hS ?_;simp only[Act.put,zT,zO,zS];refine rO 9 (fun K hK=> ?_);go_simp
  with_reducible refine CT.out.mono ?_
  intro e w4 hp4;obtain⟨lo4,rfl,hp41,hp42,hp43⟩:=hp4;have L4:=zh hp41;have K4:=zh ((Kept.of_below (F:=fun i=>i=q∨lo=some i) R1.out.b.drew).trans hp42 fun _ _ h=>h);have N4:Hid (∀m,lo4=some m→lo=some m∨w.heap.size≤m):=fun m e=>(hp43 m e).imp id (Nat.le_trans R1.out.b.drew.size);have NG1:g≠q:=GQ.out;have NG2:lo≠some g:=fun e=>by have:=H0.out.lt.2.1 g e;have:=GE.out;omega
  have hS2:RcAt w4 g r:=⟨(hp42.block g hS.cs.lt (fun e=>by rcases e with e|e;exact NG1 e;exact NG2 e)).trans hS.row⟩
  clear hS hp41 hp42 hp43 NG1 NG2;have hS:=hS2;clear hS2;refine hK.out _ _ hS (fun _=> ?_);clear hK K;try simp only[Act.put,zT,zO,zS]
  refine wpAnyH_done (by kernel_rfl) ?_ _;clear hS;have AT4:Hid (BdAt w4 q s ru rv (.map lo4) (.map ko) H):=⟨L4.out.row⟩;have CG:=zh (jc3 w4 q _ _ lo4 _ L4.out Bd.leader (by decide));obtain⟨ge1,ge2,ge3⟩:=Bd.get_tab (s:=s9) (by rw[HS.out];show r.epoch≠0;have:=RE.out;omega);unfold LGet lval at CG;rw[ge1,ge2,ge3]at CG;rw[HS.out]at CG;clear ge1 ge2 ge3;unfold Bd.leader at CG;obtain⟨tl,htl⟩:∃tl,tl=Bk.leadT s r:=⟨_,rfl⟩;have CG2:Hid (Calls Tryz.prog 207 #[.pointer (some ⟨q,0,none⟩),.string ⟨#[108,101,97,100,101,114]⟩] w4 (fun e w'=>∃fb,e= .returned (.tuple #[.agg #[.int .i64 r.who,.int .i64 r.epoch,.int .i64 tl],.bool fb])∧Below w4.heap.size w4 w')):=by rw[htl];exact CG.out.mono fun e w' h=>⟨_,h.1,h.2⟩
  clear CG;have HTL:=zh htl;clear htl;go_upto_region 5 with(go_at_call 207;(with_reducible refine CG2.out.mono ?_);rintro e w5 ⟨fb,rfl,hb⟩;have B5:=zh hb;clear hb)
  have hb6:Below w5.heap.size w5 (w5.alloc (.cells #[.int .i64 r.who,.int .i64 r.epoch,.int .i64 tl] 260)):=(Below.refl _ _).alloc (Nat.le_refl _) _;have R6:=heap_alloc_new w5 (.cells #[.int .i64 r.who,.int .i64 r.epoch,.int .i64 tl] 260);have d0:=LsCells.c0 R6;have d1:=LsCells.c1 R6;have d2:=LsCells.c2 R6;have A6:=zh ((AT4.out.on B5.out).on hb6);have K6:=zh (KQ.of (B5.out.trans (hb6.mono B5.out.size)) q);have l6:=(Array.getElem?_eq_some_iff.1 R6).1;have NE6:w5.heap.size≠q:=by have:=(AT4.out.on B5.out).lt;omega
  have NE7:q≠w5.heap.size:=by omega
  clear R6 hb6;generalize w5.alloc (.cells #[.int .i64 r.who,.int .i64 r.epoch,.int .i64 tl] 260)=W6 at*;generalize w5.heap.size=g6 at*;have b4:=A6.out.cs.c4;have b5:=A6.out.cs.c5;have b6:=A6.out.cs.c6;have fz:=fun i=>A6.out.fz i;have lq:=A6.out.lt;go_region;clear b4 b5 b6 fz lq d0 d1 d2;have A7:=zh (show BdAt ((((W6.setCell ⟨q,4,none⟩ (.int .i64 r.epoch)).setCell ⟨q,5,none⟩ (.int .i64 r.who)).setCell ⟨q,6,none⟩ (.int .i64 tl)).drew) q _ _ _ _ _ _ from(jda (((A6.out.ep r.epoch).who r.who).till tl)));have K7:=zh (KQ.drew (KQ.set (KQ.set (KQ.set K6.out (4) (.int .i64 r.epoch)) (5) (.int .i64 r.who)) (6) (.int .i64 tl)));generalize hW7:(((W6.setCell ⟨q,4,none⟩ (.int .i64 r.epoch)).setCell ⟨q,5,none⟩ (.int .i64 r.who)).setCell ⟨q,6,none⟩ (.int .i64 tl)).drew=W7 at*;clear hW7;go_wp2_with fail;go_end0;refine turn_l (s':=s9) H0.out L4.out K4.out N4.out K7.out ?_ (by rw[HS.out]) (by rw[HS.out]) (by rw[HS.out]) LK.out;rw[HS.out,←HTL.out];exact A7.out
end Go.Proofs.YtabandbigckfkaaGreatDoor
