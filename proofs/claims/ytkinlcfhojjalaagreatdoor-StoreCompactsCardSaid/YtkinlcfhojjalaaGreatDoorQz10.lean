import Derived.Test.YtkinlcfhojjalaaGreatDoorQz08
import Derived.Test.YtkinlcfhojjalaaGreatDoorQz09
set_option maxHeartbeats 6400000
set_option maxRecDepth 100000
set_option linter.all false
namespace Go.Proofs.YtkinlcfhojjalaaGreatDoor
open Go.RowKit
theorem jnn(p:Int)(w:World):Calls Tryz.prog 133 #[.int .i64 p] w fun e w'=>e= .returned (.bool (Ph.open_ p))/\w'=w:=by
 by_cases h:p=1\/p=2\/p=4
 ·rcases h with rfl|rfl|rfl
  all_goals
   go_in;go_wp2;go_ret;exact⟨rfl,rfl⟩
 ·rw[show Ph.open_ p=false from by unfold Ph.open_;simp;omega]
  have q1:(p==1)=false:=by rw[zq];omega
  have q2:(p==2)=false:=by rw[zq];omega
  have q4:(p==4)=false:=by rw[zq];omega
  clear h;go_in;go_wp2;go_ret;exact⟨rfl,rfl⟩
theorem jla(s:Bk.St)(ok:Bk.Ok s)(r:Rc.R)(hin:Rc.In r)(L V H:Value)(w:World)(h:BkRd w s L V H)(hr:Rc.right r=false):Calls Tryz.prog 78 #[.agg (Bk.cells s L V H),.agg (Rc.cells r)] w (jbg w (.int .i64 1)):=by
 have CR:=zh (fun W=>ja5 r hin W);unfold Rc.val at CR;rw[hr]at CR;clear ok hr;obtain⟨W,hW⟩:∃W,W=(w.alloc (.cells (Bk.cells s L V H) 38)).alloc (.cells (Rc.cells r) 56):=zx;obtain⟨r1,r2,hb,hs⟩:=jbl hW;have BX:=zh (BkRc.mk ⟨r1⟩ ⟨r2⟩ (h.on hb) hb zl);clear r1 r2 hs hb h hin;go_in;go_upto_region 1 with fail
 rw[<-hW];clear hW;obtain⟨n,hn⟩:∃n,n=w.heap.size:=zx;rw[<-hn]at BX⊢;clear hn;have k1:=BX.o.rc.cs.lt;have k0:=BX.o.bk.lt
 go_wp2_with(first
  |((with_reducible show zL 16);refine zR (.tmp 3) BX.o.rc ?_)
  |(go_at_call 82;refine(CR.o _).mono ?_;rintro e wr ⟨rfl,hb⟩;have BX:=zh (BX.o.on hb);clear hb k0 k1;have k1:=BX.o.rc.cs.lt;have k0:=BX.o.bk.lt))
 go_ret;exact⟨rfl,BX.o.below⟩
theorem jno(s:Bk.St)(ok:Bk.Ok s)(r:Rc.R)(hin:Rc.In r)(L V H:Value)(w:World)(h:BkRd w s L V H)(hr:Rc.right r=true)(hk:r.kind=1):Calls Tryz.prog 78 #[.agg (Bk.cells s L V H),.agg (Rc.cells r)] w (jbg w (.int .i64 (Bk.leadE s r))):=by
 have CR:=zh (fun W=>ja5 r hin W);unfold Rc.val at CR;rw[hr]at CR;have HK:=zh hk;have CL:Hid (∀W,BkRd W s L V H->Calls Tryz.prog 79 #[.agg (Bk.cells s L V H),.agg (Rc.cells r)] W (jcp W s r)):=fun W h=>jhw s ok r hr hk L V H W h;clear hr hk;obtain⟨W,hW⟩:∃W,W=(w.alloc (.cells (Bk.cells s L V H) 38)).alloc (.cells (Rc.cells r) 56):=zx;obtain⟨r1,r2,hb,hs⟩:=jbl hW;have BX:=zh (BkRc.mk ⟨r1⟩ ⟨r2⟩ (h.on hb) hb zl);clear r1 r2 hs hb h hin;go_in;go_upto_region 1 with fail
 rw[<-hW];clear hW;obtain⟨n,hn⟩:∃n,n=w.heap.size:=zx;rw[<-hn]at BX⊢;clear hn;have c0:=BX.o.rc.cs.c0;rw[HK.o]at c0;have k1:=BX.o.rc.cs.lt;have k0:=BX.o.bk.lt
 go_wp2_with(first
  |((with_reducible show zL 16);refine zR (.tmp 3) BX.o.rc ?_)
  |(go_at_call 82;refine(CR.o _).mono ?_;rintro e wr ⟨rfl,hb⟩;have BX:=zh (BX.o.on hb);clear hb c0 k0 k1;have c0:=BX.o.rc.cs.c0;rw[HK.o]at c0;have k1:=BX.o.rc.cs.lt;have k0:=BX.o.bk.lt)
  |((with_reducible show zL 24);refine jab rfl (.tmp 2) rfl rfl BX.o.bk ?_)
  |((with_reducible show zL 25);refine zR (.tmp 3) BX.o.rc ?_)
  |(go_at_call 79;refine(CL.o _ BX.o.rd).mono ?_;rintro e wl ⟨ll,AL,cL,rfl,_,hb,_⟩;have BX:=zh (BX.o.on hb);clear hb c0 k0 k1;have c0:=BX.o.rc.cs.c0;rw[HK.o]at c0;have k1:=BX.o.rc.cs.lt;have k0:=BX.o.bk.lt))
 go_ret;exact⟨rfl,by have bb:=BX.o.below;have ns:=bb.size;go_grown⟩
theorem jum(s:Bk.St)(ok:Bk.Ok s)(r:Rc.R)(hin:Rc.In r)(L V H:Value)(w:World)(h:BkRd w s L V H)(hr:Rc.right r=true)(hk:r.kind≠1)(he:r.epoch≠s.ep):Calls Tryz.prog 78 #[.agg (Bk.cells s L V H),.agg (Rc.cells r)] w (jbg w (.int .i64 8)):=by
 have CR:=zh (fun W=>ja5 r hin W);unfold Rc.val at CR;rw[hr]at CR;have q0:(r.kind==1)=false:=by rw[zq];exact hk
 have q1:(r.epoch !=s.ep)=true:=by rw[bne_iff_ne];exact he
 clear ok hr hk he;obtain⟨W,hW⟩:∃W,W=(w.alloc (.cells (Bk.cells s L V H) 38)).alloc (.cells (Rc.cells r) 56):=zx;obtain⟨r1,r2,hb,hs⟩:=jbl hW;have BX:=zh (BkRc.mk ⟨r1⟩ ⟨r2⟩ (h.on hb) hb zl);clear r1 r2 hs hb h hin;go_in;go_upto_region 1 with fail
 rw[<-hW];clear hW;obtain⟨n,hn⟩:∃n,n=w.heap.size:=zx;rw[<-hn]at BX⊢;clear hn;have b3:=BX.o.bk.cs.c3;have c0:=BX.o.rc.cs.c0;have c1:=BX.o.rc.cs.c1;have k1:=BX.o.rc.cs.lt;have k0:=BX.o.bk.lt
 go_wp2_with(first
  |((with_reducible show zL 16);refine zR (.tmp 3) BX.o.rc ?_)
  |(go_at_call 82;refine(CR.o _).mono ?_;rintro e wr ⟨rfl,hb⟩;have BX:=zh (BX.o.on hb);clear hb b3 c0 c1 k0 k1;have b3:=BX.o.bk.cs.c3;have c0:=BX.o.rc.cs.c0;have c1:=BX.o.rc.cs.c1;have k1:=BX.o.rc.cs.lt;have k0:=BX.o.bk.lt))
 go_ret;exact⟨rfl,BX.o.below⟩
theorem zzj{p:Prop}(h:p:=by
 go_wp2_with(first
  |((with_reducible show zL 16);refine zR (.tmp 3) BX.o.rc ?_)
  |(go_at_call 82;refine(CR.o _).mono ?_;rintro e wr ⟨rfl,hb⟩;have BX:=zh (BX.o.on hb);clear hb b2 b3 c0 c1 c3 k0 k1;have b2:=BX.o.bk.cs.c2;have b3:=BX.o.bk.cs.c3;have c0:=BX.o.rc.cs.c0;have c1:=BX.o.rc.cs.c1;have c3:=BX.o.rc.cs.c3;rw[HK.o]at c0;have k1:=BX.o.rc.cs.lt;have k0:=BX.o.bk.lt)
  |((with_reducible show zL 40);refine jab rfl (.tmp 2) rfl rfl BX.o.bk ?_)
  |(go_at_call 132;refine(CD.o _ BX.o.rd).mono ?_;rintro e wd ⟨rfl,hb⟩;have BX:=zh (BX.o.on hb);clear hb b2 b3 c0 c1 c3 k0 k1;have b2:=BX.o.bk.cs.c2;have b3:=BX.o.bk.cs.c3;have c0:=BX.o.rc.cs.c0;have c1:=BX.o.rc.cs.c1;have c3:=BX.o.rc.cs.c3;rw[HK.o]at c0;have k1:=BX.o.rc.cs.lt;have k0:=BX.o.bk.lt))
 go_ret;exact⟨rfl,BX.o.below⟩):p:=h
theorem jp9(s:Bk.St)(ok:Bk.Ok s)(r:Rc.R)(hin:Rc.In r)(L V H:Value)(w:World)(h:BkRd w s L V H)(hr:Rc.right r=true)(hk:r.kind=2)(he:r.epoch=s.ep):Calls Tryz.prog 78 #[.agg (Bk.cells s L V H),.agg (Rc.cells r)] w (jbg w (.int .i64 (Bk.chk2 s r))):=by
 have CR:=zh (fun W=>ja5 r hin W);unfold Rc.val at CR;rw[hr]at CR;have HK:=zh hk;have q1:(r.epoch !=s.ep)=false:=by rw[bne_eq_false_iff_eq];exact he
 obtain⟨AV,cV,rfl,hsv⟩:=h.v;have CD:Hid (∀W,BkRd W s L (.slice AV s.vs.length cV) H->Calls Tryz.prog 132 #[.agg (Bk.cells s L (.slice AV s.vs.length cV) H),.int .i64 r.n] W (jfr W (.string (Bk.text s.vs r.n)) (.bool (Bk.has s.vs r.n)))):=fun W h=>jfs s L (.slice AV s.vs.length cV) H r.n W h ok.vl;have hvl:=ok.vl;obtain⟨ans,hans⟩:∃ans,ans=Bk.chk2 s r:=zx;rw[<-hans];unfold Bk.chk2 at hans;have HA:=zh hans;generalize Bk.has s.vs r.n=hs at*;generalize Bk.text s.vs r.n=tx at*;clear ok hr hk he hsv hans;obtain⟨W,hW⟩:∃W,W=(w.alloc (.cells (Bk.cells s L (.slice AV s.vs.length cV) H) 38)).alloc (.cells (Rc.cells r) 56):=zx;obtain⟨r1,r2,hb,hs⟩:=jbl hW;have BX:=zh (BkRc.mk ⟨r1⟩ ⟨r2⟩ (h.on hb) hb zl);clear r1 r2 hs hb h hin;go_in;go_upto_region 1 with fail
 rw[<-hW];clear hW;obtain⟨n,hn⟩:∃n,n=w.heap.size:=zx;rw[<-hn]at BX⊢;clear hn;have b2:=BX.o.bk.cs.c2;have b3:=BX.o.bk.cs.c3;have c0:=BX.o.rc.cs.c0;have c1:=BX.o.rc.cs.c1;have c3:=BX.o.rc.cs.c3;rw[HK.o]at c0;have k1:=BX.o.rc.cs.lt;have k0:=BX.o.bk.lt
 cases hs with
 |true=>
  have E:ans=6:=by rw[HA.o,if_pos rfl]
  subst E
  exact zzj
 |false=>
  by_cases h64:64<=s.vs.length
  ·have E:ans=4:=by rw[HA.o,if_neg (by simp),if_pos h64]
   subst E;have h65:(64:Int)<=(s.vs.length:Int):=by omega
   exact zzj
  ·have E:ans=0:=by rw[HA.o,if_neg (by simp),if_neg h64]
   subst E;have h65:(s.vs.length:Int)<64:=by omega
   exact zzj
theorem zzd{p:Prop}(h:p:=by
 clear hst
 go_wp2_with(first
  |((with_reducible show zL 16);refine zR (.tmp 3) BX.o.rc ?_)
  |(go_at_call 82;refine(CR.o _).mono ?_;rintro e wr ⟨rfl,hb⟩;have BX:=zh (BX.o.on hb);clear hb b3 b5 b6 b8 c0 c1 c6 k0 k1;have b3:=BX.o.bk.cs.c3;have b5:=BX.o.bk.cs.c5;have b6:=BX.o.bk.cs.c6;have b8:=BX.o.bk.cs.c8;have c0:=BX.o.rc.cs.c0;have c1:=BX.o.rc.cs.c1;have c6:=BX.o.rc.cs.c6;rw[HK.o]at c0;have k1:=BX.o.rc.cs.lt;have k0:=BX.o.bk.lt)
  |((with_reducible show zL 54);refine jab rfl (.tmp 2) rfl rfl BX.o.bk ?_)
  |(go_at_call 132;refine(CD.o _ BX.o.rd).mono ?_;rintro e wd ⟨rfl,hb⟩;have BX:=zh (BX.o.on hb);clear hb b3 b5 b6 b8 c0 c1 c6 k0 k1;have b3:=BX.o.bk.cs.c3;have b5:=BX.o.bk.cs.c5;have b6:=BX.o.bk.cs.c6;have b8:=BX.o.bk.cs.c8;have c0:=BX.o.rc.cs.c0;have c1:=BX.o.rc.cs.c1;have c6:=BX.o.rc.cs.c6;rw[HK.o]at c0;have k1:=BX.o.rc.cs.lt;have k0:=BX.o.bk.lt)
  |(go_at_call 133;refine(CO.o _).mono ?_;rintro e wo ⟨rfl,rfl⟩))
 go_ret;exact⟨rfl,BX.o.below⟩):p:=h
theorem zze{p:Prop}(h:p:=by
 subst E
 go_wp2_with(first
  |((with_reducible show zL 16);refine zR (.tmp 3) BX.o.rc ?_)
  |(go_at_call 82;refine(CR.o _).mono ?_;rintro e wr ⟨rfl,hb⟩;have BX:=zh (BX.o.on hb);clear hb b3 b5 b6 b8 c0 c1 c6 k0 k1;have b3:=BX.o.bk.cs.c3;have b5:=BX.o.bk.cs.c5;have b6:=BX.o.bk.cs.c6;have b8:=BX.o.bk.cs.c8;have c0:=BX.o.rc.cs.c0;have c1:=BX.o.rc.cs.c1;have c6:=BX.o.rc.cs.c6;rw[HK.o]at c0;have k1:=BX.o.rc.cs.lt;have k0:=BX.o.bk.lt)
  |((with_reducible show zL 54);refine jab rfl (.tmp 2) rfl rfl BX.o.bk ?_)
  |(go_at_call 132;refine(CD.o _ BX.o.rd).mono ?_;rintro e wd ⟨rfl,hb⟩;have BX:=zh (BX.o.on hb);clear hb b3 b5 b6 b8 c0 c1 c6 k0 k1;have b3:=BX.o.bk.cs.c3;have b5:=BX.o.bk.cs.c5;have b6:=BX.o.bk.cs.c6;have b8:=BX.o.bk.cs.c8;have c0:=BX.o.rc.cs.c0;have c1:=BX.o.rc.cs.c1;have c6:=BX.o.rc.cs.c6;rw[HK.o]at c0;have k1:=BX.o.rc.cs.lt;have k0:=BX.o.bk.lt)
  |(go_at_call 133;refine(CO.o _).mono ?_;rintro e wo ⟨rfl,rfl⟩))
 go_ret;exact⟨rfl,BX.o.below⟩):p:=h
theorem jlb(s:Bk.St)(ok:Bk.Ok s)(r:Rc.R)(hin:Rc.In r)(L V H:Value)(w:World)(h:BkRd w s L V H)(hr:Rc.right r=true)(hk:r.kind=3)(he:r.epoch=s.ep):Calls Tryz.prog 78 #[.agg (Bk.cells s L V H),.agg (Rc.cells r)] w (jbg w (.int .i64 (Bk.chk3 s r))):=by
 have CR:=zh (fun W=>ja5 r hin W);unfold Rc.val at CR;rw[hr]at CR;have HK:=zh hk;have q1:(r.epoch !=s.ep)=false:=by rw[bne_eq_false_iff_eq];exact he
 have CD:Hid (∀W,BkRd W s L V H->Calls Tryz.prog 132 #[.agg (Bk.cells s L V H),.int .i64 r.sp.v] W (jfr W (.string (Bk.text s.vs r.sp.v)) (.bool (Bk.has s.vs r.sp.v)))):=fun W h=>jfs s L V H r.sp.v W h ok.vl;have CO:=zh (fun W=>jnn s.ph W);obtain⟨ans,hans⟩:∃ans,ans=Bk.chk3 s r:=zx;rw[<-hans];unfold Bk.chk3 at hans;have HA:=zh hans;generalize Bk.has s.vs r.sp.v=hs at*;generalize Bk.text s.vs r.sp.v=tx at*;generalize Ph.open_ s.ph=op at*;clear ok hr hk he hans;obtain⟨W,hW⟩:∃W,W=(w.alloc (.cells (Bk.cells s L V H) 38)).alloc (.cells (Rc.cells r) 56):=zx;obtain⟨r1,r2,hb,hs⟩:=jbl hW;have BX:=zh (BkRc.mk ⟨r1⟩ ⟨r2⟩ (h.on hb) hb zl);clear r1 r2 hs hb h hin;go_in;go_upto_region 1 with fail
 rw[<-hW];clear hW;obtain⟨n,hn⟩:∃n,n=w.heap.size:=zx;rw[<-hn]at BX⊢;clear hn;have b3:=BX.o.bk.cs.c3;have b5:=BX.o.bk.cs.c5;have b6:=BX.o.bk.cs.c6;have b8:=BX.o.bk.cs.c8;have c0:=BX.o.rc.cs.c0;have c1:=BX.o.rc.cs.c1;have c6:=BX.o.rc.cs.c6;rw[HK.o]at c0;have k1:=BX.o.rc.cs.lt;have k0:=BX.o.bk.lt
 cases op with
 |true=>
  have E:ans=10:=by rw[HA.o,if_pos rfl]
  exact zze
 |false=>
  cases hs with
  |false=>
   have E:ans=5:=by rw[HA.o,if_neg (by simp),if_pos rfl]
   exact zze
  |true=>
   by_cases hst:r.sp.v=s.stable
   ·have E:ans=6:=by rw[HA.o,if_neg (by simp),if_neg (by simp),if_pos hst]
    subst E;have q2:(r.sp.v==s.stable)=true:=by rw[beq_iff_eq];exact hst
    exact zzd
   ·have E:ans=0:=by rw[HA.o,if_neg (by simp),if_neg (by simp),if_neg hst]
    subst E;have q2:(r.sp.v==s.stable)=false:=by rw[zq];exact hst
    exact zzd
theorem zzf{p:Prop}(h:p:=by
 clear hn
 go_wp2_with(first
  |((with_reducible show zL 16);refine zR (.tmp 3) BX.o.rc ?_)
  |(go_at_call 82;refine(CR.o _).mono ?_;rintro e wr ⟨rfl,hb⟩;have BX:=zh (BX.o.on hb);clear hb b3 b8 c0 c1 c3 c5 k0 k1;have b3:=BX.o.bk.cs.c3;have b8:=BX.o.bk.cs.c8;have c0:=BX.o.rc.cs.c0;have c1:=BX.o.rc.cs.c1;have c3:=BX.o.rc.cs.c3;have c5:=BX.o.rc.cs.c5;rw[HK.o]at c0;have k1:=BX.o.rc.cs.lt;have k0:=BX.o.bk.lt)
  |(go_at_call 43;refine(CO.o _).mono ?_;rintro e wo ⟨rfl,hb⟩;have BX:=zh (BX.o.on hb);clear hb b3 b8 c0 c1 c3 c5 k0 k1;have b3:=BX.o.bk.cs.c3;have b8:=BX.o.bk.cs.c8;have c0:=BX.o.rc.cs.c0;have c1:=BX.o.rc.cs.c1;have c3:=BX.o.rc.cs.c3;have c5:=BX.o.rc.cs.c5;rw[HK.o]at c0;have k1:=BX.o.rc.cs.lt;have k0:=BX.o.bk.lt)
  |(go_at_call 44;refine(CN.o _).mono ?_;rintro e wo ⟨rfl,rfl⟩))
 go_ret;exact⟨rfl,BX.o.below⟩):p:=h
theorem zzg{p:Prop}(h:p:=by
 subst E
 go_wp2_with(first
  |((with_reducible show zL 16);refine zR (.tmp 3) BX.o.rc ?_)
  |(go_at_call 82;refine(CR.o _).mono ?_;rintro e wr ⟨rfl,hb⟩;have BX:=zh (BX.o.on hb);clear hb b3 b8 c0 c1 c3 c5 k0 k1;have b3:=BX.o.bk.cs.c3;have b8:=BX.o.bk.cs.c8;have c0:=BX.o.rc.cs.c0;have c1:=BX.o.rc.cs.c1;have c3:=BX.o.rc.cs.c3;have c5:=BX.o.rc.cs.c5;rw[HK.o]at c0;have k1:=BX.o.rc.cs.lt;have k0:=BX.o.bk.lt)
  |(go_at_call 43;refine(CO.o _).mono ?_;rintro e wo ⟨rfl,hb⟩;have BX:=zh (BX.o.on hb);clear hb b3 b8 c0 c1 c3 c5 k0 k1;have b3:=BX.o.bk.cs.c3;have b8:=BX.o.bk.cs.c8;have c0:=BX.o.rc.cs.c0;have c1:=BX.o.rc.cs.c1;have c3:=BX.o.rc.cs.c3;have c5:=BX.o.rc.cs.c5;rw[HK.o]at c0;have k1:=BX.o.rc.cs.lt;have k0:=BX.o.bk.lt)
  |(go_at_call 44;refine(CN.o _).mono ?_;rintro e wo ⟨rfl,rfl⟩))
 go_ret;exact⟨rfl,BX.o.below⟩):p:=h
theorem zzh{p:Prop}(h:p:=by
 go_wp2_with(first
  |((with_reducible show zL 16);refine zR (.tmp 3) BX.o.rc ?_)
  |(go_at_call 82;refine(CR.o _).mono ?_;rintro e wr ⟨rfl,hb⟩;have BX:=zh (BX.o.on hb);clear hb b3 b8 c0 c1 c3 c5 k0 k1;have b3:=BX.o.bk.cs.c3;have b8:=BX.o.bk.cs.c8;have c0:=BX.o.rc.cs.c0;have c1:=BX.o.rc.cs.c1;have c3:=BX.o.rc.cs.c3;have c5:=BX.o.rc.cs.c5;rw[HK.o]at c0;have k1:=BX.o.rc.cs.lt;have k0:=BX.o.bk.lt)
  |(go_at_call 43;refine(CO.o _).mono ?_;rintro e wo ⟨rfl,hb⟩;have BX:=zh (BX.o.on hb);clear hb b3 b8 c0 c1 c3 c5 k0 k1;have b3:=BX.o.bk.cs.c3;have b8:=BX.o.bk.cs.c8;have c0:=BX.o.rc.cs.c0;have c1:=BX.o.rc.cs.c1;have c3:=BX.o.rc.cs.c3;have c5:=BX.o.rc.cs.c5;rw[HK.o]at c0;have k1:=BX.o.rc.cs.lt;have k0:=BX.o.bk.lt)
  |(go_at_call 44;refine(CN.o _).mono ?_;rintro e wo ⟨rfl,rfl⟩))
 go_ret;exact⟨rfl,BX.o.below⟩):p:=h
theorem jnp(s:Bk.St)(ok:Bk.Ok s)(r:Rc.R)(hin:Rc.In r)(L V H:Value)(w:World)(h:BkRd w s L V H)(hr:Rc.right r=true)(hk:r.kind=4)(he:r.epoch=s.ep):Calls Tryz.prog 78 #[.agg (Bk.cells s L V H),.agg (Rc.cells r)] w (jbg w (.int .i64 (Bk.chk4 s r))):=by
 have CR:=zh (fun W=>ja5 r hin W);unfold Rc.val at CR;rw[hr]at CR;have HK:=zh hk;have q1:(r.epoch !=s.ep)=false:=by rw[bne_eq_false_iff_eq];exact he
 have CO:=zh (fun W=>jb8 r.text W);have CN:=zh (fun W=>jbk s.ph (Ph.of r.text) W);obtain⟨ans,hans⟩:∃ans,ans=Bk.chk4 s r:=zx;rw[<-hans];unfold Bk.chk4 at hans;have HA:=zh hans;clear hans;generalize Ph.next s.ph (Ph.of r.text)=nx at*;generalize Ph.did s.ph (Ph.of r.text)=dd at*;generalize Ph.of r.text=ev at*;generalize Ph.isWord r.text=iw at*;clear ok hr hk he;obtain⟨W,hW⟩:∃W,W=(w.alloc (.cells (Bk.cells s L V H) 38)).alloc (.cells (Rc.cells r) 56):=zx;obtain⟨r1,r2,hb,hs⟩:=jbl hW;have BX:=zh (BkRc.mk ⟨r1⟩ ⟨r2⟩ (h.on hb) hb zl);clear r1 r2 hs hb h hin;go_in;go_upto_region 1 with fail
 rw[<-hW];clear hW;obtain⟨n,hn⟩:∃n,n=w.heap.size:=zx;rw[<-hn]at BX⊢;clear hn;have b3:=BX.o.bk.cs.c3;have b8:=BX.o.bk.cs.c8;have c0:=BX.o.rc.cs.c0;have c1:=BX.o.rc.cs.c1;have c3:=BX.o.rc.cs.c3;have c5:=BX.o.rc.cs.c5;rw[HK.o]at c0;have k1:=BX.o.rc.cs.lt;have k0:=BX.o.bk.lt
 cases iw with
 |false=>
  have E:ans=2:=by rw[HA.o,if_pos (.inl rfl)]
  exact zzg
 |true=>
  by_cases h0:ev=0
  ·have E:ans=2:=by rw[HA.o,if_pos (.inr (.inl h0))]
   subst E;subst h0
   exact zzh
  ·have q2:(ev==0)=false:=by rw[zq];exact h0
   by_cases h3:ev=3
   ·have E:ans=2:=by rw[HA.o,if_pos (.inr (.inr h3))]
    subst E;subst h3;clear q2 h0
    exact zzh
   ·have q3:(ev==3)=false:=by rw[zq];exact h3
    have E:ans=if dd=false\/nx≠r.n then 10 else 0:=by rw[HA.o,if_neg (by simp[h0,h3])]
    clear h0 h3
    cases dd with
    |false=>
     rw[if_pos (.inl rfl)]at E;exact zzg
    |true=>
     by_cases hn:nx=r.n
     ·rw[if_neg (by simp[hn])]at E
      subst E;have q4:(nx !=r.n)=false:=by rw[bne_eq_false_iff_eq];exact hn
      exact zzf
     ·rw[if_pos (.inr hn)]at E
      subst E;have q4:(nx !=r.n)=true:=by rw[bne_iff_ne];exact hn
      exact zzf
theorem zz4{p:Prop}(h:p:=by
 by_cases hsq:r.seq=s.seq+1
 ·have p1:(r.seq !=s.seq+1)=false:=by rw[bne_eq_false_iff_eq];exact hsq
  by_cases hn0:r.n=0
  ·have E:ans=0:=by rw[HA.o,if_neg zv,if_neg zv,if_neg zv]
   subst E;have p2:(r.n !=0)=false:=by rw[bne_eq_false_iff_eq];exact hn0
   clear hsq hn0 hph
   go_wp2_with(first
    |((with_reducible show zL 16);refine zR (.tmp 3) BX.o.rc ?_)
    |(go_at_call 82;refine(CR.o _).mono ?_;rintro e wr ⟨rfl,hb⟩;have BX:=zh (BX.o.on hb);clear hb b3 b7 b8 b12 b13 c0 c1 c3 c4 k0 k1;have b3:=BX.o.bk.cs.c3;have b7:=BX.o.bk.cs.c7;have b8:=BX.o.bk.cs.c8;have b12:=BX.o.bk.cs.c12;have b13:=BX.o.bk.cs.c13;have c0:=BX.o.rc.cs.c0;have c1:=BX.o.rc.cs.c1;have c3:=BX.o.rc.cs.c3;have c4:=BX.o.rc.cs.c4;rw[HK.o]at c0;have k1:=BX.o.rc.cs.lt;have k0:=BX.o.bk.lt))
   go_ret;exact⟨rfl,BX.o.below⟩
  ·have p2:(r.n !=0)=true:=by rw[bne_iff_ne];exact hn0
   by_cases hnv:r.n=s.sp.v
   ·have E:ans=0:=by rw[HA.o,if_neg zv,if_neg zv,if_neg zv]
    subst E;have p3:(r.n !=s.sp.v)=false:=by rw[bne_eq_false_iff_eq];exact hnv
    clear hsq hn0 hph hnv
    go_wp2_with(first
     |((with_reducible show zL 16);refine zR (.tmp 3) BX.o.rc ?_)
     |(go_at_call 82;refine(CR.o _).mono ?_;rintro e wr ⟨rfl,hb⟩;have BX:=zh (BX.o.on hb);clear hb b3 b7 b8 b12 b13 c0 c1 c3 c4 k0 k1;have b3:=BX.o.bk.cs.c3;have b7:=BX.o.bk.cs.c7;have b8:=BX.o.bk.cs.c8;have b12:=BX.o.bk.cs.c12;have b13:=BX.o.bk.cs.c13;have c0:=BX.o.rc.cs.c0;have c1:=BX.o.rc.cs.c1;have c3:=BX.o.rc.cs.c3;have c4:=BX.o.rc.cs.c4;rw[HK.o]at c0;have k1:=BX.o.rc.cs.lt;have k0:=BX.o.bk.lt))
    go_ret;exact⟨rfl,BX.o.below⟩
   ·have p3:(r.n !=s.sp.v)=true:=by rw[bne_iff_ne];exact hnv
    by_cases hnf:r.n=s.from_
    ·have E:ans=0:=by rw[HA.o,if_neg zv,if_neg zv,if_neg zv]
     subst E;have p4:(r.n !=s.from_)=false:=by rw[bne_eq_false_iff_eq];exact hnf
     clear hsq hn0 hph hnv hnf
     go_wp2_with(first
      |((with_reducible show zL 16);refine zR (.tmp 3) BX.o.rc ?_)
      |(go_at_call 82;refine(CR.o _).mono ?_;rintro e wr ⟨rfl,hb⟩;have BX:=zh (BX.o.on hb);clear hb b3 b7 b8 b12 b13 c0 c1 c3 c4 k0 k1;have b3:=BX.o.bk.cs.c3;have b7:=BX.o.bk.cs.c7;have b8:=BX.o.bk.cs.c8;have b12:=BX.o.bk.cs.c12;have b13:=BX.o.bk.cs.c13;have c0:=BX.o.rc.cs.c0;have c1:=BX.o.rc.cs.c1;have c3:=BX.o.rc.cs.c3;have c4:=BX.o.rc.cs.c4;rw[HK.o]at c0;have k1:=BX.o.rc.cs.lt;have k0:=BX.o.bk.lt))
     go_ret;exact⟨rfl,BX.o.below⟩
    ·have E:ans=5:=by rw[HA.o,if_neg zv,if_neg zv,if_pos zv]
     subst E;have p4:(r.n !=s.from_)=true:=by rw[bne_iff_ne];exact hnf
     clear hsq hn0 hph hnv hnf
     go_wp2_with(first
      |((with_reducible show zL 16);refine zR (.tmp 3) BX.o.rc ?_)
      |(go_at_call 82;refine(CR.o _).mono ?_;rintro e wr ⟨rfl,hb⟩;have BX:=zh (BX.o.on hb);clear hb b3 b7 b8 b12 b13 c0 c1 c3 c4 k0 k1;have b3:=BX.o.bk.cs.c3;have b7:=BX.o.bk.cs.c7;have b8:=BX.o.bk.cs.c8;have b12:=BX.o.bk.cs.c12;have b13:=BX.o.bk.cs.c13;have c0:=BX.o.rc.cs.c0;have c1:=BX.o.rc.cs.c1;have c3:=BX.o.rc.cs.c3;have c4:=BX.o.rc.cs.c4;rw[HK.o]at c0;have k1:=BX.o.rc.cs.lt;have k0:=BX.o.bk.lt))
     go_ret;exact⟨rfl,BX.o.below⟩
 ·have p1:(r.seq !=s.seq+1)=true:=by rw[bne_iff_ne];exact hsq
  have E:ans=7:=by rw[HA.o,if_neg zv,if_pos zv]
  subst E;clear hsq hph
  go_wp2_with(first
   |((with_reducible show zL 16);refine zR (.tmp 3) BX.o.rc ?_)
   |(go_at_call 82;refine(CR.o _).mono ?_;rintro e wr ⟨rfl,hb⟩;have BX:=zh (BX.o.on hb);clear hb b3 b7 b8 b12 b13 c0 c1 c3 c4 k0 k1;have b3:=BX.o.bk.cs.c3;have b7:=BX.o.bk.cs.c7;have b8:=BX.o.bk.cs.c8;have b12:=BX.o.bk.cs.c12;have b13:=BX.o.bk.cs.c13;have c0:=BX.o.rc.cs.c0;have c1:=BX.o.rc.cs.c1;have c3:=BX.o.rc.cs.c3;have c4:=BX.o.rc.cs.c4;rw[HK.o]at c0;have k1:=BX.o.rc.cs.lt;have k0:=BX.o.bk.lt))
  go_ret;exact⟨rfl,BX.o.below⟩):p:=h
theorem jnq(s:Bk.St)(ok:Bk.Ok s)(r:Rc.R)(hin:Rc.In r)(L V H:Value)(w:World)(h:BkRd w s L V H)(hr:Rc.right r=true)(hk:r.kind=5)(he:r.epoch=s.ep):Calls Tryz.prog 78 #[.agg (Bk.cells s L V H),.agg (Rc.cells r)] w (jbg w (.int .i64 (Bk.chk5 s r))):=by
 have CR:=zh (fun W=>ja5 r hin W);unfold Rc.val at CR;rw[hr]at CR;have HK:=zh hk;have q1:(r.epoch !=s.ep)=false:=by rw[bne_eq_false_iff_eq];exact he
 have hw1:wrap64 (s.seq+1)=s.seq+1:=IntWalk.wrap64_in _ ⟨by have:=ok.seq;omega,by have:=ok.seq;omega⟩;obtain⟨ans,hans⟩:∃ans,ans=Bk.chk5 s r:=zx;rw[<-hans];unfold Bk.chk5 at hans;have HA:=zh hans;clear ok hr hk he hans;obtain⟨W,hW⟩:∃W,W=(w.alloc (.cells (Bk.cells s L V H) 38)).alloc (.cells (Rc.cells r) 56):=zx;obtain⟨r1,r2,hb,hs⟩:=jbl hW;have BX:=zh (BkRc.mk ⟨r1⟩ ⟨r2⟩ (h.on hb) hb zl);clear r1 r2 hs hb h hin;go_in;go_upto_region 1 with fail
 rw[<-hW];clear hW;obtain⟨n,hn⟩:∃n,n=w.heap.size:=zx;rw[<-hn]at BX⊢;clear hn;have b3:=BX.o.bk.cs.c3;have b7:=BX.o.bk.cs.c7;have b8:=BX.o.bk.cs.c8;have b12:=BX.o.bk.cs.c12;have b13:=BX.o.bk.cs.c13;have c0:=BX.o.rc.cs.c0;have c1:=BX.o.rc.cs.c1;have c3:=BX.o.rc.cs.c3;have c4:=BX.o.rc.cs.c4;rw[HK.o]at c0;have k1:=BX.o.rc.cs.lt;have k0:=BX.o.bk.lt;by_cases hph:s.ph=1
 ·have o1:(s.ph !=1)=false:=by rw[bne_eq_false_iff_eq];exact hph
  exact zz4
 ·have o1:(s.ph !=1)=true:=by rw[bne_iff_ne];exact hph
  have hph1:=hph;clear hph;by_cases hph:s.ph=4
  ·have o2:(s.ph !=4)=false:=by rw[bne_eq_false_iff_eq];exact hph
   clear hph1;exact zz4
  ·have o2:(s.ph !=4)=true:=by rw[bne_iff_ne];exact hph
   have E:ans=10:=by rw[HA.o,if_pos zv]
   subst E;clear hph hph1
   go_wp2_with(first
    |((with_reducible show zL 16);refine zR (.tmp 3) BX.o.rc ?_)
    |(go_at_call 82;refine(CR.o _).mono ?_;rintro e wr ⟨rfl,hb⟩;have BX:=zh (BX.o.on hb);clear hb b3 b7 b8 b12 b13 c0 c1 c3 c4 k0 k1;have b3:=BX.o.bk.cs.c3;have b7:=BX.o.bk.cs.c7;have b8:=BX.o.bk.cs.c8;have b12:=BX.o.bk.cs.c12;have b13:=BX.o.bk.cs.c13;have c0:=BX.o.rc.cs.c0;have c1:=BX.o.rc.cs.c1;have c3:=BX.o.rc.cs.c3;have c4:=BX.o.rc.cs.c4;rw[HK.o]at c0;have k1:=BX.o.rc.cs.lt;have k0:=BX.o.bk.lt))
   go_ret;exact⟨rfl,BX.o.below⟩
theorem zzq{p:Prop}(h:p:=by
 subst E;clear hq;go_upto_region 39 with(first
  |((with_reducible show zL 16);refine zR (.tmp 3) BX.o.rc ?_)
  |(go_at_call 82;refine(CR.o _).mono ?_;rintro e wr ⟨rfl,hb⟩;have BX:=zh (BX.o.on hb);clear hb b3 c0 c1 c2 c4 k0 k1 u1 u2;have b3:=BX.o.bk.cs.c3;have c0:=BX.o.rc.cs.c0;have c1:=BX.o.rc.cs.c1;have c2:=BX.o.rc.cs.c2;have c4:=BX.o.rc.cs.c4;rw[HK.o]at c0;have k1:=BX.o.rc.cs.lt;have k0:=BX.o.bk.lt;have u:=BX.o.bk.unit HKK.o;obtain⟨u0,u1,u2⟩:=u;clear u0;rw[EK.o]at c2))
 rw[hd]at u2;go_region;go_wp2;go_ret;exact⟨rfl,BX.o.below.drew⟩):p:=h
theorem jqa(s:Bk.St)(ok:Bk.Ok s)(r:Rc.R)(hin:Rc.In r)(L V H:Value)(w:World)(h:BkRd w s L V H)(hr:Rc.right r=true)(hk:r.kind=6)(he:r.epoch=s.ep):Calls Tryz.prog 78 #[.agg (Bk.cells s L V H),.agg (Rc.cells r)] w (jbg w (.int .i64 (Bk.chk6 s r))):=by
 have CR:=zh (fun W=>ja5 r hin W);unfold Rc.val at CR;rw[hr]at CR;have HK:=zh hk;have q1:(r.epoch !=s.ep)=false:=by rw[bne_eq_false_iff_eq];exact he
 obtain⟨i1,i2⟩:=Rc.right6 hk hr;obtain⟨k,hkk⟩:=Int.eq_ofNat_of_zero_le i1.1;have EK:=zh hkk;have HKK:Hid (k<16):=by show k<16;omega
 have k16:(k:Int)<16:=by omega
 obtain⟨ans,hans⟩:∃ans,ans=Bk.chk6 s r:=zx;rw[<-hans];unfold Bk.chk6 at hans;rw[hkk,show((k:Int)).toNat=k from rfl]at hans;have HA:=zh hans;clear ok hr hk he hans i1 i2 hkk;obtain⟨W,hW⟩:∃W,W=(w.alloc (.cells (Bk.cells s L V H) 38)).alloc (.cells (Rc.cells r) 56):=zx;obtain⟨r1,r2,hb,hs⟩:=jbl hW;have BX:=zh (BkRc.mk ⟨r1⟩ ⟨r2⟩ (h.on hb) hb zl);clear r1 r2 hs hb h hin;go_in;go_upto_region 1 with fail
 rw[<-hW];clear hW;obtain⟨n,hn⟩:∃n,n=w.heap.size:=zx;rw[<-hn]at BX⊢;clear hn;have b3:=BX.o.bk.cs.c3;have c0:=BX.o.rc.cs.c0;have c1:=BX.o.rc.cs.c1;have c2:=BX.o.rc.cs.c2;have c4:=BX.o.rc.cs.c4;rw[HK.o]at c0;have k1:=BX.o.rc.cs.lt;have k0:=BX.o.bk.lt;have u:=BX.o.bk.unit HKK.o;obtain⟨u0,u1,u2⟩:=u;clear u0;rw[EK.o]at c2;by_cases hq:(s.us k).q=r.seq
 ·have p1:((s.us k).q !=r.seq)=false:=by rw[bne_eq_false_iff_eq];exact hq
  cases hd:(s.us k).d with
  |true=>
   have E:ans=10:=by rw[HA.o,if_neg zv,if_pos hd]
   exact zzq
  |false=>
   have E:ans=0:=by rw[HA.o,if_neg zv,if_neg (by rw[hd];simp)]
   exact zzq
 ·have p1:((s.us k).q !=r.seq)=true:=by rw[bne_iff_ne];exact hq
  have E:ans=7:=by rw[HA.o,if_pos hq]
  subst E;clear hq;go_upto_region 39 with(first
   |((with_reducible show zL 16);refine zR (.tmp 3) BX.o.rc ?_)
   |(go_at_call 82;refine(CR.o _).mono ?_;rintro e wr ⟨rfl,hb⟩;have BX:=zh (BX.o.on hb);clear hb b3 c0 c1 c2 c4 k0 k1 u1 u2;have b3:=BX.o.bk.cs.c3;have c0:=BX.o.rc.cs.c0;have c1:=BX.o.rc.cs.c1;have c2:=BX.o.rc.cs.c2;have c4:=BX.o.rc.cs.c4;rw[HK.o]at c0;have k1:=BX.o.rc.cs.lt;have k0:=BX.o.bk.lt;have u:=BX.o.bk.unit HKK.o;obtain⟨u0,u1,u2⟩:=u;clear u0;rw[EK.o]at c2))
  go_region;go_wp2;go_ret;exact⟨rfl,BX.o.below.drew⟩