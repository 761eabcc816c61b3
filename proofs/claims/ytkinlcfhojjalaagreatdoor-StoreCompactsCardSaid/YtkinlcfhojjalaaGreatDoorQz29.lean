import Derived.Test.YtkinlcfhojjalaaGreatDoorQz28
set_option maxHeartbeats 6400000
set_option maxRecDepth 100000
set_option linter.all false
namespace Go.Proofs.YtkinlcfhojjalaaGreatDoor
open Go.RowKit
structure RG(w:World)(gs gr go:Nat)(r o:Rc.R)(wx:World):Prop where
 at_:RcAt wx go o
 res:RcAt wx gr Rc.none_
 src:RcAt wx gs r
 below:zF w wx
 apart:go≠gs/\go≠gr/\w.heap.size<=go
 apart2:gr≠gs/\w.heap.size<=gr
theorem RG.set{w wx:World}{gs gr go:Nat}{r o:Rc.R}(h:RG w gs gr go r o wx)(o':Rc.R)(k:Nat)(v:Value)(he:(Rc.cells o).setIfInBounds k v=Rc.cells o'):RG w gs gr go r o' (wx.setCell ⟨go,k,none⟩ v):=by
 obtain⟨n1,n2,n3⟩:=h.apart;refine⟨⟨?_⟩,⟨?_⟩,⟨?_⟩,h.below.setCell n3 _,h.apart,h.apart2⟩
 ·rw[<-he];exact heap_setCell_same wx go k _ _ _ h.at_.row
 ·exact((jad wx go k _).block gr (zg h.res.row).1 (by simp;exact fun e=>n2 e.symm)).trans h.res.row
 ·exact((jad wx go k _).block gs (zg h.src.row).1 (by simp;exact fun e=>n1 e.symm)).trans h.src.row
theorem RG.on{w wx w':World}{gs gr go:Nat}{r o:Rc.R}(h:RG w gs gr go r o wx)(hb:zF wx w'):RG w gs gr go r o w':=
 ⟨h.at_.on hb,h.res.on hb,h.src.on hb,h.below.trans (hb.mono h.below.size),h.apart,h.apart2⟩
theorem RG.fz{w wx:World}{gs gr go:Nat}{r o:Rc.R}(h:RG w gs gr go r o wx)(i:Nat):wx.frozen? ⟨go,i,none⟩=false:=frozen_of_row _ _ _ _ _ h.at_.row
theorem jon(t:ByteArray):(⟨#[116]⟩:ByteArray)++t.extract 0 (min t.size 20)=Rc.short t:=by
 unfold Rc.short;have h1:(⟨#[116]⟩:ByteArray)=txt [116]:=rfl;have h2:t.extract 0 (min t.size 20)=txt ((sb t).take 20):=by
  conv=>lhs;rw[<-jpg t]
  rw[txt_cut,jbr,jbd]
  congr 1
  by_cases h:t.size<=20
  ·rw[Nat.min_eq_left h,List.take_of_length_le (by rw[jbd];exact zl),List.take_of_length_le (by rw[jbd];exact h)]
  ·rw[Nat.min_eq_right zv]
 rw[h1,h2,jfb];rfl
theorem zza{p:Prop}(h:p:=by
 refine hK.out _ _ hS (fun _=> ?_);clear hK K;try simp only[Act.put,zT,zO,zS]
 refine rO 5 (fun K hK=> ?_);go_simp
 refine(CE.o _).mono ?_
 rintro en W ⟨rfl,hW⟩;obtain rfl:=hW.symm;refine hK.out _ _ hS (fun _=> ?_);clear hK K;refine tZ 6 (v:= .agg (Rc.cells ⟨k,e,0,0,0,⟨#[]⟩,Spc.zero⟩)) rfl ?_ hS ?_
 ·intro W hW;go_simp;rfl
 simp only[Act.put,zT,zO,zS];refine rO 8 (fun K hK=> ?_);refine wp_store_row 56 (.tmp 3) (.tmp 11) rfl go (Rc.cells ⟨k,e,0,0,0,⟨#[]⟩,Spc.zero⟩) rfl rfl 56 _ HZ.o.row (jak _) rfl (Rc.one_cell _) ?_;have hR:RcAt (W3.setRow go (Rc.cells ⟨k,e,0,0,0,⟨#[]⟩,Spc.zero⟩)) go ⟨k,e,0,0,0,⟨#[]⟩,Spc.zero⟩:=⟨setRow_heap W3 go _ _ _ _ HZ.o.row⟩;have hS2:zF w2 (W3.setRow go (Rc.cells ⟨k,e,0,0,0,⟨#[]⟩,Spc.zero⟩)):=below_setRow hS (Nat.le_of_eq HGO.o.symm) _;have HR:=zh hR;clear hS hR;have hS:=hS2;clear hS2;generalize W3.setRow go (Rc.cells ⟨k,e,0,0,0,⟨#[]⟩,Spc.zero⟩)=W4 at*;refine hK.out _ _ hS (fun _=> ?_);clear hK K;try simp only[Act.put,zT,zO,zS]
 refine wpAnyH_done zk ?_ _;go_wp2;go_meet
 case rel=>
  have:=HGO.o;have:=LS.o;have:=LR.o;have:=B2.o.size;exact⟨go,rfl,HR.o,R2.o.on hS,X2.o.on hS,B2.o.trans (hS.mono B2.o.size),⟨zv,zv,zv⟩,⟨NR.o,LZ.o⟩⟩):p:=h
theorem zzv{p:Prop}(h:p:=by
 go_wp2_with(first
  |((with_reducible show zL 98);refine zR (.tmp 3) PG.o.at_ ?_)
  |((with_reducible show zW);refine jaa rfl (.tmp 2) (.tmp 98) rfl gr _ _ rfl rfl PG.o.res ?_))
 rw[EQ.o];exact bodyPost_ret (results_cell_row Tryz.results42 _ _ gr _ _ _ _ rfl (setRow_heap _ gr _ _ _ _ PG.o.res.row) jag rfl (jak _)) rfl ⟨rfl,below_setRow PG.o.below PG.o.apart2.2 _⟩):p:=h
theorem joo:RgC:=by
 intro w r hin;have HI:=zh hin;have RA:=zh (RcAt.new w r);have B1:=zh ((Below.refl w.heap.size w).alloc zl (.cells (Rc.cells r) 56));obtain⟨k,hk⟩:∃k,k=Spc.near r.kind 1 7:=zx;obtain⟨e,he⟩:∃e,e=Spc.near r.epoch 1 9:=zx;have CK:Hid (∀W,Calls Tryz.prog 75 #[.int .i64 r.kind,.int .i64 1,.int .i64 7] W fun e w'=>e= .returned (.int .i64 k)/\w'=W):=fun W=>by rw[hk];exact jat _ _ _ zv zv W
 have CE:Hid (∀W,Calls Tryz.prog 75 #[.int .i64 r.epoch,.int .i64 1,.int .i64 9] W fun x w'=>x= .returned (.int .i64 e)/\w'=W):=fun W=>by rw[he];exact jat _ _ _ zv zv W
 have KI:Hid (1<=k/\k<=7):=by rw[hk];have:=Spc.near_in r.kind 1 7 zv;show _/\_;omega
 have HK:=zh hk;have HE:=zh he;clear hk he hin;go_in;go_upto_region 1 with fail
 obtain⟨gs,hgs⟩:∃gs,gs=w.heap.size:=zx;have ZB:Hid (w.heap.size<=gs):=Nat.le_of_eq hgs.symm;rw[<-hgs]at RA⊢;have hsz:(w.alloc (.cells (Rc.cells r) 56)).heap.size=gs+1:=by rw[hgs];simp
 generalize w.alloc (.cells (Rc.cells r) 56)=w1 at*;obtain⟨gr,hgr⟩:∃gr,gr=gs+1:=zx;have NR:Hid (gr≠gs):=by show _≠_;omega
 have LZ:Hid (w.heap.size<=gr):=by show _<=_;have:=ZB.o;omega
 have hr2:RcAt (w1.alloc (.cells (Rc.cells Rc.none_) 56)) w1.heap.size Rc.none_:=RcAt.new w1 Rc.none_;have hb2:=(Below.refl w1.heap.size w1).alloc zl (.cells (Rc.cells Rc.none_) 56);have X2:=zh (RA.o.on hb2);have B2:=zh (B1.o.trans (hb2.mono B1.o.size));rw[hsz,<-hgr]at hr2;rw[<-hgr];have R2:=zh hr2;clear hgs hgr hsz hr2 hb2 B1 RA;have EZ:Hid (Rc.cells Rc.none_= #[zi,zi,zi,zi,zi,.string ⟨#[]⟩,zi,zi,zi,zi,zi,zi,zi,zi,zi,zi,zi,zi]):=rfl;rw[EZ.o]at X2 B2 R2;generalize w1.alloc (.cells #[zi,zi,zi,zi,zi,.string ⟨#[]⟩,zi,zi,zi,zi,zi,zi,zi,zi,zi,zi,zi,zi] 56)=w2 at*;have LS:=zh X2.o.cs.lt;have LR:=zh R2.o.cs.lt;go_cut [3] (fun s3 wx=>∃go,s3= .pointer (some ⟨go,0,none⟩)/\RG w gs gr go r ⟨k,e,0,0,0,⟨#[]⟩,Spc.zero⟩ wx)
 case first=>
  refine wp_region_held_drew (S:=fun W=>zF w2 W) zk (Below.refl w2.heap.size w2).drew (fun hS=> ?_);refine tY 0 hS ?_;refine tZ 1 rfl (by intro W hW;obtain⟨c0,c1,c2,c3,c4,c5,c6,c7,c8,c9,c10,c11,c12,c13,c14,c15,c16,c17,clt⟩:=(X2.o.on hW).cs;go_simp;(try with_reducible rfl)) hS ?_;refine tY 3 hS ?_;refine tZ 4 rfl (by intro W hW;obtain⟨c0,c1,c2,c3,c4,c5,c6,c7,c8,c9,c10,c11,c12,c13,c14,c15,c16,c17,clt⟩:=(X2.o.on hW).cs;go_simp;(try with_reducible rfl)) hS ?_;simp only[Act.put,zT,zO,zS];refine jgn 2 7 rfl rfl zk rfl rfl (fun K hK=> ?_) (fun K hK=> ?_)
  ·go_simp
   refine(CK.o _).mono ?_
   rintro en W ⟨rfl,hW⟩;obtain rfl:=hW.symm;refine hK.out _ _ hS (fun _=> ?_);clear hK K;try simp only[Act.put,zT,zO,zS]
   refine jgn 5 7 rfl rfl zk rfl rfl (fun K hK=> ?_) (fun K hK=> ?_)
   ·go_simp
    refine(CE.o _).mono ?_
    rintro en W ⟨rfl,hW⟩;obtain rfl:=hW.symm;refine hK.out _ _ hS (fun _=> ?_);clear hK K;refine tZ 6 (v:= .agg (Rc.cells ⟨k,e,0,0,0,⟨#[]⟩,Spc.zero⟩)) rfl ?_ hS ?_
    ·intro W hW;go_simp;rfl
    simp only[Act.put,zT,zO,zS];refine rO 7 (fun K hK=> ?_);go_simp;have hZ:RcAt (w2.alloc (.cells #[zi,zi,zi,zi,zi,.string ⟨#[]⟩,zi,zi,zi,zi,zi,zi,zi,zi,zi,zi,zi,zi] 56)).drew w2.heap.size Rc.none_:=⟨heap_alloc_new w2 _⟩;have hS2:zF w2 (w2.alloc (.cells #[zi,zi,zi,zi,zi,.string ⟨#[]⟩,zi,zi,zi,zi,zi,zi,zi,zi,zi,zi,zi,zi] 56)).drew:=((Below.refl w2.heap.size w2).alloc zl _).drew;obtain⟨go,hgo⟩:∃go,go=w2.heap.size:=zx;rw[<-hgo]at hZ;rw[<-hgo];generalize(w2.alloc (.cells #[zi,zi,zi,zi,zi,.string ⟨#[]⟩,zi,zi,zi,zi,zi,zi,zi,zi,zi,zi,zi,zi] 56)).drew=W3 at hZ hS2⊢;have HZ:=zh hZ;have HGO:=zh hgo;clear hS hZ hgo;have hS:=hS2;clear hS2;refine hK.out _ _ hS (fun _=> ?_);clear hK K;try simp only[Act.put,zT,zO,zS]
    refine rO 8 (fun K hK=> ?_);refine wp_store_row 56 (.tmp 3) (.tmp 11) rfl go (Rc.cells ⟨k,e,0,0,0,⟨#[]⟩,Spc.zero⟩) rfl rfl 56 _ HZ.o.row (jak _) rfl (Rc.one_cell _) ?_;have hR:RcAt (W3.setRow go (Rc.cells ⟨k,e,0,0,0,⟨#[]⟩,Spc.zero⟩)) go ⟨k,e,0,0,0,⟨#[]⟩,Spc.zero⟩:=⟨setRow_heap W3 go _ _ _ _ HZ.o.row⟩;have hS2:zF w2 (W3.setRow go (Rc.cells ⟨k,e,0,0,0,⟨#[]⟩,Spc.zero⟩)):=below_setRow hS (Nat.le_of_eq HGO.o.symm) _;have HR:=zh hR;clear hS hR;have hS:=hS2;clear hS2;generalize W3.setRow go (Rc.cells ⟨k,e,0,0,0,⟨#[]⟩,Spc.zero⟩)=W4 at*;refine hK.out _ _ hS (fun _=> ?_);clear hK K;try simp only[Act.put,zT,zO,zS]
    refine wpAnyH_done zk ?_ _;go_wp2;go_meet
    case rel=>
     have:=HGO.o;have:=LS.o;have:=LR.o;have:=B2.o.size;exact⟨go,rfl,HR.o,R2.o.on hS,X2.o.on hS,B2.o.trans (hS.mono B2.o.size),⟨zv,zv,zv⟩,⟨NR.o,LZ.o⟩⟩
   ·go_simp
    have hZ:RcAt (w2.alloc (.cells #[zi,zi,zi,zi,zi,.string ⟨#[]⟩,zi,zi,zi,zi,zi,zi,zi,zi,zi,zi,zi,zi] 56)).drew w2.heap.size Rc.none_:=⟨heap_alloc_new w2 _⟩;have hS2:zF w2 (w2.alloc (.cells #[zi,zi,zi,zi,zi,.string ⟨#[]⟩,zi,zi,zi,zi,zi,zi,zi,zi,zi,zi,zi,zi] 56)).drew:=((Below.refl w2.heap.size w2).alloc zl _).drew;obtain⟨go,hgo⟩:∃go,go=w2.heap.size:=zx;rw[<-hgo]at hZ;rw[<-hgo];generalize(w2.alloc (.cells #[zi,zi,zi,zi,zi,.string ⟨#[]⟩,zi,zi,zi,zi,zi,zi,zi,zi,zi,zi,zi,zi] 56)).drew=W3 at hZ hS2⊢;have HZ:=zh hZ;have HGO:=zh hgo;clear hS hZ hgo;have hS:=hS2;clear hS2;exact zza
  ·go_simp
   have hZ:RcAt (w2.alloc (.cells #[zi,zi,zi,zi,zi,.string ⟨#[]⟩,zi,zi,zi,zi,zi,zi,zi,zi,zi,zi,zi,zi] 56)).drew w2.heap.size Rc.none_:=⟨heap_alloc_new w2 _⟩;have hS2:zF w2 (w2.alloc (.cells #[zi,zi,zi,zi,zi,.string ⟨#[]⟩,zi,zi,zi,zi,zi,zi,zi,zi,zi,zi,zi,zi] 56)).drew:=((Below.refl w2.heap.size w2).alloc zl _).drew;obtain⟨go,hgo⟩:∃go,go=w2.heap.size:=zx;rw[<-hgo]at hZ;rw[<-hgo];generalize(w2.alloc (.cells #[zi,zi,zi,zi,zi,.string ⟨#[]⟩,zi,zi,zi,zi,zi,zi,zi,zi,zi,zi,zi,zi] 56)).drew=W3 at hZ hS2⊢;have HZ:=zh hZ;have HGO:=zh hgo;clear hS hZ hgo;have hS:=hS2;clear hS2;refine hK.out _ _ hS (fun _=> ?_);clear hK K;try simp only[Act.put,zT,zO,zS]
   refine rO 2 (fun K hK=> ?_);go_simp
   refine(CK.o _).mono ?_
   rintro en W ⟨rfl,hW⟩;obtain rfl:=hW.symm;exact zza
 case rest=>
  obtain⟨go,rfl,hrg⟩:=hcut;have PG:=zh hrg;clear hrg X2 R2 B2 LS LR NR LZ ZB CK CE EZ;have TS:Hid (r.text.size<=maxLen):=HI.o.text;have hk1:=jgo TS.o;have hm1:min (r.text.size:Int) 20=((min r.text.size 20:Nat):Int):=by omega
  have hl1:((min r.text.size 20:Nat):Int)<=(r.text.size:Int):=by omega
  have ES:=zh (jon r.text);generalize min r.text.size 20=mt at*;obtain⟨c0,c1,c2,c3,c4,c5,c6,c7,c8,c9,c10,c11,c12,c13,c14,c15,c16,c17,clt⟩:=PG.o.src.cs;go_upto_region 3 with fail
  rw[ES.o];clear hk1 hm1 hl1 ES;obtain⟨d0,d1,d2,d3,d4,d5,d6,d7,d8,d9,d10,d11,d12,d13,d14,d15,d16,d17,dlt⟩:=PG.o.at_.cs;simp only at d0;have hz:=PG.o.fz;by_cases hk1:k=1
  ·subst hk1
   obtain⟨x5,hx5⟩:∃x,x=Spc.near r.who 0 4:=zx;have CN:Hid (∀W,Calls Tryz.prog 75 #[.int .i64 r.who,zi,.int .i64 4] W fun en w'=>en= .returned (.int .i64 x5)/\w'=W):=fun W=>by rw[hx5];exact jat _ _ _ zv zv W
   have HX5:=zh hx5;clear hx5;go_upto_region 6 with(go_at_call 75;refine(CN.o _).mono ?_;rintro en W ⟨rfl,hW⟩;obtain rfl:=hW.symm)
   have PG:=zh (PG.o.set ⟨1,e,x5,0,0,⟨#[]⟩,Spc.zero⟩ 2 (.int .i64 x5) rfl);generalize World.setCell _ ⟨go,2,none⟩ (.int .i64 x5)=wx5 at*;clear c0 c1 c2 c3 c4 c5 c6 c7 c8 c9 c10 c11 c12 c13 c14 c15 c16 c17 clt d0 d1 d2 d3 d4 d5 d6 d7 d8 d9 d10 d11 d12 d13 d14 d15 d16 d17 dlt hz CN;obtain⟨c0,c1,c2,c3,c4,c5,c6,c7,c8,c9,c10,c11,c12,c13,c14,c15,c16,c17,clt⟩:=PG.o.src.cs;obtain⟨d0,d1,d2,d3,d4,d5,d6,d7,d8,d9,d10,d11,d12,d13,d14,d15,d16,d17,dlt⟩:=PG.o.at_.cs;simp only at d0;have hz:=PG.o.fz;obtain⟨x6,hx6⟩:∃x,x=Spc.near r.n 0 50:=zx;have CN:Hid (∀W,Calls Tryz.prog 75 #[.int .i64 r.n,zi,.int .i64 50] W fun en w'=>en= .returned (.int .i64 x6)/\w'=W):=fun W=>by rw[hx6];exact jat _ _ _ zv zv W
   have HX6:=zh hx6;clear hx6;go_upto_region 7 with(go_at_call 75;refine(CN.o _).mono ?_;rintro en W ⟨rfl,hW⟩;obtain rfl:=hW.symm)
   have PG:=zh (PG.o.set ⟨1,e,x5,x6,0,⟨#[]⟩,Spc.zero⟩ 3 (.int .i64 x6) rfl);generalize World.setCell _ ⟨go,3,none⟩ (.int .i64 x6)=wx6 at*;clear c0 c1 c2 c3 c4 c5 c6 c7 c8 c9 c10 c11 c12 c13 c14 c15 c16 c17 clt d0 d1 d2 d3 d4 d5 d6 d7 d8 d9 d10 d11 d12 d13 d14 d15 d16 d17 dlt hz CN;obtain⟨c0,c1,c2,c3,c4,c5,c6,c7,c8,c9,c10,c11,c12,c13,c14,c15,c16,c17,clt⟩:=PG.o.src.cs;obtain⟨d0,d1,d2,d3,d4,d5,d6,d7,d8,d9,d10,d11,d12,d13,d14,d15,d16,d17,dlt⟩:=PG.o.at_.cs;simp only at d0;have hz:=PG.o.fz;obtain⟨x7,hx7⟩:∃x,x=Spc.near r.seq 1 20:=zx;have CN:Hid (∀W,Calls Tryz.prog 75 #[.int .i64 r.seq,.int .i64 1,.int .i64 20] W fun en w'=>en= .returned (.int .i64 x7)/\w'=W):=fun W=>by rw[hx7];exact jat _ _ _ zv zv W
   have HX7:=zh hx7;clear hx7;go_upto_region 28 with(go_at_call 75;refine(CN.o _).mono ?_;rintro en W ⟨rfl,hW⟩;obtain rfl:=hW.symm)
   have PG:=zh (PG.o.set ⟨1,e,x5,x6,x7,⟨#[]⟩,Spc.zero⟩ 4 (.int .i64 x7) rfl);generalize World.setCell _ ⟨go,4,none⟩ (.int .i64 x7)=wx7 at*;clear c0 c1 c2 c3 c4 c5 c6 c7 c8 c9 c10 c11 c12 c13 c14 c15 c16 c17 clt d0 d1 d2 d3 d4 d5 d6 d7 d8 d9 d10 d11 d12 d13 d14 d15 d16 d17 dlt hz CN;obtain⟨c0,c1,c2,c3,c4,c5,c6,c7,c8,c9,c10,c11,c12,c13,c14,c15,c16,c17,clt⟩:=PG.o.src.cs;obtain⟨d0,d1,d2,d3,d4,d5,d6,d7,d8,d9,d10,d11,d12,d13,d14,d15,d16,d17,dlt⟩:=PG.o.at_.cs;simp only at d0;have hz:=PG.o.fz;clear c0 c1 c2 c3 c4 c5 c6 c7 c8 c9 c10 c11 c12 c13 c14 c15 c16 c17 clt d0 d1 d2 d3 d4 d5 d6 d7 d8 d9 d10 d11 d12 d13 d14 d15 d16 d17 dlt hz;have EQ:Hid (Rc.good r=⟨1,e,x5,x6,x7,⟨#[]⟩,Spc.zero⟩):=by
    show _=_;unfold Rc.good;rw[<-HK.o,<-HE.o];simp only[if_true];rw[<-HX5.o];rw[<-HX6.o];rw[<-HX7.o]
   exact zzv
  by_cases hk2:k=2
  ·subst hk2
   obtain⟨x9,hx9⟩:∃x,x=Spc.near r.n 1 6:=zx;have CN:Hid (∀W,Calls Tryz.prog 75 #[.int .i64 r.n,.int .i64 1,.int .i64 6] W fun en w'=>en= .returned (.int .i64 x9)/\w'=W):=fun W=>by rw[hx9];exact jat _ _ _ zv zv W
   have HX9:=zh hx9;clear hx9;go_upto_region 10 with(go_at_call 75;refine(CN.o _).mono ?_;rintro en W ⟨rfl,hW⟩;obtain rfl:=hW.symm)
   have PG:=zh (PG.o.set ⟨2,e,0,x9,0,⟨#[]⟩,Spc.zero⟩ 3 (.int .i64 x9) rfl);generalize World.setCell _ ⟨go,3,none⟩ (.int .i64 x9)=wx9 at*;clear c0 c1 c2 c3 c4 c5 c6 c7 c8 c9 c10 c11 c12 c13 c14 c15 c16 c17 clt d0 d1 d2 d3 d4 d5 d6 d7 d8 d9 d10 d11 d12 d13 d14 d15 d16 d17 dlt hz CN;obtain⟨c0,c1,c2,c3,c4,c5,c6,c7,c8,c9,c10,c11,c12,c13,c14,c15,c16,c17,clt⟩:=PG.o.src.cs;obtain⟨d0,d1,d2,d3,d4,d5,d6,d7,d8,d9,d10,d11,d12,d13,d14,d15,d16,d17,dlt⟩:=PG.o.at_.cs;simp only at d0;have hz:=PG.o.fz;go_upto_region 28 with fail
   have PG:=zh (PG.o.set ⟨2,e,0,x9,0,(Rc.short r.text),Spc.zero⟩ 5 (.string (Rc.short r.text)) rfl);generalize World.setCell _ ⟨go,5,none⟩ (.string (Rc.short r.text))=wx10 at*;clear c0 c1 c2 c3 c4 c5 c6 c7 c8 c9 c10 c11 c12 c13 c14 c15 c16 c17 clt d0 d1 d2 d3 d4 d5 d6 d7 d8 d9 d10 d11 d12 d13 d14 d15 d16 d17 dlt hz;obtain⟨c0,c1,c2,c3,c4,c5,c6,c7,c8,c9,c10,c11,c12,c13,c14,c15,c16,c17,clt⟩:=PG.o.src.cs;obtain⟨d0,d1,d2,d3,d4,d5,d6,d7,d8,d9,d10,d11,d12,d13,d14,d15,d16,d17,dlt⟩:=PG.o.at_.cs;simp only at d0;have hz:=PG.o.fz;clear c0 c1 c2 c3 c4 c5 c6 c7 c8 c9 c10 c11 c12 c13 c14 c15 c16 c17 clt d0 d1 d2 d3 d4 d5 d6 d7 d8 d9 d10 d11 d12 d13 d14 d15 d16 d17 dlt hz;have EQ:Hid (Rc.good r=⟨2,e,0,x9,0,(Rc.short r.text),Spc.zero⟩):=by
    show _=_;unfold Rc.good;rw[<-HK.o,<-HE.o];simp only[if_true,if_neg (show¬(2:Int)=1 by omega)];rw[<-HX9.o]
   exact zzv
  by_cases hk3:k=3
  ·subst hk3
   obtain⟨x12,hx12⟩:∃x,x=Spc.near r.n 0 50:=zx;have CN:Hid (∀W,Calls Tryz.prog 75 #[.int .i64 r.n,zi,.int .i64 50] W fun en w'=>en= .returned (.int .i64 x12)/\w'=W):=fun W=>by rw[hx12];exact jat _ _ _ zv zv W
   have HX12:=zh hx12;clear hx12;go_upto_region 13 with(go_at_call 75;refine(CN.o _).mono ?_;rintro en W ⟨rfl,hW⟩;obtain rfl:=hW.symm)
   have PG:=zh (PG.o.set ⟨3,e,0,x12,0,⟨#[]⟩,Spc.zero⟩ 3 (.int .i64 x12) rfl);generalize World.setCell _ ⟨go,3,none⟩ (.int .i64 x12)=wx12 at*;clear c0 c1 c2 c3 c4 c5 c6 c7 c8 c9 c10 c11 c12 c13 c14 c15 c16 c17 clt d0 d1 d2 d3 d4 d5 d6 d7 d8 d9 d10 d11 d12 d13 d14 d15 d16 d17 dlt hz CN;obtain⟨c0,c1,c2,c3,c4,c5,c6,c7,c8,c9,c10,c11,c12,c13,c14,c15,c16,c17,clt⟩:=PG.o.src.cs;obtain⟨d0,d1,d2,d3,d4,d5,d6,d7,d8,d9,d10,d11,d12,d13,d14,d15,d16,d17,dlt⟩:=PG.o.at_.cs;simp only at d0;have hz:=PG.o.fz;obtain⟨gsp,hgsp⟩:∃gsp,gsp=Spc.good r.sp:=zx;have CS:Hid (∀W,Calls Tryz.prog 76 #[Spc.val r.sp] W (APos W (Spc.val gsp))):=fun W=>by rw[hgsp];exact jsq r.sp W HI.o.sp
   have HGSP:=zh hgsp;clear hgsp;obtain⟨pv,pd,pu,pn,pg,pa,pb,pc,pe,pw,px,pk⟩:=gsp;unfold Spc.val Spc.cells at CS;simp only at CS;go_upto_region 28 with(go_at_call 76;refine(CS.o _).mono ?_;rintro en W5 ⟨rfl,hb5⟩;have PG:=zh (PG.o.on hb5);clear hb5 d0 d1 d2 d3 d4 d5 d6 d7 d8 d9 d10 d11 d12 d13 d14 d15 d16 d17 dlt hz;obtain⟨d0,d1,d2,d3,d4,d5,d6,d7,d8,d9,d10,d11,d12,d13,d14,d15,d16,d17,dlt⟩:=PG.o.at_.cs;simp only at d0;have hz:=PG.o.fz)
   have PG:=zh (PG.o.set ⟨3,e,0,x12,0,⟨#[]⟩,⟨pv,0,0,0,0,0,0,0,0,0,0,0⟩⟩ 6 (.int .i64 pv) rfl);have PG:=zh (PG.o.set ⟨3,e,0,x12,0,⟨#[]⟩,⟨pv,pd,0,0,0,0,0,0,0,0,0,0⟩⟩ 7 (.int .i64 pd) rfl);have PG:=zh (PG.o.set ⟨3,e,0,x12,0,⟨#[]⟩,⟨pv,pd,pu,0,0,0,0,0,0,0,0,0⟩⟩ 8 (.int .i64 pu) rfl);have PG:=zh (PG.o.set ⟨3,e,0,x12,0,⟨#[]⟩,⟨pv,pd,pu,pn,0,0,0,0,0,0,0,0⟩⟩ 9 (.int .i64 pn) rfl);have PG:=zh (PG.o.set ⟨3,e,0,x12,0,⟨#[]⟩,⟨pv,pd,pu,pn,pg,0,0,0,0,0,0,0⟩⟩ 10 (.int .i64 pg) rfl);have PG:=zh (PG.o.set ⟨3,e,0,x12,0,⟨#[]⟩,⟨pv,pd,pu,pn,pg,pa,0,0,0,0,0,0⟩⟩ 11 (.int .i64 pa) rfl);have PG:=zh (PG.o.set ⟨3,e,0,x12,0,⟨#[]⟩,⟨pv,pd,pu,pn,pg,pa,pb,0,0,0,0,0⟩⟩ 12 (.int .i64 pb) rfl);have PG:=zh (PG.o.set ⟨3,e,0,x12,0,⟨#[]⟩,⟨pv,pd,pu,pn,pg,pa,pb,pc,0,0,0,0⟩⟩ 13 (.int .i64 pc) rfl);have PG:=zh (PG.o.set ⟨3,e,0,x12,0,⟨#[]⟩,⟨pv,pd,pu,pn,pg,pa,pb,pc,pe,0,0,0⟩⟩ 14 (.int .i64 pe) rfl);have PG:=zh (PG.o.set ⟨3,e,0,x12,0,⟨#[]⟩,⟨pv,pd,pu,pn,pg,pa,pb,pc,pe,pw,0,0⟩⟩ 15 (.int .i64 pw) rfl);have PG:=zh (PG.o.set ⟨3,e,0,x12,0,⟨#[]⟩,⟨pv,pd,pu,pn,pg,pa,pb,pc,pe,pw,px,0⟩⟩ 16 (.int .i64 px) rfl);have PG:=zh (PG.o.set ⟨3,e,0,x12,0,⟨#[]⟩,⟨pv,pd,pu,pn,pg,pa,pb,pc,pe,pw,px,pk⟩⟩ 17 (.int .i64 pk) rfl);generalize World.setCell _ ⟨go,17,none⟩ (.int .i64 pk)=wx13 at*;clear c0 c1 c2 c3 c4 c5 c6 c7 c8 c9 c10 c11 c12 c13 c14 c15 c16 c17 clt d0 d1 d2 d3 d4 d5 d6 d7 d8 d9 d10 d11 d12 d13 d14 d15 d16 d17 dlt hz CS;obtain⟨c0,c1,c2,c3,c4,c5,c6,c7,c8,c9,c10,c11,c12,c13,c14,c15,c16,c17,clt⟩:=PG.o.src.cs;obtain⟨d0,d1,d2,d3,d4,d5,d6,d7,d8,d9,d10,d11,d12,d13,d14,d15,d16,d17,dlt⟩:=PG.o.at_.cs;simp only at d0;have hz:=PG.o.fz;clear c0 c1 c2 c3 c4 c5 c6 c7 c8 c9 c10 c11 c12 c13 c14 c15 c16 c17 clt d0 d1 d2 d3 d4 d5 d6 d7 d8 d9 d10 d11 d12 d13 d14 d15 d16 d17 dlt hz;have EQ:Hid (Rc.good r=⟨3,e,0,x12,0,⟨#[]⟩,⟨pv,pd,pu,pn,pg,pa,pb,pc,pe,pw,px,pk⟩⟩):=by
    show _=_;unfold Rc.good;rw[<-HK.o,<-HE.o];simp only[if_true,if_neg (show¬(3:Int)=1 by omega),if_neg (show¬(3:Int)=2 by omega)];rw[<-HX12.o];rw[<-HGSP.o]
   exact zzv
  by_cases hk4:k=4
  ·subst hk4
   obtain⟨x15,hx15⟩:∃x,x=Spc.near r.n 1 5:=zx;have CN:Hid (∀W,Calls Tryz.prog 75 #[.int .i64 r.n,.int .i64 1,.int .i64 5] W fun en w'=>en= .returned (.int .i64 x15)/\w'=W):=fun W=>by rw[hx15];exact jat _ _ _ zv zv W
   have HX15:=zh hx15;clear hx15;go_upto_region 16 with(go_at_call 75;refine(CN.o _).mono ?_;rintro en W ⟨rfl,hW⟩;obtain rfl:=hW.symm)
   have PG:=zh (PG.o.set ⟨4,e,0,x15,0,⟨#[]⟩,Spc.zero⟩ 3 (.int .i64 x15) rfl);generalize World.setCell _ ⟨go,3,none⟩ (.int .i64 x15)=wx15 at*;clear c0 c1 c2 c3 c4 c5 c6 c7 c8 c9 c10 c11 c12 c13 c14 c15 c16 c17 clt d0 d1 d2 d3 d4 d5 d6 d7 d8 d9 d10 d11 d12 d13 d14 d15 d16 d17 dlt hz CN;obtain⟨c0,c1,c2,c3,c4,c5,c6,c7,c8,c9,c10,c11,c12,c13,c14,c15,c16,c17,clt⟩:=PG.o.src.cs;obtain⟨d0,d1,d2,d3,d4,d5,d6,d7,d8,d9,d10,d11,d12,d13,d14,d15,d16,d17,dlt⟩:=PG.o.at_.cs;simp only at d0;have hz:=PG.o.fz;go_upto_region 28 with fail
   have PG:=zh (PG.o.set ⟨4,e,0,x15,0,(Rc.short r.text),Spc.zero⟩ 5 (.string (Rc.short r.text)) rfl);generalize World.setCell _ ⟨go,5,none⟩ (.string (Rc.short r.text))=wx16 at*;clear c0 c1 c2 c3 c4 c5 c6 c7 c8 c9 c10 c11 c12 c13 c14 c15 c16 c17 clt d0 d1 d2 d3 d4 d5 d6 d7 d8 d9 d10 d11 d12 d13 d14 d15 d16 d17 dlt hz;obtain⟨c0,c1,c2,c3,c4,c5,c6,c7,c8,c9,c10,c11,c12,c13,c14,c15,c16,c17,clt⟩:=PG.o.src.cs;obtain⟨d0,d1,d2,d3,d4,d5,d6,d7,d8,d9,d10,d11,d12,d13,d14,d15,d16,d17,dlt⟩:=PG.o.at_.cs;simp only at d0;have hz:=PG.o.fz;clear c0 c1 c2 c3 c4 c5 c6 c7 c8 c9 c10 c11 c12 c13 c14 c15 c16 c17 clt d0 d1 d2 d3 d4 d5 d6 d7 d8 d9 d10 d11 d12 d13 d14 d15 d16 d17 dlt hz;have EQ:Hid (Rc.good r=⟨4,e,0,x15,0,(Rc.short r.text),Spc.zero⟩):=by
    show _=_;unfold Rc.good;rw[<-HK.o,<-HE.o];simp only[if_true,if_neg (show¬(4:Int)=1 by omega),if_neg (show¬(4:Int)=2 by omega),if_neg (show¬(4:Int)=3 by omega)];rw[<-HX15.o]
   exact zzv
  by_cases hk5:k=5
  ·subst hk5
   obtain⟨x18,hx18⟩:∃x,x=Spc.near r.who 0 16:=zx;have CN:Hid (∀W,Calls Tryz.prog 75 #[.int .i64 r.who,zi,.int .i64 16] W fun en w'=>en= .returned (.int .i64 x18)/\w'=W):=fun W=>by rw[hx18];exact jat _ _ _ zv zv W
   have HX18:=zh hx18;clear hx18;go_upto_region 19 with(go_at_call 75;refine(CN.o _).mono ?_;rintro en W ⟨rfl,hW⟩;obtain rfl:=hW.symm)
   have PG:=zh (PG.o.set ⟨5,e,x18,0,0,⟨#[]⟩,Spc.zero⟩ 2 (.int .i64 x18) rfl);generalize World.setCell _ ⟨go,2,none⟩ (.int .i64 x18)=wx18 at*;clear c0 c1 c2 c3 c4 c5 c6 c7 c8 c9 c10 c11 c12 c13 c14 c15 c16 c17 clt d0 d1 d2 d3 d4 d5 d6 d7 d8 d9 d10 d11 d12 d13 d14 d15 d16 d17 dlt hz CN;obtain⟨c0,c1,c2,c3,c4,c5,c6,c7,c8,c9,c10,c11,c12,c13,c14,c15,c16,c17,clt⟩:=PG.o.src.cs;obtain⟨d0,d1,d2,d3,d4,d5,d6,d7,d8,d9,d10,d11,d12,d13,d14,d15,d16,d17,dlt⟩:=PG.o.at_.cs;simp only at d0;have hz:=PG.o.fz;obtain⟨x19,hx19⟩:∃x,x=Spc.near r.n 0 7:=zx;have CN:Hid (∀W,Calls Tryz.prog 75 #[.int .i64 r.n,zi,.int .i64 7] W fun en w'=>en= .returned (.int .i64 x19)/\w'=W):=fun W=>by rw[hx19];exact jat _ _ _ zv zv W
   have HX19:=zh hx19;clear hx19;go_upto_region 20 with(go_at_call 75;refine(CN.o _).mono ?_;rintro en W ⟨rfl,hW⟩;obtain rfl:=hW.symm)
   have PG:=zh (PG.o.set ⟨5,e,x18,x19,0,⟨#[]⟩,Spc.zero⟩ 3 (.int .i64 x19) rfl);generalize World.setCell _ ⟨go,3,none⟩ (.int .i64 x19)=wx19 at*;clear c0 c1 c2 c3 c4 c5 c6 c7 c8 c9 c10 c11 c12 c13 c14 c15 c16 c17 clt d0 d1 d2 d3 d4 d5 d6 d7 d8 d9 d10 d11 d12 d13 d14 d15 d16 d17 dlt hz CN;obtain⟨c0,c1,c2,c3,c4,c5,c6,c7,c8,c9,c10,c11,c12,c13,c14,c15,c16,c17,clt⟩:=PG.o.src.cs;obtain⟨d0,d1,d2,d3,d4,d5,d6,d7,d8,d9,d10,d11,d12,d13,d14,d15,d16,d17,dlt⟩:=PG.o.at_.cs;simp only at d0;have hz:=PG.o.fz;obtain⟨x20,hx20⟩:∃x,x=Spc.near r.seq 1 9:=zx;have CN:Hid (∀W,Calls Tryz.prog 75 #[.int .i64 r.seq,.int .i64 1,.int .i64 9] W fun en w'=>en= .returned (.int .i64 x20)/\w'=W):=fun W=>by rw[hx20];exact jat _ _ _ zv zv W
   have HX20:=zh hx20;clear hx20;go_upto_region 28 with(go_at_call 75;refine(CN.o _).mono ?_;rintro en W ⟨rfl,hW⟩;obtain rfl:=hW.symm)
   have PG:=zh (PG.o.set ⟨5,e,x18,x19,x20,⟨#[]⟩,Spc.zero⟩ 4 (.int .i64 x20) rfl);generalize World.setCell _ ⟨go,4,none⟩ (.int .i64 x20)=wx20 at*;clear c0 c1 c2 c3 c4 c5 c6 c7 c8 c9 c10 c11 c12 c13 c14 c15 c16 c17 clt d0 d1 d2 d3 d4 d5 d6 d7 d8 d9 d10 d11 d12 d13 d14 d15 d16 d17 dlt hz CN;obtain⟨c0,c1,c2,c3,c4,c5,c6,c7,c8,c9,c10,c11,c12,c13,c14,c15,c16,c17,clt⟩:=PG.o.src.cs;obtain⟨d0,d1,d2,d3,d4,d5,d6,d7,d8,d9,d10,d11,d12,d13,d14,d15,d16,d17,dlt⟩:=PG.o.at_.cs;simp only at d0;have hz:=PG.o.fz;clear c0 c1 c2 c3 c4 c5 c6 c7 c8 c9 c10 c11 c12 c13 c14 c15 c16 c17 clt d0 d1 d2 d3 d4 d5 d6 d7 d8 d9 d10 d11 d12 d13 d14 d15 d16 d17 dlt hz;have EQ:Hid (Rc.good r=⟨5,e,x18,x19,x20,⟨#[]⟩,Spc.zero⟩):=by
    show _=_;unfold Rc.good;rw[<-HK.o,<-HE.o];simp only[if_true,if_neg (show¬(5:Int)=1 by omega),if_neg (show¬(5:Int)=2 by omega),if_neg (show¬(5:Int)=3 by omega),if_neg (show¬(5:Int)=4 by omega)];rw[<-HX18.o];rw[<-HX19.o];rw[<-HX20.o]
   exact zzv
  by_cases hk6:k=6
  ·subst hk6
   obtain⟨x22,hx22⟩:∃x,x=Spc.near r.who 0 16:=zx;have CN:Hid (∀W,Calls Tryz.prog 75 #[.int .i64 r.who,zi,.int .i64 16] W fun en w'=>en= .returned (.int .i64 x22)/\w'=W):=fun W=>by rw[hx22];exact jat _ _ _ zv zv W
   have HX22:=zh hx22;clear hx22;go_upto_region 23 with(go_at_call 75;refine(CN.o _).mono ?_;rintro en W ⟨rfl,hW⟩;obtain rfl:=hW.symm)
   have PG:=zh (PG.o.set ⟨6,e,x22,0,0,⟨#[]⟩,Spc.zero⟩ 2 (.int .i64 x22) rfl);generalize World.setCell _ ⟨go,2,none⟩ (.int .i64 x22)=wx22 at*;clear c0 c1 c2 c3 c4 c5 c6 c7 c8 c9 c10 c11 c12 c13 c14 c15 c16 c17 clt d0 d1 d2 d3 d4 d5 d6 d7 d8 d9 d10 d11 d12 d13 d14 d15 d16 d17 dlt hz CN;obtain⟨c0,c1,c2,c3,c4,c5,c6,c7,c8,c9,c10,c11,c12,c13,c14,c15,c16,c17,clt⟩:=PG.o.src.cs;obtain⟨d0,d1,d2,d3,d4,d5,d6,d7,d8,d9,d10,d11,d12,d13,d14,d15,d16,d17,dlt⟩:=PG.o.at_.cs;simp only at d0;have hz:=PG.o.fz;obtain⟨x23,hx23⟩:∃x,x=Spc.near r.seq 1 9:=zx;have CN:Hid (∀W,Calls Tryz.prog 75 #[.int .i64 r.seq,.int .i64 1,.int .i64 9] W fun en w'=>en= .returned (.int .i64 x23)/\w'=W):=fun W=>by rw[hx23];exact jat _ _ _ zv zv W
   have HX23:=zh hx23;clear hx23;go_upto_region 28 with(go_at_call 75;refine(CN.o _).mono ?_;rintro en W ⟨rfl,hW⟩;obtain rfl:=hW.symm)
   have PG:=zh (PG.o.set ⟨6,e,x22,0,x23,⟨#[]⟩,Spc.zero⟩ 4 (.int .i64 x23) rfl);generalize World.setCell _ ⟨go,4,none⟩ (.int .i64 x23)=wx23 at*;clear c0 c1 c2 c3 c4 c5 c6 c7 c8 c9 c10 c11 c12 c13 c14 c15 c16 c17 clt d0 d1 d2 d3 d4 d5 d6 d7 d8 d9 d10 d11 d12 d13 d14 d15 d16 d17 dlt hz CN;obtain⟨c0,c1,c2,c3,c4,c5,c6,c7,c8,c9,c10,c11,c12,c13,c14,c15,c16,c17,clt⟩:=PG.o.src.cs;obtain⟨d0,d1,d2,d3,d4,d5,d6,d7,d8,d9,d10,d11,d12,d13,d14,d15,d16,d17,dlt⟩:=PG.o.at_.cs;simp only at d0;have hz:=PG.o.fz;clear c0 c1 c2 c3 c4 c5 c6 c7 c8 c9 c10 c11 c12 c13 c14 c15 c16 c17 clt d0 d1 d2 d3 d4 d5 d6 d7 d8 d9 d10 d11 d12 d13 d14 d15 d16 d17 dlt hz;have EQ:Hid (Rc.good r=⟨6,e,x22,0,x23,⟨#[]⟩,Spc.zero⟩):=by
    show _=_;unfold Rc.good;rw[<-HK.o,<-HE.o];simp only[if_true,if_neg (show¬(6:Int)=1 by omega),if_neg (show¬(6:Int)=2 by omega),if_neg (show¬(6:Int)=3 by omega),if_neg (show¬(6:Int)=4 by omega),if_neg (show¬(6:Int)=5 by omega)];rw[<-HX22.o];rw[<-HX23.o]
   exact zzv
  by_cases hk7:k=7
  ·subst hk7
   obtain⟨x25,hx25⟩:∃x,x=Spc.near r.who 1 4:=zx;have CN:Hid (∀W,Calls Tryz.prog 75 #[.int .i64 r.who,.int .i64 1,.int .i64 4] W fun en w'=>en= .returned (.int .i64 x25)/\w'=W):=fun W=>by rw[hx25];exact jat _ _ _ zv zv W
   have HX25:=zh hx25;clear hx25;go_upto_region 26 with(go_at_call 75;refine(CN.o _).mono ?_;rintro en W ⟨rfl,hW⟩;obtain rfl:=hW.symm)
   have PG:=zh (PG.o.set ⟨7,e,x25,0,0,⟨#[]⟩,Spc.zero⟩ 2 (.int .i64 x25) rfl);generalize World.setCell _ ⟨go,2,none⟩ (.int .i64 x25)=wx25 at*;clear c0 c1 c2 c3 c4 c5 c6 c7 c8 c9 c10 c11 c12 c13 c14 c15 c16 c17 clt d0 d1 d2 d3 d4 d5 d6 d7 d8 d9 d10 d11 d12 d13 d14 d15 d16 d17 dlt hz CN;obtain⟨c0,c1,c2,c3,c4,c5,c6,c7,c8,c9,c10,c11,c12,c13,c14,c15,c16,c17,clt⟩:=PG.o.src.cs;obtain⟨d0,d1,d2,d3,d4,d5,d6,d7,d8,d9,d10,d11,d12,d13,d14,d15,d16,d17,dlt⟩:=PG.o.at_.cs;simp only at d0;have hz:=PG.o.fz;obtain⟨x26,hx26⟩:∃x,x=Spc.near r.n 0 50:=zx;have CN:Hid (∀W,Calls Tryz.prog 75 #[.int .i64 r.n,zi,.int .i64 50] W fun en w'=>en= .returned (.int .i64 x26)/\w'=W):=fun W=>by rw[hx26];exact jat _ _ _ zv zv W
   have HX26:=zh hx26;clear hx26;go_upto_region 27 with(go_at_call 75;refine(CN.o _).mono ?_;rintro en W ⟨rfl,hW⟩;obtain rfl:=hW.symm)
   have PG:=zh (PG.o.set ⟨7,e,x25,x26,0,⟨#[]⟩,Spc.zero⟩ 3 (.int .i64 x26) rfl);generalize World.setCell _ ⟨go,3,none⟩ (.int .i64 x26)=wx26 at*;clear c0 c1 c2 c3 c4 c5 c6 c7 c8 c9 c10 c11 c12 c13 c14 c15 c16 c17 clt d0 d1 d2 d3 d4 d5 d6 d7 d8 d9 d10 d11 d12 d13 d14 d15 d16 d17 dlt hz CN;obtain⟨c0,c1,c2,c3,c4,c5,c6,c7,c8,c9,c10,c11,c12,c13,c14,c15,c16,c17,clt⟩:=PG.o.src.cs;obtain⟨d0,d1,d2,d3,d4,d5,d6,d7,d8,d9,d10,d11,d12,d13,d14,d15,d16,d17,dlt⟩:=PG.o.at_.cs;simp only at d0;have hz:=PG.o.fz;go_upto_region 28 with fail
   have PG:=zh (PG.o.set ⟨7,e,x25,x26,0,(Rc.short r.text),Spc.zero⟩ 5 (.string (Rc.short r.text)) rfl);generalize World.setCell _ ⟨go,5,none⟩ (.string (Rc.short r.text))=wx27 at*;clear c0 c1 c2 c3 c4 c5 c6 c7 c8 c9 c10 c11 c12 c13 c14 c15 c16 c17 clt d0 d1 d2 d3 d4 d5 d6 d7 d8 d9 d10 d11 d12 d13 d14 d15 d16 d17 dlt hz;obtain⟨c0,c1,c2,c3,c4,c5,c6,c7,c8,c9,c10,c11,c12,c13,c14,c15,c16,c17,clt⟩:=PG.o.src.cs;obtain⟨d0,d1,d2,d3,d4,d5,d6,d7,d8,d9,d10,d11,d12,d13,d14,d15,d16,d17,dlt⟩:=PG.o.at_.cs;simp only at d0;have hz:=PG.o.fz;clear c0 c1 c2 c3 c4 c5 c6 c7 c8 c9 c10 c11 c12 c13 c14 c15 c16 c17 clt d0 d1 d2 d3 d4 d5 d6 d7 d8 d9 d10 d11 d12 d13 d14 d15 d16 d17 dlt hz;have EQ:Hid (Rc.good r=⟨7,e,x25,x26,0,(Rc.short r.text),Spc.zero⟩):=by
    show _=_;unfold Rc.good;rw[<-HK.o,<-HE.o];simp only[if_true,if_neg (show¬(7:Int)=1 by omega),if_neg (show¬(7:Int)=2 by omega),if_neg (show¬(7:Int)=3 by omega),if_neg (show¬(7:Int)=4 by omega),if_neg (show¬(7:Int)=5 by omega),if_neg (show¬(7:Int)=6 by omega)];rw[<-HX25.o];rw[<-HX26.o]
   exact zzv
  exfalso;have:=KI.o;omega