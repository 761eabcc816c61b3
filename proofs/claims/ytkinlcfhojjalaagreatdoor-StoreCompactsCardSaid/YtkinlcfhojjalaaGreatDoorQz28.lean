import Derived.Test.YtkinlcfhojjalaaGreatDoorQz27
set_option maxHeartbeats 6400000
set_option maxRecDepth 100000
set_option linter.all false
namespace Go.Proofs.YtkinlcfhojjalaaGreatDoor
open Go.RowKit
structure GO(w:World)(gs gr go:Nat)(s o:Spc.Sp)(wx:World):Prop where
 at_:wx.heap[go]? =some (.cells (Spc.cells o) 33 (0,0))
 res:wx.heap[gr]? =some (.cells (Spc.cells Spc.zero) 33 (0,0))
 below:zF w wx
 src:wx.heap[gs]? =some (.cells (Spc.cells s) 33 (0,0))
 apart:go≠gs/\go≠gr/\w.heap.size<=go
 apart2:gr≠gs/\w.heap.size<=gr
def lsp(v d U M g:Int)(l:List Int):Spc.Sp:=⟨v,d,U,M,g,l.getD 0 0,l.getD 1 0,l.getD 2 0,l.getD 3 0,0,0,0⟩
theorem len1{l:List Int}(h:l.length=1):∃a,l=[a]:=by
 match l,h with
 |[a],_=>exact⟨a,rfl⟩
theorem len2{l:List Int}(h:l.length=2):∃a b,l=[a,b]:=by
 match l,h with
 |[a,b],_=>exact⟨a,b,rfl⟩
theorem len3{l:List Int}(h:l.length=3):∃a b c,l=[a,b,c]:=by
 match l,h with
 |[a,b,c],_=>exact⟨a,b,c,rfl⟩
theorem je7(s:Spc.Sp)(k:Nat)(hk:k<4)(l:List Int)(L:Int):Spc.made s (4 -k) l L=if Spc.near (Spc.at_ s k) 0 60+(if k=0 then 1 else 0)=0\/100<L+(Spc.near (Spc.at_ s k) 0 60+(if k=0 then 1 else 0))then l else Spc.made s (3 -k) (l++[L+(Spc.near (Spc.at_ s k) 0 60+(if k=0 then 1 else 0))]) (L+(Spc.near (Spc.at_ s k) 0 60+(if k=0 then 1 else 0))):=by
 rcases k with _|_|_|_|k<;>first|rfl|omega
theorem GO.drew{w wx:World}{gs gr go:Nat}{s o:Spc.Sp}(h:GO w gs gr go s o wx):GO w gs gr go s o wx.drew:=⟨h.at_,h.res,h.below.drew,h.src,h.apart,h.apart2⟩
theorem GO.set{w wx:World}{gs gr go:Nat}{s o:Spc.Sp}(h:GO w gs gr go s o wx)(o':Spc.Sp)(k:Nat)(v:Int)(he:(Spc.cells o).setIfInBounds k (.int .i64 v)=Spc.cells o'):GO w gs gr go s o' (wx.setCell ⟨go,k,none⟩ (.int .i64 v)):=by
 obtain⟨n1,n2,n3⟩:=h.apart;refine⟨?_,?_,h.below.setCell n3 _,?_,h.apart,h.apart2⟩
 ·rw[<-he];exact heap_setCell_same wx go k _ _ _ h.at_
 ·exact((jad wx go k _).block gr (zg h.res).1 (by simp;exact fun e=>n2 e.symm)).trans h.res
 ·exact((jad wx go k _).block gs (zg h.src).1 (by simp;exact fun e=>n1 e.symm)).trans h.src
theorem jsp{s:Spc.Sp}{d:Int}(h:d=Spc.near s.d 1 5):1<=d/\d<=5:=by
 have:=Spc.near_in s.d 1 5 zv;omega
theorem zz7{p:Prop}(h:p:=by
 refine hK.out _ _ hS (fun _=> ?_);clear hK K;try simp only[Act.put,zT,zO,zS]
 refine rO 5 (fun K hK=> ?_);go_simp
 refine(CD.o _).mono ?_
 rintro e W ⟨rfl,hW⟩;obtain rfl:=hW.symm;refine hK.out _ _ hS (fun _=> ?_);clear hK K;try simp only[Act.put,zT,zO,zS]
 refine rO 8 (fun K hK=> ?_);go_simp
 refine(CG.o _).mono ?_
 rintro e W ⟨rfl,hW⟩;obtain rfl:=hW.symm;refine hK.out _ _ hS (fun _=> ?_);clear hK K;refine tY 9 hS ?_;simp only[Act.put,zT,zO,zS];refine rO 11 (fun K hK=> ?_);have hP:=jfh (s:=⟨v,d,0,0,g,0,0,0,0,0,0,0⟩) (r:=Spc.zero) HZ.o;have hG:=jcg go (Spc.cells ⟨v,d,0,0,g,0,0,0,0,0,0,0⟩).toList 0 W3;obtain⟨W4,hW4⟩:∃W4,W4=puts W3 go 0 (Spc.cells ⟨v,d,0,0,g,0,0,0,0,0,0,0⟩).toList:=zx;rw[<-hW4]at hP hG;have hS2:zF w2 W4:=hS.grown hG hS.size (fun i hi=>by injection hi with hi;have:=HGO.o;omega)
 have key:((((((((((((W3.setCell ⟨go,0,none⟩ (.int .i64 v)).setCell ⟨go,1,none⟩ (.int .i64 d)).setCell ⟨go,2,none⟩ (zi)).setCell ⟨go,3,none⟩ (zi)).setCell ⟨go,4,none⟩ (.int .i64 g)).setCell ⟨go,5,none⟩ (zi)).setCell ⟨go,6,none⟩ (zi)).setCell ⟨go,7,none⟩ (zi)).setCell ⟨go,8,none⟩ (zi)).setCell ⟨go,9,none⟩ (zi)).setCell ⟨go,10,none⟩ (zi)).setCell ⟨go,11,none⟩ (zi))=W4:=by rw[hW4];rfl
 obtain⟨f0,f1,f2,f3,f4,f5,f6,f7,f8,f9,f10,f11⟩:=jae (s:=Spc.zero) HZ.o;obtain⟨z0,z1,z2,z3,z4,z5,z6,z7,z8,z9,z10,z11⟩:=jbc HZ.o;simp only[Spc.zero]at f0 f1 f2 f3 f4 f5 f6 f7 f8 f9 f10 f11;have KEY:=zh key;have HP:=zh hP;have HS2:=zh hS2;clear hP hG hW4 key hS hS2;go_simp;rw[KEY.o];have hS:=HS2.o;clear f0 f1 f2 f3 f4 f5 f6 f7 f8 f9 f10 f11 z0 z1 z2 z3 z4 z5 z6 z7 z8 z9 z10 z11 KEY HS2;refine hK.out _ _ hS (fun _=> ?_);clear hK K;try simp only[Act.put,zT,zO,zS]
 refine wpAnyH_done zk ?_ _;go_wp2;go_meet
 case rel=>
  have:=HGO.o;have:=LS.o;have:=B2.o.size;exact⟨go,rfl,HP.o,(hS.block gr LR.o).trans R2.o,B2.o.trans (hS.mono B2.o.size),(hS.block gs LS.o).trans X2.o,⟨zv,by have:=LR.o;omega,zv⟩,⟨NR.o,LZ.o⟩⟩):p:=h
theorem zz9{p:Prop}(h:p:=by
 refine rO 11 (fun K hK=> ?_);have hP:=jfh (s:=⟨v,d,0,0,g,0,0,0,0,0,0,0⟩) (r:=Spc.zero) HZ.o;have hG:=jcg go (Spc.cells ⟨v,d,0,0,g,0,0,0,0,0,0,0⟩).toList 0 W3;obtain⟨W4,hW4⟩:∃W4,W4=puts W3 go 0 (Spc.cells ⟨v,d,0,0,g,0,0,0,0,0,0,0⟩).toList:=zx;rw[<-hW4]at hP hG;have hS2:zF w2 W4:=hS.grown hG hS.size (fun i hi=>by injection hi with hi;have:=HGO.o;omega)
 have key:((((((((((((W3.setCell ⟨go,0,none⟩ (.int .i64 v)).setCell ⟨go,1,none⟩ (.int .i64 d)).setCell ⟨go,2,none⟩ (zi)).setCell ⟨go,3,none⟩ (zi)).setCell ⟨go,4,none⟩ (.int .i64 g)).setCell ⟨go,5,none⟩ (zi)).setCell ⟨go,6,none⟩ (zi)).setCell ⟨go,7,none⟩ (zi)).setCell ⟨go,8,none⟩ (zi)).setCell ⟨go,9,none⟩ (zi)).setCell ⟨go,10,none⟩ (zi)).setCell ⟨go,11,none⟩ (zi))=W4:=by rw[hW4];rfl
 obtain⟨f0,f1,f2,f3,f4,f5,f6,f7,f8,f9,f10,f11⟩:=jae (s:=Spc.zero) HZ.o;obtain⟨z0,z1,z2,z3,z4,z5,z6,z7,z8,z9,z10,z11⟩:=jbc HZ.o;simp only[Spc.zero]at f0 f1 f2 f3 f4 f5 f6 f7 f8 f9 f10 f11;have KEY:=zh key;have HP:=zh hP;have HS2:=zh hS2;clear hP hG hW4 key hS hS2;go_simp;rw[KEY.o];have hS:=HS2.o;clear f0 f1 f2 f3 f4 f5 f6 f7 f8 f9 f10 f11 z0 z1 z2 z3 z4 z5 z6 z7 z8 z9 z10 z11 KEY HS2;refine hK.out _ _ hS (fun _=> ?_);clear hK K;try simp only[Act.put,zT,zO,zS]
 refine wpAnyH_done zk ?_ _;go_wp2;go_meet
 case rel=>
  have:=HGO.o;have:=LS.o;have:=B2.o.size;exact⟨go,rfl,HP.o,(hS.block gr LR.o).trans R2.o,B2.o.trans (hS.mono B2.o.size),(hS.block gs LS.o).trans X2.o,⟨zv,by have:=LR.o;omega,zv⟩,⟨NR.o,LZ.o⟩⟩):p:=h
theorem zz14{p:Prop}(h:p:=by
 have hq1:(n0==0)=true:=by rw[hn];rfl
 have E:=zh (FIN.o (by have h:=ST.o;rw[if_pos (.inl hn)]at h;rw[<-MD.o,h]) _ P.o);clear ST FIN MD;clear hn;go_wp2_with(refine(CZ.o _).mono ?_;rintro e W ⟨rfl,hW⟩;obtain rfl:=hW.symm);go_meet
 case rel=>exact⟨rfl,E.o⟩):p:=h
theorem zz16{p:Prop}(h:p:=by
 have E:=zh (FIN.o (by have h:=ST.o;rw[if_pos (.inr hb)]at h;rw[<-MD.o,h]) _ P.o)
 clear ST FIN MD hn;go_wp2_with(refine(CZ.o _).mono ?_;rintro e W ⟨rfl,hW⟩;obtain rfl:=hW.symm);go_meet
 case rel=>exact⟨rfl,E.o⟩):p:=h
theorem zz2i{p:Prop}(h:p:=by
 have h:=ST.o;rw[if_neg (by rintro(h|h)<;>contradiction)]at h;show _=_;rw[<-h];exact MD.o):p:=h
theorem zz2u{p:Prop}(h:p:=by
 clear hu0 hn0;go_wp2;go_meet
 case rel=>exact⟨rfl,by rw[HBB.o,hdc.o],P6.o⟩):p:=h
theorem jsq:GoodC:=by
 intro s w hin;have HG:Hid (Spc.good s=Spc.good s):=rfl;have HB:=zh (Below.refl w.heap.size w);obtain⟨v,hv⟩:∃v,v=Spc.near s.v 1 6:=zx;obtain⟨d,hd⟩:∃d,d=Spc.near s.d 1 5:=zx;obtain⟨g,hg⟩:∃g,g=Spc.near s.g 0 3:=zx;have CV:Hid (∀W,Calls Tryz.prog 131 #[.int .i64 s.v,.int .i64 1,.int .i64 6] W fun e w'=>e= .returned (.int .i64 v)/\w'=W):=fun W=>by rw[hv];exact ja8 _ _ _ zv zv W
 have CD:Hid (∀W,Calls Tryz.prog 131 #[.int .i64 s.d,.int .i64 1,.int .i64 5] W fun e w'=>e= .returned (.int .i64 d)/\w'=W):=fun W=>by rw[hd];exact ja8 _ _ _ zv zv W
 have CG:Hid (∀W,Calls Tryz.prog 131 #[.int .i64 s.g,zi,.int .i64 3] W fun e w'=>e= .returned (.int .i64 g)/\w'=W):=fun W=>by rw[hg];exact ja8 _ _ _ zv zv W
 have HV:=zh hv;have HD:=zh hd;have HGG:=zh hg;clear hv hd hg hin;unfold Spc.val Spc.cells;unfold APos;go_in;go_upto_region 1 with fail
 have X1:Hid ((w.alloc (.cells (Spc.cells s) 33)).heap[w.heap.size]? =some (.cells (Spc.cells s) 33 (0,0))):=heap_alloc_new w _;have B1:=zh ((Below.refl w.heap.size w).alloc zl (.cells (Spc.cells s) 33));unfold Spc.cells at*;obtain⟨gs,hgs⟩:∃gs,gs=w.heap.size:=zx;have ZB:Hid (w.heap.size<=gs):=Nat.le_of_eq hgs.symm;rw[<-hgs]at X1⊢;have hsz:(w.alloc (.cells #[.int .i64 s.v,.int .i64 s.d,.int .i64 s.u,.int .i64 s.n,.int .i64 s.g,.int .i64 s.a,.int .i64 s.b,.int .i64 s.c,.int .i64 s.e,.int .i64 s.w,.int .i64 s.x,.int .i64 s.k] 33)).heap.size=gs+1:=by rw[hgs];simp
 generalize w.alloc (.cells #[.int .i64 s.v,.int .i64 s.d,.int .i64 s.u,.int .i64 s.n,.int .i64 s.g,.int .i64 s.a,.int .i64 s.b,.int .i64 s.c,.int .i64 s.e,.int .i64 s.w,.int .i64 s.x,.int .i64 s.k] 33)=w1 at*;obtain⟨gr,hgr⟩:∃gr,gr=gs+1:=zx;have NR:Hid (gr≠gs):=by show _≠_;omega
 have hr2:=heap_alloc_new w1 (.cells #[zi,zi,zi,zi,zi,zi,zi,zi,zi,zi,zi,zi] 33);have hb2:=(Below.refl w1.heap.size w1).alloc zl (.cells #[zi,zi,zi,zi,zi,zi,zi,zi,zi,zi,zi,zi] 33);have hl1:=(zg X1.o).1;have X2:=zh ((hb2.block gs hl1).trans X1.o);have LS:Hid (gs<(w1.alloc (.cells #[zi,zi,zi,zi,zi,zi,zi,zi,zi,zi,zi,zi] 33)).heap.size):=(zg X2.o).1;have B2:=zh (B1.o.trans (hb2.mono B1.o.size));rw[hsz,<-hgr]at hr2;rw[<-hgr];have R2:=zh hr2;have LR:Hid (gr<(w1.alloc (.cells #[zi,zi,zi,zi,zi,zi,zi,zi,zi,zi,zi,zi] 33)).heap.size):=(zg hr2).1;have LZ:Hid (w.heap.size<=gr):=by show _<=_;have:=ZB.o;omega
 clear hgs hgr hsz hr2 hb2 hl1 X1 B1 HB HG;generalize w1.alloc (.cells #[zi,zi,zi,zi,zi,zi,zi,zi,zi,zi,zi,zi] 33)=w2 at*;go_cut [3] (fun s3 wx=>∃go,s3= .pointer (some ⟨go,0,none⟩)/\GO w gs gr go s ⟨v,d,0,0,g,0,0,0,0,0,0,0⟩ wx)
 case first=>
  refine wp_region_held_drew (S:=fun W=>zF w2 W) zk (Below.refl w2.heap.size w2).drew (fun hS=> ?_);refine tY 0 hS ?_;refine tZ 1 rfl (by intro W hW;obtain⟨f0,f1,f2,f3,f4,f5,f6,f7,f8,f9,f10,f11⟩:=jae (s:=s) ((hW.block gs LS.o).trans X2.o);go_simp;(try with_reducible rfl)) hS ?_;refine tY 3 hS ?_;refine tZ 4 rfl (by intro W hW;obtain⟨f0,f1,f2,f3,f4,f5,f6,f7,f8,f9,f10,f11⟩:=jae (s:=s) ((hW.block gs LS.o).trans X2.o);go_simp;(try with_reducible rfl)) hS ?_;refine tY 6 hS ?_;refine tZ 7 rfl (by intro W hW;obtain⟨f0,f1,f2,f3,f4,f5,f6,f7,f8,f9,f10,f11⟩:=jae (s:=s) ((hW.block gs LS.o).trans X2.o);go_simp;(try with_reducible rfl)) hS ?_;simp only[Act.put,zT,zO,zS];refine jgn 2 10 rfl rfl zk rfl rfl (fun K hK=> ?_) (fun K hK=> ?_)
  ·go_simp
   refine(CV.o _).mono ?_
   rintro e W ⟨rfl,hW⟩;obtain rfl:=hW.symm;refine hK.out _ _ hS (fun _=> ?_);clear hK K;try simp only[Act.put,zT,zO,zS]
   refine jgn 5 10 rfl rfl zk rfl rfl (fun K hK=> ?_) (fun K hK=> ?_)
   ·go_simp
    refine(CD.o _).mono ?_
    rintro e W ⟨rfl,hW⟩;obtain rfl:=hW.symm;refine hK.out _ _ hS (fun _=> ?_);clear hK K;try simp only[Act.put,zT,zO,zS]
    refine jgn 8 10 rfl rfl zk rfl rfl (fun K hK=> ?_) (fun K hK=> ?_)
    ·go_simp
     refine(CG.o _).mono ?_
     rintro e W ⟨rfl,hW⟩;obtain rfl:=hW.symm;refine hK.out _ _ hS (fun _=> ?_);clear hK K;refine tY 9 hS ?_;simp only[Act.put,zT,zO,zS];refine rO 10 (fun K hK=> ?_);go_simp;have hZ:(w2.alloc (.cells #[zi,zi,zi,zi,zi,zi,zi,zi,zi,zi,zi,zi] 33)).drew.heap[w2.heap.size]? =some (.cells #[zi,zi,zi,zi,zi,zi,zi,zi,zi,zi,zi,zi] 33 (0,0)):=heap_alloc_new w2 _;have hS2:zF w2 (w2.alloc (.cells #[zi,zi,zi,zi,zi,zi,zi,zi,zi,zi,zi,zi] 33)).drew:=((Below.refl w2.heap.size w2).alloc zl _).drew;obtain⟨go,hgo⟩:∃go,go=w2.heap.size:=zx;rw[<-hgo]at hZ;rw[<-hgo];generalize(w2.alloc (.cells #[zi,zi,zi,zi,zi,zi,zi,zi,zi,zi,zi,zi] 33)).drew=W3 at hZ hS2⊢;have HZ:=zh hZ;have HGO:=zh hgo;clear hS hZ hgo;have hS:=hS2;clear hS2;refine hK.out _ _ hS (fun _=> ?_);clear hK K;try simp only[Act.put,zT,zO,zS]
     exact zz9
    ·go_simp
     have hZ:(w2.alloc (.cells #[zi,zi,zi,zi,zi,zi,zi,zi,zi,zi,zi,zi] 33)).drew.heap[w2.heap.size]? =some (.cells #[zi,zi,zi,zi,zi,zi,zi,zi,zi,zi,zi,zi] 33 (0,0)):=heap_alloc_new w2 _;have hS2:zF w2 (w2.alloc (.cells #[zi,zi,zi,zi,zi,zi,zi,zi,zi,zi,zi,zi] 33)).drew:=((Below.refl w2.heap.size w2).alloc zl _).drew;obtain⟨go,hgo⟩:∃go,go=w2.heap.size:=zx;rw[<-hgo]at hZ;rw[<-hgo];generalize(w2.alloc (.cells #[zi,zi,zi,zi,zi,zi,zi,zi,zi,zi,zi,zi] 33)).drew=W3 at hZ hS2⊢;have HZ:=zh hZ;have HGO:=zh hgo;clear hS hZ hgo;have hS:=hS2;clear hS2;refine hK.out _ _ hS (fun _=> ?_);clear hK K;try simp only[Act.put,zT,zO,zS]
     refine rO 8 (fun K hK=> ?_);go_simp
     refine(CG.o _).mono ?_
     rintro e W ⟨rfl,hW⟩;obtain rfl:=hW.symm;refine hK.out _ _ hS (fun _=> ?_);clear hK K;refine tY 9 hS ?_;simp only[Act.put,zT,zO,zS];exact zz9
   ·go_simp
    have hZ:(w2.alloc (.cells #[zi,zi,zi,zi,zi,zi,zi,zi,zi,zi,zi,zi] 33)).drew.heap[w2.heap.size]? =some (.cells #[zi,zi,zi,zi,zi,zi,zi,zi,zi,zi,zi,zi] 33 (0,0)):=heap_alloc_new w2 _;have hS2:zF w2 (w2.alloc (.cells #[zi,zi,zi,zi,zi,zi,zi,zi,zi,zi,zi,zi] 33)).drew:=((Below.refl w2.heap.size w2).alloc zl _).drew;obtain⟨go,hgo⟩:∃go,go=w2.heap.size:=zx;rw[<-hgo]at hZ;rw[<-hgo];generalize(w2.alloc (.cells #[zi,zi,zi,zi,zi,zi,zi,zi,zi,zi,zi,zi] 33)).drew=W3 at hZ hS2⊢;have HZ:=zh hZ;have HGO:=zh hgo;clear hS hZ hgo;have hS:=hS2;clear hS2;exact zz7
  ·go_simp
   have hZ:(w2.alloc (.cells #[zi,zi,zi,zi,zi,zi,zi,zi,zi,zi,zi,zi] 33)).drew.heap[w2.heap.size]? =some (.cells #[zi,zi,zi,zi,zi,zi,zi,zi,zi,zi,zi,zi] 33 (0,0)):=heap_alloc_new w2 _;have hS2:zF w2 (w2.alloc (.cells #[zi,zi,zi,zi,zi,zi,zi,zi,zi,zi,zi,zi] 33)).drew:=((Below.refl w2.heap.size w2).alloc zl _).drew;obtain⟨go,hgo⟩:∃go,go=w2.heap.size:=zx;rw[<-hgo]at hZ;rw[<-hgo];generalize(w2.alloc (.cells #[zi,zi,zi,zi,zi,zi,zi,zi,zi,zi,zi,zi] 33)).drew=W3 at hZ hS2⊢;have HZ:=zh hZ;have HGO:=zh hgo;clear hS hZ hgo;have hS:=hS2;clear hS2;refine hK.out _ _ hS (fun _=> ?_);clear hK K;try simp only[Act.put,zT,zO,zS]
   refine rO 2 (fun K hK=> ?_);go_simp
   refine(CV.o _).mono ?_
   rintro e W ⟨rfl,hW⟩;obtain rfl:=hW.symm;exact zz7
 case rest=>
  clear X2 R2 LR LZ B2 NR LS ZB;obtain⟨go,rfl,hgo⟩:=hcut;have P3:=zh hgo;clear hgo CV CD CG;obtain⟨u,hu⟩:∃u,u=Spc.near s.u 0 4:=zx;have CU:Hid (∀W,Calls Tryz.prog 131 #[.int .i64 s.u,zi,.int .i64 4] W fun e w'=>e= .returned (.int .i64 u)/\w'=W):=fun W=>by rw[hu];exact ja8 _ _ _ zv zv W
  have HU:=zh hu;have hd:=jsp HD.o;obtain⟨n,hn⟩:∃n,n=Spc.near s.n 0 (d+1):=zx;have CN:Hid (∀W,Calls Tryz.prog 131 #[.int .i64 s.n,zi,.int .i64 (d+1)] W fun e w'=>e= .returned (.int .i64 n)/\w'=W):=fun W=>by rw[hn];exact ja8 _ _ _ zv zv W
  have HN:=zh hn;clear hu hn;obtain⟨f0,f1,f2,f3,f4,f5,f6,f7,f8,f9,f10,f11⟩:=jae P3.o.at_;obtain⟨y0,y1,y2,y3,y4,y5,y6,y7,y8,y9,y10,y11⟩:=jae P3.o.src;obtain⟨z0,z1,z2,z3,z4,z5,z6,z7,z8,z9,z10,z11⟩:=jbc P3.o.at_;simp only[]at f0 f1 f2 f3 f4 f5 f6 f7 f8 f9 f10 f11;go_upto_region 3 with(refine(CU.o _).mono ?_;rintro e W ⟨rfl,hW⟩;obtain rfl:=hW.symm)
  clear f0 f1 f2 f3 f4 f5 f6 f7 f8 f9 f10 f11 y0 y1 y2 y3 y4 y5 y6 y7 y8 y9 y10 y11 z0 z1 z2 z3 z4 z5 z6 z7 z8 z9 z10 z11;have P4:=zh (P3.o.set ⟨v,d,u,0,g,0,0,0,0,0,0,0⟩ 2 u rfl);generalize World.setCell wc ⟨go,2,none⟩ (.int .i64 u)=w4 at*;clear P3 CU;have wr:=IntWalk.i64_in (d+1) zv;obtain⟨f0,f1,f2,f3,f4,f5,f6,f7,f8,f9,f10,f11⟩:=jae P4.o.at_;obtain⟨y0,y1,y2,y3,y4,y5,y6,y7,y8,y9,y10,y11⟩:=jae P4.o.src;obtain⟨z0,z1,z2,z3,z4,z5,z6,z7,z8,z9,z10,z11⟩:=jbc P4.o.at_;simp only[]at f0 f1 f2 f3 f4 f5 f6 f7 f8 f9 f10 f11;go_upto_region 4 with(refine(CN.o _).mono ?_;rintro e W ⟨rfl,hW⟩;obtain rfl:=hW.symm)
  clear f0 f1 f2 f3 f4 f5 f6 f7 f8 f9 f10 f11 y0 y1 y2 y3 y4 y5 y6 y7 y8 y9 y10 y11 z0 z1 z2 z3 z4 z5 z6 z7 z8 z9 z10 z11;have P5:=zh (P4.o.set ⟨v,d,u,n,g,0,0,0,0,0,0,0⟩ 3 n rfl);generalize World.setCell w4 ⟨go,3,none⟩ (.int .i64 n)=w5 at*;clear P4 CN;obtain⟨U,hU⟩:∃U,U=if g=2 then d+Spc.near s.u 0 2 else u:=zx
  have HUU:=zh hU;obtain⟨e,he⟩:∃e,e=Spc.near s.u 0 2:=zx;have C2:Hid (∀W,Calls Tryz.prog 131 #[.int .i64 s.u,zi,.int .i64 2] W fun e' w'=>e'= .returned (.int .i64 e)/\w'=W):=fun W=>by rw[he];exact ja8 _ _ _ zv zv W
  have he2:0<=e/\e<2:=by have:=Spc.near_in s.u 0 2 zv;omega
  rw[<-he]at hU;have UE:=zh hU;clear hU he;obtain⟨f0,f1,f2,f3,f4,f5,f6,f7,f8,f9,f10,f11⟩:=jae P5.o.at_;obtain⟨y0,y1,y2,y3,y4,y5,y6,y7,y8,y9,y10,y11⟩:=jae P5.o.src;obtain⟨z0,z1,z2,z3,z4,z5,z6,z7,z8,z9,z10,z11⟩:=jbc P5.o.at_;simp only[]at f0 f1 f2 f3 f4 f5 f6 f7 f8 f9 f10 f11;go_upto_if 30 with fail
  go_cut [3] (fun s3 wx=>s3= .pointer (some ⟨go,0,none⟩)/\GO w gs gr go s ⟨v,d,U,n,g,0,0,0,0,0,0,0⟩ wx)
  case first=>
   by_cases hg2:g=2
   ·have hq:(g==2)=true:=by rw[hg2];rfl
    have eU:U=d+e:=by rw[UE.o,if_pos hg2]
    have EU:=zh eU;have HG2:=zh hg2;clear eU hg2 f0 f1 f2 f3 f4 f5 f6 f7 f8 f9 f10 f11 y0 y1 y2 y3 y4 y5 y6 y7 y8 y9 y10 y11 z0 z1 z2 z3 z4 z5 z6 z7 z8 z9 z10 z11;simp only[hq];go_upto_region 5 with fail
    have P5d:=zh P5.o.drew;have wr2:=IntWalk.i64_in (d+e) zv;refine wp_region_held_drew (S:=fun W=>∃x,GO w gs gr go s ⟨v,d,x,n,g,0,0,0,0,0,0,0⟩ W) zk ⟨u,P5d.o⟩ (fun hS=> ?_);generalize w5.drew=wd at*;refine tY 0 hS ?_;refine tZ 1 rfl (by intro W hW;obtain⟨x,hx⟩:=hW;obtain⟨f0,f1,f2,f3,f4,f5,f6,f7,f8,f9,f10,f11⟩:=jae hx.at_;obtain⟨y0,y1,y2,y3,y4,y5,y6,y7,y8,y9,y10,y11⟩:=jae hx.src;simp only[]at f0 f1 f2 f3 f4 f5 f6 f7 f8 f9 f10 f11;go_simp;(try with_reducible rfl)) hS ?_;refine tY 2 hS ?_;refine tZ 3 rfl (by intro W hW;obtain⟨x,hx⟩:=hW;obtain⟨f0,f1,f2,f3,f4,f5,f6,f7,f8,f9,f10,f11⟩:=jae hx.at_;obtain⟨y0,y1,y2,y3,y4,y5,y6,y7,y8,y9,y10,y11⟩:=jae hx.src;simp only[]at f0 f1 f2 f3 f4 f5 f6 f7 f8 f9 f10 f11;go_simp;(try with_reducible rfl)) hS ?_;simp only[Act.put,zT,zO,zS];refine rO 4 (fun K hK=> ?_);go_simp
    refine(C2.o _).mono ?_
    rintro e W ⟨rfl,hW⟩;obtain rfl:=hW.symm;refine hK.out _ _ hS (fun _=> ?_);clear hK K;refine tY 5 hS ?_;refine tY 6 hS ?_;simp only[Act.put,zT,zO,zS];refine rO 7 (fun K hK=> ?_);obtain⟨f0,f1,f2,f3,f4,f5,f6,f7,f8,f9,f10,f11⟩:=jae P5d.o.at_;obtain⟨z0,z1,z2,z3,z4,z5,z6,z7,z8,z9,z10,z11⟩:=jbc P5d.o.at_;simp only[]at f0 f1 f2 f3 f4 f5 f6 f7 f8 f9 f10 f11;have hP:=P5d.o.set ⟨v,d,(d+e),n,g,0,0,0,0,0,0,0⟩ 2 (d+e) rfl;have HP:=zh hP;clear hS hP;go_simp;clear f0 f1 f2 f3 f4 f5 f6 f7 f8 f9 f10 f11 z0 z1 z2 z3 z4 z5 z6 z7 z8 z9 z10 z11;have hS:∃x,GO w gs gr go s ⟨v,d,x,n,g,0,0,0,0,0,0,0⟩ (wd.setCell ⟨go,2,none⟩ (.int .i64 (d+e))):=⟨_,HP.o⟩;refine hK.out _ _ hS (fun _=> ?_);clear hK K;try simp only[Act.put,zT,zO,zS]
    refine wpAnyH_done zk ?_ _;go_wp2;go_meet
    case rel=>exact⟨rfl,by rw[EU.o];exact HP.o⟩
   ·have hq:(g==2)=false:=by rw[zq];exact hg2
    have eU:U=u:=by rw[UE.o,if_neg hg2]
    have EU:=zh eU;clear eU;go_wp2;go_meet
    case rel=>exact⟨rfl,by rw[EU.o];exact P5.o⟩
  case rest=>
   clear f0 f1 f2 f3 f4 f5 f6 f7 f8 f9 f10 f11 y0 y1 y2 y3 y4 y5 y6 y7 y8 y9 y10 y11 z0 z1 z2 z3 z4 z5 z6 z7 z8 z9 z10 z11 P5 C2 UE;obtain⟨rfl,hgo⟩:=hcut;have P6:=zh hgo;clear hgo;obtain⟨M,hM⟩:∃M,M=if U=0/\n=0 then 1 else n:=zx
   have HM:=zh hM;clear hM;obtain⟨B,hB⟩:∃B:Bool,B=decide (U=0/\n=0):=zx;have HBB:=zh hB;clear hB;obtain⟨f0,f1,f2,f3,f4,f5,f6,f7,f8,f9,f10,f11⟩:=jae P6.o.at_;obtain⟨y0,y1,y2,y3,y4,y5,y6,y7,y8,y9,y10,y11⟩:=jae P6.o.src;obtain⟨z0,z1,z2,z3,z4,z5,z6,z7,z8,z9,z10,z11⟩:=jbc P6.o.at_;simp only[]at f0 f1 f2 f3 f4 f5 f6 f7 f8 f9 f10 f11;go_upto_region 6 with fail
   go_cut [3,45] (fun s3 s45 wx=>s3= .pointer (some ⟨go,0,none⟩)/\s45= .bool B/\GO w gs gr go s ⟨v,d,U,n,g,0,0,0,0,0,0,0⟩ wx)
   case first=>
    by_cases hu0:U=0
    ·have hu1:(U==0)=true:=by rw[hu0];rfl
     by_cases hn0:n=0
     ·have hn1:(n==0)=true:=by rw[hn0];rfl
      have hdc:=zh (decide_eq_true (show U=0/\n=0 from⟨hu0,hn0⟩));exact zz2u
     ·have hn1:(n==0)=false:=by rw[zq];exact hn0
      have hdc:=zh (decide_eq_false (show¬(U=0/\n=0)from fun h=>hn0 h.2));exact zz2u
    ·have hu1:(U==0)=false:=by rw[zq];exact hu0
     have hdc:=zh (decide_eq_false (show¬(U=0/\n=0)from fun h=>hu0 h.1));clear hu0;go_wp2;go_meet
     case rel=>exact⟨rfl,by rw[HBB.o,hdc.o],P6.o⟩
   case rest=>
    clear f0 f1 f2 f3 f4 f5 f6 f7 f8 f9 f10 f11 y0 y1 y2 y3 y4 y5 y6 y7 y8 y9 y10 y11 z0 z1 z2 z3 z4 z5 z6 z7 z8 z9 z10 z11;obtain⟨rfl,rfl,hgo⟩:=hcut;have P7:=zh hgo;clear hgo P6;obtain⟨f0,f1,f2,f3,f4,f5,f6,f7,f8,f9,f10,f11⟩:=jae P7.o.at_;obtain⟨y0,y1,y2,y3,y4,y5,y6,y7,y8,y9,y10,y11⟩:=jae P7.o.src;obtain⟨z0,z1,z2,z3,z4,z5,z6,z7,z8,z9,z10,z11⟩:=jbc P7.o.at_;simp only[]at f0 f1 f2 f3 f4 f5 f6 f7 f8 f9 f10 f11;go_upto_if 45 with fail
    go_cut [3] (fun s3 wx=>s3= .pointer (some ⟨go,0,none⟩)/\GO w gs gr go s ⟨v,d,U,M,g,0,0,0,0,0,0,0⟩ wx)
    case first=>
     by_cases hc:U=0/\n=0
     ·have hM:M=1:=by rw[HM.o,if_pos hc]
      have EM:=zh hM;have hdc:B=true:=by rw[HBB.o];exact decide_eq_true hc
      clear hM hc;have hP:=P7.o.set ⟨v,d,U,1,g,0,0,0,0,0,0,0⟩ 3 1 rfl;have HP:=zh hP;clear hP;clear HBB;subst hdc;go_wp2;go_meet
      case rel=>exact⟨rfl,by rw[EM.o];exact HP.o⟩
     ·have hM:M=n:=by rw[HM.o,if_neg hc]
      have EM:=zh hM;have hdc:B=false:=by rw[HBB.o];exact decide_eq_false hc
      clear hM hc;clear HBB;subst hdc;go_wp2;go_meet
      case rel=>exact⟨rfl,by rw[EM.o];exact P7.o⟩
    case rest=>
     clear f0 f1 f2 f3 f4 f5 f6 f7 f8 f9 f10 f11 y0 y1 y2 y3 y4 y5 y6 y7 y8 y9 y10 y11 z0 z1 z2 z3 z4 z5 z6 z7 z8 z9 z10 z11;obtain⟨rfl,hgo⟩:=hcut;have P8:=zh hgo;clear hgo P7;obtain⟨ls,hls⟩:∃ls,ls=Spc.gs s:=zx;have HLS:=zh hls;obtain⟨s1,h1⟩:∃s1,s1=(Spc.gs s).getD 0 0:=zx;obtain⟨s2,h2⟩:∃s2,s2=(Spc.gs s).getD 1 0:=zx;obtain⟨s3,h3⟩:∃s3,s3=(Spc.gs s).getD 2 0:=zx;obtain⟨s4,h4⟩:∃s4,s4=(Spc.gs s).getD 3 0:=zx;have HG4:=zh (⟨h1,h2,h3,h4⟩:_/\_/\_/\_);clear hls h1 h2 h3 h4;obtain⟨f0,f1,f2,f3,f4,f5,f6,f7,f8,f9,f10,f11⟩:=jae P8.o.at_;simp only[]at f0 f1 f2 f3 f4 f5 f6 f7 f8 f9 f10 f11;go_upto_if 49 with fail
     go_cut [3] (fun s3' wx=>s3'= .pointer (some ⟨go,0,none⟩)/\GO w gs gr go s ⟨v,d,U,M,g,s1,s2,s3,s4,0,0,0⟩ wx)
     case first=>
      by_cases hg0:g=0
      ·have hq:(g==0)=true:=by rw[hg0];rfl
       have HG0:=zh hg0;have HMD:Hid (Spc.made s 4 [] 0=Spc.gs s):=by
        have e2:Spc.gg s=g:=HGG.o.symm;show _=_;unfold Spc.gs;rw[e2,if_pos hg0]
       clear hg0 f0 f1 f2 f3 f4 f5 f6 f7 f8 f9 f10 f11;simp only[hq];go_wp2_with fail;go_loopw [4,5] (fun vl vi wr=>∃(j:Nat) (l:List Int) (L:Int),vl= .int .i64 L/\vi= .int .i64 (j:Nat)/\j<=4/\l.length=j/\0<=L/\L<=100/\Spc.made s (4 -j) l L=Spc.gs s/\GO w gs gr go s (lsp v d U M g l) wr) (fun _ vi _=>4 -(intOf vi).toNat)
       case atStart=>exact⟨0,[],0,rfl,rfl,zv,rfl,zv,zv,HMD.o,P8.o⟩
       case round=>
        obtain⟨j,l,L,rfl,rfl,hj,hl,hL0,hL1,hmd,hp⟩:=hrel;have MD:=zh hmd;have P:=zh hp;clear hmd hp P8 HMD;have FIN:Hid (l=Spc.gs s->∀W,GO w gs gr go s (lsp v d U M g l) W->GO w gs gr go s ⟨v,d,U,M,g,s1,s2,s3,s4,0,0,0⟩ W):=fun e W h=>by
         rw[HG4.o.1,HG4.o.2.1,HG4.o.2.2.1,HG4.o.2.2.2,<-e];exact h
        have hjc:j=0\/j=1\/j=2\/j=3\/j=4:=by omega
        rcases hjc with rfl|rfl|rfl|rfl|rfl
        ·obtain rfl:l=[]:=List.eq_nil_of_length_eq_zero hl
         have STEP:=zh (je7 s 0 zv [] L);rw[show 4 -0=4 from rfl]at MD;obtain⟨n0,hn0⟩:∃n0,n0=Spc.near s.a 0 60:=zx;have CZ:Hid (∀W,Calls Tryz.prog 131 #[.int .i64 s.a,zi,.int .i64 60] W fun e w'=>e= .returned (.int .i64 n0)/\w'=W):=fun W=>by rw[hn0];exact ja8 _ _ _ zv zv W
         have hnb:=Spc.near_in s.a 0 60 zv;rw[<-hn0]at hnb;have ST:Hid (Spc.made s 4 [] L=if(n0+1)=0\/100<L+(n0+1)then[]else Spc.made s 3 ([]++[L+(n0+1)]) (L+(n0+1))):=by
          have h:=STEP.o;rw[show Spc.at_ s 0=s.a from rfl,<-hn0]at h;exact zh (by simpa using h)
         clear hn0 STEP hl;have w1:wrap64 (L+(n0+1))=L+(n0+1):=IntWalk.wrap64_in _ zv;have w2:IntKind.i64.wrap (L+(n0+1))=L+(n0+1):=IntWalk.i64_in _ zv;have w3:wrap64 (n0+1)=n0+1:=IntWalk.wrap64_in _ zv;obtain⟨f0,f1,f2,f3,f4,f5,f6,f7,f8,f9,f10,f11⟩:=jae P.o.at_;obtain⟨y0,y1,y2,y3,y4,y5,y6,y7,y8,y9,y10,y11⟩:=jae P.o.src;obtain⟨z0,z1,z2,z3,z4,z5,z6,z7,z8,z9,z10,z11⟩:=jbc P.o.at_;simp only[lsp]at f0 f1 f2 f3 f4 f5 f6 f7 f8 f9 f10 f11;have hn:¬n0+1=0:=by omega
         have hq1:(n0+1==0)=false:=by rw[zq];exact hn
         by_cases hb:100<L+(n0+1)
         ·exact zz16
         ·have MN:Hid (Spc.made s 3 ([]++[L+(n0+1)]) (L+(n0+1))=Spc.gs s):=by
           exact zz2i
          have PX:=zh (P.o.set (lsp v d U M g ([]++[L+(n0+1)])) 5 (L+(n0+1)) rfl);clear ST FIN MD hn;go_wp2_with(refine(CZ.o _).mono ?_;rintro e W ⟨rfl,hW⟩;obtain rfl:=hW.symm);exact⟨⟨1,[]++[L+(n0+1)],L+(n0+1),rfl,by go_num,zv,rfl,zv,zv,MN.o,PX.o⟩,by simp[intOf]⟩
        ·obtain⟨p0,rfl⟩:=len1 hl
         have STEP:=zh (je7 s 1 zv [p0] L);rw[show 4 -1=3 from rfl]at MD;obtain⟨n0,hn0⟩:∃n0,n0=Spc.near s.b 0 60:=zx;have CZ:Hid (∀W,Calls Tryz.prog 131 #[.int .i64 s.b,zi,.int .i64 60] W fun e w'=>e= .returned (.int .i64 n0)/\w'=W):=fun W=>by rw[hn0];exact ja8 _ _ _ zv zv W
         have hnb:=Spc.near_in s.b 0 60 zv;rw[<-hn0]at hnb;have ST:Hid (Spc.made s 3 [p0] L=if n0=0\/100<L+n0 then[p0]else Spc.made s 2 ([p0]++[L+n0]) (L+n0)):=by
          have h:=STEP.o;rw[show Spc.at_ s 1=s.b from rfl,<-hn0]at h;exact zh (by simpa using h)
         clear hn0 STEP hl;have w1:wrap64 (L+n0)=L+n0:=IntWalk.wrap64_in _ zv;have w2:IntKind.i64.wrap (L+n0)=L+n0:=IntWalk.i64_in _ zv;have w3:wrap64 (n0+1)=n0+1:=IntWalk.wrap64_in _ zv;obtain⟨f0,f1,f2,f3,f4,f5,f6,f7,f8,f9,f10,f11⟩:=jae P.o.at_;obtain⟨y0,y1,y2,y3,y4,y5,y6,y7,y8,y9,y10,y11⟩:=jae P.o.src;obtain⟨z0,z1,z2,z3,z4,z5,z6,z7,z8,z9,z10,z11⟩:=jbc P.o.at_;simp only[lsp]at f0 f1 f2 f3 f4 f5 f6 f7 f8 f9 f10 f11;by_cases hn:n0=0
         ·exact zz14
         ·have hq1:(n0==0)=false:=by rw[zq];exact hn
          by_cases hb:100<L+n0
          ·exact zz16
          ·have MN:Hid (Spc.made s 2 ([p0]++[L+n0]) (L+n0)=Spc.gs s):=by
            exact zz2i
           have PX:=zh (P.o.set (lsp v d U M g ([p0]++[L+n0])) 6 (L+n0) rfl);clear ST FIN MD hn;go_wp2_with(refine(CZ.o _).mono ?_;rintro e W ⟨rfl,hW⟩;obtain rfl:=hW.symm);exact⟨⟨2,[p0]++[L+n0],L+n0,rfl,by go_num,zv,rfl,zv,zv,MN.o,PX.o⟩,by simp[intOf]⟩
        ·obtain⟨p0,p1,rfl⟩:=len2 hl
         have STEP:=zh (je7 s 2 zv [p0,p1] L);rw[show 4 -2=2 from rfl]at MD;obtain⟨n0,hn0⟩:∃n0,n0=Spc.near s.c 0 60:=zx;have CZ:Hid (∀W,Calls Tryz.prog 131 #[.int .i64 s.c,zi,.int .i64 60] W fun e w'=>e= .returned (.int .i64 n0)/\w'=W):=fun W=>by rw[hn0];exact ja8 _ _ _ zv zv W
         have hnb:=Spc.near_in s.c 0 60 zv;rw[<-hn0]at hnb;have ST:Hid (Spc.made s 2 [p0,p1] L=if n0=0\/100<L+n0 then[p0,p1]else Spc.made s 1 ([p0,p1]++[L+n0]) (L+n0)):=by
          have h:=STEP.o;rw[show Spc.at_ s 2=s.c from rfl,<-hn0]at h;exact zh (by simpa using h)
         clear hn0 STEP hl;have w1:wrap64 (L+n0)=L+n0:=IntWalk.wrap64_in _ zv;have w2:IntKind.i64.wrap (L+n0)=L+n0:=IntWalk.i64_in _ zv;have w3:wrap64 (n0+1)=n0+1:=IntWalk.wrap64_in _ zv;obtain⟨f0,f1,f2,f3,f4,f5,f6,f7,f8,f9,f10,f11⟩:=jae P.o.at_;obtain⟨y0,y1,y2,y3,y4,y5,y6,y7,y8,y9,y10,y11⟩:=jae P.o.src;obtain⟨z0,z1,z2,z3,z4,z5,z6,z7,z8,z9,z10,z11⟩:=jbc P.o.at_;simp only[lsp]at f0 f1 f2 f3 f4 f5 f6 f7 f8 f9 f10 f11;by_cases hn:n0=0
         ·exact zz14
         ·have hq1:(n0==0)=false:=by rw[zq];exact hn
          by_cases hb:100<L+n0
          ·exact zz16
          ·have MN:Hid (Spc.made s 1 ([p0,p1]++[L+n0]) (L+n0)=Spc.gs s):=by
            exact zz2i
           have PX:=zh (P.o.set (lsp v d U M g ([p0,p1]++[L+n0])) 7 (L+n0) rfl);clear ST FIN MD hn;go_wp2_with(refine(CZ.o _).mono ?_;rintro e W ⟨rfl,hW⟩;obtain rfl:=hW.symm);exact⟨⟨3,[p0,p1]++[L+n0],L+n0,rfl,by go_num,zv,rfl,zv,zv,MN.o,PX.o⟩,by simp[intOf]⟩
        ·obtain⟨p0,p1,p2,rfl⟩:=len3 hl
         have STEP:=zh (je7 s 3 zv [p0,p1,p2] L);rw[show 4 -3=1 from rfl]at MD;obtain⟨n0,hn0⟩:∃n0,n0=Spc.near s.e 0 60:=zx;have CZ:Hid (∀W,Calls Tryz.prog 131 #[.int .i64 s.e,zi,.int .i64 60] W fun e w'=>e= .returned (.int .i64 n0)/\w'=W):=fun W=>by rw[hn0];exact ja8 _ _ _ zv zv W
         have hnb:=Spc.near_in s.e 0 60 zv;rw[<-hn0]at hnb;have ST:Hid (Spc.made s 1 [p0,p1,p2] L=if n0=0\/100<L+n0 then[p0,p1,p2]else Spc.made s 0 ([p0,p1,p2]++[L+n0]) (L+n0)):=by
          have h:=STEP.o;rw[show Spc.at_ s 3=s.e from rfl,<-hn0]at h;exact zh (by simpa using h)
         clear hn0 STEP hl;have w1:wrap64 (L+n0)=L+n0:=IntWalk.wrap64_in _ zv;have w2:IntKind.i64.wrap (L+n0)=L+n0:=IntWalk.i64_in _ zv;have w3:wrap64 (n0+1)=n0+1:=IntWalk.wrap64_in _ zv;obtain⟨f0,f1,f2,f3,f4,f5,f6,f7,f8,f9,f10,f11⟩:=jae P.o.at_;obtain⟨y0,y1,y2,y3,y4,y5,y6,y7,y8,y9,y10,y11⟩:=jae P.o.src;obtain⟨z0,z1,z2,z3,z4,z5,z6,z7,z8,z9,z10,z11⟩:=jbc P.o.at_;simp only[lsp]at f0 f1 f2 f3 f4 f5 f6 f7 f8 f9 f10 f11;by_cases hn:n0=0
         ·exact zz14
         ·have hq1:(n0==0)=false:=by rw[zq];exact hn
          by_cases hb:100<L+n0
          ·exact zz16
          ·have MN:Hid (Spc.made s 0 ([p0,p1,p2]++[L+n0]) (L+n0)=Spc.gs s):=by
            exact zz2i
           have PX:=zh (P.o.set (lsp v d U M g ([p0,p1,p2]++[L+n0])) 8 (L+n0) rfl);clear ST FIN MD hn;go_wp2_with(refine(CZ.o _).mono ?_;rintro e W ⟨rfl,hW⟩;obtain rfl:=hW.symm);exact⟨⟨4,[p0,p1,p2]++[L+n0],L+n0,rfl,by go_num,zv,rfl,zv,zv,MN.o,PX.o⟩,by simp[intOf]⟩
        ·have E:=zh (FIN.o (by have h:=MD.o;exact h) _ P.o)
         clear FIN MD;go_wp2;go_meet
         case rel=>exact⟨rfl,E.o⟩
      ·have hq:(g==0)=false:=by rw[zq];exact hg0
       have EL:Hid (Spc.gs s=[]):=by
        have e2:Spc.gg s=g:=HGG.o.symm;show _=_;unfold Spc.gs;rw[e2,if_neg hg0]
       clear hg0;go_wp2;go_meet
       case rel=>exact⟨rfl,by rw[HG4.o.1,HG4.o.2.1,HG4.o.2.2.1,HG4.o.2.2.2,EL.o];exact P8.o⟩
     case rest=>
      clear f0 f1 f2 f3 f4 f5 f6 f7 f8 f9 f10 f11;obtain⟨rfl,hgo⟩:=hcut;have P9:=zh hgo;clear hgo P8;obtain⟨ww,hww⟩:∃ww,ww=Spc.near s.w 1 9:=zx;obtain⟨xx,hxx⟩:∃xx,xx=Spc.near s.x 0 4:=zx;obtain⟨kk,hkk⟩:∃kk,kk=Spc.near s.k 1 60:=zx;have CW:Hid (∀W,Calls Tryz.prog 131 #[.int .i64 s.w,.int .i64 1,.int .i64 9] W fun e w'=>e= .returned (.int .i64 ww)/\w'=W):=fun W=>by rw[hww];exact ja8 _ _ _ zv zv W
      have CX:Hid (∀W,Calls Tryz.prog 131 #[.int .i64 s.x,zi,.int .i64 4] W fun e w'=>e= .returned (.int .i64 xx)/\w'=W):=fun W=>by rw[hxx];exact ja8 _ _ _ zv zv W
      have CK:Hid (∀W,Calls Tryz.prog 131 #[.int .i64 s.k,.int .i64 1,.int .i64 60] W fun e w'=>e= .returned (.int .i64 kk)/\w'=W):=fun W=>by rw[hkk];exact ja8 _ _ _ zv zv W
      have HX3:=zh (⟨hww,hxx,hkk⟩:_/\_/\_);clear hww hxx hkk;obtain⟨f0,f1,f2,f3,f4,f5,f6,f7,f8,f9,f10,f11⟩:=jae P9.o.at_;obtain⟨y0,y1,y2,y3,y4,y5,y6,y7,y8,y9,y10,y11⟩:=jae P9.o.src;obtain⟨z0,z1,z2,z3,z4,z5,z6,z7,z8,z9,z10,z11⟩:=jbc P9.o.at_;simp only[]at f0 f1 f2 f3 f4 f5 f6 f7 f8 f9 f10 f11;go_upto_region 20 with(refine(CW.o _).mono ?_;rintro e W ⟨rfl,hW⟩;obtain rfl:=hW.symm)
      clear f0 f1 f2 f3 f4 f5 f6 f7 f8 f9 f10 f11 y0 y1 y2 y3 y4 y5 y6 y7 y8 y9 y10 y11 z0 z1 z2 z3 z4 z5 z6 z7 z8 z9 z10 z11;have PA:=zh (P9.o.set ⟨v,d,U,M,g,s1,s2,s3,s4,ww,0,0⟩ 9 ww rfl);generalize World.setCell _ ⟨go,9,none⟩ (.int .i64 ww)=wA at*;clear P9 CW;obtain⟨f0,f1,f2,f3,f4,f5,f6,f7,f8,f9,f10,f11⟩:=jae PA.o.at_;obtain⟨y0,y1,y2,y3,y4,y5,y6,y7,y8,y9,y10,y11⟩:=jae PA.o.src;obtain⟨z0,z1,z2,z3,z4,z5,z6,z7,z8,z9,z10,z11⟩:=jbc PA.o.at_;simp only[]at f0 f1 f2 f3 f4 f5 f6 f7 f8 f9 f10 f11;go_upto_region 21 with(refine(CX.o _).mono ?_;rintro e W ⟨rfl,hW⟩;obtain rfl:=hW.symm)
      clear f0 f1 f2 f3 f4 f5 f6 f7 f8 f9 f10 f11 y0 y1 y2 y3 y4 y5 y6 y7 y8 y9 y10 y11 z0 z1 z2 z3 z4 z5 z6 z7 z8 z9 z10 z11;have PB:=zh (PA.o.set ⟨v,d,U,M,g,s1,s2,s3,s4,ww,xx,0⟩ 10 xx rfl);generalize World.setCell _ ⟨go,10,none⟩ (.int .i64 xx)=wB at*;clear PA CX;obtain⟨f0,f1,f2,f3,f4,f5,f6,f7,f8,f9,f10,f11⟩:=jae PB.o.at_;obtain⟨y0,y1,y2,y3,y4,y5,y6,y7,y8,y9,y10,y11⟩:=jae PB.o.src;obtain⟨z0,z1,z2,z3,z4,z5,z6,z7,z8,z9,z10,z11⟩:=jbc PB.o.at_;simp only[]at f0 f1 f2 f3 f4 f5 f6 f7 f8 f9 f10 f11;go_upto_region 22 with(refine(CK.o _).mono ?_;rintro e W ⟨rfl,hW⟩;obtain rfl:=hW.symm)
      clear f0 f1 f2 f3 f4 f5 f6 f7 f8 f9 f10 f11 y0 y1 y2 y3 y4 y5 y6 y7 y8 y9 y10 y11 z0 z1 z2 z3 z4 z5 z6 z7 z8 z9 z10 z11;have PC:=zh (PB.o.set ⟨v,d,U,M,g,s1,s2,s3,s4,ww,xx,kk⟩ 11 kk rfl);generalize World.setCell _ ⟨go,11,none⟩ (.int .i64 kk)=wC at*;clear PB CK;obtain⟨f0,f1,f2,f3,f4,f5,f6,f7,f8,f9,f10,f11⟩:=jae PC.o.at_;obtain⟨q0,q1,q2,q3,q4,q5,q6,q7,q8,q9,q10,q11⟩:=jae (s:=Spc.zero) PC.o.res;obtain⟨z0,z1,z2,z3,z4,z5,z6,z7,z8,z9,z10,z11⟩:=jbc PC.o.res;simp only[Spc.zero]at f0 f1 f2 f3 f4 f5 f6 f7 f8 f9 f10 f11 q0 q1 q2 q3 q4 q5 q6 q7 q8 q9 q10 q11;have hP:=jfh (s:=⟨v,d,U,M,g,s1,s2,s3,s4,ww,xx,kk⟩) (r:=Spc.zero) PC.o.res;have hG:=jcg gr (Spc.cells ⟨v,d,U,M,g,s1,s2,s3,s4,ww,xx,kk⟩).toList 0 wC;obtain⟨W9,hW⟩:∃W9,W9=puts wC gr 0 (Spc.cells ⟨v,d,U,M,g,s1,s2,s3,s4,ww,xx,kk⟩).toList:=zx;rw[<-hW]at hP hG;have hB:=PC.o.below.grown hG PC.o.below.size (fun i hi=>by injection hi with hi;have:=PC.o.apart2.2;omega)
      have key:((((((((((((wC.setCell ⟨gr,0,none⟩ (.int .i64 v)).setCell ⟨gr,1,none⟩ (.int .i64 d)).setCell ⟨gr,2,none⟩ (.int .i64 U)).setCell ⟨gr,3,none⟩ (.int .i64 M)).setCell ⟨gr,4,none⟩ (.int .i64 g)).setCell ⟨gr,5,none⟩ (.int .i64 s1)).setCell ⟨gr,6,none⟩ (.int .i64 s2)).setCell ⟨gr,7,none⟩ (.int .i64 s3)).setCell ⟨gr,8,none⟩ (.int .i64 s4)).setCell ⟨gr,9,none⟩ (.int .i64 ww)).setCell ⟨gr,10,none⟩ (.int .i64 xx)).setCell ⟨gr,11,none⟩ (.int .i64 kk))=W9:=by rw[hW];rfl
      have KEY:=zh key;have HP:=zh hP;have HB:=zh hB;clear hP hG hW hB key PC;have EQ:Hid (Spc.good s=⟨v,d,U,M,g,s1,s2,s3,s4,ww,xx,kk⟩):=by
       have e1:Spc.gd s=d:=HD.o.symm;have e2:Spc.gg s=g:=HGG.o.symm;have e3:Spc.gu s=U:=by unfold Spc.gu;rw[e2,e1,HUU.o,HU.o]
       have e4:Spc.gn s=M:=by unfold Spc.gn;rw[e3,e1,<-HN.o,HM.o]
       show _=_;unfold Spc.good;rw[e1,e2,e3,e4,<-HV.o,<-HG4.o.1,<-HG4.o.2.1,<-HG4.o.2.2.1,<-HG4.o.2.2.2,<-HX3.o.1,<-HX3.o.2.1,<-HX3.o.2.2]
      go_wp2_with fail;rw[KEY.o];clear f0 f1 f2 f3 f4 f5 f6 f7 f8 f9 f10 f11 q0 q1 q2 q3 q4 q5 q6 q7 q8 q9 q10 q11 z0 z1 z2 z3 z4 z5 z6 z7 z8 z9 z10 z11 KEY;obtain⟨f0,f1,f2,f3,f4,f5,f6,f7,f8,f9,f10,f11⟩:=jae (s:=⟨v,d,U,M,g,s1,s2,s3,s4,ww,xx,kk⟩) HP.o;exact bodyPost_ret (v:= .agg #[.int .i64 v,.int .i64 d,.int .i64 U,.int .i64 M,.int .i64 g,.int .i64 s1,.int .i64 s2,.int .i64 s3,.int .i64 s4,.int .i64 ww,.int .i64 xx,.int .i64 kk]) (by simp[results,Tryz.results76,go_sem,f0,f1,f2,f3,f4,f5,f6,f7,f8,f9,f10,f11]) rfl ⟨by rw[EQ.o],HB.o⟩