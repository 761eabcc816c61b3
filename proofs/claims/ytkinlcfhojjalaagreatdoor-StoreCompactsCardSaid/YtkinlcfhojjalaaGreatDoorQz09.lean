import Derived.Test.YtkinlcfhojjalaaGreatDoorQz07
import Derived.Laws.ResultCell
import Derived.Great.BuildSlice
set_option maxHeartbeats 6400000
set_option maxRecDepth 100000
set_option linter.all false
namespace Go.Proofs.YtkinlcfhojjalaaGreatDoor
open Go.RowKit
def jcp(w:World)(s:Bk.St)(r:Rc.R)(e:Ending)(w':World):Prop:=∃ll A c,e= .returned (.tuple #[rlT s.m A ll.length c,.int .i64 (Bk.leadE s r)])/\SlF Bk.leC w' A ll.length c ll/\zF w w'/\(Bk.leadE s r=0->ll=[⟨r.who,r.epoch,Bk.leadT s r⟩]/\∀b o,A=some ⟨b,o,none⟩->w.heap.size<=b)
structure BkRc(w0 W:World)(n:Nat)(s:Bk.St)(L V H:Value)(r:Rc.R):Prop where
 bk:BkAt W n s L V H
 rc:RcAt W (n+1) r
 rd:BkRd W s L V H
 below:zF w0 W
 nb:w0.heap.size<=n
theorem BkRc.on{w0 W W':World}{n:Nat}{s:Bk.St}{L V H:Value}{r:Rc.R}(h:BkRc w0 W n s L V H r)(hb:zF W W'):BkRc w0 W' n s L V H r:=⟨h.bk.on hb,h.rc.on hb,h.rd.on hb,h.below.trans (hb.mono h.below.size),h.nb⟩
theorem jk7{s:Bk.St}(h:s.ep=0):Bk.tl s=[]:=if_pos h
theorem jgp{s:Bk.St}(h:s.ep≠0):Bk.tl s=[⟨s.who,s.ep,s.till⟩]:=if_neg h
theorem jp6{s:Bk.St}{r:Rc.R}(h:r.epoch≠s.ep/\r.epoch≠s.ep+1):Bk.leadE s r=8:=if_pos h
theorem jin{s:Bk.St}{r:Rc.R}(h:r.epoch=s.ep\/r.epoch=s.ep+1)(ho:Bk.leadOk s r=true):Bk.leadE s r=0:=by unfold Bk.leadE;rw[if_neg zv,if_pos ho]
theorem jmt{s:Bk.St}{r:Rc.R}(h:r.epoch=s.ep\/r.epoch=s.ep+1)(ho:¬Bk.leadOk s r=true):Bk.leadE s r=9:=by unfold Bk.leadE;rw[if_neg zv,if_neg ho]
theorem jnl(s:Bk.St)(ok:Bk.Ok s)(r:Rc.R)(hr:Rc.right r=true)(hk:r.kind=1)(L V H:Value)(w:World)(h:BkRd w s L V H)(he:r.epoch≠s.ep/\r.epoch≠s.ep+1):Calls Tryz.prog 79 #[.agg (Bk.cells s L V H),.agg (Rc.cells r)] w (jcp w s r):=by
 obtain⟨tn,htn⟩:∃tn,tn=(Bk.tl s).length:=zx;obtain⟨A,c,rfl,hl⟩:∃A c,L= .slice A tn c/\SlF Bk.leC w A tn c (Bk.tl s):=by rw[htn];exact h.l
 have TN:=zh htn;have S0:=zh hl;have EE:=zh (jp6 he);have q1:(r.epoch !=s.ep)=true:=by rw[bne_iff_ne];exact he.1
 have q2:(r.epoch !=s.ep+1)=true:=by rw[bne_iff_ne];exact he.2
 have hw1:wrap64 (s.ep+1)=s.ep+1:=IntWalk.wrap64_in _ ⟨by have:=ok.ep;omega,by have:=ok.ep;omega⟩;clear he hl hr hk htn;obtain⟨W,hW⟩:∃W,W=((w.alloc (.cells (Bk.cells s (.slice A tn c) V H) 38)).alloc (.cells (Rc.cells r) 56)).alloc (.cells #[zi,.slice none 0 0] 29):=zx;obtain⟨r1,r2,r3,hb,hs⟩:=jaq hW;have BX:=zh (BkRc.mk ⟨r1⟩ ⟨r2⟩ (h.on hb) hb zl);have h0:=zh h;clear r1 r2 hs hb h;go_in;go_upto_region 1 with fail
 rw[<-hW];clear hW;obtain⟨n,hn⟩:∃n,n=w.heap.size:=zx;rw[<-hn]at BX r3⊢;have NB:=zh (Nat.le_of_eq hn.symm);clear hn;have R3:=zh r3;clear r3;have b0:=BX.o.bk.cs.c0;have b1:=BX.o.bk.cs.c1;have b3:=BX.o.bk.cs.c3;have c1:=BX.o.rc.cs.c1;have c2:=BX.o.rc.cs.c2;have c3:=BX.o.rc.cs.c3;have c4:=BX.o.rc.cs.c4;have y0:=cell_of_row _ _ 0 _ _ _ R3.o;have y1:=cell_of_row _ _ 1 _ _ _ R3.o;have yf:=fun i=>frozen_of_row _ _ i _ _ R3.o;have k2:=(zg R3.o).1;have k1:=BX.o.rc.cs.lt;have k0:=BX.o.bk.lt;simp only[List.getElem?_toArray,List.getElem?_cons_zero,List.getElem?_cons_succ]at y0 y1;go_wp2_with fail;exact bodyPost_ret (v:= .tuple #[rlT s.m A tn c,.int .i64 8]) (by simp[results,Tryz.results79,go_sem,y0,y1,yf,k0,k1,k2]) rfl ⟨Bk.tl s,A,c,by rw[EE.o,<-TN.o],by rw[<-TN.o];exact S0.o.on (by have bb:=BX.o.below;have nb:=NB.o;have nb2:w.heap.size<=n+1+1:=zv;have ns:=bb.size;go_grown),(by have bb:=BX.o.below;have nb:=NB.o;have nb2:w.heap.size<=n+1+1:=zv;have ns:=bb.size;go_grown),fun h=>absurd (EE.o.symm.trans h) (by decide)⟩
theorem zz28{p:Prop}(h:p:=by
 unfold Bk.leadOk at ho;rw[if_pos he,Bool.and_eq_true,decide_eq_true_eq,decide_eq_true_eq]at ho;exact ho):p:=h
theorem jgq(s:Bk.St)(ok:Bk.Ok s)(r:Rc.R)(hr:Rc.right r=true)(hk:r.kind=1)(L V H:Value)(w:World)(h:BkRd w s L V H)(he:r.epoch=s.ep)(ho:Bk.leadOk s r=true):Calls Tryz.prog 79 #[.agg (Bk.cells s L V H),.agg (Rc.cells r)] w (jcp w s r):=by
 have hne:s.ep≠0:=by have:=(Rc.ok_of hr).epoch;omega
 obtain⟨A,c,rfl,hl⟩:∃A c,L= .slice A 1 c/\SlF Bk.leC w A 1 c [⟨s.who,s.ep,s.till⟩]:=by have:=h.l;rwa [jgp hne]at this
 have S0:=zh hl;obtain⟨b,o,rfl,hc,hla⟩:=LeAt.of hl;obtain⟨i1,i2,i3⟩:=Rc.right1 hk hr;have hti:=ok.till;have hm:=ok.m;have LA0:=zh hla;have hx:(s.who=r.who/\r.n<s.till):=by
  exact zz28
 have EE:=zh (jin (.inl he) ho);have ET:Hid (Bk.leadT s r=max s.till (Bk.late r.n r.seq)):=if_pos he;have HE:=zh he;have HW:=zh hx.1;have CR:Hid (∀W,LeAt W b o ⟨s.who,s.ep,s.till⟩->Calls Tryz.prog 135 #[.agg #[.int .i64 s.m,.slice (some ⟨b,o,none⟩) 1 c],.string ⟨#[108,101,97,100]⟩,.int .i64 r.who,.int .i64 r.epoch,.int .i64 r.n,.int .i64 r.seq] W (jc6 W s.m [⟨s.who,s.ep,max s.till (Bk.late r.n r.seq)⟩] (max s.till (Bk.late r.n r.seq)) 0)):=fun W h=>by
  have:=jnj s.m b o c ⟨s.who,s.ep,s.till⟩ r.who r.n r.seq i1 i2 i3 W h hc hx hti;rw[<-he]at this⊢;exact this
 generalize Bk.late r.n r.seq=lt at*;have LT:=zh hla.lt;have q1:(r.epoch !=s.ep)=false:=by rw[bne_eq_false_iff_eq];exact he
 have q2:(r.epoch==s.ep)=true:=by rw[beq_iff_eq];exact he
 clear ok he ho hx hl hla hr hk hne i1 i2 i3 hti hm;obtain⟨W,hW⟩:∃W,W=((w.alloc (.cells (Bk.cells s (.slice (some ⟨b,o,none⟩) 1 c) V H) 38)).alloc (.cells (Rc.cells r) 56)).alloc (.cells #[zi,.slice none 0 0] 29):=zx;obtain⟨r1,r2,r3,hb,hs⟩:=jaq hW;have BX:=zh (BkRc.mk ⟨r1⟩ ⟨r2⟩ (h.on hb) hb zl);have h0:=zh h;clear r1 r2 hs hb h;go_in;go_upto_region 1 with fail
 rw[<-hW];clear hW;obtain⟨n,hn⟩:∃n,n=w.heap.size:=zx;rw[<-hn]at BX r3⊢;have NB:=zh (Nat.le_of_eq hn.symm);clear hn;have R3:=zh r3;clear r3;have b0:=BX.o.bk.cs.c0;have b1:=BX.o.bk.cs.c1;have b3:=BX.o.bk.cs.c3;have c1:=BX.o.rc.cs.c1;have c2:=BX.o.rc.cs.c2;have c3:=BX.o.rc.cs.c3;have c4:=BX.o.rc.cs.c4;have y0:=cell_of_row _ _ 0 _ _ _ R3.o;have y1:=cell_of_row _ _ 1 _ _ _ R3.o;have yf:=fun i=>frozen_of_row _ _ i _ _ R3.o;have k2:=(zg R3.o).1;have k1:=BX.o.rc.cs.lt;have k0:=BX.o.bk.lt;simp only[List.getElem?_toArray,List.getElem?_cons_zero,List.getElem?_cons_succ]at y0 y1;go_wp2_with(go_at_call 135;refine(CR.o _ (LA0.o.on BX.o.below)).mono ?_;rintro e w1 ⟨A1,kk,rfl,hs1,hb,hfar⟩;have S1:=zh hs1;have FAR:=zh hfar;have SZN:Hid (n+1+1<_):=k2;clear hs1 hfar;have BX:=zh (BX.o.on hb);have R3:=zh (jah R3.o hb);clear b0 b1 b3 c1 c2 c3 c4 y0 y1 yf k0 k1 k2;have b0:=BX.o.bk.cs.c0;have b1:=BX.o.bk.cs.c1;have b3:=BX.o.bk.cs.c3;have c1:=BX.o.rc.cs.c1;have c2:=BX.o.rc.cs.c2;have c3:=BX.o.rc.cs.c3;have c4:=BX.o.rc.cs.c4;have y0:=cell_of_row _ _ 0 _ _ _ R3.o;have y1:=cell_of_row _ _ 1 _ _ _ R3.o;have yf:=fun i=>frozen_of_row _ _ i _ _ R3.o;have k2:=(zg R3.o).1;have k1:=BX.o.rc.cs.lt;have k0:=BX.o.bk.lt;simp only[List.getElem?_toArray,List.getElem?_cons_zero,List.getElem?_cons_succ]at y0 y1);exact bodyPost_ret (v:= .tuple #[rlT s.m A1 1 kk,zi]) (by simp[results,Tryz.results79,go_sem,y0,y1,yf,k0,k1,k2]) rfl ⟨[⟨s.who,s.ep,max s.till lt⟩],A1,kk,by rw[EE.o];rfl,S1.o.keep (by simp) (fun b' o' he hl=>by
  have h1:=FAR.o (by trivial) b' o' he;have h2:=SZN.o;obtain⟨b2,o2,he2,hb2,_⟩:=S1.o.rd hl;rw[he]at he2;injection he2 with he2;injection he2 with he2 _;subst he2
  exact(heap_alloc_old _ _ (by simpa using hb2)).trans ((Below.heap_setCell _ _ _ _ (by simp;omega)).trans (Below.heap_setCell _ _ _ _ (by simp;omega)))),(by have bb:=BX.o.below;have nb:=NB.o;have nb2:w.heap.size<=n+1+1:=zv;have ns:=bb.size;go_grown),fun _=>⟨by rw[ET.o,HW.o,HE.o],fun b' o' e=>by have h1:=FAR.o (by trivial) b' o' e;have h2:=SZN.o;have h3:=NB.o;omega⟩⟩
theorem jgr(s:Bk.St)(ok:Bk.Ok s)(r:Rc.R)(hr:Rc.right r=true)(hk:r.kind=1)(L V H:Value)(w:World)(h:BkRd w s L V H)(he:r.epoch=s.ep)(ho:¬Bk.leadOk s r=true):Calls Tryz.prog 79 #[.agg (Bk.cells s L V H),.agg (Rc.cells r)] w (jcp w s r):=by
 have hne:s.ep≠0:=by have:=(Rc.ok_of hr).epoch;omega
 obtain⟨A,c,rfl,hl⟩:∃A c,L= .slice A 1 c/\SlF Bk.leC w A 1 c [⟨s.who,s.ep,s.till⟩]:=by have:=h.l;rwa [jgp hne]at this
 have S0:=zh hl;obtain⟨b,o,rfl,hc,hla⟩:=LeAt.of hl;obtain⟨i1,i2,i3⟩:=Rc.right1 hk hr;have hti:=ok.till;have hm:=ok.m;have LA0:=zh hla;have hx:¬(s.who=r.who/\r.n<s.till):=by
  exact zz28
 have EE:=zh (jmt (.inl he) ho);obtain⟨x,hx0,hcall⟩:∃x:Int,x≠0/\∀W,LeAt W b o ⟨s.who,s.ep,s.till⟩->SlF Bk.leC W (some ⟨b,o,none⟩) 1 c [⟨s.who,s.ep,s.till⟩]->Calls Tryz.prog 135 #[.agg #[.int .i64 s.m,.slice (some ⟨b,o,none⟩) 1 c],.string ⟨#[108,101,97,100]⟩,.int .i64 r.who,.int .i64 r.epoch,.int .i64 r.n,.int .i64 r.seq] W (jc6 W s.m [⟨s.who,s.ep,s.till⟩] 0 x):=by
  rw[he];by_cases hw:s.who=r.who
  ·exact⟨9,by decide,fun W h hs=>jk3 s.m b o c ⟨s.who,s.ep,s.till⟩ r.who r.n r.seq i1 i2 i3 W h hc hs hx hw⟩
  ·exact⟨8,by decide,fun W h hs=>jk4 s.m b o c ⟨s.who,s.ep,s.till⟩ r.who r.n r.seq i1 i2 i3 W h hc hs hx hw⟩
 have CR:Hid (∀W,zF w W->Calls Tryz.prog 135 #[.agg #[.int .i64 s.m,.slice (some ⟨b,o,none⟩) 1 c],.string ⟨#[108,101,97,100]⟩,.int .i64 r.who,.int .i64 r.epoch,.int .i64 r.n,.int .i64 r.seq] W (jc6 W s.m [⟨s.who,s.ep,s.till⟩] 0 x)):=fun W hb=>hcall W (hla.on hb) (hl.on hb);have hxx:(x !=0)=true:=by rw[bne_iff_ne];exact hx0
 clear hcall;have LT:=zh hla.lt;have q1:(r.epoch !=s.ep)=false:=by rw[bne_eq_false_iff_eq];exact he
 have q2:(r.epoch==s.ep)=true:=by rw[beq_iff_eq];exact he
 clear ok he ho hx hl hla hr hk hne i1 i2 i3 hti hm;obtain⟨W,hW⟩:∃W,W=((w.alloc (.cells (Bk.cells s (.slice (some ⟨b,o,none⟩) 1 c) V H) 38)).alloc (.cells (Rc.cells r) 56)).alloc (.cells #[zi,.slice none 0 0] 29):=zx;obtain⟨r1,r2,r3,hb,hs⟩:=jaq hW;have BX:=zh (BkRc.mk ⟨r1⟩ ⟨r2⟩ (h.on hb) hb zl);have h0:=zh h;clear r1 r2 hs hb h;go_in;go_upto_region 1 with fail
 rw[<-hW];clear hW;obtain⟨n,hn⟩:∃n,n=w.heap.size:=zx;rw[<-hn]at BX r3⊢;have NB:=zh (Nat.le_of_eq hn.symm);clear hn;have R3:=zh r3;clear r3;have b0:=BX.o.bk.cs.c0;have b1:=BX.o.bk.cs.c1;have b3:=BX.o.bk.cs.c3;have c1:=BX.o.rc.cs.c1;have c2:=BX.o.rc.cs.c2;have c3:=BX.o.rc.cs.c3;have c4:=BX.o.rc.cs.c4;have y0:=cell_of_row _ _ 0 _ _ _ R3.o;have y1:=cell_of_row _ _ 1 _ _ _ R3.o;have yf:=fun i=>frozen_of_row _ _ i _ _ R3.o;have k2:=(zg R3.o).1;have k1:=BX.o.rc.cs.lt;have k0:=BX.o.bk.lt;simp only[List.getElem?_toArray,List.getElem?_cons_zero,List.getElem?_cons_succ]at y0 y1;go_wp2_with(go_at_call 135;refine(CR.o _ BX.o.below).mono ?_;rintro e w1 ⟨A1,kk,rfl,hs1,hb,hfar⟩;have S1:=zh hs1;have FAR:=zh hfar;have SZN:Hid (n+1+1<_):=k2;clear hs1 hfar;have BX:=zh (BX.o.on hb);have R3:=zh (jah R3.o hb);clear b0 b1 b3 c1 c2 c3 c4 y0 y1 yf k0 k1 k2;have b0:=BX.o.bk.cs.c0;have b1:=BX.o.bk.cs.c1;have b3:=BX.o.bk.cs.c3;have c1:=BX.o.rc.cs.c1;have c2:=BX.o.rc.cs.c2;have c3:=BX.o.rc.cs.c3;have c4:=BX.o.rc.cs.c4;have y0:=cell_of_row _ _ 0 _ _ _ R3.o;have y1:=cell_of_row _ _ 1 _ _ _ R3.o;have yf:=fun i=>frozen_of_row _ _ i _ _ R3.o;have k2:=(zg R3.o).1;have k1:=BX.o.rc.cs.lt;have k0:=BX.o.bk.lt;simp only[List.getElem?_toArray,List.getElem?_cons_zero,List.getElem?_cons_succ]at y0 y1);exact bodyPost_ret (v:= .tuple #[rlT s.m (some ⟨b,o,none⟩) 1 c,.int .i64 9]) (by simp[results,Tryz.results79,go_sem,y0,y1,yf,k0,k1,k2]) rfl ⟨[⟨s.who,s.ep,s.till⟩],some ⟨b,o,none⟩,c,by rw[EE.o];rfl,S0.o.on (by have bb:=BX.o.below;have nb:=NB.o;have nb2:w.heap.size<=n+1+1:=zv;have ns:=bb.size;go_grown),(by have bb:=BX.o.below;have nb:=NB.o;have nb2:w.heap.size<=n+1+1:=zv;have ns:=bb.size;go_grown),fun h=>absurd (EE.o.symm.trans h) (by decide)⟩
theorem zz29{p:Prop}(h:p:=by
 unfold Bk.leadOk at ho;rw[if_neg zv,Bool.or_eq_true,decide_eq_true_eq,decide_eq_true_eq]at ho;omega):p:=h
theorem jhj(s:Bk.St)(ok:Bk.Ok s)(r:Rc.R)(hr:Rc.right r=true)(hk:r.kind=1)(L V H:Value)(w:World)(h:BkRd w s L V H)(he:r.epoch=s.ep+1)(hne:s.ep≠0)(ho:Bk.leadOk s r=true):Calls Tryz.prog 79 #[.agg (Bk.cells s L V H),.agg (Rc.cells r)] w (jcp w s r):=by
 obtain⟨A,c,rfl,hl⟩:∃A c,L= .slice A 1 c/\SlF Bk.leC w A 1 c [⟨s.who,s.ep,s.till⟩]:=by have:=h.l;rwa [jgp hne]at this
 have S0:=zh hl;obtain⟨b,o,rfl,hc,hla⟩:=LeAt.of hl;obtain⟨i1,i2,i3⟩:=Rc.right1 hk hr;have hti:=ok.till;have hm:=ok.m;have LA0:=zh hla;have hep:=ok.ep;have hx:Bk.late s.till s.m<=r.n:=by
  exact zz29
 have EE:=zh (jin (.inr he) ho);have ET:Hid (Bk.leadT s r=Bk.late r.n r.seq):=if_neg zv;have HE:=zh he;have CT:Hid (∀W,zF w W->Calls Tryz.prog 136 #[.agg #[.int .i64 s.m,.slice (some ⟨b,o,none⟩) 1 c],.string ⟨#[108,101,97,100]⟩,.int .i64 r.who,.int .i64 r.n,.int .i64 r.seq] W (jc6 W s.m [⟨r.who,s.ep+1,Bk.late r.n r.seq⟩] (s.ep+1) 0)):=fun W hb=>jk5 s.m b o c ⟨s.who,s.ep,s.till⟩ r.who r.n r.seq i1 i2 i3 hm W (hla.on hb) hc hti hx hep;generalize Bk.late r.n r.seq=lt at*;have LT:=zh hla.lt;have q1:(r.epoch !=s.ep)=true:=by rw[bne_iff_ne];omega
 have hw1:wrap64 (s.ep+1)=s.ep+1:=IntWalk.wrap64_in _ ⟨zv,zv⟩;have q3:(r.epoch !=s.ep+1)=false:=by rw[bne_eq_false_iff_eq];exact he
 have q2:(r.epoch==s.ep)=false:=by rw[zq];omega
 clear ok he ho hx hl hla hr hk hne i1 i2 i3 hti hm hep;obtain⟨W,hW⟩:∃W,W=((w.alloc (.cells (Bk.cells s (.slice (some ⟨b,o,none⟩) 1 c) V H) 38)).alloc (.cells (Rc.cells r) 56)).alloc (.cells #[zi,.slice none 0 0] 29):=zx;obtain⟨r1,r2,r3,hb,hs⟩:=jaq hW;have BX:=zh (BkRc.mk ⟨r1⟩ ⟨r2⟩ (h.on hb) hb zl);have h0:=zh h;clear r1 r2 hs hb h;go_in;go_upto_region 1 with fail
 rw[<-hW];clear hW;obtain⟨n,hn⟩:∃n,n=w.heap.size:=zx;rw[<-hn]at BX r3⊢;have NB:=zh (Nat.le_of_eq hn.symm);clear hn;have R3:=zh r3;clear r3;have b0:=BX.o.bk.cs.c0;have b1:=BX.o.bk.cs.c1;have b3:=BX.o.bk.cs.c3;have c1:=BX.o.rc.cs.c1;have c2:=BX.o.rc.cs.c2;have c3:=BX.o.rc.cs.c3;have c4:=BX.o.rc.cs.c4;have y0:=cell_of_row _ _ 0 _ _ _ R3.o;have y1:=cell_of_row _ _ 1 _ _ _ R3.o;have yf:=fun i=>frozen_of_row _ _ i _ _ R3.o;have k2:=(zg R3.o).1;have k1:=BX.o.rc.cs.lt;have k0:=BX.o.bk.lt;simp only[List.getElem?_toArray,List.getElem?_cons_zero,List.getElem?_cons_succ]at y0 y1;go_wp2_with(go_at_call 136;refine(CT.o _ BX.o.below).mono ?_;rintro e w1 ⟨A1,kk,rfl,hs1,hb,hfar⟩;have S1:=zh hs1;have FAR:=zh hfar;have SZN:Hid (n+1+1<_):=k2;clear hs1 hfar;have BX:=zh (BX.o.on hb);have R3:=zh (jah R3.o hb);clear b0 b1 b3 c1 c2 c3 c4 y0 y1 yf k0 k1 k2;have b0:=BX.o.bk.cs.c0;have b1:=BX.o.bk.cs.c1;have b3:=BX.o.bk.cs.c3;have c1:=BX.o.rc.cs.c1;have c2:=BX.o.rc.cs.c2;have c3:=BX.o.rc.cs.c3;have c4:=BX.o.rc.cs.c4;have y0:=cell_of_row _ _ 0 _ _ _ R3.o;have y1:=cell_of_row _ _ 1 _ _ _ R3.o;have yf:=fun i=>frozen_of_row _ _ i _ _ R3.o;have k2:=(zg R3.o).1;have k1:=BX.o.rc.cs.lt;have k0:=BX.o.bk.lt;simp only[List.getElem?_toArray,List.getElem?_cons_zero,List.getElem?_cons_succ]at y0 y1);exact bodyPost_ret (v:= .tuple #[rlT s.m A1 1 kk,zi]) (by simp[results,Tryz.results79,go_sem,y0,y1,yf,k0,k1,k2]) rfl ⟨[⟨r.who,s.ep+1,lt⟩],A1,kk,by rw[EE.o];rfl,S1.o.keep (by simp) (fun b' o' he hl=>by
  have h1:=FAR.o (by trivial) b' o' he;have h2:=SZN.o;obtain⟨b2,o2,he2,hb2,_⟩:=S1.o.rd hl;rw[he]at he2;injection he2 with he2;injection he2 with he2 _;subst he2
  exact(heap_alloc_old _ _ (by simpa using hb2)).trans ((Below.heap_setCell _ _ _ _ (by simp;omega)).trans (Below.heap_setCell _ _ _ _ (by simp;omega)))),(by have bb:=BX.o.below;have nb:=NB.o;have nb2:w.heap.size<=n+1+1:=zv;have ns:=bb.size;go_grown),fun _=>⟨by rw[ET.o,HE.o],fun b' o' e=>by have h1:=FAR.o (by trivial) b' o' e;have h2:=SZN.o;have h3:=NB.o;omega⟩⟩
theorem jhk(s:Bk.St)(ok:Bk.Ok s)(r:Rc.R)(hr:Rc.right r=true)(hk:r.kind=1)(L V H:Value)(w:World)(h:BkRd w s L V H)(he:r.epoch=s.ep+1)(hne:s.ep≠0)(ho:¬Bk.leadOk s r=true):Calls Tryz.prog 79 #[.agg (Bk.cells s L V H),.agg (Rc.cells r)] w (jcp w s r):=by
 obtain⟨A,c,rfl,hl⟩:∃A c,L= .slice A 1 c/\SlF Bk.leC w A 1 c [⟨s.who,s.ep,s.till⟩]:=by have:=h.l;rwa [jgp hne]at this
 have S0:=zh hl;obtain⟨b,o,rfl,hc,hla⟩:=LeAt.of hl;obtain⟨i1,i2,i3⟩:=Rc.right1 hk hr;have hti:=ok.till;have hm:=ok.m;have LA0:=zh hla;have hep:=ok.ep;have hx:¬Bk.late s.till s.m<=r.n:=by
  exact zz29
 have EE:=zh (jmt (.inr he) ho);have CT:Hid (∀W,zF w W->Calls Tryz.prog 136 #[.agg #[.int .i64 s.m,.slice (some ⟨b,o,none⟩) 1 c],.string ⟨#[108,101,97,100]⟩,.int .i64 r.who,.int .i64 r.n,.int .i64 r.seq] W (jc6 W s.m [⟨s.who,s.ep,s.till⟩] 0 9)):=fun W hb=>jp4 s.m b o c ⟨s.who,s.ep,s.till⟩ r.who r.n r.seq i1 i2 i3 hm W (hla.on hb) hc hti (hl.on hb) hx;have LT:=zh hla.lt;have q1:(r.epoch !=s.ep)=true:=by rw[bne_iff_ne];omega
 have hw1:wrap64 (s.ep+1)=s.ep+1:=IntWalk.wrap64_in _ ⟨zv,zv⟩;have q3:(r.epoch !=s.ep+1)=false:=by rw[bne_eq_false_iff_eq];exact he
 have q2:(r.epoch==s.ep)=false:=by rw[zq];omega
 clear ok he ho hx hl hla hr hk hne i1 i2 i3 hti hm hep;obtain⟨W,hW⟩:∃W,W=((w.alloc (.cells (Bk.cells s (.slice (some ⟨b,o,none⟩) 1 c) V H) 38)).alloc (.cells (Rc.cells r) 56)).alloc (.cells #[zi,.slice none 0 0] 29):=zx;obtain⟨r1,r2,r3,hb,hs⟩:=jaq hW;have BX:=zh (BkRc.mk ⟨r1⟩ ⟨r2⟩ (h.on hb) hb zl);have h0:=zh h;clear r1 r2 hs hb h;go_in;go_upto_region 1 with fail
 rw[<-hW];clear hW;obtain⟨n,hn⟩:∃n,n=w.heap.size:=zx;rw[<-hn]at BX r3⊢;have NB:=zh (Nat.le_of_eq hn.symm);clear hn;have R3:=zh r3;clear r3;have b0:=BX.o.bk.cs.c0;have b1:=BX.o.bk.cs.c1;have b3:=BX.o.bk.cs.c3;have c1:=BX.o.rc.cs.c1;have c2:=BX.o.rc.cs.c2;have c3:=BX.o.rc.cs.c3;have c4:=BX.o.rc.cs.c4;have y0:=cell_of_row _ _ 0 _ _ _ R3.o;have y1:=cell_of_row _ _ 1 _ _ _ R3.o;have yf:=fun i=>frozen_of_row _ _ i _ _ R3.o;have k2:=(zg R3.o).1;have k1:=BX.o.rc.cs.lt;have k0:=BX.o.bk.lt;simp only[List.getElem?_toArray,List.getElem?_cons_zero,List.getElem?_cons_succ]at y0 y1;go_wp2_with(go_at_call 136;refine(CT.o _ BX.o.below).mono ?_;rintro e w1 ⟨A1,kk,rfl,hs1,hb,hfar⟩;have S1:=zh hs1;have FAR:=zh hfar;have SZN:Hid (n+1+1<_):=k2;clear hs1 hfar;have BX:=zh (BX.o.on hb);have R3:=zh (jah R3.o hb);clear b0 b1 b3 c1 c2 c3 c4 y0 y1 yf k0 k1 k2;have b0:=BX.o.bk.cs.c0;have b1:=BX.o.bk.cs.c1;have b3:=BX.o.bk.cs.c3;have c1:=BX.o.rc.cs.c1;have c2:=BX.o.rc.cs.c2;have c3:=BX.o.rc.cs.c3;have c4:=BX.o.rc.cs.c4;have y0:=cell_of_row _ _ 0 _ _ _ R3.o;have y1:=cell_of_row _ _ 1 _ _ _ R3.o;have yf:=fun i=>frozen_of_row _ _ i _ _ R3.o;have k2:=(zg R3.o).1;have k1:=BX.o.rc.cs.lt;have k0:=BX.o.bk.lt;simp only[List.getElem?_toArray,List.getElem?_cons_zero,List.getElem?_cons_succ]at y0 y1);exact bodyPost_ret (v:= .tuple #[rlT s.m (some ⟨b,o,none⟩) 1 c,.int .i64 9]) (by simp[results,Tryz.results79,go_sem,y0,y1,yf,k0,k1,k2]) rfl ⟨[⟨s.who,s.ep,s.till⟩],some ⟨b,o,none⟩,c,by rw[EE.o];rfl,S0.o.on (by have bb:=BX.o.below;have nb:=NB.o;have nb2:w.heap.size<=n+1+1:=zv;have ns:=bb.size;go_grown),(by have bb:=BX.o.below;have nb:=NB.o;have nb2:w.heap.size<=n+1+1:=zv;have ns:=bb.size;go_grown),fun h=>absurd (EE.o.symm.trans h) (by decide)⟩
theorem jjo(s:Bk.St)(ok:Bk.Ok s)(r:Rc.R)(hr:Rc.right r=true)(hk:r.kind=1)(L V H:Value)(w:World)(h:BkRd w s L V H)(he:r.epoch=s.ep+1)(h0:s.ep=0):Calls Tryz.prog 79 #[.agg (Bk.cells s L V H),.agg (Rc.cells r)] w (jcp w s r):=by
 obtain⟨A,c,rfl,hl⟩:∃A c,L= .slice A 0 c/\SlF Bk.leC w A 0 c []:=by have:=h.l;rwa [jk7 h0]at this
 obtain⟨i1,i2,i3⟩:=Rc.right1 hk hr;have hm:=ok.m;have EE:=zh (jin (s:=s) (r:=r) (.inr he) (by unfold Bk.leadOk;rw[if_neg zv,h0];rfl));have ET:Hid (Bk.leadT s r=Bk.late r.n r.seq):=if_neg zv;have HE:Hid (r.epoch=1):=by show _=_;omega
 have CT:Hid (∀W,zF w W->Calls Tryz.prog 136 #[.agg #[.int .i64 s.m,.slice A 0 c],.string ⟨#[108,101,97,100]⟩,.int .i64 r.who,.int .i64 r.n,.int .i64 r.seq] W (jc6 W s.m [⟨r.who,1,Bk.late r.n r.seq⟩] 1 0)):=fun W hb=>jk6 s.m A c r.who r.n r.seq i1 i2 i3 hm W;generalize Bk.late r.n r.seq=lt at*;have q1:(r.epoch !=s.ep)=true:=by rw[bne_iff_ne];omega
 have hw1:wrap64 (s.ep+1)=s.ep+1:=IntWalk.wrap64_in _ ⟨zv,zv⟩;have q3:(r.epoch !=s.ep+1)=false:=by rw[bne_eq_false_iff_eq];exact he
 have q2:(r.epoch==s.ep)=false:=by rw[zq];omega
 have LT:=zh True.intro;have LA0:=zh True.intro;clear ok he h0 hl hr hk i1 i2 i3 hm;obtain⟨W,hW⟩:∃W,W=((w.alloc (.cells (Bk.cells s (.slice A 0 c) V H) 38)).alloc (.cells (Rc.cells r) 56)).alloc (.cells #[zi,.slice none 0 0] 29):=zx;obtain⟨r1,r2,r3,hb,hs⟩:=jaq hW;have BX:=zh (BkRc.mk ⟨r1⟩ ⟨r2⟩ (h.on hb) hb zl);clear r1 r2 hs hb h;go_in;go_upto_region 1 with fail
 rw[<-hW];clear hW;obtain⟨n,hn⟩:∃n,n=w.heap.size:=zx;rw[<-hn]at BX r3⊢;have NB:=zh (Nat.le_of_eq hn.symm);clear hn;have R3:=zh r3;clear r3;have b0:=BX.o.bk.cs.c0;have b1:=BX.o.bk.cs.c1;have b3:=BX.o.bk.cs.c3;have c1:=BX.o.rc.cs.c1;have c2:=BX.o.rc.cs.c2;have c3:=BX.o.rc.cs.c3;have c4:=BX.o.rc.cs.c4;have y0:=cell_of_row _ _ 0 _ _ _ R3.o;have y1:=cell_of_row _ _ 1 _ _ _ R3.o;have yf:=fun i=>frozen_of_row _ _ i _ _ R3.o;have k2:=(zg R3.o).1;have k1:=BX.o.rc.cs.lt;have k0:=BX.o.bk.lt;simp only[List.getElem?_toArray,List.getElem?_cons_zero,List.getElem?_cons_succ]at y0 y1;go_wp2_with(go_at_call 136;refine(CT.o _ BX.o.below).mono ?_;rintro e w1 ⟨A1,kk,rfl,hs1,hb,hfar⟩;have S1:=zh hs1;have FAR:=zh hfar;have SZN:Hid (n+1+1<_):=k2;clear hs1 hfar;have BX:=zh (BX.o.on hb);have R3:=zh (jah R3.o hb);clear b0 b1 b3 c1 c2 c3 c4 y0 y1 yf k0 k1 k2;have b0:=BX.o.bk.cs.c0;have b1:=BX.o.bk.cs.c1;have b3:=BX.o.bk.cs.c3;have c1:=BX.o.rc.cs.c1;have c2:=BX.o.rc.cs.c2;have c3:=BX.o.rc.cs.c3;have c4:=BX.o.rc.cs.c4;have y0:=cell_of_row _ _ 0 _ _ _ R3.o;have y1:=cell_of_row _ _ 1 _ _ _ R3.o;have yf:=fun i=>frozen_of_row _ _ i _ _ R3.o;have k2:=(zg R3.o).1;have k1:=BX.o.rc.cs.lt;have k0:=BX.o.bk.lt;simp only[List.getElem?_toArray,List.getElem?_cons_zero,List.getElem?_cons_succ]at y0 y1);exact bodyPost_ret (v:= .tuple #[rlT s.m A1 1 kk,zi]) (by simp[results,Tryz.results79,go_sem,y0,y1,yf,k0,k1,k2]) rfl ⟨[⟨r.who,1,lt⟩],A1,kk,by rw[EE.o];rfl,S1.o.keep (by simp) (fun b' o' he hl=>by
  have h1:=FAR.o (by trivial) b' o' he;have h2:=SZN.o;obtain⟨b2,o2,he2,hb2,_⟩:=S1.o.rd hl;rw[he]at he2;injection he2 with he2;injection he2 with he2 _;subst he2
  exact(heap_alloc_old _ _ (by simpa using hb2)).trans ((Below.heap_setCell _ _ _ _ (by simp;omega)).trans (Below.heap_setCell _ _ _ _ (by simp;omega)))),(by have bb:=BX.o.below;have nb:=NB.o;have nb2:w.heap.size<=n+1+1:=zv;have ns:=bb.size;go_grown),fun _=>⟨by rw[ET.o,HE.o],fun b' o' e=>by have h1:=FAR.o (by trivial) b' o' e;have h2:=SZN.o;have h3:=NB.o;omega⟩⟩
theorem jhw(s:Bk.St)(ok:Bk.Ok s)(r:Rc.R)(hr:Rc.right r=true)(hk:r.kind=1)(L V H:Value)(w:World)(h:BkRd w s L V H):Calls Tryz.prog 79 #[.agg (Bk.cells s L V H),.agg (Rc.cells r)] w (jcp w s r):=by
 by_cases h1:r.epoch=s.ep
 ·by_cases ho:Bk.leadOk s r=true
  ·exact jgq s ok r hr hk L V H w h h1 ho
  ·exact jgr s ok r hr hk L V H w h h1 ho
 ·by_cases h2:r.epoch=s.ep+1
  ·by_cases h0:s.ep=0
   ·exact jjo s ok r hr hk L V H w h h2 h0
   ·by_cases ho:Bk.leadOk s r=true
    ·exact jhj s ok r hr hk L V H w h h2 h0 ho
    ·exact jhk s ok r hr hk L V H w h h2 h0 ho
  ·exact jnl s ok r hr hk L V H w h ⟨h1,h2⟩
section
variable{w:World}{ops:Array Oper}{rest:List Oper}{op:Oper}{a:Act}{Q:Exit->Act->World->Prop}{g:Nat}{s s2:Bk.St}{L V H L2 V2 H2:Value}
theorem jab(hgd:op.guard=none)(x:Operand)(ho:op.op= .load 38 x)(hx:a.eval x= .pointer (some ⟨g,0,none⟩))(hg:BkAt w g s L V H)
  (h:wpList Tryz.prog ops Q rest (a.put op.dst (.agg (Bk.cells s L V H))) w):wpList Tryz.prog ops Q (op::rest) a w:=
 wpList_load_row hgd 38 x ho g hx 38 _ (0,0) _ hg.row jex rfl (jfd s L V H) h
theorem jac(hgd:op.guard=none)(x y:Operand)(ho:op.op= .store 38 x y)(hx:a.eval x= .pointer (some ⟨g,0,none⟩))(hy:a.eval y= .agg (Bk.cells s2 L2 V2 H2))(hg:BkAt w g s L V H)(h1:(Bk.cells s2 L2 V2 H2).all (·.oneCell')=true)
  (h:wpList Tryz.prog ops Q rest (a.put op.dst undef) (w.setRow g (Bk.cells s2 L2 V2 H2))):wpList Tryz.prog ops Q (op::rest) a w:=
 wpList_plain hgd fun _ hK=>wp_store_row 38 x y ho g (Bk.cells s2 L2 V2 H2) hx hy 38 _ hg.row (jfd s2 L2 V2 H2) rfl h1 (hK _ _ h)
theorem BkAt.setRow(h:BkAt w g s L V H)(s2:Bk.St)(L2 V2 H2:Value):BkAt (w.setRow g (Bk.cells s2 L2 V2 H2)) g s2 L2 V2 H2:=⟨setRow_heap w g _ _ _ _ h.row⟩
theorem jbn(w:World){g b:Nat}(cs:Array Value)(h:g≠b):(w.setRow g cs).heap[b]? =w.heap[b]? :=by
 simp only[World.setRow];rw[Array.getElem?_modify];simp[h]
theorem jba(w:World)(g:Nat)(cs:Array Value):(w.setRow g cs).heap.size=w.heap.size:=by simp[World.setRow]
theorem jds{fn:Func}{p:Tmp}(h:fn.results= #[.cell p 38])(tmps:Array Value)(hp:tmps.getD p undef= .pointer (some ⟨g,0,none⟩))(hg:BkAt w g s L V H):
  (results fn tmps).run Tryz.prog w= .ok (.agg (Bk.cells s L V H)) w:=
 results_cell_row h tmps w g 38 _ (0,0) _ hp hg.row jex rfl (jfd s L V H)
theorem jbb{fn:Func}{p u:Tmp}(h:fn.results= #[.cell p 38,.tmp u])(tmps:Array Value)(hp:tmps.getD p undef= .pointer (some ⟨g,0,none⟩))(hg:BkAt w g s L V H):
  (results fn tmps).run Tryz.prog w= .ok (.tuple #[.agg (Bk.cells s L V H),tmps.getD u undef]) w:=by
 rw[results_cell_tmp h,hp];have:=run_loadVar_row (P:=Tryz.prog) w g 38 38 (Bk.cells s L V H) (0,0) _ hg.row jex rfl (jfd s L V H);simp[asAddr,this,Result.andThen]
theorem BkAt.vsl(h:BkAt w g s L V H)(V':Value)(l:List Bk.Vn):BkAt (w.setCell ⟨g,2,none⟩ V') g {s with vs:=l} L V' H:=h.set 2 _ rfl
theorem BkAt.hsl(h:BkAt w g s L V H)(H':Value)(l:List Rc.R):BkAt (w.setCell ⟨g,73,none⟩ H') g {s with h:=l} L V H':=h.set 73 _ rfl
theorem BkAt.zero(w:World):BkAt (w.alloc (.cells Bk.zeros 38)) w.heap.size Bk.none_ (.slice none 0 0) (.slice none 0 0) (.slice none 0 0):=⟨heap_alloc_new w _⟩
theorem zz2f{p:Prop}(h:p:=by
 obtain⟨⟨A1,c1,rfl,_⟩,⟨A2,c2,rfl,_⟩,⟨A3,c3,rfl,_⟩⟩:=h;exact⟨rfl,rfl,rfl⟩):p:=h
theorem BkRd.one'(h:BkRd w s L V H):L.oneCell'=true/\V.oneCell'=true/\H.oneCell'=true:=by
 exact zz2f
theorem BkRd.kept{w w':World}{g:Nat}(h:BkRd w s L V H)(hg:w.grownBy w' (some g))(hn:∀A n c b o,(L= .slice A n c\/V= .slice A n c\/H= .slice A n c)->A=some ⟨b,o,none⟩->0<n->b≠g):BkRd w' s L V H:=by
 obtain⟨⟨A1,c1,e1,h1⟩,⟨A2,c2,e2,h2⟩,⟨A3,c3,e3,h3⟩⟩:=h;refine⟨⟨A1,c1,e1,h1.keep hg.size fun b o e hl=> ?_⟩,⟨A2,c2,e2,h2.keep hg.size fun b o e hl=> ?_⟩,⟨A3,c3,e3,h3.keep hg.size fun b o e hl=> ?_⟩⟩
 ·obtain⟨b',o',e',hb,_⟩:=h1.rd hl
  rw[e]at e';injection e' with e';injection e' with e' _;subst e'
  exact hg.block b hb (fun ee=>hn _ _ _ b o (.inl e1) e hl (Option.some.inj ee))
 ·obtain⟨b',o',e',hb,_⟩:=h2.rd hl
  rw[e]at e';injection e' with e';injection e' with e' _;subst e'
  exact hg.block b hb (fun ee=>hn _ _ _ b o (.inr (.inl e2)) e hl (Option.some.inj ee))
 ·obtain⟨b',o',e',hb,_⟩:=h3.rd hl
  rw[e]at e';injection e' with e';injection e' with e' _;subst e'
  exact hg.block b hb (fun ee=>hn _ _ _ b o (.inr (.inr e3)) e hl (Option.some.inj ee))
end
theorem jap{P:Program}{sl e:TypeId}{z:Value}{K by_:Nat}(hsl:P.underlying sl=some (.slice e))(hi0:(P.info? e).map (fun i=>(i.zero,i.size,i.bytes))=some (some z,K,by_))(hK0:0<K)(hK1:K<=1000)
  {w:World} {ops:Array Oper} {rest:List Oper} {op:Oper} {a:Act} {Q:Exit->Act->World->Prop} (hgd:op.guard=none) (x:Operand) (ho:op.op= .buildSlice sl 1 #[(0,x)]) (cs:Array Value) (hx:a.eval x= .agg cs) (hl:cs.size=K)
  (h:wpList P ops Q rest (a.put op.dst (.slice (some ⟨w.heap.size,0,none⟩) 1 1)) (w.alloc (.cells cs e))):wpList P ops Q (op::rest) a w:=by
 obtain⟨i0,hi,hz0,hz1,hz2⟩:=info_parts hi0;refine wpList_buildSlice hgd sl e 1 #[(0,x)] ho cs i0 z hsl hi hz0 (by rw[hz1];omega) (by rw[hz1];omega) ?_ h;have:=Great.fill_whole (s:=K) hK0 [.agg cs] ((Array.range (1*K)).map (z.cells[· %z.cells.size]!)) (fun v hv=>by rw[List.mem_singleton.1 hv];exact hl) (by simp);rw[hz1];simp only[List.zipIdx_cons,List.zipIdx_nil,List.map_cons,List.map_nil,List.flatMap_cons,List.flatMap_nil,List.append_nil]at this;simp only[List.map_toArray,List.map_cons,List.map_nil,hx];rw[this];rfl
namespace Bk
theorem _root_.Go.Proofs.YtkinlcfhojjalaaGreatDoor.zz1y{p:Prop}(h:p:=by
 have hl:=(List.getElem?_eq_some_iff.1 hx).1;rw[List.drop_eq_getElem_cons hl,(List.getElem?_eq_some_iff.1 hx).2];rfl):p:=h
theorem dig_drop{l:List Vn}{n:Int}{j:Nat}{x:Vn}(hx:l[j]? =some x):dig (l.drop j) n=if x.n=n then some x.t else dig (l.drop (j+1)) n:=by
 exact zz1y
theorem pub_drop{l:List Vn}{v:Vn}{j:Nat}{x:Vn}(hx:l[j]? =some x):pub (l.drop j) v=if v.n<x.n then v::x::l.drop (j+1)else x::pub (l.drop (j+1)) v:=by
 exact zz1y
structure Put(vs:List Vn)(v:Vn)(j:Nat)(l:List Vn)(d:Bool):Prop where
 no:d=false->l++pub (vs.drop j) v=pub vs v
 yes:d=true->l++vs.drop j=pub vs v
 len:l.length<=j+1
 ln:d=false->l.length<=j
theorem Put.start(vs:List Vn)(v:Vn):Put vs v 0 [] false:=⟨fun _=>rfl,fun h=>(by cases h),by simp,fun _=>by simp⟩
theorem Put.first{vs:List Vn}{v x:Vn}{j:Nat}{l:List Vn}(h:Put vs v j l false)(hx:vs[j]? =some x)(hlt:v.n<x.n):Put vs v (j+1) (l++[v]++[x]) true:=by
 refine⟨fun h=>(by cases h),fun _=> ?_,by have:=h.ln rfl;simp;omega,fun h=>(by cases h)⟩;have:=h.no rfl;rw[pub_drop hx,if_pos hlt]at this;rw[<-this];simp
theorem Put.next{vs:List Vn}{v x:Vn}{j:Nat}{l:List Vn}{d:Bool}(h:Put vs v j l d)(hx:vs[j]? =some x)(hlt:d=false->¬v.n<x.n):Put vs v (j+1) (l++[x]) d:=by
 refine⟨fun hd=> ?_,fun hd=> ?_,by have:=h.len;simp;omega,fun hd=>by have:=h.ln hd;simp;omega⟩
 ·have:=h.no hd
  rw[pub_drop hx,if_neg (hlt hd)]at this;rw[<-this];simp
 ·have:=h.yes hd
  have hl:=(List.getElem?_eq_some_iff.1 hx).1;rw[List.drop_eq_getElem_cons hl,(List.getElem?_eq_some_iff.1 hx).2]at this;rw[<-this];simp
theorem Put.done{vs:List Vn}{v:Vn}{l:List Vn}(h:Put vs v vs.length l true):l=pub vs v:=by
 have:=h.yes rfl
 rwa [List.drop_length,List.append_nil]at this
theorem Put.last{vs:List Vn}{v:Vn}{l:List Vn}(h:Put vs v vs.length l false):l++[v]=pub vs v:=by
 have:=h.no rfl;rw[List.drop_length]at this;exact this
end Bk
theorem zz34{p:Prop}(h:p:=by
 go_wp2;go_ret2;refine⟨?_,B.o⟩;unfold Bk.text Bk.has;rw[DD.o];rfl):p:=h
theorem jfs(s:Bk.St)(L V H:Value)(n:Int)(w:World)(h:BkRd w s L V H)(hl:s.vs.length<=64):Calls Tryz.prog 132 #[.agg (Bk.cells s L V H),.int .i64 n] w (jfr w (.string (Bk.text s.vs n)) (.bool (Bk.has s.vs n))):=by
 obtain⟨A,c,rfl,hv⟩:=h.v;have BA:=zh (BkAt.new w s L (.slice A s.vs.length c) H);have B:=zh ((Below.refl w.heap.size w).alloc zl (.cells (Bk.cells s L (.slice A s.vs.length c) H) 38));have SV:=zh (hv.on B.o);have HL:=zh hl;have hc0:=hv.cap;clear h hv hl;go_in;go_upto_region 1 with fail
 obtain⟨g,hg⟩:∃g,g=w.heap.size:=zx;rw[<-hg]at BA⊢;clear hg;generalize w.alloc (.cells (Bk.cells s L (.slice A s.vs.length c) H) 38)=w1 at*;have b2:=BA.o.cs.c2;go_wp2_with fail;go_loopw [6] (fun i wr=>∃j:Nat,j<=s.vs.length/\i= .int .i64 j/\Bk.dig s.vs n=Bk.dig (s.vs.drop j) n/\wr=w1) (fun i _=>s.vs.length -(intOf i).toNat)
 case atStart=>exact⟨0,zv,rfl,rfl,rfl⟩
 case round=>
  obtain⟨j,hj,rfl,hd,rfl⟩:=hrel;have HD:=zh hd;have hl64:=HL.o;clear hd;by_cases hlt:j<s.vs.length
  ·have hx:s.vs[j]? =some (s.vs[j]'hlt):=List.getElem?_eq_getElem _
   generalize s.vs[j]'hlt=x at hx;obtain⟨b,o,rfl,_,hcell⟩:=SV.o.at_ Bk.vnC_len hx;have x0:wr.cell? ⟨b,o+j*2,none⟩=some (.int .i64 x.n):=hcell 0 _ rfl;have x1:wr.cell? ⟨b,o+j*2+1,none⟩=some (.string x.t):=hcell 1 _ rfl;have DR:=zh (Bk.dig_drop (n:=n) hx);clear hcell hx;by_cases hn:x.n=n
   ·have hq:(x.n==n)=true:=by rw[beq_iff_eq];exact hn
    have DD:Hid (Bk.dig s.vs n=some x.t):=by show _=_;rw[HD.o,DR.o,if_pos hn]
    clear hn;exact zz34
   ·have hq:(x.n==n)=false:=by rw[zq];exact hn
    have DD:Hid (Bk.dig s.vs n=Bk.dig (s.vs.drop (j+1)) n):=by show _=_;rw[HD.o,DR.o,if_neg hn]
    clear hn;go_wp2_with fail;exact⟨⟨j+1,zv,by go_num,DD.o,trivial⟩,by simp[intOf];omega⟩
  ·obtain rfl:j=s.vs.length:=by omega
   have DD:Hid (Bk.dig s.vs n=none):=by
    show _=_;rw[HD.o,List.drop_eq_nil_of_le zl];rfl
   exact zz34
theorem jp7(m:Int)(w:World):Calls Tryz.prog 74 #[.int .i64 m] w (fun e w'=>e= .returned (.agg #[.int .i64 (min (max m 0) 1048576),.slice none 0 0])/\zF w w'):=by
 have B:=zh (Below.refl w.heap.size w);go_in;go_wp2_with fail;exact bodyPost_ret (v:= .agg #[.int .i64 (min (max m 0) 1048576),.slice none 0 0]) (by simp[results,Tryz.results74,go_sem]) rfl ⟨rfl,by have bb:=B.o;go_grown⟩
def Bk.made(m:Int)(j:Nat):Bk.St:={Bk.none_ with m:=min (max m 0) 1048576,us:=fun i=>⟨0,0,decide (i<j)⟩}
theorem Bk.made_next(m:Int)(j:Nat):{Bk.made m j with us:=Bk.setU (Bk.made m j).us j {(Bk.made m j).us j with d:=true}}=Bk.made m (j+1):=by
 unfold Bk.made Bk.setU;simp only
 congr 1
 funext i;by_cases h:i=j
 ·rw[if_pos h];subst h;simp
 ·rw[if_neg h]
  congr 1
  exact decide_eq_decide.2 zv
theorem Bk.made_cells(m:Int)(L V H:Value):Bk.cells (Bk.made m 16) L V H=Bk.cells (Bk.new m) L V H:=rfl
theorem jul(w:World){s:Bk.St}(h1:s.ep=0)(h2:s.vs=[])(h3:s.h=[]):BkRd w s (.slice none 0 0) (.slice none 0 0) (.slice none 0 0):=by
 refine⟨⟨none,0,?_,?_⟩,⟨none,0,?_,?_⟩,⟨none,0,?_,?_⟩⟩
 ·rw[jk7 h1];rfl
 ·rw[jk7 h1];exact SlF.none_ w
 ·rw[h2];rfl
 ·rw[h2];exact SlF.none_ w
 ·rw[h3];rfl
 ·rw[h3];exact SlF.none_ w
theorem jp8(m:Int)(w:World):Calls Tryz.prog 41 #[.int .i64 m] w (BkPost w (Bk.new m)):=by
 have hz:=jbt;obtain⟨W,hW⟩:∃W,W=(w.alloc (.cells Bk.zeros 38)).alloc (.cells Bk.zeros 38):=zx;obtain⟨r1,r2,hb,hs⟩:=jbl hW;have CN:=zh (fun W=>jp7 m W);go_in;go_upto_region 2 with fail
 rw[<-hW];clear hW hz;have X1:Hid (BkAt W w.heap.size Bk.none_ (.slice none 0 0) (.slice none 0 0) (.slice none 0 0)):=⟨r1⟩;have X2:Hid (BkAt W (w.heap.size+1) Bk.none_ (.slice none 0 0) (.slice none 0 0) (.slice none 0 0)):=⟨r2⟩;obtain⟨n,hn⟩:∃n,n=w.heap.size:=zx;rw[<-hn]at X1 X2⊢;have NB:=zh (Nat.le_of_eq hn.symm);have B:=zh hb;clear hn r1 r2 hs hb;go_upto_region 3 with(go_at_call 74;refine(CN.o _).mono ?_;rintro e w2 ⟨rfl,hb⟩;have X1:=zh (X1.o.on hb);have X2:=zh (X2.o.on hb);have B:=zh (B.o.trans (hb.mono B.o.size));clear hb;have y0:=X2.o.cs.c0;have y1:=X2.o.cs.c1;have yf:=X2.o.fz;have k1:=X2.o.lt)
 have hX3:BkAt ((w2.setCell ⟨n+1,0,none⟩ (.int .i64 (min (max m 0) 1048576))).setCell ⟨n+1,1,none⟩ (.slice none 0 0)) (n+1) (Bk.made m 0) (.slice none 0 0) (.slice none 0 0) (.slice none 0 0):=(X2.o.mg _).ls _;have hb3:zF w ((w2.setCell ⟨n+1,0,none⟩ (.int .i64 (min (max m 0) 1048576))).setCell ⟨n+1,1,none⟩ (.slice none 0 0)):=(B.o.setCell (by have:=NB.o;show w.heap.size<=n+1;omega) _).setCell (by have:=NB.o;show w.heap.size<=n+1;omega) _;have hX1:BkAt ((w2.setCell ⟨n+1,0,none⟩ (.int .i64 (min (max m 0) 1048576))).setCell ⟨n+1,1,none⟩ (.slice none 0 0)) n Bk.none_ (.slice none 0 0) (.slice none 0 0) (.slice none 0 0):=X1.o.keep ((Below.heap_setCell _ _ _ _ (by simp)).trans (Below.heap_setCell _ _ _ _ (by simp)));generalize(w2.setCell ⟨n+1,0,none⟩ (.int .i64 (min (max m 0) 1048576))).setCell ⟨n+1,1,none⟩ (.slice none 0 0)=w3 at*;have X1:=zh hX1;have X3:=zh hX3;have B3:=zh hb3;clear hX1 hX3 hb3 y0 y1 yf k1 X2 B;go_wp2_with fail;go_loopw [4] (fun i wr=>∃j:Nat,j<=16/\i= .int .i64 j/\BkAt wr (n+1) (Bk.made m j) (.slice none 0 0) (.slice none 0 0) (.slice none 0 0)/\BkAt wr n Bk.none_ (.slice none 0 0) (.slice none 0 0) (.slice none 0 0)/\zF w wr) (fun i _=>16 -(intOf i).toNat)
 case atStart=>exact⟨0,zv,rfl,X3.o,X1.o,B3.o⟩
 case round=>
  obtain⟨j,hj,rfl,h1,h2,h3⟩:=hrel;have Y1:=zh h1;have Y2:=zh h2;have BB:=zh h3;clear h1 h2 h3;by_cases hlt:j<16
  ·obtain⟨u0,u1,u2⟩:=Y1.o.unit hlt
   have uf:=Y1.o.fz;clear u0 u1;go_wp2_with fail;refine⟨⟨j+1,zv,by go_num,?_,Y2.o.keep (Below.heap_setCell _ _ _ _ (by simp)),BB.o.setCell (by have:=NB.o;show w.heap.size<=n+1;omega) _⟩,by simp[intOf];omega⟩;rw[<-Bk.made_next];exact Y1.o.unitD hlt true
  ·obtain rfl:j=16:=by omega
   go_wp2_with(first
    |((with_reducible show zL 16);refine jab rfl (.tmp 3) rfl rfl Y1.o ?_)
    |((with_reducible show zW);refine jac rfl (.tmp 2) (.tmp 16) rfl rfl rfl Y2.o (Bk.one_cell rfl rfl rfl) ?_))
   refine bodyPost_ret (jds Tryz.results41 _ rfl (Y2.o.setRow _ _ _ _)) rfl ⟨.slice none 0 0,.slice none 0 0,.slice none 0 0,by rw[Bk.made_cells],jul _ rfl rfl rfl,below_setRow BB.o NB.o _⟩
theorem rcElem:∀W:World,(sizeOf (Tryz.prog.elem 22)).run Tryz.prog W= .ok 18 W:=fun _=>by kernel_rfl
theorem jjp(A:Option Addr)(n c k:Nat)(hk:k<=n)(W:World):
  (Instr.slice 22 (.slice A n c) (some (.int .i64 (k:Int))) none none).run Tryz.prog W= .ok (.slice (if c=k then A else A.map fun x=>x.add (k*18)) (n -k) (c -k)) W:=by
 rw[run_slice_l _ 22 A n c zk IntKind.i64 (k:Int) zv zv,rcElem];simp[Result.andThen,sliced]
theorem jmu(k:Nat):∀b o,(fun x:Addr=>x.add k) ⟨b,o,none⟩=⟨b,o+k,none⟩:=by
 intro b o;show Addr.add _ _=_;unfold Addr.add;split<;>simp_all
structure jk8(w0 W0 W:World)(n:Nat)(s:Bk.St)(L V H:Value)(v:Bk.Vn):Prop where
 bk:BkAt W n s L V H
 c0:W.cell? ⟨n+1,0,none⟩=some (.int .i64 v.n)
 c1:W.cell? ⟨n+1,1,none⟩=some (.string v.t)
 o:BkAt W (n+1+1) Bk.none_ (.slice none 0 0) (.slice none 0 0) (.slice none 0 0)
 below:zF W0 W
 size:n+1+1<W0.heap.size
 low:zF w0 W0
theorem jk8.step{w0 W0 W W':World}{n:Nat}{s:Bk.St}{L V H:Value}{v:Bk.Vn}(h:jk8 w0 W0 W n s L V H v)(hb:Below W0.heap.size W W'):jk8 w0 W0 W' n s L V H v:=by
 have h1:=h.size;exact⟨h.bk.keep (hb.block n zv),(hb.cell (p:=⟨n+1,0,none⟩) (by show n+1<_;omega)).trans h.c0,(hb.cell (p:=⟨n+1,1,none⟩) (by show n+1<_;omega)).trans h.c1,h.o.keep (hb.block (n+1+1) h1),h.below.trans hb,h1,h.low⟩
theorem jk8.all{w0 W0 W:World}{n:Nat}{s:Bk.St}{L V H:Value}{v:Bk.Vn}(h:jk8 w0 W0 W n s L V H v):zF w0 W:=h.low.trans (h.below.mono h.low.size)
theorem jk9(p:Int)(w:World):Calls Tryz.prog 77 #[.int .i64 p] w (jbg w (.string (Ph.word p))):=by
 have B0:=zh (Below.refl w.heap.size w);have B1:=zh ((Below.refl w.heap.size w).alloc zl (.cells #[.string ⟨#[98,101,103,105,110]⟩,.string ⟨#[112,97,117,115,101]⟩,.string ⟨#[114,101,115,117,109,101]⟩,.string ⟨#[112,114,111,109,111,116,101]⟩,.string ⟨#[104,101,97,108,116,104]⟩,.string ⟨#[100,101,97,100,108,105,110,101]⟩,.string ⟨#[97,98,111,114,116]⟩,.string ⟨#[100,111,110,101]⟩,.string ⟨#[98,97,99,107]⟩] 9));by_cases hp:0<=p/\p<=8
 ·have hk:p=0\/p=1\/p=2\/p=3\/p=4\/p=5\/p=6\/p=7\/p=8:=by omega
  clear hp;rcases hk with rfl|rfl|rfl|rfl|rfl|rfl|rfl|rfl|rfl
  all_goals
   go_in;go_wp2;go_ret;exact⟨rfl,B1.o⟩
 ·rw[Ph.word_none hp]
  by_cases h0:p<0
  ·clear hp
   go_in;go_wp2;go_ret;exact⟨rfl,B0.o⟩
  ·have h5:8<p:=by omega
   clear hp;go_in;go_wp2;go_ret;exact⟨rfl,B0.o⟩
theorem jb7{a b:ByteArray}:(a.toList==b.toList)=decide (a=b):=by
 rw[Bool.eq_iff_iff,beq_iff_eq,decide_eq_true_eq];constructor
 ·intro h
  rw[ByteArray.toList_eq,ByteArray.toList_eq]at h;exact ByteArray.ext (Array.ext' h)
 ·rintro rfl;rfl
theorem zz15{p:Prop}(h:p:=by
 obtain rfl:k=9:=by omega
 have EP:Hid (Ph.place t=9):=Ph.place_none t HJ.o;go_wp2;go_ret2;refine⟨?_,B.o⟩;have h1:Ph.of t=0:=by unfold Ph.of;rw[EP.o,if_neg zv]
 have h2:Ph.isWord t=false:=by unfold Ph.isWord;rw[EP.o];exact decide_eq_false zv
 rw[h1,h2];rfl):p:=h
theorem jb8(t:ByteArray)(w:World):Calls Tryz.prog 43 #[.string t] w (jfr w (.int .i64 (Ph.of t)) (.bool (Ph.isWord t))):=by
 go_in;go_wp2_with fail;go_loopw [4] (fun i wr=>∃k:Nat,k<=9/\i= .int .i64 k/\(∀j,j<k->Ph.word (j:Nat)≠t)/\zF w wr) (fun i _=>9 -(intOf i).toNat)
 case atStart=>exact⟨0,zv,rfl,fun j hj=>by omega,zD⟩
 case round=>
  obtain⟨k,hk,rfl,hj,hbr⟩:=hrel;have HJ:=zh hj;have B:=zh hbr;clear hj hbr;by_cases hlt:k<9
  ·have hi:(k:Int)<9:=by omega
   have CW:=zh (fun W=>jk9 (k:Nat) W);unfold jbg at CW;by_cases he:Ph.word (k:Nat)=t
   ·have hts:((Ph.word (k:Nat)).toList==t.toList)=true:=by rw[jb7];exact decide_eq_true he
    have EP:Hid (Ph.place t=k):=Ph.place_is t hlt he HJ.o;clear he;generalize Ph.word (k:Nat)=u at*;go_wp2_with(go_at_call 77;refine(CW.o _).mono ?_;rintro e w1 ⟨rfl,hb⟩;have B1:=zh (B.o.trans (hb.mono B.o.size));clear hb);go_ret2;refine⟨?_,B1.o⟩;have h1:Ph.of t=(k:Nat):=by unfold Ph.of;rw[EP.o,if_pos hlt]
    have h2:Ph.isWord t=true:=by unfold Ph.isWord;rw[EP.o];exact decide_eq_true hlt
    rw[h1,h2];rfl
   ·have hts:((Ph.word (k:Nat)).toList==t.toList)=false:=by rw[jb7];exact decide_eq_false he
    have HE:=zh he;clear he;generalize hu:Ph.word (k:Nat)=u at*;have HU:=zh hu;clear hu;go_wp2_with(go_at_call 77;refine(CW.o _).mono ?_;rintro e w1 ⟨rfl,hb⟩;have B1:=zh (B.o.trans (hb.mono B.o.size));clear hb);refine⟨⟨k+1,zv,by go_num,fun j hj=> ?_,B1.o⟩,by simp[intOf];omega⟩;by_cases e:j=k
    ·subst e;rw[HU.o];exact HE.o
    ·exact HJ.o j zv
  ·exact zz15
theorem zz1r{p:Prop}(h:p:=by
 obtain⟨A',c',ev,_⟩:=O.o.sl;rw[e,ev];exact⟨A',c',rfl,jcj (by rw[<-ev];exact O.o) B1.o.size,B1.o.trans (B.o.mono B1.o.size)⟩):p:=h
theorem zz2e{p:Prop}(h:p:=by
 clear hx;go_wp2;go_ret;obtain⟨A',c',ev,h1,h2⟩:=E.o;exact⟨A',c',by rw[<-ev];rfl,h1,h2⟩):p:=h
theorem zz2k{p:Prop}(h:p:=by
 go_wp2;go_ret;obtain⟨A',c',ev,h1,h2⟩:=E.o;exact⟨A',c',by rw[<-ev];rfl,h1,h2⟩):p:=h
theorem jnm(s:Spc.Sp)(w:World):Calls Tryz.prog 134 #[Spc.val s] w fun e w'=>∃A c,e= .returned (.slice A (Spc.steps s).length c)/\OwnI w' w.heap.size (.slice A (Spc.steps s).length c) (Spc.steps s)/\zF w w':=by
 have hb:=(Below.refl w.heap.size w).alloc zl (.cells (Spc.cells s) 33);have A1:=zh (jae (heap_alloc_new w (.cells (Spc.cells s) 33)));have B1:=zh hb;have hz:w.heap.size<(w.alloc (.cells (Spc.cells s) 33)).heap.size:=by simp
 have Z1:=zh hz;obtain⟨f0,f1,f2,f3,f4,f5,f6,f7,f8,f9,f10,f11⟩:=A1.o;clear hb hz;unfold Spc.val at*;unfold Spc.cells at*;go_in;go_wp2_with fail;generalize w.alloc (.cells #[.int .i64 s.v,.int .i64 s.d,.int .i64 s.u,.int .i64 s.n,.int .i64 s.g,.int .i64 s.a,.int .i64 s.b,.int .i64 s.c,.int .i64 s.e,.int .i64 s.w,.int .i64 s.x,.int .i64 s.k] 33)=w1 at*;go_loopw [3,4] (fun v i wr=>∃(j:Nat) (l:List Int),j<=4/\i= .int .i64 (j:Nat)/\l=[s.a,s.b,s.c,s.e].take j/\(∀m,m<j->Spc.at_ s m≠0)/\OwnI wr w1.heap.size v l/\zF w1 wr) (fun _ i _=>4 -(intOf i).toNat)
 case atStart=>exact⟨0,[],zv,rfl,rfl,fun m hm=>absurd hm zv,World.ownsRow_nil _ _ _ _,zD⟩
 case round=>
  obtain⟨j,l,hj,rfl,hl,hnz,ho,hbr⟩:=hrel;have O:=zh ho;have B:=zh hbr;have HL:=zh hl;have NZ:=zh hnz;have AX:=zh (A1.o.below Z1.o B.o);obtain⟨x0,x1,x2,x3,x4,x5,x6,x7,x8,x9,x10,x11⟩:=AX.o;have hll:l.length<=4:=by rw[hl,List.length_take];simp;omega
  have hbase:=hbr.size;have fin:Spc.steps s=l->∃A c,u3= .slice A (Spc.steps s).length c/\OwnI wr w.heap.size (.slice A (Spc.steps s).length c) (Spc.steps s)/\zF w wr:=fun e=>by
   exact zz1r
  have FIN:=zh fin;clear ho hbr hl hnz f0 f1 f2 f3 f4 f5 f6 f7 f8 f9 f10 f11 fin;rcases j with _|_|_|_|_|j
  ·by_cases hx:s.a=0
   ·have hxb:(s.a !=0)=false:=by rw[bne_eq_false_iff_eq];exact hx
    have E:=zh (FIN.o (by rw[HL.o];exact jc1 (j:=0) zv NZ.o (.inr hx)));exact zz2e
   ·have hxb:(s.a !=0)=true:=by rw[bne_iff_ne];exact hx
    have NX:Hid (∀m,m<1->Spc.at_ s m≠0):=fun m hm=>by rcases Nat.lt_or_ge m 0 with h|h;exact NZ.o m h;rw[show m=0 by omega];exact hx
    clear hx;go_wp2_with(at_builtin;refine jas rfl (.tmp 16) (.tmp 21) rfl w1.heap.size _ l rfl O.o _ rfl zv hbase ?_;intro v3 w3 ho3 hg3;have O3:=zh ho3;have B3:=zh (B.o.grown hg3 hbase (ja2 O.o));clear ho3 hg3);exact⟨⟨1,l++[s.a],zv,by go_num,by rw[HL.o];rfl,NX.o,O3.o,B3.o⟩,by simp[intOf]⟩
  ·by_cases hx:s.b=0
   ·have hxb:(s.b !=0)=false:=by rw[bne_eq_false_iff_eq];exact hx
    have E:=zh (FIN.o (by rw[HL.o];exact jc1 (j:=1) zv NZ.o (.inr hx)));exact zz2e
   ·have hxb:(s.b !=0)=true:=by rw[bne_iff_ne];exact hx
    have NX:Hid (∀m,m<2->Spc.at_ s m≠0):=fun m hm=>by rcases Nat.lt_or_ge m 1 with h|h;exact NZ.o m h;rw[show m=1 by omega];exact hx
    clear hx;go_wp2_with(at_builtin;refine jas rfl (.tmp 16) (.tmp 21) rfl w1.heap.size _ l rfl O.o _ rfl zv hbase ?_;intro v3 w3 ho3 hg3;have O3:=zh ho3;have B3:=zh (B.o.grown hg3 hbase (ja2 O.o));clear ho3 hg3);exact⟨⟨2,l++[s.b],zv,by go_num,by rw[HL.o];rfl,NX.o,O3.o,B3.o⟩,by simp[intOf]⟩
  ·by_cases hx:s.c=0
   ·have hxb:(s.c !=0)=false:=by rw[bne_eq_false_iff_eq];exact hx
    have E:=zh (FIN.o (by rw[HL.o];exact jc1 (j:=2) zv NZ.o (.inr hx)));exact zz2e
   ·have hxb:(s.c !=0)=true:=by rw[bne_iff_ne];exact hx
    have NX:Hid (∀m,m<3->Spc.at_ s m≠0):=fun m hm=>by rcases Nat.lt_or_ge m 2 with h|h;exact NZ.o m h;rw[show m=2 by omega];exact hx
    clear hx;go_wp2_with(at_builtin;refine jas rfl (.tmp 16) (.tmp 21) rfl w1.heap.size _ l rfl O.o _ rfl zv hbase ?_;intro v3 w3 ho3 hg3;have O3:=zh ho3;have B3:=zh (B.o.grown hg3 hbase (ja2 O.o));clear ho3 hg3);exact⟨⟨3,l++[s.c],zv,by go_num,by rw[HL.o];rfl,NX.o,O3.o,B3.o⟩,by simp[intOf]⟩
  ·by_cases hx:s.e=0
   ·have hxb:(s.e !=0)=false:=by rw[bne_eq_false_iff_eq];exact hx
    have E:=zh (FIN.o (by rw[HL.o];exact jc1 (j:=3) zv NZ.o (.inr hx)));exact zz2e
   ·have hxb:(s.e !=0)=true:=by rw[bne_iff_ne];exact hx
    have NX:Hid (∀m,m<4->Spc.at_ s m≠0):=fun m hm=>by rcases Nat.lt_or_ge m 3 with h|h;exact NZ.o m h;rw[show m=3 by omega];exact hx
    clear hx;go_wp2_with(at_builtin;refine jas rfl (.tmp 16) (.tmp 21) rfl w1.heap.size _ l rfl O.o _ rfl zv hbase ?_;intro v3 w3 ho3 hg3;have O3:=zh ho3;have B3:=zh (B.o.grown hg3 hbase (ja2 O.o));clear ho3 hg3);exact⟨⟨4,l++[s.e],zv,by go_num,by rw[HL.o];rfl,NX.o,O3.o,B3.o⟩,by simp[intOf]⟩
  ·have E:=zh (FIN.o (by rw[HL.o];exact jc1 (j:=4) zv NZ.o (.inl rfl)))
   exact zz2k
  ·omega