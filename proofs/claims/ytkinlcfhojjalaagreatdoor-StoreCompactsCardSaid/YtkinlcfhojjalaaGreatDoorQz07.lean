import Derived.Test.YtkinlcfhojjalaaGreatDoorQz06
set_option maxHeartbeats 6400000
set_option maxRecDepth 100000
set_option linter.all false
namespace Go.Proofs.YtkinlcfhojjalaaGreatDoor
open Go.RowKit
theorem jk3(m:Int)(b o c:Nat)(l:Le)(ho now ttl:Int)(hh:0<=ho/\ho<=63)(hn:0<=now/\now<=1099511627776)(ht:1<=ttl/\ttl<=1048576)(w:World)(h:LeAt w b o l)(hc:1<=c)(hsl:SlF Bk.leC w (some ⟨b,o,none⟩) 1 c [l])(hx:¬(l.who=ho/\now<l.till))(hw:l.who=ho):Calls Tryz.prog 135 #[rlT m (some ⟨b,o,none⟩) 1 c,.string Bk.lead,.int .i64 ho,.int .i64 l.ep,.int .i64 now,.int .i64 ttl] w (jc6 w m [l] 0 9):=by
 have CR:=zh (fun W=>jb1 ho now ttl hh hn ht W);have CA:Hid (∀W,LeAt W b o l->Calls Tryz.prog 187 #[rlT m (some ⟨b,o,none⟩) 1 c,.string Bk.lead] W (jbg W (zi))):=fun W h=>jdq m b o c l W h hc;unfold rlT at CA;have S0:Hid (SlF Bk.leC w (some ⟨b,o,none⟩) 1 c [l]):=hsl
 ·have hlt2:l.till<=now:=by omega
  unfold rlT;go_in;go_upto_region 1 with fail
  obtain⟨W,hW⟩:∃W,W=(w.alloc (.cells #[.int .i64 m,.slice (some ⟨b,o,none⟩) 1 c] 29)).alloc (.cells #[zi,.slice none 0 0] 29):=zx;rw[<-hW];obtain⟨r1,r2,hb,hs⟩:=jbl hW;clear hW;have B:=zh hb;have LA:=zh (h.on hb);obtain⟨n,hn⟩:∃n,n=w.heap.size:=zx;rw[<-hn]at r1 r2 hs⊢;have NB:=zh (Nat.le_of_eq hn.symm);clear hn hb;have PF:Hid (∀W:World,W.heap[n]? =some (.cells #[.int .i64 m,.slice (some ⟨b,o,none⟩) 1 c] 29 (0,0))->W.heap[n+1]? =some (.cells #[zi,.slice none 0 0] 29 (0,0))->
    W.cell? ⟨n,0,none⟩=some (.int .i64 m)/\W.cell? ⟨n,1,none⟩=some (.slice (some ⟨b,o,none⟩) 1 c)/\W.cell? ⟨n+1,0,none⟩=some (zi)/\W.cell? ⟨n+1,1,none⟩=some (.slice none 0 0)/\(∀i,W.frozen? ⟨n+1,i,none⟩=false)):=
   fun W r1 r2=>⟨cell_of_row W _ 0 _ _ _ r1,cell_of_row W _ 1 _ _ _ r1,cell_of_row W _ 0 _ _ _ r2,cell_of_row W _ 1 _ _ _ r2,fun i=>frozen_of_row W _ i _ _ r2⟩
  obtain⟨x0,x1,y0,y1,f2⟩:=PF.o W r1 r2;have R1:=zh r1;have R2:=zh r2;have HS:Hid (n+1+1<=W.heap.size):=by show _<=_;omega
  have k0:n<W.heap.size:=by omega
  have k1:n+1<W.heap.size:=by omega
  clear r1 r2 hs;obtain⟨h0,h1,h2,h3,h4,hlt⟩:=LA.o;clear h
  go_wp2_with(first
   |(go_at_call 186;refine(CR.o _).mono ?_;rintro e wr ⟨rfl,rfl⟩)
   |(go_at_call 187;refine(CA.o _ LA.o).mono ?_;rintro e w2 ⟨rfl,hb⟩;have R1:=zh (jah R1.o hb);have R2:=zh (jah R2.o hb);have LA:=zh (LA.o.on hb);have B:=zh (B.o.trans (hb.mono B.o.size));have HS:=zh (Nat.le_trans HS.o hb.size);clear hb k0 k1 x0 x1 y0 y1 f2 h0 h1 h2 h3 h4 hlt;have k0:=HS.o;have k1:n+1<_:=k0;have k0:=Nat.lt_of_succ_lt k1;obtain⟨x0,x1,y0,y1,f2⟩:=PF.o w2 R1.o R2.o;obtain⟨h0,h1,h2,h3,h4,hlt⟩:=LA.o))
  exact bodyPost_ret (v:= .tuple #[rlT m (some ⟨b,o,none⟩) 1 c,zi,.int .i64 9]) (by simp[results,Tryz.results135,go_sem,x0,x1,y0,y1,f2,k0,k1]) rfl ⟨_,_,rfl,S0.o.on (by have bb:=B.o;have nb:=NB.o;have nb1:w.heap.size<=n+1:=zv;have ns:=bb.size;go_grown),(by have bb:=B.o;have nb:=NB.o;have nb1:w.heap.size<=n+1:=zv;have ns:=bb.size;go_grown),fun h=>absurd h (by decide)⟩
theorem jk4(m:Int)(b o c:Nat)(l:Le)(ho now ttl:Int)(hh:0<=ho/\ho<=63)(hn:0<=now/\now<=1099511627776)(ht:1<=ttl/\ttl<=1048576)(w:World)(h:LeAt w b o l)(hc:1<=c)(hsl:SlF Bk.leC w (some ⟨b,o,none⟩) 1 c [l])(hx:¬(l.who=ho/\now<l.till))(hw:¬l.who=ho):Calls Tryz.prog 135 #[rlT m (some ⟨b,o,none⟩) 1 c,.string Bk.lead,.int .i64 ho,.int .i64 l.ep,.int .i64 now,.int .i64 ttl] w (jc6 w m [l] 0 8):=by
 have CR:=zh (fun W=>jb1 ho now ttl hh hn ht W);have CA:Hid (∀W,LeAt W b o l->Calls Tryz.prog 187 #[rlT m (some ⟨b,o,none⟩) 1 c,.string Bk.lead] W (jbg W (zi))):=fun W h=>jdq m b o c l W h hc;unfold rlT at CA;have S0:Hid (SlF Bk.leC w (some ⟨b,o,none⟩) 1 c [l]):=hsl
 ·skip
  unfold rlT;go_in;go_upto_region 1 with fail
  obtain⟨W,hW⟩:∃W,W=(w.alloc (.cells #[.int .i64 m,.slice (some ⟨b,o,none⟩) 1 c] 29)).alloc (.cells #[zi,.slice none 0 0] 29):=zx;rw[<-hW];obtain⟨r1,r2,hb,hs⟩:=jbl hW;clear hW;have B:=zh hb;have LA:=zh (h.on hb);obtain⟨n,hn⟩:∃n,n=w.heap.size:=zx;rw[<-hn]at r1 r2 hs⊢;have NB:=zh (Nat.le_of_eq hn.symm);clear hn hb;have PF:Hid (∀W:World,W.heap[n]? =some (.cells #[.int .i64 m,.slice (some ⟨b,o,none⟩) 1 c] 29 (0,0))->W.heap[n+1]? =some (.cells #[zi,.slice none 0 0] 29 (0,0))->
    W.cell? ⟨n,0,none⟩=some (.int .i64 m)/\W.cell? ⟨n,1,none⟩=some (.slice (some ⟨b,o,none⟩) 1 c)/\W.cell? ⟨n+1,0,none⟩=some (zi)/\W.cell? ⟨n+1,1,none⟩=some (.slice none 0 0)/\(∀i,W.frozen? ⟨n+1,i,none⟩=false)):=
   fun W r1 r2=>⟨cell_of_row W _ 0 _ _ _ r1,cell_of_row W _ 1 _ _ _ r1,cell_of_row W _ 0 _ _ _ r2,cell_of_row W _ 1 _ _ _ r2,fun i=>frozen_of_row W _ i _ _ r2⟩
  obtain⟨x0,x1,y0,y1,f2⟩:=PF.o W r1 r2;have R1:=zh r1;have R2:=zh r2;have HS:Hid (n+1+1<=W.heap.size):=by show _<=_;omega
  have k0:n<W.heap.size:=by omega
  have k1:n+1<W.heap.size:=by omega
  clear r1 r2 hs;obtain⟨h0,h1,h2,h3,h4,hlt⟩:=LA.o;clear h
  go_wp2_with(first
   |(go_at_call 186;refine(CR.o _).mono ?_;rintro e wr ⟨rfl,rfl⟩)
   |(go_at_call 187;refine(CA.o _ LA.o).mono ?_;rintro e w2 ⟨rfl,hb⟩;have R1:=zh (jah R1.o hb);have R2:=zh (jah R2.o hb);have LA:=zh (LA.o.on hb);have B:=zh (B.o.trans (hb.mono B.o.size));have HS:=zh (Nat.le_trans HS.o hb.size);clear hb k0 k1 x0 x1 y0 y1 f2 h0 h1 h2 h3 h4 hlt;have k0:=HS.o;have k1:n+1<_:=k0;have k0:=Nat.lt_of_succ_lt k1;obtain⟨x0,x1,y0,y1,f2⟩:=PF.o w2 R1.o R2.o;obtain⟨h0,h1,h2,h3,h4,hlt⟩:=LA.o))
  exact bodyPost_ret (v:= .tuple #[rlT m (some ⟨b,o,none⟩) 1 c,zi,.int .i64 8]) (by simp[results,Tryz.results135,go_sem,x0,x1,y0,y1,f2,k0,k1]) rfl ⟨_,_,rfl,S0.o.on (by have bb:=B.o;have nb:=NB.o;have nb1:w.heap.size<=n+1:=zv;have ns:=bb.size;go_grown),(by have bb:=B.o;have nb:=NB.o;have nb1:w.heap.size<=n+1:=zv;have ns:=bb.size;go_grown),fun h=>absurd h (by decide)⟩
theorem zz2{p:Prop}(h:p:=by
 refine hK.out _ _ hS (fun _=> ?_);clear hK K;refine tY 5 hS ?_;refine tY 6 hS ?_;simp only[Act.put,zT,zO,zS];refine rO 7 (fun K hK=> ?_);go_simp;refine hK.out _ _ hS (fun _=> ?_);clear hK K;refine wpAnyH_done zk ?_ _;rw[EM.o];obtain⟨W4,hW4⟩:∃W4,W4=(W3.setCell ⟨g,3,none⟩ (.int .i64 mx)).drew:=zx;rw[<-hW4];have re4:W4.heap[g]? =some (.cells #[.string Bk.lead,.int .i64 l.who,.int .i64 l.ep,.int .i64 mx,.bool false] 145 (0,0)):=by
  rw[hW4];exact heap_setCell_same W3 g 3 _ _ _ RE.o
 have rx4:W4.heap[n]? =W3.heap[n]? :=by rw[hW4];exact Below.heap_setCell _ _ _ _ (by have:=GN.o;simp;omega)
 have ry4:W4.heap[n+1]? =W3.heap[n+1]? :=by rw[hW4];exact Below.heap_setCell _ _ _ _ (by have:=GN.o;simp;omega)
 have RX4:=zh (rx4.trans RX.o);have RY:=zh (ry4.trans RY0.o);have RE4:=zh re4;have B4:Hid (zF w W4):=by show Below _ _ _;rw[hW4];exact(B3.o.setCell GB.o _).drew
 clear hW4 re4 rx4 ry4 z3 zf hS;go_wp2_with fail;have RY:Hid (W4.drew.heap[n+1]? =some (.cells #[zi,.slice none 0 0] 29 (0,0))):=RY.o;have SB:Hid (∀W:World,(W.heap[n]? =some (.cells #[.int .i64 m,.slice (some ⟨b,o,none⟩) 1 c] 29 (0,0))/\W.heap[g]? =some (.cells #[.string Bk.lead,.int .i64 l.who,.int .i64 l.ep,.int .i64 mx,.bool false] 145 (0,0))/\zF w W)->zF w W):=fun _ h=>h.2.2;have SH:Hid (∀W W':World,(W.heap[n]? =some (.cells #[.int .i64 m,.slice (some ⟨b,o,none⟩) 1 c] 29 (0,0))/\W.heap[g]? =some (.cells #[.string Bk.lead,.int .i64 l.who,.int .i64 l.ep,.int .i64 mx,.bool false] 145 (0,0))/\zF w W)->zF W W'->(W'.heap[n]? =some (.cells #[.int .i64 m,.slice (some ⟨b,o,none⟩) 1 c] 29 (0,0))/\W'.heap[g]? =some (.cells #[.string Bk.lead,.int .i64 l.who,.int .i64 l.ep,.int .i64 mx,.bool false] 145 (0,0))/\zF w W')):=fun W W' h hb=>⟨jah h.1 hb,jah h.2.1 hb,h.2.2.trans (hb.mono h.2.2.size)⟩;have SZ:Hid (∀W:World,(W.heap[n]? =some (.cells #[.int .i64 m,.slice (some ⟨b,o,none⟩) 1 c] 29 (0,0))/\W.heap[g]? =some (.cells #[.string Bk.lead,.int .i64 l.who,.int .i64 l.ep,.int .i64 mx,.bool false] 145 (0,0))/\zF w W)->∀v u,(((W.setCell ⟨n+1,0,none⟩ v).setCell ⟨n+1,1,none⟩ u).heap[n]? =some (.cells #[.int .i64 m,.slice (some ⟨b,o,none⟩) 1 c] 29 (0,0))/\((W.setCell ⟨n+1,0,none⟩ v).setCell ⟨n+1,1,none⟩ u).heap[g]? =some (.cells #[.string Bk.lead,.int .i64 l.who,.int .i64 l.ep,.int .i64 mx,.bool false] 145 (0,0))/\zF w ((W.setCell ⟨n+1,0,none⟩ v).setCell ⟨n+1,1,none⟩ u))):=fun W h v u=>⟨by
   rw[Below.heap_setCell _ _ _ _ (by simp),Below.heap_setCell _ _ _ _ (by simp)];exact h.1,by
   rw[Below.heap_setCell _ _ _ _ (by have:=GN.o;simp;omega),Below.heap_setCell _ _ _ _ (by have:=GN.o;simp;omega)];exact h.2.1,(h.2.2.setCell (by have:=NB.o;show w.heap.size<=n+1;omega) _).setCell (by have:=NB.o;show w.heap.size<=n+1;omega) _⟩
 refine wp_region_held_drew (S:=fun W=>W.heap[n]? =some (.cells #[.int .i64 m,.slice (some ⟨b,o,none⟩) 1 c] 29 (0,0))/\W.heap[g]? =some (.cells #[.string Bk.lead,.int .i64 l.who,.int .i64 l.ep,.int .i64 mx,.bool false] 145 (0,0))/\zF w W) zk ⟨RX4.o,RE4.o,B4.o.drew⟩ (fun hS=> ?_);refine tZ 0 rfl (by intro W hW;have q0:=cell_of_row W n 0 _ _ _ hW.1;have q1:=cell_of_row W n 1 _ _ _ hW.1;simp only[List.getElem?_toArray,List.getElem?_cons_zero,List.getElem?_cons_succ]at q0 q1;go_simp;(try with_reducible rfl)) hS ?_;refine tZ 1 rfl (by intro W hW;have q0:=cell_of_row W g 0 _ _ _ hW.2.1;have q1:=cell_of_row W g 1 _ _ _ hW.2.1;have q2:=cell_of_row W g 2 _ _ _ hW.2.1;have q3:=cell_of_row W g 3 _ _ _ hW.2.1;have q4:=cell_of_row W g 4 _ _ _ hW.2.1;simp only[List.getElem?_toArray,List.getElem?_cons_zero,List.getElem?_cons_succ]at q0 q1 q2 q3 q4;go_simp;(try with_reducible rfl)) hS ?_;refine tY 3 hS ?_;refine tZ 4 rfl (by intro W hW;have q3:=cell_of_row W g 3 _ _ _ hW.2.1;simp only[List.getElem?_toArray,List.getElem?_cons_zero,List.getElem?_cons_succ]at q3;go_simp;(try with_reducible rfl)) hS ?_;simp only[Act.put,zT,zO,zS];refine rO 2 (fun K hK=> ?_);go_simp
 refine(CP.o _ (LA0.o.low (SB.o _ hS) LT.o)).mono ?_
 rintro e w5 ⟨A5,k5,rfl,hs5,hb5,hfar⟩;have FAR:=zh hfar;clear hfar;have S5:=zh hs5;have SZN:Hid (n+1<_):=(zg RY.o).1;have hS2:=SH.o _ _ hS hb5;have RY5:=zh (jah RY.o hb5);clear hS hs5 hb5;have hS:=hS2;clear hS2;obtain⟨y0,y1,f2⟩:w5.cell? ⟨n+1,0,none⟩=some (zi)/\w5.cell? ⟨n+1,1,none⟩=some (.slice none 0 0)/\(∀i,w5.frozen? ⟨n+1,i,none⟩=false):=⟨cell_of_row _ _ 0 _ _ _ RY5.o,cell_of_row _ _ 1 _ _ _ RY5.o,fun i=>frozen_of_row _ _ i _ _ RY5.o⟩;have k1:n+1<w5.heap.size:=(zg RY5.o).1;refine hK.out _ _ hS (fun _=> ?_);clear hK K;try simp only[Act.put,zT,zO,zS]
 refine rO 5 (fun K hK=> ?_);go_simp;have hS2:=SZ.o _ hS (.int .i64 m) (.slice A5 1 k5);clear hS;have hS:=hS2;clear hS2;refine hK.out _ _ hS (fun _=> ?_);clear hK K;refine tY 6 hS ?_;refine tY 7 hS ?_;simp only[Act.put,zT,zO,zS];refine wpAnyH_done zk ?_ _;go_wp2_with fail;exact bodyPost_ret (v:= .tuple #[rlT m A5 1 k5,.int .i64 mx,zi]) (by simp[results,Tryz.results135,go_sem,y0,y1,f2,k1]) rfl ⟨A5,k5,rfl,S5.o.keep (by simp) (fun b' o' he hl=>by
   have h3:=FAR.o b' o' he;have h4:=SZN.o;exact(Below.heap_setCell _ _ _ _ (by simp;omega)).trans (Below.heap_setCell _ _ _ _ (by simp;omega))),hS.2.2,fun _ b' o' e=>by have h1:=FAR.o b' o' e;have h2:=SZN.o;have h3:=NB.o;omega⟩):p:=h
theorem jnj(m:Int)(b o c:Nat)(l:Le)(ho now ttl:Int)(hh:0<=ho/\ho<=63)(hn:0<=now/\now<=1099511627776)(ht:1<=ttl/\ttl<=1048576)(w:World)(h:LeAt w b o l)(hc:1<=c)(hx:l.who=ho/\now<l.till)(hti:0<=l.till/\l.till<=1099511627776):Calls Tryz.prog 135 #[rlT m (some ⟨b,o,none⟩) 1 c,.string Bk.lead,.int .i64 ho,.int .i64 l.ep,.int .i64 now,.int .i64 ttl] w (jc6 w m [⟨l.who,l.ep,max l.till (Bk.late now ttl)⟩] (max l.till (Bk.late now ttl)) 0):=by
 have CR:=zh (fun W=>jb1 ho now ttl hh hn ht W);have CA:Hid (∀W,LeAt W b o l->Calls Tryz.prog 187 #[rlT m (some ⟨b,o,none⟩) 1 c,.string Bk.lead] W (jbg W (zi))):=fun W h=>jdq m b o c l W h hc;unfold rlT at CA;have CL:=zh (fun W=>jdr now ttl hn zv W);obtain⟨mx,hmx⟩:∃mx,mx=max l.till (Bk.late now ttl):=zx;have CP:Hid (∀W,LeAt W b o l->Calls Tryz.prog 189 #[.agg #[.int .i64 m,.slice (some ⟨b,o,none⟩) 1 c],.agg #[.string Bk.lead,.int .i64 l.who,.int .i64 l.ep,.int .i64 mx,.bool false]] W (jp3 W m [⟨l.who,l.ep,mx⟩])):=fun W h=>jjn m b o c l ⟨l.who,l.ep,mx⟩ W h hc;have LA0:=zh h;have LT:=zh h.lt;have e0:max l.till (Bk.late now ttl)=mx:=hmx.symm;rw[e0];clear hmx;obtain⟨hw,hlt2⟩:=hx;subst hw;generalize Bk.late now ttl=lt at*;have EM:=zh e0;clear e0;unfold rlT;go_in;go_upto_region 1 with fail
 obtain⟨W,hW⟩:∃W,W=(w.alloc (.cells #[.int .i64 m,.slice (some ⟨b,o,none⟩) 1 c] 29)).alloc (.cells #[zi,.slice none 0 0] 29):=zx;rw[<-hW];obtain⟨r1,r2,hb,hs⟩:=jbl hW;clear hW;have B:=zh hb;have LA:=zh (h.on hb);obtain⟨n,hn⟩:∃n,n=w.heap.size:=zx;rw[<-hn]at r1 r2 hs⊢;have NB:=zh (Nat.le_of_eq hn.symm);clear hn hb;have PF:Hid (∀W:World,W.heap[n]? =some (.cells #[.int .i64 m,.slice (some ⟨b,o,none⟩) 1 c] 29 (0,0))->W.heap[n+1]? =some (.cells #[zi,.slice none 0 0] 29 (0,0))->
   W.cell? ⟨n,0,none⟩=some (.int .i64 m)/\W.cell? ⟨n,1,none⟩=some (.slice (some ⟨b,o,none⟩) 1 c)/\W.cell? ⟨n+1,0,none⟩=some (zi)/\W.cell? ⟨n+1,1,none⟩=some (.slice none 0 0)/\(∀i,W.frozen? ⟨n+1,i,none⟩=false)):=
  fun W r1 r2=>⟨cell_of_row W _ 0 _ _ _ r1,cell_of_row W _ 1 _ _ _ r1,cell_of_row W _ 0 _ _ _ r2,cell_of_row W _ 1 _ _ _ r2,fun i=>frozen_of_row W _ i _ _ r2⟩
 obtain⟨x0,x1,y0,y1,f2⟩:=PF.o W r1 r2;have R1:=zh r1;have R2:=zh r2;have HS:Hid (n+1+1<=W.heap.size):=by show _<=_;omega
 have k0:n<W.heap.size:=by omega
 have k1:n+1<W.heap.size:=by omega
 clear r1 r2 hs;obtain⟨h0,h1,h2,h3,h4,hlt⟩:=LA.o;clear h;go_upto_region 12 with(first
  |(go_at_call 186;refine(CR.o _).mono ?_;rintro e wr ⟨rfl,rfl⟩)
  |(go_at_call 187;refine(CA.o _ LA.o).mono ?_;rintro e w2 ⟨rfl,hb⟩;have R1:=zh (jah R1.o hb);have R2:=zh (jah R2.o hb);have LA:=zh (LA.o.on hb);have B:=zh (B.o.trans (hb.mono B.o.size));have HS:=zh (Nat.le_trans HS.o hb.size);clear hb k0 k1 x0 x1 y0 y1 f2 h0 h1 h2 h3 h4 hlt;have k0:=HS.o;have k1:n+1<_:=k0;have k0:=Nat.lt_of_succ_lt k1;obtain⟨x0,x1,y0,y1,f2⟩:=PF.o w2 R1.o R2.o;obtain⟨h0,h1,h2,h3,h4,hlt⟩:=LA.o))
 obtain⟨W3,hW3⟩:∃W3,W3=w2.alloc (.cells #[.string Bk.lead,.int .i64 l.who,.int .i64 l.ep,.int .i64 l.till,.bool false] 145):=zx;have hb:zF w2 W3:=by rw[hW3];exact zE
 have re0:W3.heap[w2.heap.size]? =some (.cells #[.string Bk.lead,.int .i64 l.who,.int .i64 l.ep,.int .i64 l.till,.bool false] 145 (0,0)):=by rw[hW3];exact heap_alloc_new _ _
 rw[<-hW3];obtain⟨g,hg⟩:∃g,g=w2.heap.size:=zx;rw[<-hg]at re0⊢;have GN:Hid (n+1<g):=by show _<_;omega
 have GB:Hid (w.heap.size<=g):=by show _<=_;have:=B.o.size;omega
 clear hW3 hg k0 k1 x0 x1 y0 y1 f2 h0 h1 h2 h3 h4 hlt;have RX:=zh (jah R1.o hb);have RY0:=zh (jah R2.o hb);have B3:=zh (B.o.trans (hb.mono B.o.size));clear hb;have z3:W3.cell? ⟨g,3,none⟩=some (.int .i64 l.till):=cell_of_row _ _ 3 _ _ _ re0;have zf:∀i,W3.frozen? ⟨g,i,none⟩=false:=fun i=>frozen_of_row _ _ i _ _ re0;have RE:=zh re0;clear re0;refine wp_region_held_drew (S:=fun _=>True) zk trivial (fun hS=> ?_);refine tY 0 hS ?_;refine tY 2 hS ?_;refine tY 3 hS ?_;simp only[Act.put,zT,zO,zS];refine jgn 1 4 rfl rfl zk rfl rfl (fun K hK=> ?_) (fun K hK=> ?_)
 ·go_simp
  refine hK.out _ _ hS (fun _=> ?_);clear hK K;try simp only[Act.put,zT,zO,zS]
  refine rO 4 (fun K hK=> ?_);go_simp
  refine(CL.o _).mono ?_
  rintro e wl ⟨rfl,hw⟩;obtain rfl:=hw.symm;exact zz2
 ·go_simp
  refine(CL.o _).mono ?_
  rintro e wl ⟨rfl,hw⟩;obtain rfl:=hw.symm;refine hK.out _ _ hS (fun _=> ?_);clear hK K;try simp only[Act.put,zT,zO,zS]
  refine rO 1 (fun K hK=> ?_);go_simp;exact zz2
theorem jp4(m:Int)(b o c:Nat)(l:Le)(ho now ttl:Int)(hh:0<=ho/\ho<=63)(hn:0<=now/\now<=1099511627776)(ht:1<=ttl/\ttl<=1048576)(hm:0<=m/\m<=1048576)(w:World)(h:LeAt w b o l)(hc:1<=c)(hti:0<=l.till/\l.till<=1099511627776)(hsl:SlF Bk.leC w (some ⟨b,o,none⟩) 1 c [l])(hx:¬Bk.late l.till m<=now):Calls Tryz.prog 136 #[rlT m (some ⟨b,o,none⟩) 1 c,.string Bk.lead,.int .i64 ho,.int .i64 now,.int .i64 ttl] w (jc6 w m [l] 0 9):=by
 have S0:Hid (SlF Bk.leC w (some ⟨b,o,none⟩) 1 c [l]):=hsl;have CR:=zh (fun W=>jb1 ho now ttl hh hn ht W);have CA:Hid (∀W,LeAt W b o l->Calls Tryz.prog 187 #[.agg #[.int .i64 m,.slice (some ⟨b,o,none⟩) 1 c],.string Bk.lead] W (jbg W (zi))):=fun W h=>jdq m b o c l W h hc;have CF:Hid (∀W,LeAt W b o l->Calls Tryz.prog 190 #[.agg #[.int .i64 m,.slice (some ⟨b,o,none⟩) 1 c],.string Bk.lead,.int .i64 now] W (jbg W (.bool false))):=fun W h=>by
  have:=jhv m now b o c l hm hti W h hc
  rwa [decide_eq_false hx]at this
 clear hx;unfold rlT;go_in;go_upto_region 1 with fail
 obtain⟨W,hW⟩:∃W,W=(w.alloc (.cells #[.int .i64 m,.slice (some ⟨b,o,none⟩) 1 c] 29)).alloc (.cells #[zi,.slice none 0 0] 29):=zx;rw[<-hW];obtain⟨r1,r2,hb,hs⟩:=jbl hW;clear hW;have B:=zh hb;have LA:=zh (h.on hb);obtain⟨n,hn⟩:∃n,n=w.heap.size:=zx;rw[<-hn]at r1 r2 hs⊢;have NB:=zh (Nat.le_of_eq hn.symm);clear hn hb;have PF:Hid (∀W:World,W.heap[n]? =some (.cells #[.int .i64 m,.slice (some ⟨b,o,none⟩) 1 c] 29 (0,0))->W.heap[n+1]? =some (.cells #[zi,.slice none 0 0] 29 (0,0))->
   W.cell? ⟨n,0,none⟩=some (.int .i64 m)/\W.cell? ⟨n,1,none⟩=some (.slice (some ⟨b,o,none⟩) 1 c)/\W.cell? ⟨n+1,0,none⟩=some (zi)/\W.cell? ⟨n+1,1,none⟩=some (.slice none 0 0)/\(∀i,W.frozen? ⟨n+1,i,none⟩=false)):=
  fun W r1 r2=>⟨cell_of_row W _ 0 _ _ _ r1,cell_of_row W _ 1 _ _ _ r1,cell_of_row W _ 0 _ _ _ r2,cell_of_row W _ 1 _ _ _ r2,fun i=>frozen_of_row W _ i _ _ r2⟩
 obtain⟨x0,x1,y0,y1,f2⟩:=PF.o W r1 r2;have R1:=zh r1;have R2:=zh r2;have HS:Hid (n+1+1<=W.heap.size):=by show _<=_;omega
 have k0:n<W.heap.size:=by omega
 have k1:n+1<W.heap.size:=by omega
 clear r1 r2 hs;obtain⟨h0,h1,h2,h3,h4,hlt⟩:=LA.o;clear h
 go_wp2_with(first
  |(go_at_call 186;refine(CR.o _).mono ?_;rintro e wr ⟨rfl,rfl⟩)
  |(go_at_call 190;refine(CF.o _ LA.o).mono ?_;rintro e w1 ⟨rfl,hb⟩;have R1:=zh (jah R1.o hb);have R2:=zh (jah R2.o hb);have LA:=zh (LA.o.on hb);have B:=zh (B.o.trans (hb.mono B.o.size));have HS:=zh (Nat.le_trans HS.o hb.size);clear hb k0 k1 x0 x1 y0 y1 f2 h0 h1 h2 h3 h4 hlt;have k0:=HS.o;have k1:n+1<_:=k0;have k0:=Nat.lt_of_succ_lt k1;obtain⟨x0,x1,y0,y1,f2⟩:=PF.o w1 R1.o R2.o;obtain⟨h0,h1,h2,h3,h4,hlt⟩:=LA.o))
 exact bodyPost_ret (v:= .tuple #[rlT m (some ⟨b,o,none⟩) 1 c,zi,.int .i64 9]) (by simp[results,Tryz.results136,go_sem,x0,x1,y0,y1,f2,k0,k1]) rfl ⟨_,_,rfl,S0.o.on (by have bb:=B.o;have nb:=NB.o;have nb1:w.heap.size<=n+1:=zv;have ns:=bb.size;go_grown),(by have bb:=B.o;have nb:=NB.o;have nb1:w.heap.size<=n+1:=zv;have ns:=bb.size;go_grown),fun h=>absurd h (by decide)⟩
theorem jk5(m:Int)(b o c:Nat)(l:Le)(ho now ttl:Int)(hh:0<=ho/\ho<=63)(hn:0<=now/\now<=1099511627776)(ht:1<=ttl/\ttl<=1048576)(hm:0<=m/\m<=1048576)(w:World)(h:LeAt w b o l)(hc:1<=c)(hti:0<=l.till/\l.till<=1099511627776)(hx:Bk.late l.till m<=now)(hep:0<=l.ep/\l.ep<=1099511627776):Calls Tryz.prog 136 #[rlT m (some ⟨b,o,none⟩) 1 c,.string Bk.lead,.int .i64 ho,.int .i64 now,.int .i64 ttl] w (jc6 w m [⟨ho,(l.ep+1),Bk.late now ttl⟩] (l.ep+1) 0):=by
 have CR:=zh (fun W=>jb1 ho now ttl hh hn ht W);have CA:Hid (∀W,LeAt W b o l->Calls Tryz.prog 187 #[.agg #[.int .i64 m,.slice (some ⟨b,o,none⟩) 1 c],.string Bk.lead] W (jbg W (zi))):=fun W h=>jdq m b o c l W h hc;have CF:Hid (∀W,LeAt W b o l->Calls Tryz.prog 190 #[.agg #[.int .i64 m,.slice (some ⟨b,o,none⟩) 1 c],.string Bk.lead,.int .i64 now] W (jbg W (.bool true))):=fun W h=>by
  have:=jhv m now b o c l hm hti W h hc
  rwa [decide_eq_true hx]at this
 have CL:=zh (fun W=>jdr now ttl hn zv W);have CP:Hid (∀W,LeAt W b o l->Calls Tryz.prog 189 #[.agg #[.int .i64 m,.slice (some ⟨b,o,none⟩) 1 c],.agg #[.string Bk.lead,.int .i64 ho,.int .i64 (l.ep+1),.int .i64 (Bk.late now ttl),.bool false]] W (jp3 W m [⟨ho,(l.ep+1),Bk.late now ttl⟩])):=fun W h=>jjn m b o c l ⟨ho,l.ep+1,Bk.late now ttl⟩ W h hc;have LA0:=zh h;have LT:=zh h.lt;have hs1:IntKind.i64.wrap (l.ep+1)=l.ep+1:=IntWalk.i64_in _ zv;have hs2:wrap64 (l.ep+1)=l.ep+1:=IntWalk.wrap64_in _ ⟨zv,zv⟩;clear hx;generalize Bk.late now ttl=lt at*;clear hep hti;unfold rlT;go_in;go_upto_region 1 with fail
 obtain⟨W,hW⟩:∃W,W=(w.alloc (.cells #[.int .i64 m,.slice (some ⟨b,o,none⟩) 1 c] 29)).alloc (.cells #[zi,.slice none 0 0] 29):=zx;rw[<-hW];obtain⟨r1,r2,hb,hs⟩:=jbl hW;clear hW;have B:=zh hb;have LA:=zh (h.on hb);obtain⟨n,hn⟩:∃n,n=w.heap.size:=zx;rw[<-hn]at r1 r2 hs⊢;have NB:=zh (Nat.le_of_eq hn.symm);clear hn hb;have PF:Hid (∀W:World,W.heap[n]? =some (.cells #[.int .i64 m,.slice (some ⟨b,o,none⟩) 1 c] 29 (0,0))->W.heap[n+1]? =some (.cells #[zi,.slice none 0 0] 29 (0,0))->
   W.cell? ⟨n,0,none⟩=some (.int .i64 m)/\W.cell? ⟨n,1,none⟩=some (.slice (some ⟨b,o,none⟩) 1 c)/\W.cell? ⟨n+1,0,none⟩=some (zi)/\W.cell? ⟨n+1,1,none⟩=some (.slice none 0 0)/\(∀i,W.frozen? ⟨n+1,i,none⟩=false)):=
  fun W r1 r2=>⟨cell_of_row W _ 0 _ _ _ r1,cell_of_row W _ 1 _ _ _ r1,cell_of_row W _ 0 _ _ _ r2,cell_of_row W _ 1 _ _ _ r2,fun i=>frozen_of_row W _ i _ _ r2⟩
 obtain⟨x0,x1,y0,y1,f2⟩:=PF.o W r1 r2;have R1:=zh r1;have R2:=zh r2;have HS:Hid (n+1+1<=W.heap.size):=by show _<=_;omega
 have k0:n<W.heap.size:=by omega
 have k1:n+1<W.heap.size:=by omega
 clear r1 r2 hs;obtain⟨h0,h1,h2,h3,h4,hlt⟩:=LA.o;clear h;go_upto_region 11 with(first
  |(go_at_call 186;refine(CR.o _).mono ?_;rintro e wr ⟨rfl,rfl⟩)
  |(go_at_call 190;refine(CF.o _ LA.o).mono ?_;rintro e w1 ⟨rfl,hb⟩;have R1:=zh (jah R1.o hb);have R2:=zh (jah R2.o hb);have LA:=zh (LA.o.on hb);have B:=zh (B.o.trans (hb.mono B.o.size));have HS:=zh (Nat.le_trans HS.o hb.size);clear hb k0 k1 x0 x1 y0 y1 f2 h0 h1 h2 h3 h4 hlt;have k0:=HS.o;have k1:n+1<_:=k0;have k0:=Nat.lt_of_succ_lt k1;obtain⟨x0,x1,y0,y1,f2⟩:=PF.o w1 R1.o R2.o;obtain⟨h0,h1,h2,h3,h4,hlt⟩:=LA.o)
  |(go_at_call 187;refine(CA.o _ LA.o).mono ?_;rintro e w2 ⟨rfl,hb⟩;have R1:=zh (jah R1.o hb);have R2:=zh (jah R2.o hb);have LA:=zh (LA.o.on hb);have B:=zh (B.o.trans (hb.mono B.o.size));have HS:=zh (Nat.le_trans HS.o hb.size);clear hb k0 k1 x0 x1 y0 y1 f2 h0 h1 h2 h3 h4 hlt;have k0:=HS.o;have k1:n+1<_:=k0;have k0:=Nat.lt_of_succ_lt k1;obtain⟨x0,x1,y0,y1,f2⟩:=PF.o w2 R1.o R2.o;obtain⟨h0,h1,h2,h3,h4,hlt⟩:=LA.o))
 have RX4:=zh R1.o;have RY:Hid (w2.drew.heap[n+1]? =some (.cells #[zi,.slice none 0 0] 29 (0,0))):=R2.o;have B4:=zh B.o;clear x0 x1 y0 y1 f2 k0 k1 h0 h1 h2 h3 h4 hlt;have SB:Hid (∀W:World,(W.heap[n]? =some (.cells #[.int .i64 m,.slice (some ⟨b,o,none⟩) 1 c] 29 (0,0))/\zF w W)->zF w W):=fun _ h=>h.2;have SH:Hid (∀W W':World,(W.heap[n]? =some (.cells #[.int .i64 m,.slice (some ⟨b,o,none⟩) 1 c] 29 (0,0))/\zF w W)->zF W W'->(W'.heap[n]? =some (.cells #[.int .i64 m,.slice (some ⟨b,o,none⟩) 1 c] 29 (0,0))/\zF w W')):=fun W W' h hb=>⟨jah h.1 hb,h.2.trans (hb.mono h.2.size)⟩;have SZ:Hid (∀W:World,(W.heap[n]? =some (.cells #[.int .i64 m,.slice (some ⟨b,o,none⟩) 1 c] 29 (0,0))/\zF w W)->∀v u,(((W.setCell ⟨n+1,0,none⟩ v).setCell ⟨n+1,1,none⟩ u).heap[n]? =some (.cells #[.int .i64 m,.slice (some ⟨b,o,none⟩) 1 c] 29 (0,0))/\zF w ((W.setCell ⟨n+1,0,none⟩ v).setCell ⟨n+1,1,none⟩ u))):=fun W h v u=>⟨by
  rw[Below.heap_setCell _ _ _ _ (by simp),Below.heap_setCell _ _ _ _ (by simp)];exact h.1,(h.2.setCell (by have:=NB.o;show w.heap.size<=n+1;omega) _).setCell (by have:=NB.o;show w.heap.size<=n+1;omega) _⟩
 refine wp_region_held_drew (S:=fun W=>W.heap[n]? =some (.cells #[.int .i64 m,.slice (some ⟨b,o,none⟩) 1 c] 29 (0,0))/\zF w W) zk ⟨RX4.o,B4.o.drew⟩ (fun hS=> ?_);refine tZ 0 rfl (by intro W hW;have q0:=cell_of_row W n 0 _ _ _ hW.1;have q1:=cell_of_row W n 1 _ _ _ hW.1;simp only[List.getElem?_toArray,List.getElem?_cons_zero,List.getElem?_cons_succ]at q0 q1;go_simp;(try with_reducible rfl)) hS ?_;refine tY 1 hS ?_;refine tY 2 hS ?_;refine tY 3 hS ?_;refine tY 4 hS ?_;refine tY 5 hS ?_;simp only[Act.put,zT,zO,zS];refine tY 9 hS ?_;simp only[Act.put,zT,zO,zS];refine rO 6 (fun K hK=> ?_);go_simp
 refine(CL.o _).mono ?_
 rintro e wl ⟨rfl,hw⟩;obtain rfl:=hw.symm;refine hK.out _ _ hS (fun _=> ?_);clear hK K;refine tY 7 hS ?_;simp only[Act.put,zT,zO,zS];refine rO 8 (fun K hK=> ?_);go_simp
 refine(CP.o _ (LA0.o.low (SB.o _ hS) LT.o)).mono ?_
 rintro e w5 ⟨A5,k5,rfl,hs5,hb5,hfar⟩;have FAR:=zh hfar;clear hfar;have S5:=zh hs5;have SZN:Hid (n+1<_):=(zg RY.o).1;have hS2:=SH.o _ _ hS hb5;have RY5:=zh (jah RY.o hb5);clear hS hs5 hb5;have hS:=hS2;clear hS2;obtain⟨y0,y1,f2⟩:w5.cell? ⟨n+1,0,none⟩=some (zi)/\w5.cell? ⟨n+1,1,none⟩=some (.slice none 0 0)/\(∀i,w5.frozen? ⟨n+1,i,none⟩=false):=⟨cell_of_row _ _ 0 _ _ _ RY5.o,cell_of_row _ _ 1 _ _ _ RY5.o,fun i=>frozen_of_row _ _ i _ _ RY5.o⟩;have k1:n+1<w5.heap.size:=(zg RY5.o).1;refine hK.out _ _ hS (fun _=> ?_);clear hK K;try simp only[Act.put,zT,zO,zS]
 refine rO 10 (fun K hK=> ?_);go_simp;have hS2:=SZ.o _ hS (.int .i64 m) (.slice A5 1 k5);clear hS;have hS:=hS2;clear hS2;refine hK.out _ _ hS (fun _=> ?_);clear hK K;refine tY 11 hS ?_;refine tY 12 hS ?_;simp only[Act.put,zT,zO,zS];refine wpAnyH_done zk ?_ _;go_wp2_with fail;exact bodyPost_ret (v:= .tuple #[rlT m A5 1 k5,.int .i64 (l.ep+1),zi]) (by simp[results,Tryz.results136,go_sem,y0,y1,f2,k1]) rfl ⟨A5,k5,rfl,S5.o.keep (by simp) (fun b' o' he hl=>by
   have h3:=FAR.o b' o' he;have h4:=SZN.o;exact(Below.heap_setCell _ _ _ _ (by simp;omega)).trans (Below.heap_setCell _ _ _ _ (by simp;omega))),hS.2,fun _ b' o' e=>by have h1:=FAR.o b' o' e;have h2:=SZN.o;have h3:=NB.o;omega⟩
theorem jk6(m:Int)(A:Option Addr)(c:Nat)(ho now ttl:Int)(hh:0<=ho/\ho<=63)(hn:0<=now/\now<=1099511627776)(ht:1<=ttl/\ttl<=1048576)(hm:0<=m/\m<=1048576)(w:World):Calls Tryz.prog 136 #[rlT m A 0 c,.string Bk.lead,.int .i64 ho,.int .i64 now,.int .i64 ttl] w (jc6 w m [⟨ho,1,Bk.late now ttl⟩] 1 0):=by
 have CR:=zh (fun W=>jb1 ho now ttl hh hn ht W);have CA:Hid (∀W,Calls Tryz.prog 187 #[.agg #[.int .i64 m,.slice A 0 c],.string Bk.lead] W (jbg W (.int .i64 (-1)))):=fun W=>jp1 m A c W Bk.lead;have CF:Hid (∀W,Calls Tryz.prog 190 #[.agg #[.int .i64 m,.slice A 0 c],.string Bk.lead,.int .i64 now] W (jbg W (.bool true))):=fun W=>jp2 m now A c W;have CL:=zh (fun W=>jdr now ttl hn zv W);have CP:Hid (∀W,Calls Tryz.prog 189 #[.agg #[.int .i64 m,.slice A 0 c],.agg #[.string Bk.lead,.int .i64 ho,.int .i64 1,.int .i64 (Bk.late now ttl),.bool false]] W (jp3 W m [⟨ho,1,Bk.late now ttl⟩])):=fun W=>juc m A c ⟨ho,1,Bk.late now ttl⟩ W;generalize Bk.late now ttl=lt at*;unfold rlT;go_in;go_upto_region 1 with fail
 obtain⟨W,hW⟩:∃W,W=(w.alloc (.cells #[.int .i64 m,.slice A 0 c] 29)).alloc (.cells #[zi,.slice none 0 0] 29):=zx;rw[<-hW];obtain⟨r1,r2,hb,hs⟩:=jbl hW;clear hW;have B:=zh hb;obtain⟨n,hn⟩:∃n,n=w.heap.size:=zx;rw[<-hn]at r1 r2 hs⊢;have NB:=zh (Nat.le_of_eq hn.symm);clear hn hb;have PF:Hid (∀W:World,W.heap[n]? =some (.cells #[.int .i64 m,.slice A 0 c] 29 (0,0))->W.heap[n+1]? =some (.cells #[zi,.slice none 0 0] 29 (0,0))->
   W.cell? ⟨n,0,none⟩=some (.int .i64 m)/\W.cell? ⟨n,1,none⟩=some (.slice A 0 c)/\W.cell? ⟨n+1,0,none⟩=some (zi)/\W.cell? ⟨n+1,1,none⟩=some (.slice none 0 0)/\(∀i,W.frozen? ⟨n+1,i,none⟩=false)):=
  fun W r1 r2=>⟨cell_of_row W _ 0 _ _ _ r1,cell_of_row W _ 1 _ _ _ r1,cell_of_row W _ 0 _ _ _ r2,cell_of_row W _ 1 _ _ _ r2,fun i=>frozen_of_row W _ i _ _ r2⟩
 obtain⟨x0,x1,y0,y1,f2⟩:=PF.o W r1 r2;have R1:=zh r1;have R2:=zh r2;have HS:Hid (n+1+1<=W.heap.size):=by show _<=_;omega
 have k0:n<W.heap.size:=by omega
 have k1:n+1<W.heap.size:=by omega
 clear r1 r2 hs;go_upto_region 11 with(first
  |(go_at_call 186;refine(CR.o _).mono ?_;rintro e wr ⟨rfl,rfl⟩)
  |(go_at_call 190;refine(CF.o _).mono ?_;rintro e w1 ⟨rfl,hb⟩;have R1:=zh (jah R1.o hb);have R2:=zh (jah R2.o hb);have B:=zh (B.o.trans (hb.mono B.o.size));have HS:=zh (Nat.le_trans HS.o hb.size);clear hb k0 k1 x0 x1 y0 y1 f2;have k0:=HS.o;have k1:n+1<_:=k0;have k0:=Nat.lt_of_succ_lt k1;obtain⟨x0,x1,y0,y1,f2⟩:=PF.o w1 R1.o R2.o)
  |(go_at_call 187;refine(CA.o _).mono ?_;rintro e w2 ⟨rfl,hb⟩;have R1:=zh (jah R1.o hb);have R2:=zh (jah R2.o hb);have B:=zh (B.o.trans (hb.mono B.o.size));have HS:=zh (Nat.le_trans HS.o hb.size);clear hb k0 k1 x0 x1 y0 y1 f2;have k0:=HS.o;have k1:n+1<_:=k0;have k0:=Nat.lt_of_succ_lt k1;obtain⟨x0,x1,y0,y1,f2⟩:=PF.o w2 R1.o R2.o))
 have RX4:=zh R1.o;have RY:Hid (w2.drew.heap[n+1]? =some (.cells #[zi,.slice none 0 0] 29 (0,0))):=R2.o;have B4:=zh B.o;clear x0 x1 y0 y1 f2 k0 k1;have SB:Hid (∀W:World,(W.heap[n]? =some (.cells #[.int .i64 m,.slice A 0 c] 29 (0,0))/\zF w W)->zF w W):=fun _ h=>h.2;have SH:Hid (∀W W':World,(W.heap[n]? =some (.cells #[.int .i64 m,.slice A 0 c] 29 (0,0))/\zF w W)->zF W W'->(W'.heap[n]? =some (.cells #[.int .i64 m,.slice A 0 c] 29 (0,0))/\zF w W')):=fun W W' h hb=>⟨jah h.1 hb,h.2.trans (hb.mono h.2.size)⟩;have SZ:Hid (∀W:World,(W.heap[n]? =some (.cells #[.int .i64 m,.slice A 0 c] 29 (0,0))/\zF w W)->∀v u,(((W.setCell ⟨n+1,0,none⟩ v).setCell ⟨n+1,1,none⟩ u).heap[n]? =some (.cells #[.int .i64 m,.slice A 0 c] 29 (0,0))/\zF w ((W.setCell ⟨n+1,0,none⟩ v).setCell ⟨n+1,1,none⟩ u))):=fun W h v u=>⟨by
  rw[Below.heap_setCell _ _ _ _ (by simp),Below.heap_setCell _ _ _ _ (by simp)];exact h.1,(h.2.setCell (by have:=NB.o;show w.heap.size<=n+1;omega) _).setCell (by have:=NB.o;show w.heap.size<=n+1;omega) _⟩
 refine wp_region_held_drew (S:=fun W=>W.heap[n]? =some (.cells #[.int .i64 m,.slice A 0 c] 29 (0,0))/\zF w W) zk ⟨RX4.o,B4.o.drew⟩ (fun hS=> ?_);refine tZ 0 rfl (by intro W hW;have q0:=cell_of_row W n 0 _ _ _ hW.1;have q1:=cell_of_row W n 1 _ _ _ hW.1;simp only[List.getElem?_toArray,List.getElem?_cons_zero,List.getElem?_cons_succ]at q0 q1;go_simp;(try with_reducible rfl)) hS ?_;refine tY 1 hS ?_;refine tY 2 hS ?_;refine tY 3 hS ?_;refine tY 4 hS ?_;refine tY 5 hS ?_;simp only[Act.put,zT,zO,zS];refine tY 9 hS ?_;simp only[Act.put,zT,zO,zS];refine rO 6 (fun K hK=> ?_);go_simp
 refine(CL.o _).mono ?_
 rintro e wl ⟨rfl,hw⟩;obtain rfl:=hw.symm;refine hK.out _ _ hS (fun _=> ?_);clear hK K;refine tY 7 hS ?_;simp only[Act.put,zT,zO,zS];refine rO 8 (fun K hK=> ?_);go_simp
 refine(CP.o _).mono ?_
 rintro e w5 ⟨A5,k5,rfl,hs5,hb5,hfar⟩;have FAR:=zh hfar;clear hfar;have S5:=zh hs5;have SZN:Hid (n+1<_):=(zg RY.o).1;have hS2:=SH.o _ _ hS hb5;have RY5:=zh (jah RY.o hb5);clear hS hs5 hb5;have hS:=hS2;clear hS2;obtain⟨y0,y1,f2⟩:w5.cell? ⟨n+1,0,none⟩=some (zi)/\w5.cell? ⟨n+1,1,none⟩=some (.slice none 0 0)/\(∀i,w5.frozen? ⟨n+1,i,none⟩=false):=⟨cell_of_row _ _ 0 _ _ _ RY5.o,cell_of_row _ _ 1 _ _ _ RY5.o,fun i=>frozen_of_row _ _ i _ _ RY5.o⟩;have k1:n+1<w5.heap.size:=(zg RY5.o).1;refine hK.out _ _ hS (fun _=> ?_);clear hK K;try simp only[Act.put,zT,zO,zS]
 refine rO 10 (fun K hK=> ?_);go_simp;have hS2:=SZ.o _ hS (.int .i64 m) (.slice A5 1 k5);clear hS;have hS:=hS2;clear hS2;refine hK.out _ _ hS (fun _=> ?_);clear hK K;refine tY 11 hS ?_;refine tY 12 hS ?_;simp only[Act.put,zT,zO,zS];refine wpAnyH_done zk ?_ _;go_wp2_with fail;exact bodyPost_ret (v:= .tuple #[rlT m A5 1 k5,.int .i64 1,zi]) (by simp[results,Tryz.results136,go_sem,y0,y1,f2,k1]) rfl ⟨A5,k5,rfl,S5.o.keep (by simp) (fun b' o' he hl=>by
   have h3:=FAR.o b' o' he;have h4:=SZN.o;exact(Below.heap_setCell _ _ _ _ (by simp;omega)).trans (Below.heap_setCell _ _ _ _ (by simp;omega))),hS.2,fun _ b' o' e=>by have h1:=FAR.o b' o' e;have h2:=SZN.o;have h3:=NB.o;omega⟩
def APos(w:World)(x:Value)(e:Ending)(w':World):Prop:=e= .returned x/\zF w w'
theorem rstep0(v d u n g a b c f wi x k:Int)(w:World):Calls Tryz.prog 192 #[.agg #[.int .i64 v,.int .i64 d,.int .i64 u,.int .i64 n,.int .i64 g,.int .i64 a,.int .i64 b,.int .i64 c,.int .i64 f,.int .i64 wi,.int .i64 x,.int .i64 k],zi] w (APos w (.bool (Spc.st ⟨v,d,u,n,g,a,b,c,f,wi,x,k⟩ 0))):=by
 have hb:=(Below.refl w.heap.size w).alloc zl (.cells #[.int .i64 v,.int .i64 d,.int .i64 u,.int .i64 n,.int .i64 g,.int .i64 a,.int .i64 b,.int .i64 c,.int .i64 f,.int .i64 wi,.int .i64 x,.int .i64 k] 33);have B1:=zh hb;clear hb;by_cases hg:g=0
 ·subst hg
  have e1:Spc.st ⟨v,d,u,n,0,a,b,c,f,wi,x,k⟩ 0=Spc.inn a 1 100:=rfl;rw[e1];clear e1;go_in;go_wp2_with fail;refine(ja7 a 1 100 _).mono ?_;rintro e w1 ⟨rfl,rfl⟩;generalize Spc.inn a 1 100=z at*;go_wp2;go_ret;exact⟨rfl,B1.o⟩
 ·have e1:Spc.st ⟨v,d,u,n,g,a,b,c,f,wi,x,k⟩ 0=decide (a=0):=by unfold Spc.st;rw[if_pos hg];rfl
  rw[e1];have hgn:(g !=0)=true:=by rw[bne_iff_ne];exact hg
  clear e1;go_in;go_wp2;go_ret;exact⟨jcb (by by_cases hx:a=0<;>simp[hx]),B1.o⟩
theorem zz1f{p:Prop}(h:p:=by
 rw[decide_eq_false hy,Bool.false_and]
 have hyn:=decide_eq_false hy;clear hy;go_in;go_wp2_with fail;go_quiet ((go_at_call 191;fail));go_wp2;go_ret;exact⟨rfl,Below.drewN B1.o _⟩):p:=h
theorem zz1o{p:Prop}(h:p:=by
 go_in;go_wp2_with fail;go_quiet ((go_at_call 191;exact Calls.quiet_of_same (C.o _)));go_wp2;go_ret;exact⟨rfl,Below.drewN B1.o _⟩):p:=h
theorem zz1q{p:Prop}(h:p:=by
 rw[decide_eq_true hx,Bool.true_or]
 subst hx;go_in;go_wp2_with fail;go_quiet (fail);go_wp2;go_ret;exact⟨rfl,Below.drewN B1.o _⟩):p:=h
theorem rstep1(v d u n g a b c f wi x k:Int)(w:World)(hs:g=0->-9223372036854775808<=a/\a<=1000):Calls Tryz.prog 192 #[.agg #[.int .i64 v,.int .i64 d,.int .i64 u,.int .i64 n,.int .i64 g,.int .i64 a,.int .i64 b,.int .i64 c,.int .i64 f,.int .i64 wi,.int .i64 x,.int .i64 k],.int .i64 1] w (APos w (.bool (Spc.st ⟨v,d,u,n,g,a,b,c,f,wi,x,k⟩ 1))):=by
 have hb:=(Below.refl w.heap.size w).alloc zl (.cells #[.int .i64 v,.int .i64 d,.int .i64 u,.int .i64 n,.int .i64 g,.int .i64 a,.int .i64 b,.int .i64 c,.int .i64 f,.int .i64 wi,.int .i64 x,.int .i64 k] 33);have B1:=zh hb;clear hb;by_cases hg:g=0
 ·subst hg
  obtain⟨hs1,hs2⟩:=hs rfl;have e1:Spc.st ⟨v,d,u,n,0,a,b,c,f,wi,x,k⟩ 1=(decide (b=0)|| (decide (0<a)&&Spc.inn b (a+1) 100)):=rfl;rw[e1];clear e1;have wr0:IntKind.i64.wrap 0=0:=rfl;by_cases hx:b=0
  ·exact zz1q
  ·have hxn:(b==0)=false:=by rw[zq];exact hx
   rw[decide_eq_false hx,Bool.false_or];by_cases hy:0<a
   ·rw[decide_eq_true hy,Bool.true_and]
    have C:Hid (∀W,Calls Tryz.prog 191 #[.int .i64 b,.int .i64 (a+1),.int .i64 100] W fun e w'=>e= .returned (.bool (Spc.inn b (a+1) 100))/\w'=W):=ja7 b (a+1) 100;generalize Spc.inn b (a+1) 100=z at*;exact zz1o
   ·exact zz1f
 ·have e1:Spc.st ⟨v,d,u,n,g,a,b,c,f,wi,x,k⟩ 1=decide (b=0):=by unfold Spc.st;rw[if_pos hg];rfl
  rw[e1];have hgn:(g !=0)=true:=by rw[bne_iff_ne];exact hg
  clear e1;go_in;go_wp2;go_ret;exact⟨jcb (by by_cases hx:b=0<;>simp[hx]),B1.o⟩
theorem rstep2(v d u n g a b c f wi x k:Int)(w:World)(hs:g=0->-9223372036854775808<=b/\b<=1000):Calls Tryz.prog 192 #[.agg #[.int .i64 v,.int .i64 d,.int .i64 u,.int .i64 n,.int .i64 g,.int .i64 a,.int .i64 b,.int .i64 c,.int .i64 f,.int .i64 wi,.int .i64 x,.int .i64 k],.int .i64 2] w (APos w (.bool (Spc.st ⟨v,d,u,n,g,a,b,c,f,wi,x,k⟩ 2))):=by
 have hb:=(Below.refl w.heap.size w).alloc zl (.cells #[.int .i64 v,.int .i64 d,.int .i64 u,.int .i64 n,.int .i64 g,.int .i64 a,.int .i64 b,.int .i64 c,.int .i64 f,.int .i64 wi,.int .i64 x,.int .i64 k] 33);have B1:=zh hb;clear hb;by_cases hg:g=0
 ·subst hg
  obtain⟨hs1,hs2⟩:=hs rfl;have e1:Spc.st ⟨v,d,u,n,0,a,b,c,f,wi,x,k⟩ 2=(decide (c=0)|| (decide (0<b)&&Spc.inn c (b+1) 100)):=rfl;rw[e1];clear e1;have wr0:IntKind.i64.wrap 1=1:=rfl;by_cases hx:c=0
  ·exact zz1q
  ·have hxn:(c==0)=false:=by rw[zq];exact hx
   rw[decide_eq_false hx,Bool.false_or];by_cases hy:0<b
   ·rw[decide_eq_true hy,Bool.true_and]
    have C:Hid (∀W,Calls Tryz.prog 191 #[.int .i64 c,.int .i64 (b+1),.int .i64 100] W fun e w'=>e= .returned (.bool (Spc.inn c (b+1) 100))/\w'=W):=ja7 c (b+1) 100;generalize Spc.inn c (b+1) 100=z at*;exact zz1o
   ·exact zz1f
 ·have e1:Spc.st ⟨v,d,u,n,g,a,b,c,f,wi,x,k⟩ 2=decide (c=0):=by unfold Spc.st;rw[if_pos hg];rfl
  rw[e1];have hgn:(g !=0)=true:=by rw[bne_iff_ne];exact hg
  clear e1;go_in;go_wp2;go_ret;exact⟨jcb (by by_cases hx:c=0<;>simp[hx]),B1.o⟩
theorem rstep3(v d u n g a b c f wi x k:Int)(w:World)(hs:g=0->-9223372036854775808<=c/\c<=1000):Calls Tryz.prog 192 #[.agg #[.int .i64 v,.int .i64 d,.int .i64 u,.int .i64 n,.int .i64 g,.int .i64 a,.int .i64 b,.int .i64 c,.int .i64 f,.int .i64 wi,.int .i64 x,.int .i64 k],.int .i64 3] w (APos w (.bool (Spc.st ⟨v,d,u,n,g,a,b,c,f,wi,x,k⟩ 3))):=by
 have hb:=(Below.refl w.heap.size w).alloc zl (.cells #[.int .i64 v,.int .i64 d,.int .i64 u,.int .i64 n,.int .i64 g,.int .i64 a,.int .i64 b,.int .i64 c,.int .i64 f,.int .i64 wi,.int .i64 x,.int .i64 k] 33);have B1:=zh hb;clear hb;by_cases hg:g=0
 ·subst hg
  obtain⟨hs1,hs2⟩:=hs rfl;have e1:Spc.st ⟨v,d,u,n,0,a,b,c,f,wi,x,k⟩ 3=(decide (f=0)|| (decide (0<c)&&Spc.inn f (c+1) 100)):=rfl;rw[e1];clear e1;have wr0:IntKind.i64.wrap 2=2:=rfl;by_cases hx:f=0
  ·exact zz1q
  ·have hxn:(f==0)=false:=by rw[zq];exact hx
   rw[decide_eq_false hx,Bool.false_or];by_cases hy:0<c
   ·rw[decide_eq_true hy,Bool.true_and]
    have C:Hid (∀W,Calls Tryz.prog 191 #[.int .i64 f,.int .i64 (c+1),.int .i64 100] W fun e w'=>e= .returned (.bool (Spc.inn f (c+1) 100))/\w'=W):=ja7 f (c+1) 100;generalize Spc.inn f (c+1) 100=z at*;exact zz1o
   ·exact zz1f
 ·have e1:Spc.st ⟨v,d,u,n,g,a,b,c,f,wi,x,k⟩ 3=decide (f=0):=by unfold Spc.st;rw[if_pos hg];rfl
  rw[e1];have hgn:(g !=0)=true:=by rw[bne_iff_ne];exact hg
  clear e1;go_in;go_wp2;go_ret;exact⟨jcb (by by_cases hx:f=0<;>simp[hx]),B1.o⟩