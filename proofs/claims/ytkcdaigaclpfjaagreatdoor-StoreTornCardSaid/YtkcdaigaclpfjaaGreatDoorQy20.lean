import Derived.Test.YtkcdaigaclpfjaaGreatDoorQy19
set_option maxHeartbeats 6400000
set_option maxRecDepth 100000
set_option linter.unusedSimpArgs false
set_option linter.unusedVariables false
namespace Go.Proofs.YtkcdaigaclpfjaaGreatDoor
open Go.RowKit Go.Deep Go.Maps
theorem jap{a:Act}{oi:Oper}(x:Operand)(ho:oi.op= .load 45 x)(g:Nat)(r:Rc.R)(hx:a.eval x= .pointer (some ⟨g,0,none⟩)){W:World}(h:RcAt W g r):(execOp a.eval oi).run Tryz.prog W= .ok (.value (.agg (Rc.cells r))) W:=by
 unfold execOp;simp only[ho,hx,Instr.loadAt,Instr.sureAddr,Sem.run_bind,Sem.run_pure,Result.andThen_ok,run_loadVar_row (P:=Tryz.prog) W g 45 45 (Rc.cells r) (0,0) _ h.row jaf rfl (jai r)]
section
variable{o:Oper}{a:Act}{w:World}{K:Act->World->Prop}{Q:Exit->Act->World->Prop}
theorem jcf{P:Program}{sl e:TypeId}{z:Value}{k by_:Nat}(hsl:P.underlying sl=some (.slice e))(hi0:(P.info? e).map (fun i=>(i.zero,i.size,i.bytes))=some (some z,k,by_))(hK0:0<k)(hK1:k<=1000)
  (x:Operand) (ho:o.op= .buildSlice sl 1 #[(0,x)]) (cs:Array Value) (hx:a.eval x= .agg cs) (hl:cs.size=k)
  (h:K (a.put o.dst (.slice (some ⟨w.heap.size,0,none⟩) 1 1)) (w.alloc (.cells cs e))):Oper.wp P o a w K Q:=by
 obtain⟨i0,hi,hz0,hz1,hz2⟩:=info_parts hi0;refine wp_buildSlice sl e 1 #[(0,x)] ho cs i0 z hsl hi hz0 (by rw[hz1];omega) (by rw[hz1];omega) ?_ h;have:=Great.fill_whole (s:=k) hK0 [.agg cs] ((Array.range (1*k)).map (z.cells[· %z.cells.size]!)) (fun v hv=>by rw[List.mem_singleton.1 hv];exact hl) (by simp);rw[hz1];simp only[List.zipIdx_cons,List.zipIdx_nil,List.map_cons,List.map_nil,List.flatMap_cons,List.flatMap_nil,List.append_nil]at this;simp only[List.map_toArray,List.map_cons,List.map_nil,hx];rw[this];rfl
theorem jb2(s x:Operand)(ho:o.op= .call {callee:= .builtin .append,args:=#[s,x],argTypes:=#[22,22]})(base:Nat)(v:Value)(ts:List Rc.R)(hs:a.eval s=v)(hown:OwF Bk.rcC 18 45 w base v ts)
  (m:Nat) (t:Rc.R) (hx:a.eval x= .slice (some ⟨m,0,none⟩) 1 1) (ht:RcAt w m t) (hlen:ts.length<=1000) (hB:base<=w.heap.size)
  (h:∀v' w',OwF Bk.rcC 18 45 w' base v' (ts++[t])->w.grownBy w' v.ownBlock->(v'.ownBlock=v.ownBlock\/v'.ownBlock=some w.heap.size)->K (a.put o.dst v') w'):Oper.wp Tryz.prog o a w K Q:=by
 obtain⟨i0,hi,hz0,hz1,hz2⟩:=info_parts jbj;obtain⟨v',w',hr,h2,h3,h4,h5⟩:=run_append_own_at (P:=Tryz.prog) w base 22 o.type 45 i0 _ 18 152 Tryz.underlying22 hi hz0 hz1 hz2 rfl zv v ts.length _ hown ⟨m,0,none⟩ 1 1 (Bk.rcC t) (Bk.rcC_len t) (fun j u hu=>by
  rw[jiq,Nat.zero_add,cell_of_row w m j _ _ _ ht.row];rw[<-hu];unfold Bk.rcC;simp) (Bk.rcC_one t) (by unfold maxLen;omega) zv hB
 unfold Oper.wp execOp;simp only[ho,resolve,invoke,builtin,Sem.run_bind,Sem.run_pure,Result.andThen_ok,List.map_toArray,List.map_cons,List.map_nil,hs,hx,hr];refine h v' w' ?_ h3 h5;unfold OwF;rw[List.length_append,List.flatMap_append];simpa using h2
end
def jbt(q:Nat)(s:Bk.St)(ru:Nat->Bk.Un)(rv:Int)(lm km H:Value)(r:Rc.R)(W:World)(e:Ending)(w':World):Prop:=
 ∃H',e= .returned (.tuple #[])/\BdAt w' q {s with h:=Bk.last24 (s.h++[r])} ru rv lm km H'/\OwF Bk.rcC 18 45 w' 0 H' (Bk.last24 (s.h++[r]))/\Kept (fun i=>i=q\/H.ownBlock=some i) W w'/\∀m,H'.ownBlock=some m->H.ownBlock=some m\/W.heap.size<=m
theorem jpq{l:List Rc.R}{r:Rc.R}(h:l.length=24):Bk.last24 (l++[r])=l.tail++[r]:=by
 unfold Bk.last24;rw[List.length_append,List.length_singleton,h]
 cases l with
 |nil=>simp at h
 |cons x l=>rfl
theorem jpr{l:List Rc.R}{r:Rc.R}(h:l.length<=23):Bk.last24 (l++[r])=l++[r]:=by
 unfold Bk.last24;rw[List.length_append,List.length_singleton,show l.length+1 -24=0 by omega];rfl
theorem jen(q:Nat)(s:Bk.St)(ru:Nat->Bk.Un)(rv:Int)(lm km H:Value)(r:Rc.R)(W:World)(hat:BdAt W q s ru rv lm km H)(ho:OwF Bk.rcC 18 45 W 0 H s.h)(hq:H.ownBlock≠some q)(hl:s.h.length<=24):Calls Tryz.prog 124 #[.pointer (some ⟨q,0,none⟩),.agg (Rc.cells r)] W (jbt q s ru rv lm km H r W):=by
 obtain⟨W1,hW⟩:∃W1,W1=W.alloc (.cells (Rc.cells r) 45):=⟨_,rfl⟩;obtain⟨g,hg⟩:∃g,g=W.heap.size:=⟨_,rfl⟩;have hb:Below W.heap.size W W1:=by rw[hW];exact(Below.refl _ _).alloc (Nat.le_refl _) _
 have A1:=zh (hat.on hb);have O1:=zh (ho.below hb);have RC1:Hid (RcAt W1 g r):=by rw[hW,hg];exact RcAt.new _ _
 have NQ0:=zh hq;have HB:=zh hb;have HLT:=zh (fun m (e:H.ownBlock=some m)=>(ho.lt m e).2);have GQ:Hid (g≠q):=by have:=hat.lt;show g≠q;omega
 have GE:Hid (W.heap.size=g):=hg.symm;obtain⟨A,c,hH⟩:=ho.form;have HL:=zh hl;have HLN:=zh (show∀(n':Nat) (A':Option Addr) (c':Nat),H= .slice A' n' c'->n'=s.h.length from fun n' A' c' e=>by rw[hH]at e;injection e with _ e _;exact e.symm)
 have b74:=A1.out.cs.c74;rw[hH]at b74;have lq:=A1.out.lt;by_cases h24:s.h.length=24
 ·obtain⟨b,hA⟩:∃b,A=some ⟨b,0,none⟩:=by
   rcases ho.2 with⟨e,h0⟩|⟨g',c',cur,e,_⟩
   ·omega
   ·rw[hH]at e;injection e with e _ _;exact⟨g',e⟩
  subst hA;have hO1:=O1.out;rw[hH]at hO1;rw[h24]at b74 hO1 hH;have CD:=zh (jrz W1 0 b c s.h hO1);have HH:=zh hH;have H24:=zh h24;clear hat ho hq hl hb hO1 hH h24;go_enter Tryz.func124,Tryz.ntmps124;go_upto_region 1 with fail
  rw[<-hW,<-hg];clear hW hg;go_upto_region 3 with(go_at_call 170;(with_reducible refine CD.out.mono ?_);rintro e w2 ⟨rfl,ho2,hg2⟩;have O2:=zh ho2;have G2:=zh hg2;have A2:=zh (A1.out.keep (hg2.block q A1.out.lt (fun e=>NQ0.out (by rw[HH.out];exact e.symm))));clear ho2 hg2 b74 lq;have b74:=A2.out.cs.c74;have fz:=fun i=>A2.out.fz i;have lq:=A2.out.lt)
  obtain⟨l3,hl3⟩:∃l3,l3=s.h.tail:=⟨_,rfl⟩;have LE:Hid (Bk.last24 (s.h++[r])=l3++[r]):=by show _=_;rw[hl3];exact jpq H24.out
  have L3:Hid (l3.length<=23):=by show _<=_;rw[hl3,List.length_tail,H24.out];omega
  rw[<-hl3]at O2;have BQ:Hid (b≠q):=fun e=>NQ0.out (by rw[HH.out];show some b=_;rw[e]);have A3:=zh (A2.out.hs (.slice (some ⟨b,0,none⟩) 23 c) l3);have O3:=zh (O2.out.kept (jad w2 q 74 (.slice (some ⟨b,0,none⟩) 23 c)) (fun e=>BQ.out (by injection e)));have K2:=zh ((Kept.of_below (F:=fun i=>i=q\/H.ownBlock=some i) HB.out).trans (G:=fun i=>H.ownBlock=some i) (Kept.of_grown G2.out fun k hk=>by rw[HH.out];exact hk) fun i _ h=> .inr h);have K3:=zh (K2.out.trans (G:=fun i=>i=q) (Kept.of_grown (row:=some q) (jad w2 q 74 (.slice (some ⟨b,0,none⟩) 23 c)) (fun k hk=>by injection hk with hk;exact hk.symm)) fun i _ hi=> .inl hi)
  have NB:Hid (b≠g):=by have:=HLT.out b (by rw[HH.out];rfl);have:=GE.out;show b≠g;omega
  have RC3:Hid (RcAt (w2.setCell ⟨q,74,none⟩ (.slice (some ⟨b,0,none⟩) 23 c)) g r):=⟨(heap_setCell_other _ _ _ _ (fun e=>GQ.out e)).trans ((G2.out.block g RC1.out.cs.lt (fun e=>NB.out (by injection e with e;exact e.symm))).trans RC1.out.row)⟩
  have HO:Hid (∀i,i<W.heap.size->(Value.slice (some ⟨b,0,none⟩) 23 c).ownBlock=some i->i=q\/H.ownBlock=some i):=fun i _ e=> .inr (by rw[HH.out];exact e);have NQ:Hid ((Value.slice (some ⟨b,0,none⟩) 23 c).ownBlock≠some q):=fun e=>BQ.out (by injection e);have NG:Hid ((Value.slice (some ⟨b,0,none⟩) 23 c).ownBlock≠some g):=fun e=>NB.out (by injection e);clear b74 fz lq hl3;generalize hW3:w2.setCell ⟨q,74,none⟩ (.slice (some ⟨b,0,none⟩) 23 c)=W3 at*;generalize hH3:Value.slice (some ⟨b,0,none⟩) 23 c=H3 at*;have b74:=A3.out.cs.c74;have lq:=A3.out.lt;clear hW3 hH3;refine wp_region_held_drew (S:=fun W=>RcAt W g r) (by kernel_rfl) (RC3.out.on (Below.refl W3.heap.size W3).drew) (fun hS=> ?_);refine tY 0 hS ?_;refine tY 1 hS ?_;refine tY 2 hS ?_;refine tY 3 hS ?_;refine tZ 5 (v:= .agg (Rc.cells r)) rfl (fun W hW=>jap (.tmp 3) rfl g r rfl hW) hS ?_;simp only[Act.put,zT,zO,zS];refine jfw 4 6 rfl rfl (by kernel_rfl) rfl rfl (fun K hK=> ?_) (fun K hK=> ?_)
  ·go_simp
   refine hK.out _ _ hS (fun _=> ?_);clear hK K;try simp only[Act.put,zT,zO,zS]
   refine rO 6 (fun K hK=> ?_);refine jcf Tryz.underlying22 jbj zv zv (.tmp 23) rfl (Rc.cells r) rfl rfl ?_;have hb5:Below W3.drew.heap.size W3.drew (W3.drew.alloc (.cells (Rc.cells r) 45)):=(Below.refl _ _).alloc (Nat.le_refl _) _;have R5:Hid (RcAt (W3.drew.alloc (.cells (Rc.cells r) 45)) W3.drew.heap.size r):=RcAt.new _ _;have A5:=zh ((A3.out.on (w':=W3.drew) (Below.refl W3.heap.size W3).drew).on hb5);have O5:=zh ((O3.out.below (w':=W3.drew) (Below.refl W3.heap.size W3).drew).below hb5);have K5:=zh (K3.out.trans (Kept.of_below (F:=fun _=>False) ((Below.refl W3.heap.size W3).drew.trans hb5)) fun _ _ h=>h.elim);have hS2:=hS.on hb5;clear hS hb5;have hS:=hS2;clear hS2;have Z5:Hid (W3.drew.heap.size<(W3.drew.alloc (.cells (Rc.cells r) 45)).heap.size):=R5.out.cs.lt;generalize W3.drew.alloc (.cells (Rc.cells r) 45)=W5 at*;generalize W3.drew.heap.size=m5 at*;refine hK.out _ _ hS (fun _=> ?_);clear hK K;try simp only[Act.put,zT,zO,zS]
   refine rO 7 (fun K hK=> ?_);refine jb2 (.tmp 22) (.tmp 24) rfl 0 H3 l3 rfl O5.out m5 r rfl R5.out (by have:=L3.out;omega) (Nat.zero_le _) ?_;intro v6 w6 ho6 hg6 hv6;have O6:=zh ho6;have A6:=zh (A5.out.keep (hg6.block q A5.out.lt (fun e=>NQ.out e.symm)));have K6:=zh (K5.out.trans (G:=fun i=>H3.ownBlock=some i) (Kept.of_grown hg6 fun k hk=>hk) fun i hi h=>HO.out i hi h);have V6:Hid (∀m,v6.ownBlock=some m->H.ownBlock=some m\/W.heap.size<=m):=fun m hm=>by
    rcases hv6 with e|e
    ·rw[e]at hm
     by_cases hlt:m<W.heap.size
     ·exact(HO.out m hlt hm).elim (fun e=>absurd (e▸hm) (fun h=>NQ.out h)) .inl
     ·exact .inr zv
    ·rw[e]at hm
     injection hm with hm
     have:=K5.out.size;exact .inr zv
   have NV:Hid (v6.ownBlock≠some q):=fun e=>by
    rcases hv6 with h|h
    ·exact NQ.out (h▸e)
    ·rw[h]at e
     injection e with e
     have:=A5.out.lt;omega
   obtain⟨A6v,c6v,hf6⟩:=ho6.form;generalize(l3++[r]).length=n6v at hf6;subst hf6;have hS2:RcAt w6 g r:=⟨(hg6.block g hS.cs.lt (fun e=>NG.out e.symm)).trans hS.row⟩;clear hS ho6 hg6 hv6;have hS:=hS2;clear hS2;have b74:=A6.out.cs.c74;have fz:=fun i=>A6.out.fz i;have lq:=A6.out.lt;refine hK.out _ _ hS (fun _=> ?_);clear hK K;refine tY 8 hS ?_;refine tY 9 hS ?_;simp only[Act.put,zT,zO,zS];refine rO 10 (fun K hK=> ?_);go_simp;have hS2:RcAt (w6.setCell ⟨q,74,none⟩ (.slice A6v n6v c6v)) g r:=⟨(heap_setCell_other _ _ _ _ (fun e=>GQ.out e)).trans hS.row⟩;have A7:=zh (A6.out.hs (.slice A6v n6v c6v) (l3++[r]));have O7:=zh (O6.out.kept (jad w6 q 74 (.slice A6v n6v c6v)) (fun e=>NV.out e));have K7:=zh (K6.out.trans (G:=fun i=>i=q) (Kept.of_grown (row:=some q) (jad w6 q 74 (.slice A6v n6v c6v)) (fun k hk=>by injection hk with hk;exact hk.symm)) fun i _ hi=> .inl hi)
   clear hS b74 fz lq;have hS:=hS2;clear hS2;refine hK.out _ _ hS (fun _=> ?_);clear hK K;try simp only[Act.put,zT,zO,zS]
   refine wpAnyH_done (by kernel_rfl) ?_ _;clear hS;go_wp2_with fail;go_end0;unfold jbt;rw[LE.out];exact⟨_,rfl,A7.out,O7.out,K7.out,V6.out⟩
  ·refine jcf Tryz.underlying22 jbj zv zv (.tmp 23) rfl (Rc.cells r) rfl rfl ?_
   have hb5:Below W3.drew.heap.size W3.drew (W3.drew.alloc (.cells (Rc.cells r) 45)):=(Below.refl _ _).alloc (Nat.le_refl _) _;have R5:Hid (RcAt (W3.drew.alloc (.cells (Rc.cells r) 45)) W3.drew.heap.size r):=RcAt.new _ _;have A5:=zh ((A3.out.on (w':=W3.drew) (Below.refl W3.heap.size W3).drew).on hb5);have O5:=zh ((O3.out.below (w':=W3.drew) (Below.refl W3.heap.size W3).drew).below hb5);have K5:=zh (K3.out.trans (Kept.of_below (F:=fun _=>False) ((Below.refl W3.heap.size W3).drew.trans hb5)) fun _ _ h=>h.elim);have hS2:=hS.on hb5;clear hS hb5;have hS:=hS2;clear hS2;have Z5:Hid (W3.drew.heap.size<(W3.drew.alloc (.cells (Rc.cells r) 45)).heap.size):=R5.out.cs.lt;generalize W3.drew.alloc (.cells (Rc.cells r) 45)=W5 at*;generalize W3.drew.heap.size=m5 at*;refine hK.out _ _ hS (fun _=> ?_);clear hK K;try simp only[Act.put,zT,zO,zS]
   refine rO 4 (fun K hK=> ?_);have b74:=A5.out.cs.c74;have lq:=A5.out.lt;go_simp;refine hK.out _ _ hS (fun _=> ?_);clear hK K;try simp only[Act.put,zT,zO,zS]
   refine rO 7 (fun K hK=> ?_);refine jb2 (.tmp 22) (.tmp 24) rfl 0 H3 l3 rfl O5.out m5 r rfl R5.out (by have:=L3.out;omega) (Nat.zero_le _) ?_;intro v6 w6 ho6 hg6 hv6;have O6:=zh ho6;have A6:=zh (A5.out.keep (hg6.block q A5.out.lt (fun e=>NQ.out e.symm)));have K6:=zh (K5.out.trans (G:=fun i=>H3.ownBlock=some i) (Kept.of_grown hg6 fun k hk=>hk) fun i hi h=>HO.out i hi h);have V6:Hid (∀m,v6.ownBlock=some m->H.ownBlock=some m\/W.heap.size<=m):=fun m hm=>by
    rcases hv6 with e|e
    ·rw[e]at hm
     by_cases hlt:m<W.heap.size
     ·exact(HO.out m hlt hm).elim (fun e=>absurd (e▸hm) (fun h=>NQ.out h)) .inl
     ·exact .inr zv
    ·rw[e]at hm
     injection hm with hm
     have:=K5.out.size;exact .inr zv
   have NV:Hid (v6.ownBlock≠some q):=fun e=>by
    rcases hv6 with h|h
    ·exact NQ.out (h▸e)
    ·rw[h]at e
     injection e with e
     have:=A5.out.lt;omega
   obtain⟨A6v,c6v,hf6⟩:=ho6.form;generalize(l3++[r]).length=n6v at hf6;subst hf6;have hS2:RcAt w6 g r:=⟨(hg6.block g hS.cs.lt (fun e=>NG.out e.symm)).trans hS.row⟩;clear hS ho6 hg6 hv6;have hS:=hS2;clear hS2;have b74:=A6.out.cs.c74;have fz:=fun i=>A6.out.fz i;have lq:=A6.out.lt;refine hK.out _ _ hS (fun _=> ?_);clear hK K;refine tY 8 hS ?_;refine tY 9 hS ?_;simp only[Act.put,zT,zO,zS];refine rO 10 (fun K hK=> ?_);go_simp;have hS2:RcAt (w6.setCell ⟨q,74,none⟩ (.slice A6v n6v c6v)) g r:=⟨(heap_setCell_other _ _ _ _ (fun e=>GQ.out e)).trans hS.row⟩;have A7:=zh (A6.out.hs (.slice A6v n6v c6v) (l3++[r]));have O7:=zh (O6.out.kept (jad w6 q 74 (.slice A6v n6v c6v)) (fun e=>NV.out e));have K7:=zh (K6.out.trans (G:=fun i=>i=q) (Kept.of_grown (row:=some q) (jad w6 q 74 (.slice A6v n6v c6v)) (fun k hk=>by injection hk with hk;exact hk.symm)) fun i _ hi=> .inl hi)
   clear hS b74 fz lq;have hS:=hS2;clear hS2;refine hK.out _ _ hS (fun _=> ?_);clear hK K;try simp only[Act.put,zT,zO,zS]
   refine wpAnyH_done (by kernel_rfl) ?_ _;clear hS;go_wp2_with fail;go_end0;unfold jbt;rw[LE.out];exact⟨_,rfl,A7.out,O7.out,K7.out,V6.out⟩
 ·obtain⟨l3,hl3⟩:∃l3,l3=s.h:=⟨_,rfl⟩
  have LE:Hid (Bk.last24 (s.h++[r])=l3++[r]):=by show _=_;rw[hl3];exact jpr zv
  have L3:Hid (l3.length<=23):=by show _<=_;rw[hl3];omega
  have hn24:((s.h.length:Int)==24)=false:=by rw[beq_eq_false_iff_ne];omega
  obtain⟨H3,hH3⟩:∃H3,H3=H:=⟨_,rfl⟩;have A3:Hid (BdAt W1 q {s with h:=l3} ru rv lm km H3):=by rw[hH3,hl3];exact A1.out
  have O3:Hid (OwF Bk.rcC 18 45 W1 0 H3 l3):=by rw[hH3,hl3];exact O1.out
  clear hl3;have K3:=zh (Kept.of_below (F:=fun i=>i=q\/H.ownBlock=some i) HB.out);have RC3:=RC1;have HO:Hid (∀i,i<W.heap.size->H3.ownBlock=some i->i=q\/H.ownBlock=some i):=fun i _ e=> .inr (by rw[<-hH3];exact e);have NQ:Hid (H3.ownBlock≠some q):=by rw[hH3];exact NQ0.out
  have NG:Hid (H3.ownBlock≠some g):=fun e=>by rw[hH3]at e;have:=HLT.out g e;have:=GE.out;omega
  have b75:=A3.out.cs.c74;have HH:=zh hH;clear hat ho hq hl hb h24 hH hH3;go_enter Tryz.func124,Tryz.ntmps124;go_upto_region 1 with fail
  rw[<-hW,<-hg];clear hW hg;go_upto_region 3 with fail
  clear b74;have b74:=b75;clear b75;clear hn24;have W3E:∃W3,W3=W1:=⟨_,rfl⟩;obtain⟨W3,hW3⟩:=W3E;subst hW3;refine wp_region_held_drew (S:=fun W=>RcAt W g r) (by kernel_rfl) (RC3.out.on (Below.refl W3.heap.size W3).drew) (fun hS=> ?_);refine tY 0 hS ?_;refine tY 1 hS ?_;refine tY 2 hS ?_;refine tY 3 hS ?_;refine tZ 5 (v:= .agg (Rc.cells r)) rfl (fun W hW=>jap (.tmp 3) rfl g r rfl hW) hS ?_;simp only[Act.put,zT,zO,zS];refine jfw 4 6 rfl rfl (by kernel_rfl) rfl rfl (fun K hK=> ?_) (fun K hK=> ?_)
  ·go_simp
   refine hK.out _ _ hS (fun _=> ?_);clear hK K;try simp only[Act.put,zT,zO,zS]
   refine rO 6 (fun K hK=> ?_);refine jcf Tryz.underlying22 jbj zv zv (.tmp 23) rfl (Rc.cells r) rfl rfl ?_;have hb5:Below W3.drew.heap.size W3.drew (W3.drew.alloc (.cells (Rc.cells r) 45)):=(Below.refl _ _).alloc (Nat.le_refl _) _;have R5:Hid (RcAt (W3.drew.alloc (.cells (Rc.cells r) 45)) W3.drew.heap.size r):=RcAt.new _ _;have A5:=zh ((A3.out.on (w':=W3.drew) (Below.refl W3.heap.size W3).drew).on hb5);have O5:=zh ((O3.out.below (w':=W3.drew) (Below.refl W3.heap.size W3).drew).below hb5);have K5:=zh (K3.out.trans (Kept.of_below (F:=fun _=>False) ((Below.refl W3.heap.size W3).drew.trans hb5)) fun _ _ h=>h.elim);have hS2:=hS.on hb5;clear hS hb5;have hS:=hS2;clear hS2;have Z5:Hid (W3.drew.heap.size<(W3.drew.alloc (.cells (Rc.cells r) 45)).heap.size):=R5.out.cs.lt;generalize W3.drew.alloc (.cells (Rc.cells r) 45)=W5 at*;generalize W3.drew.heap.size=m5 at*;refine hK.out _ _ hS (fun _=> ?_);clear hK K;try simp only[Act.put,zT,zO,zS]
   refine rO 7 (fun K hK=> ?_);refine jb2 (.tmp 22) (.tmp 24) rfl 0 H3 l3 rfl O5.out m5 r rfl R5.out (by have:=L3.out;omega) (Nat.zero_le _) ?_;intro v6 w6 ho6 hg6 hv6;have O6:=zh ho6;have A6:=zh (A5.out.keep (hg6.block q A5.out.lt (fun e=>NQ.out e.symm)));have K6:=zh (K5.out.trans (G:=fun i=>H3.ownBlock=some i) (Kept.of_grown hg6 fun k hk=>hk) fun i hi h=>HO.out i hi h);have V6:Hid (∀m,v6.ownBlock=some m->H.ownBlock=some m\/W.heap.size<=m):=fun m hm=>by
    rcases hv6 with e|e
    ·rw[e]at hm
     by_cases hlt:m<W.heap.size
     ·exact(HO.out m hlt hm).elim (fun e=>absurd (e▸hm) (fun h=>NQ.out h)) .inl
     ·exact .inr zv
    ·rw[e]at hm
     injection hm with hm
     have:=K5.out.size;exact .inr zv
   have NV:Hid (v6.ownBlock≠some q):=fun e=>by
    rcases hv6 with h|h
    ·exact NQ.out (h▸e)
    ·rw[h]at e
     injection e with e
     have:=A5.out.lt;omega
   obtain⟨A6v,c6v,hf6⟩:=ho6.form;generalize(l3++[r]).length=n6v at hf6;subst hf6;have hS2:RcAt w6 g r:=⟨(hg6.block g hS.cs.lt (fun e=>NG.out e.symm)).trans hS.row⟩;clear hS ho6 hg6 hv6;have hS:=hS2;clear hS2;have b74:=A6.out.cs.c74;have fz:=fun i=>A6.out.fz i;have lq:=A6.out.lt;refine hK.out _ _ hS (fun _=> ?_);clear hK K;refine tY 8 hS ?_;refine tY 9 hS ?_;simp only[Act.put,zT,zO,zS];refine rO 10 (fun K hK=> ?_);go_simp;have hS2:RcAt (w6.setCell ⟨q,74,none⟩ (.slice A6v n6v c6v)) g r:=⟨(heap_setCell_other _ _ _ _ (fun e=>GQ.out e)).trans hS.row⟩;have A7:=zh (A6.out.hs (.slice A6v n6v c6v) (l3++[r]));have O7:=zh (O6.out.kept (jad w6 q 74 (.slice A6v n6v c6v)) (fun e=>NV.out e));have K7:=zh (K6.out.trans (G:=fun i=>i=q) (Kept.of_grown (row:=some q) (jad w6 q 74 (.slice A6v n6v c6v)) (fun k hk=>by injection hk with hk;exact hk.symm)) fun i _ hi=> .inl hi)
   clear hS b74 fz lq;have hS:=hS2;clear hS2;refine hK.out _ _ hS (fun _=> ?_);clear hK K;try simp only[Act.put,zT,zO,zS]
   refine wpAnyH_done (by kernel_rfl) ?_ _;clear hS;go_wp2_with fail;go_end0;unfold jbt;rw[LE.out];exact⟨_,rfl,A7.out,O7.out,K7.out,V6.out⟩
  ·refine jcf Tryz.underlying22 jbj zv zv (.tmp 23) rfl (Rc.cells r) rfl rfl ?_
   have hb5:Below W3.drew.heap.size W3.drew (W3.drew.alloc (.cells (Rc.cells r) 45)):=(Below.refl _ _).alloc (Nat.le_refl _) _;have R5:Hid (RcAt (W3.drew.alloc (.cells (Rc.cells r) 45)) W3.drew.heap.size r):=RcAt.new _ _;have A5:=zh ((A3.out.on (w':=W3.drew) (Below.refl W3.heap.size W3).drew).on hb5);have O5:=zh ((O3.out.below (w':=W3.drew) (Below.refl W3.heap.size W3).drew).below hb5);have K5:=zh (K3.out.trans (Kept.of_below (F:=fun _=>False) ((Below.refl W3.heap.size W3).drew.trans hb5)) fun _ _ h=>h.elim);have hS2:=hS.on hb5;clear hS hb5;have hS:=hS2;clear hS2;have Z5:Hid (W3.drew.heap.size<(W3.drew.alloc (.cells (Rc.cells r) 45)).heap.size):=R5.out.cs.lt;generalize W3.drew.alloc (.cells (Rc.cells r) 45)=W5 at*;generalize W3.drew.heap.size=m5 at*;refine hK.out _ _ hS (fun _=> ?_);clear hK K;try simp only[Act.put,zT,zO,zS]
   refine rO 4 (fun K hK=> ?_);have b74:=A5.out.cs.c74;have lq:=A5.out.lt;go_simp;refine hK.out _ _ hS (fun _=> ?_);clear hK K;try simp only[Act.put,zT,zO,zS]
   refine rO 7 (fun K hK=> ?_);refine jb2 (.tmp 22) (.tmp 24) rfl 0 H3 l3 rfl O5.out m5 r rfl R5.out (by have:=L3.out;omega) (Nat.zero_le _) ?_;intro v6 w6 ho6 hg6 hv6;have O6:=zh ho6;have A6:=zh (A5.out.keep (hg6.block q A5.out.lt (fun e=>NQ.out e.symm)));have K6:=zh (K5.out.trans (G:=fun i=>H3.ownBlock=some i) (Kept.of_grown hg6 fun k hk=>hk) fun i hi h=>HO.out i hi h);have V6:Hid (∀m,v6.ownBlock=some m->H.ownBlock=some m\/W.heap.size<=m):=fun m hm=>by
    rcases hv6 with e|e
    ·rw[e]at hm
     by_cases hlt:m<W.heap.size
     ·exact(HO.out m hlt hm).elim (fun e=>absurd (e▸hm) (fun h=>NQ.out h)) .inl
     ·exact .inr zv
    ·rw[e]at hm
     injection hm with hm
     have:=K5.out.size;exact .inr zv
   have NV:Hid (v6.ownBlock≠some q):=fun e=>by
    rcases hv6 with h|h
    ·exact NQ.out (h▸e)
    ·rw[h]at e
     injection e with e
     have:=A5.out.lt;omega
   obtain⟨A6v,c6v,hf6⟩:=ho6.form;generalize(l3++[r]).length=n6v at hf6;subst hf6;have hS2:RcAt w6 g r:=⟨(hg6.block g hS.cs.lt (fun e=>NG.out e.symm)).trans hS.row⟩;clear hS ho6 hg6 hv6;have hS:=hS2;clear hS2;have b74:=A6.out.cs.c74;have fz:=fun i=>A6.out.fz i;have lq:=A6.out.lt;refine hK.out _ _ hS (fun _=> ?_);clear hK K;refine tY 8 hS ?_;refine tY 9 hS ?_;simp only[Act.put,zT,zO,zS];refine rO 10 (fun K hK=> ?_);go_simp;have hS2:RcAt (w6.setCell ⟨q,74,none⟩ (.slice A6v n6v c6v)) g r:=⟨(heap_setCell_other _ _ _ _ (fun e=>GQ.out e)).trans hS.row⟩;have A7:=zh (A6.out.hs (.slice A6v n6v c6v) (l3++[r]));have O7:=zh (O6.out.kept (jad w6 q 74 (.slice A6v n6v c6v)) (fun e=>NV.out e));have K7:=zh (K6.out.trans (G:=fun i=>i=q) (Kept.of_grown (row:=some q) (jad w6 q 74 (.slice A6v n6v c6v)) (fun k hk=>by injection hk with hk;exact hk.symm)) fun i _ hi=> .inl hi)
   clear hS b74 fz lq;have hS:=hS2;clear hS2;refine hK.out _ _ hS (fun _=> ?_);clear hK K;try simp only[Act.put,zT,zO,zS]
   refine wpAnyH_done (by kernel_rfl) ?_ _;clear hS;go_wp2_with fail;go_end0;unfold jbt;rw[LE.out];exact⟨_,rfl,A7.out,O7.out,K7.out,V6.out⟩
namespace Bd
theorem act_lok{s:Bk.St}{r:Rc.R}(h:Lok s)(hc:Bk.chk s r=0):Lok (Bk.act s r):=by
 refine⟨Bk.act_ok h.ok hc,?_⟩;rcases Bk.kinds hc with hk|hk|hk|hk|hk|hk|hk
 ·rw[Bk.act1 hk]
  intro _;have h1:=Rc.right1 hk (Bk.chk_right hc);have h2:=h.ok.till;show 1<=Bk.leadT s r;unfold Bk.leadT Bk.late;split<;>omega
 all_goals first|(rw[Bk.act2 hk];exact h.t1)|(rw[Bk.act3 hk];exact h.t1)|(rw[Bk.act4 hk];exact h.t1)|(rw[Bk.act5 hk];exact h.t1)|(rw[Bk.act6 hk];exact h.t1)|(rw[Bk.act7 hk];exact h.t1)
end Bd
section
variable{w0 w w':World}{q g:Nat}{s s':Bk.St}{ru ru':Nat->Bk.Un}{rv:Int}{lo ko:Option Nat}{H H':Value}{K:Kv.St}{r:Rc.R}
abbrev KQ(q:Nat)(w0 w:World):Prop:=Kept (fun i=>i=q) w0 w
theorem KQ.set(h:KQ q w0 w)(k:Nat)(v:Value):KQ q w0 (w.setCell ⟨q,k,none⟩ v):=h.trans (G:=fun i=>i=q) (Kept.of_grown (row:=some q) (jad w q k v) (fun k hk=>by injection hk with hk;exact hk.symm)) fun i _ hi=>hi
theorem KQ.on(h:KQ q w0 w)(hb:Below w.heap.size w w'):KQ q w0 w':=h.trans (Kept.of_below (F:=fun _=>False) hb) fun _ _ h=>h.elim
theorem KQ.drew(h:KQ q w0 w):KQ q w0 w.drew:=h.on (Below.refl w.heap.size w).drew
theorem KQ.of(hb:Below w.heap.size w w')(q:Nat):KQ q w w':=Kept.of_below hb
theorem ja3(h:RcAt w g r)(hg:g≠q)(k:Nat)(v:Value):RcAt (w.setCell ⟨q,k,none⟩ v) g r:=⟨(heap_setCell_other w ⟨q,k,none⟩ g v hg).trans h.row⟩
theorem jgg(h:RcAt w g r):RcAt w.drew g r:=⟨h.row⟩
theorem jdz{lm km:Value}(h:BdAt w q s ru rv lm km H):BdAt w.drew q s ru rv lm km H:=⟨h.row⟩
theorem BdIs.turnQ(h:BdIs w q s ru rv lo ko H K)(hk:KQ q w w')(ha:BdAt w' q s' ru' rv (.map lo) (.map ko) H)(ht:Bd.tab s'=Bd.tab s)(hv:s'.vs=s.vs)(hh:s'.h=s.h)(hr:Bd.Raw ru' s'.us)(hl:Bd.Lok s'):BdIs w' q s' ru' rv lo ko H K where
 at_:=ha
 ls:=by rw[ht];exact h.ls.keep fun m e=>hk.block m (h.lt.2.1 m e) (fun e2=>h.ql (by rw[e,e2]))
 kv:=h.kv.keep fun m e=>hk.block m (h.lt.2.2.1 m e) (fun e2=>h.qk (by rw[e,e2]))
 kg:=h.kg
 kr:=h.kr
 kb:=by rw[hv];exact h.kb
 dg:=by rw[hv];exact h.dg
 raw:=hr
 h:=by rw[hh];exact h.h.keep fun m e=>hk.block m (h.lt.2.2.2 m e) (fun e2=>h.qh (by rw[e,e2]))
 lk:=h.lk
 lok:=hl
theorem BdIs.turnH(h:BdIs w q s ru rv lo ko H K)(hk:Kept (fun i=>i=q\/H.ownBlock=some i) w w')(ha:BdAt w' q s' ru' rv (.map lo) (.map ko) H')(ho:OwF Bk.rcC 18 45 w' 0 H' s'.h)(ht:Bd.tab s'=Bd.tab s)(hv:s'.vs=s.vs)(hr:Bd.Raw ru' s'.us)(hl:Bd.Lok s'):BdIs w' q s' ru' rv lo ko H' K where
 at_:=ha
 ls:=by rw[ht];exact h.ls.keep fun m e=>hk.block m (h.lt.2.1 m e) (fun e2=>by rcases e2 with e2|e2;exact h.ql (by rw[e,e2]);exact h.hl m e e2)
 kv:=h.kv.keep fun m e=>hk.block m (h.lt.2.2.1 m e) (fun e2=>by rcases e2 with e2|e2;exact h.qk (by rw[e,e2]);exact h.hk m e e2)
 kg:=h.kg
 kr:=h.kr
 kb:=by rw[hv];exact h.kb
 dg:=by rw[hv];exact h.dg
 raw:=hr
 h:=ho
 lk:=h.lk
 lok:=hl
theorem turn_q(h:BdIs w q s ru rv lo ko H K)(hk:KQ q w w')(ha:BdAt w' q s' ru' rv (.map lo) (.map ko) H)(ht:Bd.tab s'=Bd.tab s)(hv:s'.vs=s.vs)(hh:s'.h=s.h)(hr:Bd.Raw ru' s'.us)(hl:Bd.Lok s'):jaw q lo ko H s' (.tuple #[]) w (.returned (.tuple #[])) w':=
 ⟨ru',rv,lo,ko,H,K,rfl,h.turnQ hk ha ht hv hh hr hl,hk.more fun i _ e=> .inl e,fun i hi=> .inl hi⟩
theorem jlp{e:Ending}{s1:Bk.St}{w1:World}(h:BdIs w q s ru rv lo ko H K)(hk:KQ q w w1)(hn:jbt q s1 ru' rv (.map lo) (.map ko) H r w1 e w')(hs:{s1 with h:=Bk.last24 (s1.h++[r])}=s')(ht:Bd.tab s'=Bd.tab s)(hv:s'.vs=s.vs)(hr:Bd.Raw ru' s'.us)(hl:Bd.Lok s'):jaw q lo ko H s' (.tuple #[]) w e w':=by
 obtain⟨H',h1,h2,h3,h4,h5⟩:=hn;subst hs;have hk2:Kept (fun i=>i=q\/H.ownBlock=some i) w w':=(hk.more (G:=fun i=>i=q\/H.ownBlock=some i) fun i _ e=> .inl e).trans h4 fun i _ h=>h;refine⟨ru',rv,lo,ko,H',K,h1,h.turnH hk2 h2 h3 ht hv hr hl,hk2.more fun i _ e=> ?_,fun i hi=> ?_⟩
 ·rcases e with e|e
  ·exact .inl e
  ·exact .inr (.inr (.inr e))
 ·rcases hi with hi|hi|hi|hi
  ·exact .inl (.inl hi)
  ·exact .inl (.inr (.inl hi))
  ·exact .inl (.inr (.inr (.inl hi)))
  ·rcases h5 i hi with h6|h6
   ·exact .inl (.inr (.inr (.inr h6)))
   ·exact .inr (Nat.le_trans hk.size h6)
theorem BdIs.hist(h:BdIs w q s ru rv lo ko H K)(hk:KQ q w w'):OwF Bk.rcC 18 45 w' 0 H s.h:=h.h.keep fun m e=>hk.block m (h.lt.2.2.2 m e) (fun e2=>h.qh (by rw[e,e2]))
end
theorem js0{s:Bk.St}{ru ru':Nat->Bk.Un}{rv:Int}{lm km H:Value}(h:∀i,ru i=ru' i):Bd.cells s ru rv lm km H=Bd.cells s ru' rv lm km H:=by rw[show ru=ru' from funext h]
theorem jps(q:Nat)(s:Bk.St)(ru:Nat->Bk.Un)(rv:Int)(lo ko:Option Nat)(H:Value)(K:Kv.St)(w:World)(h:BdIs w q s ru rv lo ko H K)(r:Rc.R)(hin:Rc.In r)(hk:r.kind=4)(hc:Bk.chk s r=0):Calls Tryz.prog 63 #[.pointer (some ⟨q,0,none⟩),.agg (Rc.cells r)] w (jaw q lo ko H (Bk.act s r) (.tuple #[]) w):=by
 have HR:=zh (Bk.chk_right hc);have LK:=zh (Bd.act_lok h.lok hc);have H0:=zh h;rw[Bk.act4 hk]at LK⊢;have HK:=zh hk;have GQ:Hid (w.heap.size≠q):=by have:=h.lt.1;show _≠_;omega
 obtain⟨s9,hs9⟩:∃t,t=({s with h:=Bk.last24 (s.h++[r]),ph:=r.n,stable:=if r.n=3 then s.sp.v else s.stable}:Bk.St):=⟨_,rfl⟩
 rw[<-hs9]at LK⊢;have HS:=zh hs9;clear hs9;obtain⟨W,hW⟩:∃W,W=w.alloc (.cells (Rc.cells r) 45):=⟨_,rfl⟩;obtain⟨g,hg⟩:∃g,g=w.heap.size:=⟨_,rfl⟩;have R0:=zh (RdC.open_ h r);rw[<-hW,<-hg]at R0;rw[<-hg]at GQ;clear h hk hc hin;go_enter Tryz.func63,Tryz.ntmps63;go_upto_region 1 with fail
 rw[<-hW,<-hg];clear hW hg;have A0:=zh R0.out.bd.at_;have C0:=zh R0.out.rc;have K0:=zh (KQ.of R0.out.b q);have b9:=A0.out.cs.c9;have c3:=C0.out.cs.c3;have fz:=fun i=>A0.out.fz i;have lq:=A0.out.lt;have lg:=C0.out.cs.lt;go_upto_region 2 with fail
 clear b9 c3 fz lq lg;have A1:=zh (show BdAt ((W.setCell ⟨q,9,none⟩ (.int .i64 r.n))) q _ _ _ _ _ _ from(A0.out.ph r.n));have C1:=zh (ja3 C0.out GQ.out (9) (.int .i64 r.n));have K1:=zh (KQ.set K0.out (9) (.int .i64 r.n));generalize hW1:(W.setCell ⟨q,9,none⟩ (.int .i64 r.n))=W1 at*;clear hW1;clear A0 C0 K0;by_cases h3:r.n=3
 ·have h32:(r.n==3)=true:=by simpa using h3
  have H3:=zh h3;clear h3;have b7:=A1.out.cs.c7;have b14:=A1.out.cs.c14;have c3:=C1.out.cs.c3;have fz:=fun i=>A1.out.fz i;have lq:=A1.out.lt;have lg:=C1.out.cs.lt;go_upto_region 4 with fail
  clear b7 b14 c3 fz lq lg;have A2:=zh (show BdAt ((W1.setCell ⟨q,7,none⟩ (.int .i64 s.sp.v))) q _ _ _ _ _ _ from(A1.out.stable s.sp.v));have C2:=zh (ja3 C1.out GQ.out (7) (.int .i64 s.sp.v));have K2:=zh (KQ.set K1.out (7) (.int .i64 s.sp.v));generalize hW2:(W1.setCell ⟨q,7,none⟩ (.int .i64 s.sp.v))=W2 at*;clear hW2;clear A1 C1 K1;have CN:=zh (jen q ({s with ph:=r.n,stable:=s.sp.v}) _ rv _ _ H r W2 A2.out (H0.out.hist K2.out) H0.out.qh H0.out.lok.ok.hl)
  go_wp2_with(first
   |((with_reducible show zL 24);refine zR (.tmp 3) C2.out ?_)
   |(go_at_call 124;(with_reducible refine CN.out.mono ?_);rintro e w9 hn;obtain⟨H9,rfl,hn⟩:=hn;have NP:=zh (show jbt q ({s with ph:=r.n,stable:=s.sp.v}) _ rv _ _ H r W2 _ w9 from⟨H9,rfl,hn⟩);clear hn))
  go_end0;exact jlp (s':=s9) H0.out K2.out NP.out (by rw[HS.out,if_pos H3.out]) (by rw[HS.out];rfl) (by rw[HS.out]) (by rw[HS.out];exact H0.out.raw) LK.out
 ·have h32:(r.n==3)=false:=by simpa using h3
  have H3:=zh h3;clear h3;have c3:=C1.out.cs.c3;have fz:=fun i=>A1.out.fz i;have lq:=A1.out.lt;have lg:=C1.out.cs.lt;go_upto_region 4 with fail
  clear c3 fz lq lg;have CN:=zh (jen q ({s with ph:=r.n}) _ rv _ _ H r W1 A1.out (H0.out.hist K1.out) H0.out.qh H0.out.lok.ok.hl)
  go_wp2_with(first
   |((with_reducible show zL 24);refine zR (.tmp 3) C1.out ?_)
   |(go_at_call 124;(with_reducible refine CN.out.mono ?_);rintro e w9 hn;obtain⟨H9,rfl,hn⟩:=hn;have NP:=zh (show jbt q ({s with ph:=r.n}) _ rv _ _ H r W1 _ w9 from⟨H9,rfl,hn⟩);clear hn))
  go_end0;exact jlp (s':=s9) H0.out K1.out NP.out (by rw[HS.out,if_neg H3.out]) (by rw[HS.out];rfl) (by rw[HS.out]) (by rw[HS.out];exact H0.out.raw) LK.out
theorem jpt(q:Nat)(s:Bk.St)(ru:Nat->Bk.Un)(rv:Int)(lo ko:Option Nat)(H:Value)(K:Kv.St)(w:World)(h:BdIs w q s ru rv lo ko H K)(r:Rc.R)(hin:Rc.In r)(hk:r.kind=7)(hc:Bk.chk s r=0):Calls Tryz.prog 69 #[.pointer (some ⟨q,0,none⟩),.agg (Rc.cells r)] w (jaw q lo ko H (Bk.act s r) (.tuple #[]) w):=by
 have HR:=zh (Bk.chk_right hc);have LK:=zh (Bd.act_lok h.lok hc);have H0:=zh h;rw[Bk.act7 hk]at LK⊢;have HK:=zh hk;have GQ:Hid (w.heap.size≠q):=by have:=h.lt.1;show _≠_;omega
 obtain⟨W,hW⟩:∃W,W=w.alloc (.cells (Rc.cells r) 45):=⟨_,rfl⟩;obtain⟨g,hg⟩:∃g,g=w.heap.size:=⟨_,rfl⟩;have R0:=zh (RdC.open_ h r);rw[<-hW,<-hg]at R0;rw[<-hg]at GQ;clear h hk hc hin;go_enter Tryz.func69,Tryz.ntmps69;go_upto_region 1 with fail
 rw[<-hW,<-hg];clear hW hg;have A0:=zh R0.out.bd.at_;have C0:=zh R0.out.rc;have K0:=zh (KQ.of R0.out.b q);have b10:=A0.out.cs.c10;have b11:=A0.out.cs.c11;have c2:=C0.out.cs.c2;have c3:=C0.out.cs.c3;have fz:=fun i=>A0.out.fz i;have lq:=A0.out.lt;have lg:=C0.out.cs.lt;go_upto_region 1 with fail
 go_region;clear b10 b11 c2 c3 fz lq lg;have A1:=zh (show BdAt (((W.setCell ⟨q,10,none⟩ (.int .i64 r.who)).setCell ⟨q,11,none⟩ (.int .i64 r.n)).drew) q _ _ _ _ _ _ from(jdz ((A0.out.step r.who).since r.n)));have C1:=zh (jgg (ja3 (ja3 C0.out GQ.out (10) (.int .i64 r.who)) GQ.out (11) (.int .i64 r.n)));have K1:=zh (KQ.drew (KQ.set (KQ.set K0.out (10) (.int .i64 r.who)) (11) (.int .i64 r.n)));generalize hW1:((W.setCell ⟨q,10,none⟩ (.int .i64 r.who)).setCell ⟨q,11,none⟩ (.int .i64 r.n)).drew=W1 at*;clear hW1;have CN:=zh (jen q ({s with step:=r.who,since:=r.n}) _ rv _ _ H r W1 A1.out (H0.out.hist K1.out) H0.out.qh H0.out.lok.ok.hl)
 go_wp2_with(first
  |((with_reducible show zL 17);refine zR (.tmp 3) C1.out ?_)
  |(go_at_call 124;(with_reducible refine CN.out.mono ?_);rintro e w9 hn;obtain⟨H9,rfl,hn⟩:=hn;have NP:=zh (show jbt q ({s with step:=r.who,since:=r.n}) _ rv _ _ H r W1 _ w9 from⟨H9,rfl,hn⟩);clear hn))
 go_end0;exact jlp H0.out K1.out NP.out rfl rfl rfl H0.out.raw LK.out
theorem jpu(q:Nat)(s:Bk.St)(ru:Nat->Bk.Un)(rv:Int)(lo ko:Option Nat)(H:Value)(K:Kv.St)(w:World)(h:BdIs w q s ru rv lo ko H K)(r:Rc.R)(hin:Rc.In r)(hk:r.kind=3)(hc:Bk.chk s r=0):Calls Tryz.prog 61 #[.pointer (some ⟨q,0,none⟩),.agg (Rc.cells r)] w (jaw q lo ko H (Bk.act s r) (.tuple #[]) w):=by
 have HR:=zh (Bk.chk_right hc);have LK:=zh (Bd.act_lok h.lok hc);have H0:=zh h;rw[Bk.act3 hk]at LK⊢;have HK:=zh hk;have GQ:Hid (w.heap.size≠q):=by have:=h.lt.1;show _≠_;omega
 obtain⟨W,hW⟩:∃W,W=w.alloc (.cells (Rc.cells r) 45):=⟨_,rfl⟩;obtain⟨g,hg⟩:∃g,g=w.heap.size:=⟨_,rfl⟩;have R0:=zh (RdC.open_ h r);rw[<-hW,<-hg]at R0;rw[<-hg]at GQ;clear h hk hc hin;go_enter Tryz.func61,Tryz.ntmps61;go_upto_region 1 with fail
 rw[<-hW,<-hg];clear hW hg;have A0:=zh R0.out.bd.at_;have C0:=zh R0.out.rc;have K0:=zh (KQ.of R0.out.b q);have b7:=A0.out.cs.c7;have b8:=A0.out.cs.c8;have b9:=A0.out.cs.c9;have b14:=A0.out.cs.c14;have b15:=A0.out.cs.c15;have b16:=A0.out.cs.c16;have b17:=A0.out.cs.c17;have b18:=A0.out.cs.c18;have b19:=A0.out.cs.c19;have b20:=A0.out.cs.c20;have b21:=A0.out.cs.c21;have b22:=A0.out.cs.c22;have b23:=A0.out.cs.c23;have b24:=A0.out.cs.c24;have b25:=A0.out.cs.c25;have c6:=C0.out.cs.c6;have c7:=C0.out.cs.c7;have c8:=C0.out.cs.c8;have c9:=C0.out.cs.c9;have c10:=C0.out.cs.c10;have c11:=C0.out.cs.c11;have c12:=C0.out.cs.c12;have c13:=C0.out.cs.c13;have c14:=C0.out.cs.c14;have c15:=C0.out.cs.c15;have c16:=C0.out.cs.c16;have c17:=C0.out.cs.c17;have fz:=fun i=>A0.out.fz i;have lq:=A0.out.lt;have lg:=C0.out.cs.lt;go_upto_region 1 with fail
 go_region;clear b7 b8 b9 b14 b15 b16 b17 b18 b19 b20 b21 b22 b23 b24 b25 c6 c7 c8 c9 c10 c11 c12 c13 c14 c15 c16 c17 fz lq lg;have A1:=zh (show BdAt (((((((((((((((W.setCell ⟨q,14,none⟩ (.int .i64 r.sp.v)).setCell ⟨q,15,none⟩ (.int .i64 r.sp.d)).setCell ⟨q,16,none⟩ (.int .i64 r.sp.u)).setCell ⟨q,17,none⟩ (.int .i64 r.sp.n)).setCell ⟨q,18,none⟩ (.int .i64 r.sp.g)).setCell ⟨q,19,none⟩ (.int .i64 r.sp.a)).setCell ⟨q,20,none⟩ (.int .i64 r.sp.b)).setCell ⟨q,21,none⟩ (.int .i64 r.sp.c)).setCell ⟨q,22,none⟩ (.int .i64 r.sp.e)).setCell ⟨q,23,none⟩ (.int .i64 r.sp.w)).setCell ⟨q,24,none⟩ (.int .i64 r.sp.x)).setCell ⟨q,25,none⟩ (.int .i64 r.sp.k)).setCell ⟨q,9,none⟩ (.int .i64 1)).setCell ⟨q,8,none⟩ (.int .i64 s.stable)).drew) q _ _ _ _ _ _ from(jdz (((A0.out.spec r.sp).ph 1).frm s.stable)));have C1:=zh (jgg (ja3 (ja3 (ja3 (ja3 (ja3 (ja3 (ja3 (ja3 (ja3 (ja3 (ja3 (ja3 (ja3 (ja3 C0.out GQ.out (14) (.int .i64 r.sp.v)) GQ.out (15) (.int .i64 r.sp.d)) GQ.out (16) (.int .i64 r.sp.u)) GQ.out (17) (.int .i64 r.sp.n)) GQ.out (18) (.int .i64 r.sp.g)) GQ.out (19) (.int .i64 r.sp.a)) GQ.out (20) (.int .i64 r.sp.b)) GQ.out (21) (.int .i64 r.sp.c)) GQ.out (22) (.int .i64 r.sp.e)) GQ.out (23) (.int .i64 r.sp.w)) GQ.out (24) (.int .i64 r.sp.x)) GQ.out (25) (.int .i64 r.sp.k)) GQ.out (9) (.int .i64 1)) GQ.out (8) (.int .i64 s.stable)));have K1:=zh (KQ.drew (KQ.set (KQ.set (KQ.set (KQ.set (KQ.set (KQ.set (KQ.set (KQ.set (KQ.set (KQ.set (KQ.set (KQ.set (KQ.set (KQ.set K0.out (14) (.int .i64 r.sp.v)) (15) (.int .i64 r.sp.d)) (16) (.int .i64 r.sp.u)) (17) (.int .i64 r.sp.n)) (18) (.int .i64 r.sp.g)) (19) (.int .i64 r.sp.a)) (20) (.int .i64 r.sp.b)) (21) (.int .i64 r.sp.c)) (22) (.int .i64 r.sp.e)) (23) (.int .i64 r.sp.w)) (24) (.int .i64 r.sp.x)) (25) (.int .i64 r.sp.k)) (9) (.int .i64 1)) (8) (.int .i64 s.stable)));generalize hW1:((((((((((((((W.setCell ⟨q,14,none⟩ (.int .i64 r.sp.v)).setCell ⟨q,15,none⟩ (.int .i64 r.sp.d)).setCell ⟨q,16,none⟩ (.int .i64 r.sp.u)).setCell ⟨q,17,none⟩ (.int .i64 r.sp.n)).setCell ⟨q,18,none⟩ (.int .i64 r.sp.g)).setCell ⟨q,19,none⟩ (.int .i64 r.sp.a)).setCell ⟨q,20,none⟩ (.int .i64 r.sp.b)).setCell ⟨q,21,none⟩ (.int .i64 r.sp.c)).setCell ⟨q,22,none⟩ (.int .i64 r.sp.e)).setCell ⟨q,23,none⟩ (.int .i64 r.sp.w)).setCell ⟨q,24,none⟩ (.int .i64 r.sp.x)).setCell ⟨q,25,none⟩ (.int .i64 r.sp.k)).setCell ⟨q,9,none⟩ (.int .i64 1)).setCell ⟨q,8,none⟩ (.int .i64 s.stable)).drew=W1 at*;clear hW1;clear A0 C0 K0;have b10:=A1.out.cs.c10;have b11:=A1.out.cs.c11;have b12:=A1.out.cs.c12;have c3:=C1.out.cs.c3;have fz:=fun i=>A1.out.fz i;have lq:=A1.out.lt;have lg:=C1.out.cs.lt;go_upto_region 2 with fail
 go_region;clear b10 b11 b12 c3 fz lq lg;have A2:=zh (show BdAt ((((W1.setCell ⟨q,10,none⟩ (.int .i64 0)).setCell ⟨q,11,none⟩ (.int .i64 r.n)).setCell ⟨q,12,none⟩ (.int .i64 r.n)).drew) q _ _ _ _ _ _ from(jdz (((A1.out.step 0).since r.n).begun r.n)));have C2:=zh (jgg (ja3 (ja3 (ja3 C1.out GQ.out (10) (.int .i64 0)) GQ.out (11) (.int .i64 r.n)) GQ.out (12) (.int .i64 r.n)));have K2:=zh (KQ.drew (KQ.set (KQ.set (KQ.set K1.out (10) (.int .i64 0)) (11) (.int .i64 r.n)) (12) (.int .i64 r.n)));generalize hW2:(((W1.setCell ⟨q,10,none⟩ (.int .i64 0)).setCell ⟨q,11,none⟩ (.int .i64 r.n)).setCell ⟨q,12,none⟩ (.int .i64 r.n)).drew=W2 at*;clear hW2;have CN:=zh (jen q ({s with sp:=r.sp,ph:=1,from_:=s.stable,step:=0,since:=r.n,begun:=r.n}) _ rv _ _ H r W2 A2.out (H0.out.hist K2.out) H0.out.qh H0.out.lok.ok.hl)
 go_wp2_with(first
  |((with_reducible show zL 40);refine zR (.tmp 3) C2.out ?_)
  |(go_at_call 124;(with_reducible refine CN.out.mono ?_);rintro e w9 hn;obtain⟨H9,rfl,hn⟩:=hn;have NP:=zh (show jbt q ({s with sp:=r.sp,ph:=1,from_:=s.stable,step:=0,since:=r.n,begun:=r.n}) _ rv _ _ H r W2 _ w9 from⟨H9,rfl,hn⟩);clear hn))
 go_end0;exact jlp H0.out K2.out NP.out rfl rfl rfl H0.out.raw LK.out
theorem jpv(q:Nat)(s:Bk.St)(ru:Nat->Bk.Un)(rv:Int)(lo ko:Option Nat)(H:Value)(K:Kv.St)(w:World)(h:BdIs w q s ru rv lo ko H K)(r:Rc.R)(hin:Rc.In r)(hk:r.kind=5)(hc:Bk.chk s r=0):Calls Tryz.prog 65 #[.pointer (some ⟨q,0,none⟩),.agg (Rc.cells r)] w (jaw q lo ko H (Bk.act s r) (.tuple #[]) w):=by
 have HR:=zh (Bk.chk_right hc);have LK:=zh (Bd.act_lok h.lok hc);have H0:=zh h;rw[Bk.act5 hk]at LK⊢;have HK:=zh hk;have GQ:Hid (w.heap.size≠q):=by have:=h.lt.1;show _≠_;omega
 obtain⟨hw0,hw1,hw2⟩:=Rc.right5 hk HR.out;obtain⟨k,hkk⟩:=Int.eq_ofNat_of_zero_le hw0.1;have k16:k<16:=by omega
 have i16:(k:Int)<16:=by omega
 have SQ0:Hid (r.seq≠0):=by show _≠_;omega
 clear hw0 hw1 hw2;rw[hkk,Int.toNat_natCast]at LK⊢;obtain⟨W,hW⟩:∃W,W=w.alloc (.cells (Rc.cells r) 45):=⟨_,rfl⟩;obtain⟨g,hg⟩:∃g,g=w.heap.size:=⟨_,rfl⟩;have R0:=zh (RdC.open_ h r);rw[<-hW,<-hg]at R0;rw[<-hg]at GQ;clear h hk hc hin;go_enter Tryz.func65,Tryz.ntmps65;go_upto_region 1 with fail
 rw[<-hW,<-hg];clear hW hg;have A0:=zh R0.out.bd.at_;have C0:=zh R0.out.rc;have K0:=zh (KQ.of R0.out.b q);have c2:=C0.out.cs.c2;have c3:=C0.out.cs.c3;have c4:=C0.out.cs.c4;have fz:=fun i=>A0.out.fz i;have lq:=A0.out.lt;have lg:=C0.out.cs.lt;obtain⟨u0,u1,u2⟩:=A0.out.unit k16;rw[hkk]at c2;go_upto_region 1 with fail
 go_region;clear c2 c3 c4 fz lq lg;clear u0 u1 u2;have A1:=zh (show BdAt ((((W.setCell ⟨q,26+k*3,none⟩ (.int .i64 r.n)).setCell ⟨q,26+k*3+1,none⟩ (.int .i64 r.seq)).setCell ⟨q,26+k*3+2,none⟩ (.bool false)).drew) q _ _ _ _ _ _ from(jdz (((A0.out.unitV k16 r.n).unitQ k16 r.seq).unitD k16 false)));have C1:=zh (jgg (ja3 (ja3 (ja3 C0.out GQ.out (26+k*3) (.int .i64 r.n)) GQ.out (26+k*3+1) (.int .i64 r.seq)) GQ.out (26+k*3+2) (.bool false)));have K1:=zh (KQ.drew (KQ.set (KQ.set (KQ.set K0.out (26+k*3) (.int .i64 r.n)) (26+k*3+1) (.int .i64 r.seq)) (26+k*3+2) (.bool false)));generalize hW1:(((W.setCell ⟨q,26+k*3,none⟩ (.int .i64 r.n)).setCell ⟨q,26+k*3+1,none⟩ (.int .i64 r.seq)).setCell ⟨q,26+k*3+2,none⟩ (.bool false)).drew=W1 at*;clear hW1;clear A0 C0 K0;have b13:=A1.out.cs.c13;have c4:=C1.out.cs.c4;have fz:=fun i=>A1.out.fz i;have lq:=A1.out.lt;have lg:=C1.out.cs.lt;go_wp2_with fail;clear b13 c4 fz lq lg;have A2:=zh (show BdAt ((W1.setCell ⟨q,13,none⟩ (.int .i64 r.seq))) q _ _ _ _ _ _ from(A1.out.seq r.seq));have C2:=zh (ja3 C1.out GQ.out (13) (.int .i64 r.seq));have K2:=zh (KQ.set K1.out (13) (.int .i64 r.seq));generalize hW2:(W1.setCell ⟨q,13,none⟩ (.int .i64 r.seq))=W2 at*;clear hW2;go_end0;refine turn_q H0.out K2.out (ru':=Bk.setU ru k ⟨r.n,r.seq,false⟩) ⟨by rw[A2.out.row];congr 2;exact js0 fun i=>by unfold Bk.setU;by_cases h:i=k<;>simp[h]⟩ rfl rfl rfl (H0.out.raw.intent k r.n r.seq SQ0.out) LK.out
theorem jpw(q:Nat)(s:Bk.St)(ru:Nat->Bk.Un)(rv:Int)(lo ko:Option Nat)(H:Value)(K:Kv.St)(w:World)(h:BdIs w q s ru rv lo ko H K)(r:Rc.R)(hin:Rc.In r)(hk:r.kind=6)(hc:Bk.chk s r=0):Calls Tryz.prog 67 #[.pointer (some ⟨q,0,none⟩),.agg (Rc.cells r)] w (jaw q lo ko H (Bk.act s r) (.tuple #[]) w):=by
 have HR:=zh (Bk.chk_right hc);have LK:=zh (Bd.act_lok h.lok hc);have H0:=zh h;rw[Bk.act6 hk]at LK⊢;have HK:=zh hk;have GQ:Hid (w.heap.size≠q):=by have:=h.lt.1;show _≠_;omega
 obtain⟨hw0,hw1⟩:=Rc.right6 hk HR.out;obtain⟨k,hkk⟩:=Int.eq_ofNat_of_zero_le hw0.1;have k16:k<16:=by omega
 have i16:(k:Int)<16:=by omega
 have SQ0:Hid ((ru k).q≠0):=by
  have h1:=Bk.six_ok (by rw[<-Bk.chk_six HR.out hk (Bk.chk_epoch hc zv)];exact hc);have h2:=(h.raw k k16).1;rw[hkk,Int.toNat_natCast,h2]at h1;have h3:(ru k).q=r.seq:=h1.1;show _≠_;omega
 clear hw0 hw1;rw[hkk,Int.toNat_natCast]at LK⊢;obtain⟨W,hW⟩:∃W,W=w.alloc (.cells (Rc.cells r) 45):=⟨_,rfl⟩;obtain⟨g,hg⟩:∃g,g=w.heap.size:=⟨_,rfl⟩;have R0:=zh (RdC.open_ h r);rw[<-hW,<-hg]at R0;rw[<-hg]at GQ;clear h hk hc hin;go_enter Tryz.func67,Tryz.ntmps67;go_upto_region 1 with fail
 rw[<-hW,<-hg];clear hW hg;have A0:=zh R0.out.bd.at_;have C0:=zh R0.out.rc;have K0:=zh (KQ.of R0.out.b q);have c2:=C0.out.cs.c2;have fz:=fun i=>A0.out.fz i;have lq:=A0.out.lt;have lg:=C0.out.cs.lt;obtain⟨u0,u1,u2⟩:=A0.out.unit k16;rw[hkk]at c2;go_upto_region 1 with fail
 go_region;clear c2 fz lq lg;clear u0 u1 u2;have A1:=zh (show BdAt ((W.setCell ⟨q,26+k*3+2,none⟩ (.bool true)).drew) q _ _ _ _ _ _ from(jdz (A0.out.unitD k16 true)));have C1:=zh (jgg (ja3 C0.out GQ.out (26+k*3+2) (.bool true)));have K1:=zh (KQ.drew (KQ.set K0.out (26+k*3+2) (.bool true)));generalize hW1:(W.setCell ⟨q,26+k*3+2,none⟩ (.bool true)).drew=W1 at*;clear hW1;go_wp2_with fail;go_end0;exact turn_q H0.out K1.out (A1.out.us _) rfl rfl rfl (H0.out.raw.ack k k16 SQ0.out) LK.out
theorem jmv(W:World)(X:Nat->Prop)(q:Nat)(cs:Array Value)(ty:TypeId)(mo:Option Nat)(s:Ls.St)(hx:LsX W X q mo)(h:LsIs W q cs ty mo s)(hf:Ls.Few s 2199023255552)(k:ByteArray)(hk:k.size<=maxLen)(ho now ttl:Int):
  Calls Tryz.prog 117 #[.pointer (some ⟨q,0,none⟩),.string k,.int .i64 ho,.int .i64 now,.int .i64 ttl] W (jk5 q cs ty mo (Ls.takeS s k ho now ttl) (.tuple #[.int .i64 (Ls.takeN s k ho now ttl),.int .i64 (Ls.takeE s k ho now ttl:Nat)]) W):=by
 have HX:=zh hx;have H0:=zh h;have HF:=zh hf;have HKS:=zh hk;have RIs:∀n e,Ls.takeE s k ho now ttl=e->Ls.takeN s k ho now ttl=n->Hid (Ls.takeE s k ho now ttl=e/\Ls.takeN s k ho now ttl=n):=fun _ _ h1 h2=>⟨h1,h2⟩;clear hx h hf hk;by_cases hr:Ls.Right k ho now ttl
 case neg=>
  have e1:Ls.takeE s k ho now ttl=1:=by unfold Ls.takeE;rw[if_pos hr]
  have e2:Ls.takeN s k ho now ttl=0:=by unfold Ls.takeN;rw[if_neg (by rw[e1];omega)]
  have e3:Ls.takeS s k ho now ttl=s:=by unfold Ls.takeS;rw[if_neg (by rw[e1];omega)]
  rw[e1,e2,e3];have CM:=zh (jee W k ho now ttl HKS.out (x:=false) (by simpa using hr));clear e1 e2 e3 hr RIs;go_enter Tryz.func117,Tryz.ntmps117;go_wp2_with(go_at_call 160;(with_reducible refine CM.out.mono ?_);rintro e w1 ⟨rfl,rfl⟩);exact bodyPost_ret (v:= .tuple #[.int .i64 0,.int .i64 1]) (by simp[results,Tryz.results117,go_sem]) rfl (jga HX.out H0.out (Below.refl _ _) _)
 have CM:=zh (jee W k ho now ttl HKS.out (x:=true) (by simpa using hr));have HR:=zh hr;obtain⟨a,ha⟩:∃a,a=Ls.holderOf s.l k:=⟨_,rfl⟩;obtain⟨b,hb⟩:∃b,b=Ls.epochOf s.l k:=⟨_,rfl⟩;obtain⟨c,hc⟩:∃c,c=Ls.tillOf s.l k:=⟨_,rfl⟩;have TT:=zh (Ls.till_time H0.out.good k);rw[<-hc]at TT;have EP:=zh (And.intro (Ls.epoch_pos H0.out.good k) (Ls.few_epoch HF.out k));rw[<-hb]at EP;have EA:=zh ha.symm;have EB:=zh hb.symm;have EC:=zh hc.symm;have FI:=zh (Ls.free_iff H0.out.good k now);rw[<-hc]at FI;have CFx:Hid (∀x:Bool,(x=true↔Ls.Free s k now)->∀W,Calls Tryz.prog 159 #[.agg #[.int .i64 a,.int .i64 b,.int .i64 c],.int .i64 now,.int .i64 s.margin] W (fun e w'=>e= .returned (.bool x)/\Below W.heap.size W w')):=fun x hx W=>jg1 W a b c now s.margin TT.out.1 TT.out.2 H0.out.good.m0 H0.out.good.m1 (hx.trans FI.out);clear ha hb hc hr RIs;by_cases hfr:Ls.Free s k now
 case neg=>
  have e1:Ls.takeE s k ho now ttl=9:=by unfold Ls.takeE;rw[if_neg (fun h=>h HR.out),if_pos hfr]
  have e2:Ls.takeN s k ho now ttl=0:=by unfold Ls.takeN;rw[if_neg (by rw[e1];omega)]
  have e3:Ls.takeS s k ho now ttl=s:=by unfold Ls.takeS;rw[if_neg (by rw[e1];omega)]
  rw[e1,e2,e3];have CF:=zh (CFx.out false (by simpa using hfr));clear e1 e2 e3 hfr CFx;go_enter Tryz.func117,Tryz.ntmps117;go_upto_region 3 with(go_at_call 160;(with_reducible refine CM.out.mono ?_);rintro e w1 ⟨rfl,rfl⟩)
  obtain⟨c0,c1,f1,hq⟩:=H0.out.cells;have hlk:=H0.out.look k HKS.out;rw[EA.out,EB.out,EC.out]at hlk;unfold leV at hlk;go_upto_region 4 with fail
  have B2:=zh ((Below.refl w1.heap.size w1).alloc (Nat.le_refl _) (.cells #[.int .i64 a,.int .i64 b,.int .i64 c] 189));have R2:=zh (heap_alloc_new w1 (.cells #[.int .i64 a,.int .i64 b,.int .i64 c] 189));have H2:=zh (H0.out.on B2.out);obtain⟨g,hg⟩:∃g,g=w1.heap.size:=⟨_,rfl⟩;rw[<-hg]at R2⊢;have GB:Hid (w1.heap.size<=g):=Nat.le_of_eq hg.symm;clear hg c0 c1 f1 hq hlk;generalize w1.alloc (.cells #[.int .i64 a,.int .i64 b,.int .i64 c] 189)=w2 at*;refine wp_region_held_drew (S:=fun W=>LsIs W q cs ty mo s/\W.heap[g]? =some (.cells #[.int .i64 a,.int .i64 b,.int .i64 c] 189 (0,0))) (by kernel_rfl) ⟨H2.out.on (Below.refl w2.heap.size w2).drew,R2.out⟩ (fun hS=> ?_);refine tZ 0 rfl (by intro W hW;have d0:=LsCells.c0 hW.2;have d1:=LsCells.c1 hW.2;have d2:=LsCells.c2 hW.2;go_simp;(try with_reducible rfl)) hS ?_;refine tY 1 hS ?_;refine tY 2 hS ?_;refine tY 3 hS ?_;refine tY 4 hS ?_;refine tZ 5 rfl (by intro W hW;obtain⟨c0,c1,f1,hq⟩:=hW.1.cells;go_simp;(try with_reducible rfl)) hS ?_;simp only[Act.put,zT,zO,zS];refine rO 6 (fun K hK=> ?_);go_simp
  with_reducible refine(CF.out _).mono ?_
  rintro e w3 ⟨rfl,hb⟩;have hS2:LsIs w3 q cs ty mo s/\_:=⟨hS.1.on hb,jag hS.2 hb⟩;have B3:=zh (B2.out.drew.trans (hb.mono B2.out.drew.size));clear hS hb;have hS:=hS2;clear hS2;refine hK.out _ _ hS (fun _=> ?_);clear hK K;refine tY 7 hS ?_;simp only[Act.put,zT,zO,zS];refine wpAnyH_done (by kernel_rfl) ?_ _;go_wp2_with fail;exact bodyPost_ret (v:= .tuple #[.int .i64 0,.int .i64 9]) (by simp[results,Tryz.results117,go_sem]) rfl (jga HX.out H0.out B3.out _)
 case pos=>
  have e1:Ls.takeE s k ho now ttl=0:=by unfold Ls.takeE;rw[if_neg (fun h=>h HR.out),if_neg (fun h=>h hfr)]
  have e2:Ls.takeN s k ho now ttl=b+1:=by unfold Ls.takeN;rw[if_pos e1,EB.out]
  have e3:Ls.takeS s k ho now ttl=⟨s.margin,Ls.put s.l ⟨k,ho,b+1,Ls.late now ttl,false⟩⟩:=by unfold Ls.takeS;rw[if_pos e1];unfold Ls.taken;rw[EB.out]
  have GD:=Ls.taken_good H0.out.good HR.out;have FW:=Ls.take_few HF.out k ho now ttl;unfold Ls.taken at GD;rw[EB.out]at GD;rw[e3]at FW;rw[e1,e2,e3];have CF:=zh (CFx.out true (by simpa using hfr));have CL:=zh (fun W=>jdu W now ttl (by have:=HR.out.2.2.2.2.1.1;omega) (by have:=HR.out.2.2.2.2.1.2;omega) (by have:=HR.out.2.2.2.2.2.1;omega) (by have:=HR.out.2.2.2.2.2.2;omega));generalize Ls.late now ttl=d at*;have CP:Hid (∀W,LsIs W q cs ty mo s->Calls Tryz.prog 163 #[.pointer (some ⟨q,0,none⟩),.string k,.agg #[.int .i64 ho,.int .i64 (b+1),.int .i64 d]] W (LsPut W q cs ty mo ⟨s.margin,Ls.put s.l ⟨k,ho,b+1,d,false⟩⟩)):=fun W h=>jil W q cs ty mo s h k HKS.out ho (b+1) d false GD FW;have hs1:IntKind.i64.wrap (b+1)=b+1:=by have:=EP.out.1;have:=EP.out.2;rw[IntKind.wrap_i64];omega
  have hs2:wrap64 (b+1)=b+1:=by have:=EP.out.1;have:=EP.out.2;exact IntWalk.wrap64_in _ ⟨zv,zv⟩
  clear e1 e2 e3 hfr CFx GD FW;go_enter Tryz.func117,Tryz.ntmps117;go_upto_region 3 with(go_at_call 160;(with_reducible refine CM.out.mono ?_);rintro e w1 ⟨rfl,rfl⟩)
  obtain⟨c0,c1,f1,hq⟩:=H0.out.cells;have hlk:=H0.out.look k HKS.out;rw[EA.out,EB.out,EC.out]at hlk;unfold leV at hlk;go_upto_region 4 with fail
  have B2:=zh ((Below.refl w1.heap.size w1).alloc (Nat.le_refl _) (.cells #[.int .i64 a,.int .i64 b,.int .i64 c] 189));have R2:=zh (heap_alloc_new w1 (.cells #[.int .i64 a,.int .i64 b,.int .i64 c] 189));have H2:=zh (H0.out.on B2.out);obtain⟨g,hg⟩:∃g,g=w1.heap.size:=⟨_,rfl⟩;rw[<-hg]at R2⊢;have GB:Hid (w1.heap.size<=g):=Nat.le_of_eq hg.symm;clear hg c0 c1 f1 hq hlk;generalize w1.alloc (.cells #[.int .i64 a,.int .i64 b,.int .i64 c] 189)=w2 at*;refine wp_region_held_drew (S:=fun W=>LsIs W q cs ty mo s/\W.heap[g]? =some (.cells #[.int .i64 a,.int .i64 b,.int .i64 c] 189 (0,0))) (by kernel_rfl) ⟨H2.out.on (Below.refl w2.heap.size w2).drew,R2.out⟩ (fun hS=> ?_);refine tZ 0 rfl (by intro W hW;have d0:=LsCells.c0 hW.2;have d1:=LsCells.c1 hW.2;have d2:=LsCells.c2 hW.2;go_simp;(try with_reducible rfl)) hS ?_;refine tY 1 hS ?_;refine tY 2 hS ?_;refine tY 3 hS ?_;refine tY 4 hS ?_;refine tZ 5 rfl (by intro W hW;obtain⟨c0,c1,f1,hq⟩:=hW.1.cells;go_simp;(try with_reducible rfl)) hS ?_;simp only[Act.put,zT,zO,zS];refine rO 6 (fun K hK=> ?_);go_simp
  with_reducible refine(CF.out _).mono ?_
  rintro e w3 ⟨rfl,hb⟩;have hS2:LsIs w3 q cs ty mo s/\_:=⟨hS.1.on hb,jag hS.2 hb⟩;have B3:=zh (B2.out.drew.trans (hb.mono B2.out.drew.size));clear hS hb;have hS:=hS2;clear hS2;refine hK.out _ _ hS (fun _=> ?_);clear hK K;refine tY 7 hS ?_;simp only[Act.put,zT,zO,zS];refine wpAnyH_done (by kernel_rfl) ?_ _;go_upto_region 6 with fail
  have H4:=zh (hS.1.on (Below.refl w3.heap.size w3).drew);have RW:=zh hS.2;have B4:=zh B3.out.drew;have NG:Hid (¬(g=q\/mo=some g)):=fun h=>by
   have:=GB.out;rcases h with rfl|h
   ·have:=HX.out.lt g HX.out.q;omega
   ·have:=HX.out.lt g (HX.out.m g h);omega
  clear hS;refine wp_region_held_drew (S:=fun W=>W.heap[g]? =some (.cells #[.int .i64 a,.int .i64 b,.int .i64 c] 189 (0,0))) (by kernel_rfl) RW.out (fun hS=> ?_);refine tY 0 hS ?_;refine tY 1 hS ?_;refine tY 2 hS ?_;refine tY 3 hS ?_;refine tZ 4 rfl (by intro W hW;have d0:=LsCells.c0 hW;have d1:=LsCells.c1 hW;have d2:=LsCells.c2 hW;go_simp;(try with_reducible rfl)) hS ?_;refine tY 5 hS ?_;simp only[Act.put,zT,zO,zS];refine tY 6 hS ?_;refine tY 7 hS ?_;simp only[Act.put,zT,zO,zS];refine rO 8 (fun K hK=> ?_);go_simp
  with_reducible refine(CL.out _).mono ?_
  rintro e w4 ⟨rfl,hw⟩;obtain rfl:=hw.symm;refine hK.out _ _ hS (fun _=> ?_);clear hK K;refine tY 9 hS ?_;simp only[Act.put,zT,zO,zS];refine rO 10 (fun K hK=> ?_);go_simp
  with_reducible refine(CP.out _ H4.out).mono ?_
  rintro e w5 ⟨mo5,rfl,hm5,hk5,hn5⟩;have hS2:=(hk5.block g (Array.getElem?_eq_some_iff.1 hS).1 NG.out).trans hS;have M5:=zh hm5;have K5:=zh hk5;have N5:=zh hn5;clear hS hm5 hk5 hn5;have hS:=hS2;clear hS2;refine hK.out _ _ hS (fun _=> ?_);clear hK K;try simp only[Act.put,zT,zO,zS]
  refine wpAnyH_done (by kernel_rfl) ?_ _;have d0:=LsCells.c0 hS;have d1:=LsCells.c1 hS;have d2:=LsCells.c2 hS;go_wp2_with fail;exact bodyPost_ret (v:= .tuple #[.int .i64 (b+1),.int .i64 0]) (by simp[results,Tryz.results117,go_sem]) rfl (jj7 HX.out B4.out M5.out K5.out N5.out _)
end Go.Proofs.YtkcdaigaclpfjaaGreatDoor
