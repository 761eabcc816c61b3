import Derived.Test.YtpehidgjfcfjoaaGreatDoorQz12
import Derived.Test.YtpehidgjfcfjoaaGreatDoorQz15
import Derived.Lib.SmallJoins
import Derived.Lib.LaidTab
import Derived.Lib.LaidU8
import Derived.Deep.DeepAppendRoom
import Derived.Lib.SliceRun
import Derived.Laws.IdiomCopy
set_option maxHeartbeats 6400000
set_option maxRecDepth 100000
set_option linter.unusedSimpArgs false
set_option linter.unusedVariables false
namespace Go.Proofs.YtpehidgjfcfjoaaGreatDoor
open Go.RowKit Go.Deep Go.Maps
structure jc7(w:World)(q oq:Nat)(cs:Array Value)(ty:TypeId)(m:Nat)(r:Int)(l:List Kv.En):Prop where
 row:w.heap[q]? =some (.cells cs ty (0,0))
 k0:cs[oq]? =some (.int .i64 r)
 k1:cs[oq+1]? =some (.map (some m))
 nos:jm3 cs
 map:jbr Tryz.prog 9 w m l
theorem jc7.ne{w:World}{q oq m:Nat}{cs:Array Value}{ty:TypeId}{r:Int}{l:List Kv.En}(h:jc7 w q oq cs ty m r l):q≠m:=fun e=>by
 obtain⟨D,⟨es,clock,hb,_⟩,_⟩:=h.map;have:=h.row;rw[e,hb]at this;injection this with this
 cases this
theorem jc7.cells{w:World}{q oq m:Nat}{cs:Array Value}{ty:TypeId}{r:Int}{l:List Kv.En}(h:jc7 w q oq cs ty m r l):w.cell? ⟨q,oq,none⟩=some (.int .i64 r)/\w.cell? ⟨q,oq+1,none⟩=some (.map (some m))/\w.frozen? ⟨q,oq,none⟩=false/\q<w.heap.size:=
 ⟨by rw[cell_of_row w q oq _ _ _ h.row];exact h.k0,by rw[cell_of_row w q (oq+1) _ _ _ h.row];exact h.k1,frozen_of_row _ _ _ _ _ h.row,(Array.getElem?_eq_some_iff.1 h.row).1⟩
theorem jc7.on{w w':World}{q oq m:Nat}{cs:Array Value}{ty:TypeId}{r:Int}{l:List Kv.En}(h:jc7 w q oq cs ty m r l)(hb:Below w.heap.size w w'):jc7 w' q oq cs ty m r l:=⟨(hb.block q h.cells.2.2.2).trans h.row,h.k0,h.k1,h.nos,h.map.keep (hb.block m h.map.lt)⟩
theorem jc7.turned{w w':World}{q oq m:Nat}{cs:Array Value}{ty:TypeId}{r:Int}{l l':List Kv.En}(h:jc7 w q oq cs ty m r l)(ht:w.mapTurned w' m)(hm:jbr Tryz.prog 9 w' m l'):jc7 w' q oq cs ty m r l':=
 ⟨(ht.grown.block q h.cells.2.2.2 (fun e=>h.ne (by injection e))).trans h.row,h.k0,h.k1,h.nos,hm⟩
theorem jeq{w w':World}{b i:Nat}(h:w'.heap[b]? =w.heap[b]?):w'.cell? ⟨b,i,none⟩=w.cell? ⟨b,i,none⟩:=by unfold World.cell?;rw[h]
theorem SlR.poH{w:World}{b o n c:Nat}{l:List Kv.Po}(h:SlP w (some ⟨b,o,none⟩) n c l){j:Nat}{x:Kv.Po}(hx:l[j]? =some x){w':World}(hb:w'.heap[b]? =w.heap[b]?):
  w'.cell? ⟨b,o+j*4,none⟩=some (.string x.key)/\w'.cell? ⟨b,o+j*4+1,none⟩=some (.string x.val)/\w'.cell? ⟨b,o+j*4+2,none⟩=some (.int .i64 x.rev)/\w'.cell? ⟨b,o+j*4+3,none⟩=some (.bool x.drop):=by
 obtain⟨h0,h1,h2,h3⟩:=h.po hx (Below.refl _ _);exact⟨(jeq hb).trans h0,(jeq hb).trans h1,(jeq hb).trans h2,(jeq hb).trans h3⟩
theorem jgn(t k e:TypeId)(m:Option Nat)(w:World)(h:Tryz.prog.underlying t=some (.map k e)):(binOp .eql t (.map m) (.map none)).run Tryz.prog w= .ok (.bool m.isNone) w:=by
 simp only[binOp];simp[run_equal_map_nil w t k e m h]
theorem ji7{w:World}{q oq b o n c:Nat}{cs:Array Value}{ty:TypeId}{mo:Option Nat}{s:Kv.St}{l:List Kv.Po}(hk:KvIs w q oq cs ty mo s)(h:SlP w (some ⟨b,o,none⟩) n c l)(hl:0<l.length):b≠q/\mo≠some b/\b<w.heap.size:=by
 obtain⟨h0,_⟩:=h.po (List.getElem?_eq_getElem hl) (Below.refl _ _);refine⟨fun e=> ?_,fun e=> ?_,(h.cell hl).1⟩
 ·subst e
  rw[cell_of_row _ _ _ _ _ _ hk.row]at h0;exact hk.nos _ _ h0
 ·subst e
  obtain⟨D,⟨es,clock,hb,_⟩,_⟩:=show jbr Tryz.prog 9 w b s.l from hk.map
  simp[World.cell?,hb]at h0
theorem jgo(w:World)(q oq:Nat)(cs:Array Value)(ty:TypeId)(m:Nat)(r:Int)(L:List Kv.En)(x:Kv.Po)(h:jc7 w q oq cs ty m r L)(hr:Kv.Rise L)(hl:L.length<=1000000)(hk:x.key.size<=maxLen):
  Calls Tryz.prog 206 #[.pointer (some ⟨q,oq,none⟩),opV x] w (fun e w'=>e= .returned (.tuple #[])/\jc7 w' q oq cs ty m r (Kv.step r L x)/\Kept (fun i=>i=m) w w'):=by
 have Q1:=heap_alloc_new w (.cells #[.string x.key,.string x.val,.int .i64 x.rev,.bool x.drop] 220);have BN:=zh ((Below.refl w.heap.size w).alloc (Nat.le_refl _) (.cells #[.string x.key,.string x.val,.int .i64 x.rev,.bool x.drop] 220));have M2:=zh (h.on BN.out);have KS:=zh hk;have RI:=zh hr;have LB:=zh hl;have QH:=zh Q1;clear h hk hr hl Q1;obtain⟨ws,hws⟩:∃ws,ws=w.alloc (.cells #[.string x.key,.string x.val,.int .i64 x.rev,.bool x.drop] 220):=⟨_,rfl⟩;obtain⟨g,hg⟩:∃g,g=w.heap.size:=⟨_,rfl⟩;rw[<-hws,<-hg]at QH;rw[<-hws]at BN M2;have c0:ws.cell? ⟨g,0,none⟩=some (.string x.key):=by rw[cell_of_row ws g 0 _ _ _ QH.out];rfl
 have c1:ws.cell? ⟨g,1,none⟩=some (.string x.val):=by rw[cell_of_row ws g 1 _ _ _ QH.out];rfl
 have c3:ws.cell? ⟨g,3,none⟩=some (.bool x.drop):=by rw[cell_of_row ws g 3 _ _ _ QH.out];rfl
 obtain⟨d0,d1,d2,d3⟩:=M2.out.cells;have M3:=zh (M2.out.on (Below.refl ws.heap.size ws).drew);have K3:=zh ((Kept.of_below (F:=fun i=>i=m) BN.out).trans (Kept.of_below (F:=fun _=>False) (Below.refl ws.heap.size ws).drew) fun _ _ hf=>hf.elim);have HWS:=zh hws;have HG:=zh hg
 cases hd:x.drop with
 |true=>
  have SE:Hid (Kv.step r L x=Kv.dropK L x.key):=by show _=_;unfold Kv.step;rw[if_pos hd]
  obtain⟨wd,hrun,hmd,htd⟩:=js6 Tryz.underlying9 Tryz.underlying86 M3.out.map RI.out x.key KS.out 0;have M4:=zh (M3.out.turned htd hmd);have K4:=zh (K3.out.trans (G:=fun i=>i=m) (Kept.of_grown htd.grown (fun k hk=>by injection hk with hk;exact hk.symm)) fun _ _ hi=>hi)
  rw[hd]at c3;clear hmd htd hws hg;rw[SE.out];unfold opV;obtain⟨key,val,rev,drop⟩:=x;simp only at*;obtain rfl:=hd;go_in;go_upto_region 1 with fail
  rw[<-HWS.out,<-HG.out];clear HWS HG;go_wp2_with fail;go_region;go_wp2;go_end0;exact⟨rfl,M4.out,K4.out⟩
 |false=>
  have SE:Hid (Kv.step r L x=Kv.putK (Kv.dropK L x.key) ⟨x.key,x.val,r⟩):=by show _=_;unfold Kv.step;rw[if_neg (by rw[hd];simp)]
  obtain⟨wd,hrun,hmd,htd⟩:=put_run Tryz.underlying9 Tryz.underlying86 M3.out.map RI.out LB.out x.key x.val r KS.out;have M4:=zh (M3.out.turned htd hmd);have K4:=zh (K3.out.trans (G:=fun i=>i=m) (Kept.of_grown htd.grown (fun k hk=>by injection hk with hk;exact hk.symm)) fun _ _ hi=>hi)
  rw[hd]at c3;clear hmd htd hws hg;rw[SE.out];unfold opV;obtain⟨key,val,rev,drop⟩:=x;simp only at*;obtain rfl:=hd;go_in;go_upto_region 1 with fail
  rw[<-HWS.out,<-HG.out];clear HWS HG;go_wp2_with fail;go_region;go_wp2;go_end0;exact⟨rfl,M4.out,K4.out⟩
def jku(cs:Array Value)(oq:Nat)(r:Int)(mo:Option Nat):Array Value:=(cs.setIfInBounds (oq+1) (.map mo)).setIfInBounds oq (.int .i64 r)
theorem jm9{cs:Array Value}{oq:Nat}{r:Int}{mo:Option Nat}(h0:cs[oq]? =some (.int .i64 r))(h1:cs[oq+1]? =some (.map mo)):jku cs oq r mo=cs:=by unfold jku;rw[jgl h1,jgl h0]
theorem jpf{cs:Array Value}{oq:Nat}(r:Int){mo:Option Nat}(h1:cs[oq+1]? =some (.map mo)):jku cs oq r mo=cs.setIfInBounds oq (.int .i64 r):=by unfold jku;rw[jgl h1]
def KbDo(q oq:Nat)(cs:Array Value)(ty:TypeId)(mo:Option Nat)(s:Kv.St)(ops:List Kv.Po)(W:World)(e:Ending)(w':World):Prop:=
 ∃mo',e= .returned (.tuple #[.int .i64 (Kv.doN s ops),.int .i64 (Kv.doE s ops:Nat)])/\KvIs w' q oq (jku cs oq (Kv.doS s ops).rev mo') ty mo' (Kv.doS s ops)/\Kept (fun i=>i=q\/mo=some i) W w'/\∀m,mo'=some m->mo=some m\/W.heap.size<=m
theorem jtb(W:World)(q oq:Nat)(cs:Array Value)(ty:TypeId)(mo:Option Nat)(s:Kv.St)(n c:Nat)(A:Option Addr)(l:List Kv.Po)(hk:KvIs W q oq cs ty mo s)(hrv:s.rev<=1000)(h:SlP W A n c l)(hz:l.length<=70):
  Calls Tryz.prog 166 #[.pointer (some ⟨q,oq,none⟩),.slice A n c] W (KbDo q oq cs ty mo s l W):=by
 have hn:=h.len;have hmx:=h.max;have hcp:=h.cap;unfold maxLen at hmx;have hr0:=hk.good.rev0;have HA:=zh h;have HN:=zh hn;have HZ:=zh hz;have HK:=zh hk;have HK0:=zh hk.k0;have HK1:=zh hk.k1;have NS:=zh hk.nos;have STAY:∀{w':World},Below W.heap.size W w'->Kv.doE s l≠0->KbDo q oq cs ty mo s l W (.returned (.tuple #[.int .i64 0,.int .i64 (Kv.doE s l:Nat)])) w':=fun{w'} hb h0=>by
  refine⟨mo,by rw[(Kv.doS_no h0).2],?_,Kept.of_below hb,fun _ h=> .inl h⟩;rw[(Kv.doS_no h0).1,jm9 HK0.out HK1.out];exact HK.out.on hb
 have ST:Hid (∀{w':World},Below W.heap.size W w'->Kv.doE s l≠0->KbDo q oq cs ty mo s l W (.returned (.tuple #[.int .i64 0,.int .i64 (Kv.doE s l:Nat)])) w'):=STAY;have CA:=zh (jpe W q oq cs ty mo s l n c A W HK.out HA.out (Below.refl _ _) HZ.out);have heq:=fun m w=>jgn _ _ _ m w Tryz.underlying86;clear h hn hk hz STAY;by_cases h0:Kv.doE s l=0
 ·have H0:=zh h0
  rw[h0]at CA;clear h0
  cases mo with
  |some m=>
   go_in;go_upto_region 4 with(go_at_call 205;(with_reducible refine CA.out.mono ?_);rintro e w2 ⟨rfl,hb2⟩;have B2:=zh hb2;clear hb2)
   obtain⟨c0,c1,f0,hq⟩:=(HK.out.on B2.out).cells;have MID:Hid (jc7 (w2.setCell ⟨q,oq,none⟩ (.int .i64 (s.rev+1))) q oq (cs.setIfInBounds oq (.int .i64 (s.rev+1))) ty m (s.rev+1) s.l):=⟨heap_setCell_same _ _ _ _ _ _ (HK.out.on B2.out).row,jkq HK0.out,jh0 HK1.out zv,NS.out.set _ (fun _ e=>by cases e),jbr.keep (HK.out.on B2.out).map (heap_setCell_other _ _ _ _ (by simpa using(HK.out.on B2.out).ne.symm))⟩;have KP:Hid (Kept (fun i=>i=q\/some m=some i) W (w2.setCell ⟨q,oq,none⟩ (.int .i64 (s.rev+1)))):=(Kept.of_below (F:=fun i=>i=q\/some m=some i) B2.out).trans (G:=fun i=>i=q) (Kept.of_grown (row:=some q) (jad _ _ _ _) (fun k hk=>by injection hk with hk;exact hk.symm)) fun i _ hi=> .inl hi
   have HM0:Hid (m<W.heap.size->some m=some m):=fun _=>rfl;go_wp2_with fail;generalize w2.setCell ⟨q,oq,none⟩ (.int .i64 (s.rev+1))=w3 at*;clear c0 c1 f0 hq;go_loopw [33] (fun i wr=>∃j:Nat,j<=n/\i= .int .i64 j/\jc7 wr q oq (cs.setIfInBounds oq (.int .i64 (s.rev+1))) ty m (s.rev+1) ((l.take j).foldl (Kv.step (s.rev+1)) s.l)/\Kept (fun i=>i=q\/some m=some i) W wr/\(m<W.heap.size->some m=some m)) (fun i _=>n -(intOf i).toNat)
   case atStart=>exact⟨0,zv,rfl,MID.out,KP.out,fun _=>rfl⟩
   case round=>
    obtain⟨j,hj,rfl,hm,hkp,hm0⟩:=hrel;have MD:=zh hm;have KE:=zh hkp;have HM1:=zh hm0;clear hm hkp hm0;by_cases hlt:j<n
    ·obtain⟨b1,o1,rfl⟩:=HA.out.addr (by have:=HN.out;omega)
     have EA:Hid (l[j]? =some (l[j]'(by have:=HN.out;omega))):=List.getElem?_eq_getElem _;generalize l[j]'(by have:=HN.out;omega)=x at*;have AP:=ji7 HK.out HA.out (by have:=HN.out;omega);obtain⟨p0,p1,p2,p3⟩:=HA.out.poH EA.out (KE.out.block b1 AP.2.2 (by rintro(e|e);exact AP.1 e;exact AP.2.1 e));have KS:=zh (HA.out.poOk (List.mem_of_getElem? EA.out)).1;have LS:=zh (Kv.steps_snoc (s.rev+1) EA.out s.l);have RI:=zh (Kv.steps_rise (r:=s.rev+1) (ops:=l.take j) HK.out.good.rise);have LB:Hid (((l.take j).foldl (Kv.step (s.rev+1)) s.l).length<=1000000):=by
      have h1:=Kv.steps_length (s.rev+1) (l.take j) s.l;rw[List.length_take]at h1;have:=HK.out.good.len;have:=HZ.out;show _<=_;omega
     generalize(l.take j).foldl (Kv.step (s.rev+1)) s.l=L at*;clear AP;have Q1:=zh (heap_alloc_new wr (.cells #[.string x.key,.string x.val,.int .i64 x.rev,.bool x.drop] 220));have BN:=zh ((Below.refl wr.heap.size wr).alloc (Nat.le_refl _) (.cells #[.string x.key,.string x.val,.int .i64 x.rev,.bool x.drop] 220));have M2:=zh (MD.out.on BN.out);have K2:=zh (KE.out.trans (Kept.of_below (F:=fun _=>False) BN.out) fun _ _ hf=>hf.elim);have CP:=zh (jgo _ q oq _ ty m _ L x M2.out RI.out LB.out KS.out);rw[<-LS.out]at CP;go_wp2_with(go_at_call 206;(with_reducible refine CP.out.mono ?_);rintro e w4 ⟨rfl,hm4,hk4⟩;have M4:=zh hm4;have K4:=zh (K2.out.trans hk4 (fun i hi e=>by subst e;exact .inr rfl));clear hm4 hk4);exact⟨⟨j+1,zv,by go_num,M4.out,K4.out,by simp⟩,by simp[intOf];omega⟩
    ·have E:Hid (l.take j=l):=List.take_of_length_le (by have:=HN.out;omega)
     rw[E.out]at MD;obtain⟨d0,d1,d2,d3⟩:=MD.out.cells;go_wp2_with fail;have hok:=Kv.doS_ok H0.out;have hgd:=Kv.doS_good HK.out.good l;have hp:KbDo q oq cs ty (some m) s l W (.returned (.tuple #[.int .i64 (s.rev+1),.int .i64 0])) wr:=by
      refine⟨some m,by rw[hok.2,H0.out];rfl,?_,KE.out,fun _ h=> .inl h⟩;rw[hok.1]at hgd⊢;rw[jpf _ HK1.out];exact⟨MD.out.row,MD.out.k0,MD.out.k1,MD.out.nos,MD.out.map,hgd⟩
     exact bodyPost_ret (v:= .tuple #[.int .i64 (s.rev+1),.int .i64 0]) (by simp[results,Tryz.results166,go_sem]) rfl hp
  |none=>
   go_in;have hmm:=@run_makeMap Tryz.prog;go_upto_region 4 with(go_at_call 205;(with_reducible refine CA.out.mono ?_);rintro e w2 ⟨rfl,hb2⟩;have B2:=zh hb2;clear hb2)
   obtain⟨c0,c1,f0,hq⟩:=(HK.out.on B2.out).cells;have f1:w2.frozen? ⟨q,oq+1,none⟩=false:=frozen_of_row _ _ _ _ _ (HK.out.on B2.out).row;have BM:=zh ((Below.refl w2.heap.size w2).alloc (Nat.le_refl _) (.map #[] 0));have S0:=zh (jbr.made (P:=Tryz.prog) (kt:=9) w2);have RW:=zh ((HK.out.on B2.out).on BM.out).row;have EL:Hid (s.l=[]):=HK.out.map;have MID:Hid (jc7 ((w2.alloc (.map #[] 0)).setCell ⟨q,oq+1,none⟩ (.map (some w2.heap.size))) q oq (cs.setIfInBounds (oq+1) (.map (some w2.heap.size))) ty w2.heap.size s.rev s.l):=⟨heap_setCell_same _ _ _ _ _ _ RW.out,jh0 HK0.out zv,jkq HK1.out,NS.out.set _ (fun _ e=>by cases e),by rw[EL.out];exact S0.out.keep (heap_setCell_other _ _ _ _ (by simp;omega))⟩;have KP:Hid (Kept (fun i=>i=q\/none=some i) W ((w2.alloc (.map #[] 0)).setCell ⟨q,oq+1,none⟩ (.map (some w2.heap.size)))):=(Kept.of_below (F:=fun i=>i=q\/none=some i) (B2.out.trans (BM.out.mono B2.out.size))).trans (G:=fun i=>i=q) (Kept.of_grown (row:=some q) (jad _ _ _ _) (fun k hk=>by injection hk with hk;exact hk.symm)) fun i _ hi=> .inl hi
   have HM0:Hid (w2.heap.size<W.heap.size->none=some w2.heap.size):=fun h=>by have:=B2.out.size;omega
   have EW:Hid ((w2.alloc (.map #[] 0)).setCell ⟨q,oq+1,none⟩ (.map (some w2.heap.size))=(w2.setCell ⟨q,oq+1,none⟩ (.map (some w2.heap.size))).alloc (.map #[] 0)):=World.setCell_alloc_past _ _ _ _ hq;rw[EW.out]at MID KP;go_upto_region 6 with fail
   obtain⟨m,hm⟩:∃m,m=w2.heap.size:=⟨_,rfl⟩;rw[<-hm]at MID KP HM0⊢;clear hm hmm c0 c1 f0 f1 hq BM S0 RW EW;generalize(w2.setCell ⟨q,oq+1,none⟩ (.map (some m))).alloc (.map #[] 0)=w5 at*;obtain⟨c0,c1,f0,hq⟩:=MID.out.cells;have MID:Hid (jc7 (w5.setCell ⟨q,oq,none⟩ (.int .i64 (s.rev+1))) q oq (jku cs oq (s.rev+1) (some m)) ty m (s.rev+1) s.l):=⟨heap_setCell_same _ _ _ _ _ _ MID.out.row,jkq MID.out.k0,jh0 MID.out.k1 zv,MID.out.nos.set _ (fun _ e=>by cases e),MID.out.map.keep (heap_setCell_other _ _ _ _ (by simpa using MID.out.ne.symm))⟩;have KP:Hid (Kept (fun i=>i=q\/none=some i) W (w5.setCell ⟨q,oq,none⟩ (.int .i64 (s.rev+1)))):=KP.out.trans (G:=fun i=>i=q) (Kept.of_grown (row:=some q) (jad _ _ _ _) (fun k hk=>by injection hk with hk;exact hk.symm)) fun i _ hi=> .inl hi
   go_wp2_with fail;generalize w5.setCell ⟨q,oq,none⟩ (.int .i64 (s.rev+1))=w3 at*;clear c0 c1 f0 hq;go_loopw [33] (fun i wr=>∃j:Nat,j<=n/\i= .int .i64 j/\jc7 wr q oq (jku cs oq (s.rev+1) (some m)) ty m (s.rev+1) ((l.take j).foldl (Kv.step (s.rev+1)) s.l)/\Kept (fun i=>i=q\/none=some i) W wr/\(m<W.heap.size->none=some m)) (fun i _=>n -(intOf i).toNat)
   case atStart=>exact⟨0,zv,rfl,MID.out,KP.out,HM0.out⟩
   case round=>
    obtain⟨j,hj,rfl,hm,hkp,hm0⟩:=hrel;have MD:=zh hm;have KE:=zh hkp;have HM1:=zh hm0;clear hm hkp hm0;by_cases hlt:j<n
    ·obtain⟨b1,o1,rfl⟩:=HA.out.addr (by have:=HN.out;omega)
     have EA:Hid (l[j]? =some (l[j]'(by have:=HN.out;omega))):=List.getElem?_eq_getElem _;generalize l[j]'(by have:=HN.out;omega)=x at*;have AP:=ji7 HK.out HA.out (by have:=HN.out;omega);obtain⟨p0,p1,p2,p3⟩:=HA.out.poH EA.out (KE.out.block b1 AP.2.2 (by rintro(e|e);exact AP.1 e;exact AP.2.1 e));have KS:=zh (HA.out.poOk (List.mem_of_getElem? EA.out)).1;have LS:=zh (Kv.steps_snoc (s.rev+1) EA.out s.l);have RI:=zh (Kv.steps_rise (r:=s.rev+1) (ops:=l.take j) HK.out.good.rise);have LB:Hid (((l.take j).foldl (Kv.step (s.rev+1)) s.l).length<=1000000):=by
      have h1:=Kv.steps_length (s.rev+1) (l.take j) s.l;rw[List.length_take]at h1;have:=HK.out.good.len;have:=HZ.out;show _<=_;omega
     generalize(l.take j).foldl (Kv.step (s.rev+1)) s.l=L at*;clear AP;have Q1:=zh (heap_alloc_new wr (.cells #[.string x.key,.string x.val,.int .i64 x.rev,.bool x.drop] 220));have BN:=zh ((Below.refl wr.heap.size wr).alloc (Nat.le_refl _) (.cells #[.string x.key,.string x.val,.int .i64 x.rev,.bool x.drop] 220));have M2:=zh (MD.out.on BN.out);have K2:=zh (KE.out.trans (Kept.of_below (F:=fun _=>False) BN.out) fun _ _ hf=>hf.elim);have CP:=zh (jgo _ q oq _ ty m _ L x M2.out RI.out LB.out KS.out);rw[<-LS.out]at CP;go_wp2_with(go_at_call 206;(with_reducible refine CP.out.mono ?_);rintro e w4 ⟨rfl,hm4,hk4⟩;have M4:=zh hm4;have K4:=zh (K2.out.trans hk4 (fun i hi e=>by subst e;exact .inr (HM1.out hi)));clear hm4 hk4);exact⟨⟨j+1,zv,by go_num,M4.out,K4.out,HM1.out⟩,by simp[intOf];omega⟩
    ·have E:Hid (l.take j=l):=List.take_of_length_le (by have:=HN.out;omega)
     rw[E.out]at MD;obtain⟨d0,d1,d2,d3⟩:=MD.out.cells;go_wp2_with fail;have hok:=Kv.doS_ok H0.out;have hgd:=Kv.doS_good HK.out.good l;have hp:KbDo q oq cs ty none s l W (.returned (.tuple #[.int .i64 (s.rev+1),.int .i64 0])) wr:=by
      refine⟨some m,by rw[hok.2,H0.out];rfl,?_,KE.out,fun k hk=> .inr ?_⟩
      ·rw[hok.1]at hgd⊢
       exact⟨MD.out.row,MD.out.k0,MD.out.k1,MD.out.nos,MD.out.map,hgd⟩
      ·injection hk with hk
       rcases Nat.lt_or_ge m W.heap.size with h|h
       ·exact absurd (HM1.out h) (by simp)
       ·omega
     exact bodyPost_ret (v:= .tuple #[.int .i64 (s.rev+1),.int .i64 0]) (by simp[results,Tryz.results166,go_sem]) rfl hp
 ·have H0:=zh h0
  obtain⟨z,hz⟩:∃z,z=Kv.doE s l:=⟨_,rfl⟩;rw[<-hz]at h0 CA;have hz0:((z:Int)==0)=false:=by rw[beq_eq_false_iff_ne];omega
  have HZ1:=zh hz;clear hz;go_in;go_wp2_with(go_at_call 205;(with_reducible refine CA.out.mono ?_);rintro e w2 ⟨rfl,hb2⟩;have B2:=zh hb2;clear hb2);have hs:=ST.out B2.out H0.out;rw[<-HZ1.out]at hs;exact bodyPost_ret (v:= .tuple #[.int .i64 0,.int .i64 (z:Nat)]) (by simp[results,Tryz.results166,go_sem]) rfl hs
end Go.Proofs.YtpehidgjfcfjoaaGreatDoor
namespace Go.Proofs.YtpehidgjfcfjoaaGreatDoor
open Go.RowKit
theorem g_pow:Tryz.prog.globalNamed "internal/strconv.uint64pow10" =some 4:=by kernel_rfl
structure Tb(w:World):Prop where
 pow:Lib.TabIs Tryz.prog w "internal/strconv.uint64pow10" .u64 Lib.pow10Tab
theorem Tb.on{w w':World}(h:Tb w)(hb:Below w.heap.size w w'):Tb w':=⟨Joins.tab_stays g_pow h.pow hb (Nat.le_refl _)⟩
theorem ji8(w:World)(k:Nat)(os:Array Obj):Below w.heap.size w (Go.Sort.grow (w.drewN k) os):=
 ⟨rfl,rfl,rfl,by show w.heap.size<=(w.heap++os).size;rw[Array.size_append];omega,fun j hj=>by show(w.heap++os)[j]? =_;rw[Array.getElem?_append_left hj]⟩
theorem jtc(n:Int)(hn:Spc.i64 n)(w:World)(ht:Tb w):Calls Tryz.prog 179 #[.int .i64 n] w (APos w (.string (txt (Spc.digs n)))):=by
 refine(Tryz.strconv_Itoa n hn.1 hn.2 w ht.pow).mono ?_;rintro e w' ⟨rfl,k,os,rfl⟩;rw[Spc.itoa_txt];exact⟨rfl,ji8 _ _ _⟩
open Go
def jpg{H:Type}:DataW H->List Value
 | .lit (.int k n)=>[.int k n]
 | .lit (.bool b)=>[.bool b]
 | .lit (.string l)=>[.string ⟨l.toArray⟩]
 |_=>[]
def jtd{H:Type}:DataW H->List Value
 | .agg ds=>ds.flatMap jpg
 |d=>jpg d
def leaf3{H:Type}:DataW H->List Value
 | .agg ds=>ds.flatMap jtd
 |d=>jtd d
section
variable{H:Type}{enc:TypeId×Value->H}{P:Program}{w:World}{base:Nat}{spare:Nat->Bool}{held:Bool}{t e:TypeId}
def jph(enc:TypeId×Value->H)(P:Program)(w:World)(base:Nat)(spare:Nat->Bool)(held:Bool)(t:TypeId)(L:DataW H->List Value):Prop:=
 ∀fuel cs x,DataW.trod enc P w base spare held fuel t cs=some x->cs=L x.1
theorem jpi{k:IntKind}(he:P.underlying t=some (.int k)):jph enc P w base spare held t jpg:=fun fuel cs x h=>by
 obtain⟨n,rfl,rfl,_⟩:=DataW.trod_int he h;rfl
theorem jpj(he:P.underlying t=some .string):jph enc P w base spare held t jpg:=fun fuel cs x h=>by
 cases fuel with
 |zero=>simp[DataW.trod]at h
 |succ m=>
  unfold DataW.trod at h;rw[he]at h;split at h<;>simp_all;obtain⟨_,h⟩:=h;subst h;rfl
theorem chunks{k n:Nat}:∀{cs:List Value},cs.length=n*k->∀{c:Nat->List Value},(∀i,i<n->(cs.drop (i*k)).take k=c i)->cs=(List.range n).flatMap c:=by
 induction n with
 |zero=>
  intro cs hl c _;rw[Nat.zero_mul]at hl;rw[List.length_eq_zero_iff.1 hl];rfl
 |succ n ih=>
  intro cs hl c hc;have h0:=hc 0 zv;rw[Nat.zero_mul,List.drop_zero]at h0;have hl2:(cs.drop k).length=n*k:=by rw[List.length_drop,hl,Nat.succ_mul];omega
  have h1:=ih hl2 (c:=fun i=>c (i+1)) (fun i hi=>by
   have:=hc (i+1) zv;rw[<-this,List.drop_drop,Nat.succ_mul,Nat.add_comm])
  rw[List.range_succ_eq_map,List.flatMap_cons,List.flatMap_map,<-h0]
  conv=>lhs;rw[<-List.take_append_drop k cs]
  rw[h1]
theorem jgp{n:Nat}{L L2:DataW H->List Value}(hL:∀ds,L2 (.agg ds)=ds.flatMap L)(he:jph enc P w base spare held e L)(ht:P.underlying t=some (.array n e))(hc:P.cellsOf t=n*P.cellsOf e):jph enc P w base spare held t L2:=fun fuel cs x h=>by
 obtain⟨xs,m,rfl,rfl,hl,hxl,hi⟩:=DataW.trod_array ht h;rw[hc]at hl;have h2:=chunks hl (c:=fun i=>L ((xs.map (·.1)).getD i .nil)) (fun i hi2=>by
  have h3:=hi i hi2;have h4:xs[i]? =some (xs[i]'zv):=List.getElem?_eq_getElem _;rw[h4]at h3;have h5:=he _ _ _ h3;rw[h5,List.getD_eq_getElem?_getD,List.getElem?_map,h4];rfl)
 show cs=L2 (.agg (xs.map (·.1)));rw[hL];rw[h2];have:∀(ds:List (DataW H)),(List.range ds.length).flatMap (fun i=>L (ds.getD i .nil))=ds.flatMap L:=by
  intro ds
  induction ds with
  |nil=>rfl
  |cons d ds ih=>
   rw[List.length_cons,List.range_succ_eq_map,List.flatMap_cons,List.flatMap_map,List.flatMap_cons]
   congr 1
 have h6:=this (xs.map (·.1));rw[List.length_map,hxl]at h6;exact h6
end
def jha(P:Program)(w:World)(name:String)(cs:List Value):Prop:=w.var? P name=some cs.toArray
theorem jls{P:Program}{W:World}{name:String}{d:DataW Unit}{l:List (String×DataW Unit)}{g:Nat}{t:TypeId}{L:DataW Unit->List Value}(hm:laidMet P l W)(hd:(name,d)∈l)(hg:P.globalNamed name=some g)(hty:(P.globals[g]?).map (·.type)=some t)
  (hT:∀w base spare held,jph (fun _=>()) P w base spare held t L):jha P W name (L d):=by
 obtain⟨g',t',cs,fuel,p,h1,h2,h3,h4⟩:=Lib.laidMet.reads hm hd;rw[hg]at h1;obtain rfl:=Option.some.inj h1;rw[hty]at h2;obtain rfl:=Option.some.inj h2;have:=hT _ _ _ _ _ _ _ h4;unfold jha;rw[h3,<-this]
theorem jha.on{P:Program}{w w':World}{name:String}{cs:List Value}{g:Nat}(hg:P.globalNamed name=some g)(h:jha P w name cs)(hb:Below w.heap.size w w'):jha P w' name cs:=Joins.var_stays hg h hb (Nat.le_refl _)
theorem jha.cell{P:Program}{w:World}{name:String}{cs:List Value}{g:Nat}(hg:P.globalNamed name=some g)(h:jha P w name cs){i:Nat}{v:Value}(hi:cs[i]? =some v):w.cell? ⟨g,i,none⟩=some v:=by
 unfold jha World.var? at h;rw[hg]at h;simp only[Option.bind_some]at h;split at h
 ·rename_i c T fr hh
  obtain rfl:=Option.some.inj h;rw[cell_of_row w g i _ _ _ hh];simpa using hi
 ·cases h
end Go.Proofs.YtpehidgjfcfjoaaGreatDoor
namespace Go.Proofs.YtpehidgjfcfjoaaGreatDoor
open Go.RowKit
theorem jkv:Tryz.prog.globalNamed "pacesetter/phase.leads" =some 1:=by kernel_rfl
theorem jh2:Tryz.prog.globalNamed "pacesetter/phase.words" =some 0:=by kernel_rfl
def jte(p e:Int):Int:=if Ph.to_ p e= -1 then 0 else Ph.to_ p e
theorem jtf{p e:Int}(h:Ph.to_ p e= -1):jte p e=0:=if_pos h
theorem jpk{p e:Int}(h:Ph.to_ p e≠-1):jte p e=Ph.to_ p e:=if_neg h
theorem to_pos{p e:Int}(h:Ph.to_ p e≠-1):Ph.to_ p e≠0:=by
 exact zz1a
def jpl:List Value:=[0,1,2,3,4,5].flatMap fun p=>[0,1,2,3,4,5,6,7,8].map fun e=> .int .i64 (jte p e)
def jpm:List Value:=[0,1,2,3,4,5,6,7,8].map fun e=> .string (Ph.word e)
structure PT(w:World):Prop where
 leads:jha Tryz.prog w "pacesetter/phase.leads" jpl
 words:jha Tryz.prog w "pacesetter/phase.words" jpm
theorem PT.on{w w':World}(h:PT w)(hb:Below w.heap.size w w'):PT w':=⟨h.leads.on jkv hb,h.words.on jh2 hb⟩
theorem jpn(p e:Nat)(hp:p<6)(he:e<9):jpl[p*9+e]? =some (.int .i64 (jte p e)):=by
 rcases p with _|_|_|_|_|_|p
 all_goals first|omega|skip
 all_goals rcases e with _|_|_|_|_|_|_|_|_|e
 all_goals first|rfl|omega
theorem ji9(p:Nat)(hp:p<9):jpm[p]? =some (.string (Ph.word p)):=by
 rcases p with _|_|_|_|_|_|_|_|_|p
 all_goals first|rfl|omega
theorem zz2u{p:Prop}(h:p:=by
 rw[decide_eq_true h1,decide_eq_false h2]
 go_in;go_wp2;go_ret;exact⟨rfl,rfl⟩):p:=h
theorem zz2w{p:Prop}(h:p:=by
 rw[decide_eq_true h1,decide_eq_true h2]
 go_in;go_wp2;go_ret;exact⟨rfl,rfl⟩):p:=h
theorem jtg(n:Int)(w:World):Calls Tryz.prog 208 #[.int .i64 n] w fun x w'=>x= .returned (.bool (decide (0<=n)&&decide (n<6)))/\w'=w:=by
 by_cases h1:0<=n
 ·by_cases h2:n<6
  ·exact zz2w
  ·exact zz2u
 ·rw[decide_eq_false h1]
  go_in;go_wp2;go_ret;exact⟨rfl,rfl⟩
theorem jlt(n:Int)(w:World):Calls Tryz.prog 209 #[.int .i64 n] w fun x w'=>x= .returned (.bool (decide (0<=n)&&decide (n<9)))/\w'=w:=by
 by_cases h1:0<=n
 ·by_cases h2:n<9
  ·exact zz2w
  ·exact zz2u
 ·rw[decide_eq_false h1]
  go_in;go_wp2;go_ret;exact⟨rfl,rfl⟩
theorem zz18{p:Prop}(h:p:=by
 go_in
 go_wp2_with(first
  |(go_at_call 208;(with_reducible refine(HI.out _).mono ?_);rintro x w1 ⟨rfl,rfl⟩)
  |(go_at_call 209;(with_reducible refine(HJ.out _).mono ?_);rintro x w1 ⟨rfl,rfl⟩))
 go_ret2;exact⟨rfl,B.out⟩):p:=h
theorem jpo(p e:Int)(hp:i64P p)(he:i64P e)(w:World)(ht:PT w):Calls Tryz.prog 170 #[.int .i64 p,.int .i64 e] w (jfi w (.int .i64 (Ph.next p e)) (.bool (Ph.did p e))):=by
 have B:=zh (Below.refl w.heap.size w);have CI:=zh (fun n W=>jtg n W);have CJ:=zh (fun n W=>jlt n W);by_cases h1:0<=p/\p<6
 ·obtain⟨k,rfl⟩:=Int.eq_ofNat_of_zero_le h1.1
  by_cases h2:0<=e/\e<9
  ·obtain⟨j,rfl⟩:=Int.eq_ofNat_of_zero_le h2.1
   have hc:=ht.leads.cell jkv (jpn k j zv zv);have hi:=fun W=>CI.out (k:Int) W;have hj:=fun W=>CJ.out (j:Int) W;rw[decide_eq_true h1.1,decide_eq_true h1.2]at hi;rw[decide_eq_true h2.1,decide_eq_true h2.2]at hj;have HI:=zh hi;have HJ:=zh hj;have a1:=h1.1;have a2:=h1.2;have a3:=h2.1;have a4:=h2.2;clear hi hj CI CJ ht hp he h1 h2;by_cases hd:Ph.to_ (k:Nat) (j:Nat)= -1
   ·rw[(Ph.next_no hd).1,(Ph.next_no hd).2]
    rw[jtf hd]at hc;clear hd;exact zz18
   ·rw[(Ph.next_yes rfl hd).1,(Ph.next_yes rfl hd).2]
    have hq:(Ph.to_ (k:Nat) (j:Nat)==0)=false:=by rw[beq_eq_false_iff_ne];exact to_pos hd
    rw[jpk hd]at hc;clear hd;generalize Ph.to_ (k:Nat) (j:Nat)=x at*;exact zz18
  ·have hf:=Ph.far (p:=(k:Nat)) (e:=e) (.inr zv)
   rw[(Ph.next_no hf).1,(Ph.next_no hf).2];have hi:=fun W=>CI.out (k:Int) W;have hj:=fun W=>CJ.out e W;rw[decide_eq_true h1.1,decide_eq_true h1.2]at hi;have hz:(decide (0<=e)&&decide (e<9))=false:=by rw[Bool.and_eq_false_iff,decide_eq_false_iff_not,decide_eq_false_iff_not];omega
   rw[hz]at hj;have HI:=zh hi;have HJ:=zh hj;clear hi hj CI CJ ht hp he h1 h2 hz hf;exact zz18
 ·have hf:=Ph.far (p:=p) (e:=e) (.inl zv)
  rw[(Ph.next_no hf).1,(Ph.next_no hf).2];have hi:=fun W=>CI.out p W;have hz:(decide (0<=p)&&decide (p<6))=false:=by rw[Bool.and_eq_false_iff,decide_eq_false_iff_not,decide_eq_false_iff_not];omega
  rw[hz]at hi;have HI:=zh hi;clear hi CI CJ ht hp he h1 hz hf;go_in;go_wp2_with(go_at_call 208;(with_reducible refine(HI.out _).mono ?_);rintro x w1 ⟨rfl,rfl⟩);go_ret2;exact⟨rfl,B.out⟩
theorem jpp{n:Int}(h: -1000<=n/\n<=1000):i64P n:=by unfold i64P;omega
theorem zz1u{p:Prop}(h:p:=by
 go_in;go_wp2_with(go_at_call 209;(with_reducible refine(HI.out _).mono ?_);rintro x w1 ⟨rfl,rfl⟩);go_ret;exact⟨rfl,B.out⟩):p:=h
theorem jpq(p:Int)(w:World)(ht:PT w):Calls Tryz.prog 171 #[.int .i64 p] w (jba w (.string (Ph.word p))):=by
 have B:=zh (Below.refl w.heap.size w);have hi:=fun W=>jlt p W;by_cases h1:0<=p/\p<9
 ·obtain⟨k,rfl⟩:=Int.eq_ofNat_of_zero_le h1.1
  have hc:=ht.words.cell jh2 (ji9 k zv);rw[decide_eq_true h1.1,decide_eq_true h1.2]at hi;have HI:=zh hi;have a1:=h1.1;have a2:=h1.2;clear hi ht h1;generalize Ph.word (k:Nat)=u at*;exact zz1u
 ·rw[Ph.word_none zv]
  have hz:(decide (0<=p)&&decide (p<9))=false:=by rw[Bool.and_eq_false_iff,decide_eq_false_iff_not,decide_eq_false_iff_not];omega
  rw[hz]at hi;have HI:=zh hi;clear hi ht h1 hz;exact zz1u
theorem pof_any(t:ByteArray)(w:World)(ht:PT w):Calls Tryz.prog 169 #[.string t] w (jfi w (.int .i64 (Ph.of t)) (.bool (Ph.isWord t))):=by
 have HW:=zh (fun j (hj:j<9)=>ht.words.cell jh2 (ji9 j hj));have B:=zh (Below.refl w.heap.size w);clear ht;go_in;go_wp2_with fail;go_loopw [5] (fun i wr=>∃k:Nat,k<=9/\i= .int .i64 k/\(∀j,j<k->Ph.word (j:Nat)≠t)/\wr=w) (fun i _=>9 -(intOf i).toNat)
 case atStart=>exact⟨0,zv,rfl,fun j hj=>by omega,rfl⟩
 case round=>
  obtain⟨k,hk,rfl,hj,rfl⟩:=hrel;have HJ:=zh hj;clear hj;by_cases hlt:k<9
  ·have hi:(k:Int)<9:=by omega
   have hc:=HW.out k hlt;by_cases he:Ph.word (k:Nat)=t
   ·have hts:((Ph.word (k:Nat)).toList==t.toList)=true:=by rw[jb2];exact decide_eq_true he
    have EP:Hid (Ph.place t=k):=Ph.place_is t hlt he HJ.out;clear he;generalize Ph.word (k:Nat)=u at*;go_wp2;go_ret2;refine⟨?_,B.out⟩;have h1:Ph.of t=(k:Nat):=by unfold Ph.of;rw[EP.out,if_pos hlt]
    have h2:Ph.isWord t=true:=by unfold Ph.isWord;rw[EP.out];exact decide_eq_true hlt
    rw[h1,h2];rfl
   ·have hts:((Ph.word (k:Nat)).toList==t.toList)=false:=by rw[jb2];exact decide_eq_false he
    have HE:=zh he;clear he;generalize hu:Ph.word (k:Nat)=u at*;have HU:=zh hu;clear hu;go_wp2_with fail;refine⟨⟨k+1,zv,by go_num,fun j hj=> ?_,trivial⟩,by simp[intOf];omega⟩;by_cases e:j=k
    ·subst e;rw[HU.out];exact HE.out
    ·exact HJ.out j zv
  ·exact zz16
theorem jpr(p:Int)(w:World):Calls Tryz.prog 167 #[.int .i64 p] w (jba w (.bool (Ph.open_ p))):=by
 have B:=zh (Below.refl w.heap.size w);by_cases h:p=1\/p=2\/p=4
 ·rcases h with rfl|rfl|rfl
  all_goals
   go_in;go_wp2;go_ret;exact⟨rfl,B.out⟩
 ·rw[show Ph.open_ p=false from by unfold Ph.open_;simp;omega]
  have q1:(p==1)=false:=by rw[beq_eq_false_iff_ne];omega
  have q2:(p==2)=false:=by rw[beq_eq_false_iff_ne];omega
  have q4:(p==4)=false:=by rw[beq_eq_false_iff_ne];omega
  clear h;go_in;go_wp2;go_ret;exact⟨rfl,B.out⟩open Go.Maps
structure BT(w:World):Prop where
 pow:Tb w
 ph:PT w
theorem BT.on{w w':World}(h:BT w)(hb:Below w.heap.size w w'):BT w':=⟨h.pow.on hb,h.ph.on hb⟩
structure BdIs(w:World)(q:Nat)(s:Bk.St)(ru:Nat->Bk.Un)(rv:Int)(lo ko:Option Nat)(H:Value)(K:Kv.St):Prop where
 at_:BdAt w q s ru rv (.map lo) (.map ko) H
 ls:LM.Opt w lo (Ls.zOf (Bd.tab s).l) (Bd.tab s).l.length
 kv:MapO w ko K.l
 kg:Kv.Good K
 kr:K.rev=rv
 kb:rv<=s.vs.length
 dg:Bd.Digs K s.vs
 raw:Bd.Raw ru s.us
 h:OwF Bk.rcC 18 60 w 0 H s.h
 lk:∀m,lo=some m->ko≠some m
 lok:Bd.Lok s
section
variable{w w':World}{q:Nat}{s:Bk.St}{ru:Nat->Bk.Un}{rv:Int}{lo ko:Option Nat}{H:Value}{K:Kv.St}
theorem jna{H:Value}{e:TypeId}{w:World}{B:Nat}{l:List Rc.R}(h:OwF Bk.rcC 18 e w B H l):∀t,H≠ .string t:=by
 obtain⟨A,c,rfl⟩:=h.form;intro t e
 cases e
theorem zz1t{p:Prop}(h:p:=by
 unfold Bd.tab at he;by_cases h0:s.ep=0
 ·simp[h0]at he
 ·simp only[if_neg h0,List.mem_singleton]at he
  subst he;show s.ep<=_;omega):p:=h
theorem zz37{p:Prop}(h:p:=by
 unfold Bd.tab
 show(if s.ep=0 then[]else[_]).length<=_;split<;>simp):p:=h
theorem BdIs.lsIs(h:BdIs w q s ru rv lo ko H K):LsIs w q (Bd.cells s ru rv (.map lo) (.map ko) H) 90 lo (Bd.tab s):=by
 refine⟨h.at_.row,rfl,rfl,h.ls,Bd.tab_good h.lok,fun e he=> ?_,?_⟩
 ·have:=h.lok.ok.ep
  exact zz1t
 ·exact zz37
theorem BdIs.kvIs(h:BdIs w q s ru rv lo ko H K):KvIs w q 2 (Bd.cells s ru rv (.map lo) (.map ko) H) 90 ko K:=
 ⟨h.at_.row,by rw[h.kr];rfl,rfl,Bd.nostr (fun t e=>by cases e) (fun t e=>by cases e) (jna h.h),h.kv,h.kg⟩
theorem BdIs.qh(h:BdIs w q s ru rv lo ko H K):H.ownBlock≠some q:=by
 intro e;rcases h.h.2 with⟨rfl,_⟩|⟨g,cap,cur,rfl,hg,hh,r⟩
 ·cases e
 ·have e2:g=q:=by injection e
  subst e2;have:=h.at_.row;rw[hh]at this;injection this with this
  injection this with _ this
  exact absurd this (by decide)
theorem BdIs.ql(h:BdIs w q s ru rv lo ko H K):lo≠some q:=fun e=>(LsIs.ne (e▸h.lsIs)) rfl
theorem BdIs.qk(h:BdIs w q s ru rv lo ko H K):ko≠some q:=fun e=>(KvIs.ne (e▸h.kvIs)) rfl
theorem jnb{w:World}{m:Nat}{l:List Kv.En}(h:MapO w (some m) l):∃es clock,w.heap[m]? =some (.map es clock):=by
 obtain⟨D,⟨es,clock,hb,_⟩,_⟩:=show jbr Tryz.prog 9 w m l from h
 exact⟨es,clock,hb⟩
theorem zz1n{p:Prop}(h:p:=by
 rcases h.h.2 with⟨rfl,_⟩|⟨g,cap,cur,rfl,hg,hh,r⟩
 ·cases e2
 ·have e3:g=m:=by injection e2
  subst e3;rw[hh]at hb;injection hb with hb
  cases hb):p:=h
theorem BdIs.hl(h:BdIs w q s ru rv lo ko H K):∀m,lo=some m->H.ownBlock≠some m:=by
 intro m e e2;subst e;obtain⟨es,clock,hb⟩:=MapW.At.block (M:=LM) h.ls;exact zz1n
theorem BdIs.hk(h:BdIs w q s ru rv lo ko H K):∀m,ko=some m->H.ownBlock≠some m:=by
 intro m e e2;subst e;obtain⟨es,clock,hb⟩:=jnb h.kv;exact zz1n
theorem BdIs.keep(h:BdIs w q s ru rv lo ko H K)(h1:w'.heap[q]? =w.heap[q]?)(h2:∀m,lo=some m->w'.heap[m]? =w.heap[m]?)(h3:∀m,ko=some m->w'.heap[m]? =w.heap[m]?)(h4:∀m,H.ownBlock=some m->w'.heap[m]? =w.heap[m]?):BdIs w' q s ru rv lo ko H K:=
 {h with at_:=h.at_.keep h1,ls:=h.ls.keep h2,kv:=h.kv.keep h3,h:=h.h.keep h4}
theorem BdIs.lt(h:BdIs w q s ru rv lo ko H K):q<w.heap.size/\(∀m,lo=some m->m<w.heap.size)/\(∀m,ko=some m->m<w.heap.size)/\∀m,H.ownBlock=some m->m<w.heap.size:=
 ⟨h.at_.lt,fun m e=>by subst e;exact MapW.Opt.lt h.ls,fun m e=>by subst e;exact MapO.lt h.kv,fun m e=>(h.h.lt m e).2⟩
theorem BdIs.on(h:BdIs w q s ru rv lo ko H K)(hb:Below w.heap.size w w'):BdIs w' q s ru rv lo ko H K:=
 h.keep (hb.block q h.lt.1) (fun m e=>hb.block m (h.lt.2.1 m e)) (fun m e=>hb.block m (h.lt.2.2.1 m e)) (fun m e=>hb.block m (h.lt.2.2.2 m e))
def BdF(q:Nat)(lo ko:Option Nat)(H:Value)(i:Nat):Prop:=i=q\/lo=some i\/ko=some i\/H.ownBlock=some i
theorem BdIs.ltF(h:BdIs w q s ru rv lo ko H K):∀i,BdF q lo ko H i->i<w.heap.size:=by
 rintro i (rfl|e|e|e)
 ·exact h.lt.1
 ·exact h.lt.2.1 i e
 ·exact h.lt.2.2.1 i e
 ·exact h.lt.2.2.2 i e
end
def BdP:jo3:=fun w X q s=>∃ru rv lo ko H K,BdIs w q s ru rv lo ko H K/\(∀i,BdF q lo ko H i->X i)/\∀i,X i->i<w.heap.size
def jay(q:Nat)(lo ko:Option Nat)(H:Value)(s':Bk.St)(v:Value)(W:World)(e:Ending)(w':World):Prop:=
 ∃ru' rv' lo' ko' H' K',e= .returned v/\BdIs w' q s' ru' rv' lo' ko' H' K'/\Kept (BdF q lo ko H) W w'/\∀i,BdF q lo' ko' H' i->BdF q lo ko H i\/W.heap.size<=i
section
variable{W W1 w':World}{X:Nat->Prop}{q:Nat}{s s':Bk.St}{ru:Nat->Bk.Un}{rv:Int}{lo ko:Option Nat}{H:Value}{K:Kv.St}{v:Value}{e:Ending}
theorem jay.turn(hX:∀i,BdF q lo ko H i->X i)(hl:∀i,X i->i<W.heap.size)(h:jay q lo ko H s' v W e w'):BTurn BdP X q s' v W e w':=by
 obtain⟨ru',rv',lo',ko',H',K',h1,h2,h3,h4⟩:=h;refine⟨fun i=>X i\/BdF q lo' ko' H' i,h1,⟨ru',rv',lo',ko',H',K',h2,fun i hi=> .inr hi,fun i hi=> ?_⟩,fun i hi=> ?_,h3.more fun i _ hi=>hX i hi⟩
 ·rcases hi with hi|hi
  ·exact Nat.lt_of_lt_of_le (hl i hi) h3.size
  ·exact h2.ltF i hi
 ·rcases hi with hi|hi
  ·exact .inl hi
  ·rcases h4 i hi with h5|h5
   ·exact .inl (hX i h5)
   ·exact .inr h5
theorem jay.stay(h:BdIs W q s ru rv lo ko H K)(hb:Below W.heap.size W w')(v:Value):jay q lo ko H s v W (.returned v) w':=
 ⟨ru,rv,lo,ko,H,K,rfl,h.on hb,Kept.of_below hb,fun _ hi=> .inl hi⟩
theorem jay.ahead(hb:Below W.heap.size W W1)(h:jay q lo ko H s' v W1 e w')(hl:∀i,BdF q lo ko H i->i<W.heap.size):jay q lo ko H s' v W e w':=by
 obtain⟨ru',rv',lo',ko',H',K',h1,h2,h3,h4⟩:=h;exact⟨ru',rv',lo',ko',H',K',h1,h2,(Kept.of_below (F:=BdF q lo ko H) hb).trans h3 fun _ _ h=>h,fun i hi=>(h4 i hi).imp id (Nat.le_trans hb.size)⟩
theorem jay.ret(h:jay q lo ko H s' v W e w')(u:Value):jay q lo ko H s' u W (.returned u) w':=by
 obtain⟨ru',rv',lo',ko',H',K',h1,h2,h3,h4⟩:=h;exact⟨ru',rv',lo',ko',H',K',rfl,h2,h3,h4⟩
end
open Go.Deep
theorem jnc(W:World)(p:Value)(k:ByteArray)(a b c:Int)(f:Bool)(CG:Calls Tryz.prog 163 #[p,.string k] W (fun e w'=>e= .returned (.tuple #[leV a b c,.bool f])/\Below W.heap.size W w'))(ho ep now:Int){z:Bool}(hz:z=true↔(a=ho/\b=ep)/\(c≠0/\now<c)):
  Calls Tryz.prog 159 #[p,.string k,.int .i64 ho,.int .i64 ep,.int .i64 now] W (fun e w'=>e= .returned (.bool z)/\Below W.heap.size W w'):=by
 have CG:=zh CG;by_cases h1:a=ho/\b=ep
 ·have C1:=zh (fun W=>jhz W a b c ho ep (x:=true) (by simp[h1]))
  have C2:=zh (fun W=>je7 W a b c now (x:=z) (by rw[hz];simp[h1]));clear hz h1;unfold leV at*;go_in;go_upto_region 2 with(go_at_call 163;(with_reducible refine CG.out.mono ?_);rintro e w1 ⟨rfl,hb⟩;have B1:=zh hb;clear hb)
  have B2:=zh (B1.out.alloc (by have:=B1.out.size;omega) (.cells #[.int .i64 a,.int .i64 b,.int .i64 c] 215));have R2:=zh (heap_alloc_new w1 (.cells #[.int .i64 a,.int .i64 b,.int .i64 c] 215));obtain⟨g,hg⟩:∃g,g=w1.heap.size:=⟨_,rfl⟩;rw[<-hg]at R2⊢;generalize w1.alloc (.cells #[.int .i64 a,.int .i64 b,.int .i64 c] 215)=w2 at*;have d0:=LsCells.c0 R2.out;have d1:=LsCells.c1 R2.out;have d2:=LsCells.c2 R2.out;have HG:=zh hg;clear hg
  go_wp2_with(first
   |(go_at_call 197;(with_reducible refine(C1.out _).mono ?_);rintro e w3 ⟨rfl,hb⟩;have B3:=zh (B2.out.trans (hb.mono B2.out.size));have R3:=jag R2.out hb;have e0:=LsCells.c0 R3;have e1:=LsCells.c1 R3;have e2:=LsCells.c2 R3;clear hb R3)
   |(go_at_call 198;(with_reducible refine(C2.out _).mono ?_);rintro e w4 ⟨rfl,hb⟩;have B4:=zh (B3.out.trans (hb.mono B3.out.size));clear hb))
  go_ret;exact⟨rfl,B4.out⟩
 ·have C1:=zh (fun W=>jhz W a b c ho ep (x:=false) (by simpa using h1))
  obtain rfl:z=false:=by rw[Bool.eq_false_iff];intro h;exact h1 (hz.1 h).1
  clear hz h1;unfold leV at*;go_in;go_upto_region 2 with(go_at_call 163;(with_reducible refine CG.out.mono ?_);rintro e w1 ⟨rfl,hb⟩;have B1:=zh hb;clear hb)
  have B2:=zh (B1.out.alloc (by have:=B1.out.size;omega) (.cells #[.int .i64 a,.int .i64 b,.int .i64 c] 215));have R2:=zh (heap_alloc_new w1 (.cells #[.int .i64 a,.int .i64 b,.int .i64 c] 215));obtain⟨g,hg⟩:∃g,g=w1.heap.size:=⟨_,rfl⟩;rw[<-hg]at R2⊢;generalize w1.alloc (.cells #[.int .i64 a,.int .i64 b,.int .i64 c] 215)=w2 at*;have d0:=LsCells.c0 R2.out;have d1:=LsCells.c1 R2.out;have d2:=LsCells.c2 R2.out;have HG:=zh hg;clear hg;go_wp2_with(go_at_call 197;(with_reducible refine(C1.out _).mono ?_);rintro e w3 ⟨rfl,hb⟩;have B3:=zh (B2.out.trans (hb.mono B2.out.size));clear hb);go_ret;exact⟨rfl,B3.out⟩
theorem jja(W:World)(q:Nat)(cs:Array Value)(ty:TypeId)(mo:Option Nat)(s:Ls.St)(h:LsIs W q cs ty mo s)(k:ByteArray)(hk:k.size<=maxLen)(ho ep now:Int){z:Bool}(hz:z=true↔Ls.Holds s k ho ep now):
  Calls Tryz.prog 159 #[.pointer (some ⟨q,0,none⟩),.string k,.int .i64 ho,.int .i64 ep,.int .i64 now] W (fun e w'=>e= .returned (.bool z)/\Below W.heap.size W w'):=
 jnc W _ k _ _ _ _ (jdt W q cs ty mo s h k hk) ho ep now (hz.trans (Ls.holds_is h.good k ho ep now))
open Classical in
noncomputable def Ls.notE(s:Ls.St)(k:ByteArray)(h ep:Int):Nat:=match Ls.find s.l k with
 |none=>5
 |some e=>if Ls.Other e h ep then 8 else 0
open Classical in
theorem Ls.notE_is{s:Ls.St}{k:ByteArray}{h ep:Int}{f x:Bool}(hf:(Ls.find s.l k).isSome=f)(hx:x=true↔Ls.holderOf s.l k=h/\Ls.epochOf s.l k=ep):Ls.notE s k h ep=if f then(if x then 0 else 8)else 5:=by
 unfold Ls.notE Ls.holderOf Ls.epochOf at*
 cases he:Ls.find s.l k with
 |none=>rw[he]at hf;subst hf;rfl
 |some e=>
  rw[he]at hf hx;subst hf;show(if Ls.Other e h ep then 8 else 0)=if x then 0 else 8
  unfold Ls.Other;by_cases h1:e.holder=h/\e.epoch=ep
  ·rw[if_neg zv,if_pos (hx.2 h1)]
  ·rw[if_pos zv,if_neg (fun h=>h1 (hx.1 h))]
theorem jps(W:World)(q:Nat)(cs:Array Value)(ty:TypeId)(mo:Option Nat)(s:Ls.St)(h:LsIs W q cs ty mo s)(k:ByteArray)(hk:k.size<=maxLen)(ho ep:Int):
  Calls Tryz.prog 201 #[.pointer (some ⟨q,0,none⟩),.string k,.int .i64 ho,.int .i64 ep] W (fun e w'=>e= .returned (.int .i64 (Ls.notE s k ho ep:Nat))/\Below W.heap.size W w'):=by
 have CG:=zh (jdt W q cs ty mo s h k hk);obtain⟨x,hx⟩:∃x:Bool,x=true↔Ls.holderOf s.l k=ho/\Ls.epochOf s.l k=ep:=⟨decide _,decide_eq_true_iff⟩;have EN:=zh (Ls.notE_is (f:=(Ls.find s.l k).isSome) rfl hx);unfold LGet lval at CG;rw[EN.out];clear EN;generalize(Ls.find s.l k).isSome=f at*;generalize Ls.holderOf s.l k=a at*;generalize Ls.epochOf s.l k=b at*;generalize Ls.tillOf s.l k=c at*;have C1:=zh (fun W=>jhz W a b c ho ep hx);clear h hk hx;unfold leV at*
 cases f with
 |false=>
  go_in;go_upto_region 2 with(go_at_call 163;(with_reducible refine CG.out.mono ?_);rintro e w1 ⟨rfl,hb⟩;have B1:=zh hb;clear hb)
  have B2:=zh (B1.out.alloc (by have:=B1.out.size;omega) (.cells #[.int .i64 a,.int .i64 b,.int .i64 c] 215));go_wp2;go_ret;exact⟨rfl,B2.out⟩
 |true=>
  cases x with
  |false=>
   go_in;go_upto_region 2 with(go_at_call 163;(with_reducible refine CG.out.mono ?_);rintro e w1 ⟨rfl,hb⟩;have B1:=zh hb;clear hb)
   have B2:=zh (B1.out.alloc (by have:=B1.out.size;omega) (.cells #[.int .i64 a,.int .i64 b,.int .i64 c] 215));go_wp2_with(go_at_call 197;(with_reducible refine(C1.out _).mono ?_);rintro e w3 ⟨rfl,hb⟩;have B3:=zh (B2.out.trans (hb.mono B2.out.size));clear hb);go_ret;exact⟨rfl,B3.out⟩
  |true=>
   go_in;go_upto_region 2 with(go_at_call 163;(with_reducible refine CG.out.mono ?_);rintro e w1 ⟨rfl,hb⟩;have B1:=zh hb;clear hb)
   have B2:=zh (B1.out.alloc (by have:=B1.out.size;omega) (.cells #[.int .i64 a,.int .i64 b,.int .i64 c] 215));go_wp2_with(go_at_call 197;(with_reducible refine(C1.out _).mono ?_);rintro e w3 ⟨rfl,hb⟩;have B3:=zh (B2.out.trans (hb.mono B2.out.size));clear hb);go_ret;exact⟨rfl,B3.out⟩
structure LsX(W:World)(X:Nat->Prop)(q:Nat)(mo:Option Nat):Prop where
 q:X q
 m:∀m,mo=some m->X m
 lt:∀i,X i->i<W.heap.size
def jlu(q:Nat)(cs:Array Value)(ty:TypeId)(mo:Option Nat)(s':Ls.St)(v:Value)(W:World)(e:Ending)(w':World):Prop:=
 ∃mo',e= .returned v/\LsIs w' q (cs.setIfInBounds 1 (.map mo')) ty mo' s'/\Kept (fun i=>i=q\/mo=some i) W w'/\∀m,mo'=some m->mo=some m\/W.heap.size<=m
theorem jgq{W w':World}{X:Nat->Prop}{q:Nat}{cs:Array Value}{ty:TypeId}{mo:Option Nat}{s:Ls.St}(_:LsX W X q mo)(h:LsIs W q cs ty mo s)(hb:Below W.heap.size W w')(v:Value):jlu q cs ty mo s v W (.returned v) w':=
 ⟨mo,rfl,by rw[set_same h.k1];exact h.on hb,Kept.of_below hb,fun _ hi=> .inl hi⟩
theorem jkw{W W1 w':World}{X:Nat->Prop}{q:Nat}{cs:Array Value}{ty:TypeId}{mo mo':Option Nat}{s':Ls.St}(_:LsX W X q mo)(hb:Below W.heap.size W W1)(h:LsIs w' q (cs.setIfInBounds 1 (.map mo')) ty mo' s')(hk:Kept (fun i=>i=q\/mo=some i) W1 w')(hm:∀m,mo'=some m->mo=some m\/W1.heap.size<=m)(v:Value):jlu q cs ty mo s' v W (.returned v) w':=
 ⟨mo',rfl,h,(Kept.of_below (F:=fun i=>i=q\/mo=some i) hb).trans hk fun _ _ h=>h,fun m e=>(hm m e).imp id (Nat.le_trans hb.size)⟩
structure RdW(w0:World)(q:Nat)(s:Bk.St)(ru:Nat->Bk.Un)(rv:Int)(lo ko:Option Nat)(H:Value)(K:Kv.St)(W:World):Prop where
 bd:BdIs W q s ru rv lo ko H K
 b:Below w0.heap.size w0 W
theorem RdW.on{w0 W W':World}{q:Nat}{s:Bk.St}{ru:Nat->Bk.Un}{rv:Int}{lo ko:Option Nat}{H:Value}{K:Kv.St}(h:RdW w0 q s ru rv lo ko H K W)(hb:Below W.heap.size W W'):RdW w0 q s ru rv lo ko H K W':=
 ⟨h.bd.on hb,h.b.trans (hb.mono h.b.size)⟩
theorem jlv(n:Int)(hn:Spc.i64 n)(w:World)(ht:BT w):Calls Tryz.prog 126 #[.int .i64 n] w (BRet (.string (Bd.key n)) w):=by
 have C:=zh (jtc n hn w ht.pow);unfold Bd.key;generalize txt (Spc.digs n)=k at*;clear ht hn;go_in;go_wp2_with(go_at_call 179;(with_reducible refine C.out.mono ?_);rintro e w1 ⟨rfl,hb⟩;have B:=zh hb;clear hb);go_ret;exact⟨rfl,B.out⟩
theorem jgr(q:Nat)(s:Bk.St)(ru:Nat->Bk.Un)(rv:Int)(lo ko:Option Nat)(H:Value)(K:Kv.St)(w:World)(h:BdIs w q s ru rv lo ko H K)(ht:BT w)(n:Int)(hn:Spc.i64 n):Calls Tryz.prog 66 #[.pointer (some ⟨q,0,none⟩),.int .i64 n] w (BRet (.tuple #[.string (Bk.text s.vs n),.bool (Bk.has s.vs n)]) w):=by
 have HT:=zh ht;have CK:Hid (∀W,BT W->Calls Tryz.prog 126 #[.int .i64 n] W (BRet (.string (Bd.key n)) W)):=fun W h=>jlv n hn W h;obtain⟨hv,hr⟩:=h.dg.val h.kg h.lok.ok.rise n;have KS:Hid ((Bd.key n).size<=maxLen):=by
  have:=Bd.digs_len hn;show(Bd.key n).size<=maxLen;unfold Bd.key maxLen;rw[jbl];omega
 have CG:Hid (∀W,RdW w q s ru rv lo ko H K W->Calls Tryz.prog 125 #[.pointer (some ⟨q,2,none⟩),.string (Bd.key n)] W (KGet K (Bd.key n) W)):=fun W h=>ji1 W _ ko K h.bd.kvIs.ask _ KS.out;unfold KGet at CG;rw[hv]at CG;have hne:(Kv.revOf K.l (Bd.key n) !=0)=Bk.has s.vs n:=by rw[Bool.eq_iff_iff,bne_iff_ne];exact hr
 have HNE:=zh hne;rw[<-HNE.out];have R0:=zh (RdW.mk h (Below.refl w.heap.size w));generalize Bk.text s.vs n=tx at*;generalize Kv.revOf K.l (Bd.key n)=rr at*;generalize Bd.key n=kk at*;clear hv hr hne HNE ht hn h KS;go_in;go_upto_region 3 with fail
 refine wp_region_held_drew (S:=RdW w q s ru rv lo ko H K) zk (R0.out.on (Below.refl w.heap.size w).drew) (fun hS=> ?_);refine tY 0 hS ?_;refine tY 1 hS ?_;refine tY 2 hS ?_;refine tY 3 hS ?_;simp only[Act.put,zT,zO,zS];refine rO 4 (fun K hK=> ?_);go_simp
 with_reducible refine(CK.out _ (HT.out.on hS.b)).mono ?_
 rintro e w7 ⟨rfl,hb⟩;replace hS:=hS.on hb;clear hb;refine hK.out _ _ hS (fun _=> ?_);clear hK K;try simp only[Act.put,zT,zO,zS]
 refine rO 5 (fun K hK=> ?_);go_simp
 with_reducible refine(CG.out _ hS).mono ?_
 rintro e w8 ⟨rfl,hb⟩;replace hS:=hS.on hb;clear hb;refine hK.out _ _ hS (fun _=> ?_);clear hK K;refine tY 6 hS ?_;refine tY 7 hS ?_;refine tY 8 hS ?_;refine tY 9 hS ?_;refine tY 10 hS ?_;simp only[Act.put,zT,zO,zS];refine wpAnyH_done zk ?_ _;have B:=zh hS.b;clear hS;go_wp2;go_ret2;exact⟨rfl,B.out⟩
theorem jlw(q:Nat)(s:Bk.St)(ru:Nat->Bk.Un)(rv:Int)(lo ko:Option Nat)(H:Value)(K:Kv.St)(w:World)(h:BdIs w q s ru rv lo ko H K)(ht:BT w)(n:Int)(hn:Spc.i64 n):Calls Tryz.prog 164 #[.pointer (some ⟨q,0,none⟩),.int .i64 n] w (BRet (.bool (Bk.has s.vs n)) w):=by
 have C:=zh (jgr q s ru rv lo ko H K w h ht n hn);generalize Bk.text s.vs n=tx at*;generalize Bk.has s.vs n=hx at*;clear h ht hn;go_in;go_wp2_with(go_at_call 66;(with_reducible refine C.out.mono ?_);rintro e w1 ⟨rfl,hb⟩;have B:=zh hb;clear hb);go_ret;exact⟨rfl,B.out⟩
theorem jjb(g o j:Nat):((⟨g,o,none⟩:Addr).add j)=⟨g,o+j,none⟩:=by unfold Addr.add;split<;>simp_all
theorem jer(b:Nat)(t:TypeId):∀(vs:List Value) (o:Nat) (w:World) (cs:Array Value),w.heap[b]? =some (.cells cs t (0,0))->∃cs',(w.setCells b o vs).heap[b]? =some (.cells cs' t (0,0))/\cs'.size=cs.size/\∀i,i<o->cs'[i]? =cs[i]?
 |[],_,_,cs,h=>⟨cs,h,rfl,fun _ _=>rfl⟩
 |v::vs,o,w,cs,h=>by
  obtain⟨cs',h1,h2,h3⟩:=jer b t vs (o+1) (w.setCell ⟨b,o,none⟩ v) (cs.setIfInBounds o v) (heap_setCell_same w b o _ _ v h);refine⟨cs',h1,by rw[h2,Array.size_setIfInBounds],fun i hi=> ?_⟩;rw[h3 i zv,Array.getElem?_setIfInBounds_ne zv]
theorem jbi(b:Nat):∀(vs:List Value) (o:Nat) (w:World),w.grownBy (w.setCells b o vs) (some b)
 |[],_,w=>⟨rfl,rfl,rfl,Nat.le_refl _,fun _ _ _=>rfl⟩
 |v::vs,o,w=>jam (jad w b o v) (jbi b vs (o+1) (w.setCell ⟨b,o,none⟩ v))
theorem rc_zero:∀w,(zeroValue 60).run Tryz.prog w= .ok (.agg (Rc.cells Rc.none_)) w:=(zero_of_info (n:=18) zk).1
theorem jpt(w:World)(ty:TypeId)(b o c:Nat)(hc:∀j,j<18->(w.cell? ⟨b,o+j,none⟩).isSome=true)(hf:∀j,j<18->w.frozen? ⟨b,o+j,none⟩=false):
  (Builtin.clear_ #[22] ty #[.slice (some ⟨b,o,none⟩) 1 c]).run Tryz.prog w= .ok (.tuple #[]) (w.setCells b o (Rc.cells Rc.none_).toList):=by
 have hzc:(Builtin.zeroCells (Value.agg (#[.int .i64 0,.int .i64 0,.int .i64 0,.int .i64 0,.int .i64 0,.string ⟨#[]⟩,.int .i64 0,.int .i64 0,.int .i64 0,.int .i64 0,.int .i64 0,.int .i64 0,.int .i64 0,.int .i64 0,.int .i64 0,.int .i64 0,.int .i64 0,.int .i64 0])).cells 1).toList=(Rc.cells Rc.none_).toList:=by kernel_rfl
 have hst:=run_storeCells_cells (P:=Tryz.prog) b o (Rc.cells Rc.none_).toList 0 w (by simpa[Rc.cells]using hc) (by simpa[Rc.cells]using hf) (fun v hv=>Bk.rcC_one Rc.none_ v hv);simp only[Nat.add_zero]at hst;simp[Builtin.clear_,run_underlying Tryz.underlying22,rc_zero,hzc,hst]
theorem jth(W:World)(B g c:Nat)(l:List Rc.R)(hown:OwF Bk.rcC 18 60 W B (.slice (some ⟨g,0,none⟩) 24 c) l):Calls Tryz.prog 207 #[.slice (some ⟨g,0,none⟩) 24 c,.int .i64 0,.int .i64 1] W (fun e w'=>e= .returned (.slice (some ⟨g,0,none⟩) 23 c)/\OwF Bk.rcC 18 60 w' B (.slice (some ⟨g,0,none⟩) 23 c) l.tail/\W.grownBy w' (some g)):=by
 obtain⟨hl1,hl2,hl3⟩:=hown.len;obtain⟨i0,hi0,hz0,hz1,hz2⟩:=info_parts jbp;obtain⟨x,hx⟩:∃x,l=x::l.tail:=by
  cases l with
  |nil=>rw[List.length_nil]at hl1;omega
  |cons x l=>exact⟨x,rfl⟩
 have htl:l.tail.length=23:=by rw[List.length_tail];omega
 have hsl:=hown.sl;have TL:Hid ((l.tail.flatMap Bk.rcC).length=23*18):=by show _=_;rw[jhx Bk.rcC_len,htl]
 have RD:Hid (∀j u,(l.tail.flatMap Bk.rcC)[j]? =some u->W.drew.cell? ((⟨g,18,none⟩:Addr).add j)=some u):=fun j u hu=>by
  obtain⟨b,o,e,hb,hr⟩:=hsl.rd zv;injection e with e
  injection e with e1 e2
  subst e1 e2;have h1:=hr (18+j) u (by
   rw[hx,List.flatMap_cons,List.getElem?_append_right (by rw[Bk.rcC_len];omega),Bk.rcC_len,show 18+j -18=j by omega];exact hu)
  have h2:((⟨g,18,none⟩:Addr).add j)=⟨g,18+j,none⟩:=jjb g 18 j;rw[h2];rw[Nat.zero_add]at h1;exact h1
 have ON:Hid (∀u∈l.tail.flatMap Bk.rcC,u.oneCell'=true):=fun u hu=>by
  obtain⟨r,_,hr⟩:=List.mem_flatMap.1 hu;exact Bk.rcC_one r u hr
 have OE:Hid (W.drew.ownsRow B 60 18 (.slice (some ⟨g,0,none⟩) 0 c) 0 []):=by
  rcases hown.2 with⟨h,_⟩|⟨g',c',cur,h,hbg,hh,h1,h2,h3,h4⟩
  ·cases h
  ·injection h with e1 e2 e3
   injection e1 with e1
   injection e1 with e1 _
   subst e1 e3;exact⟨rfl,.inr ⟨g,c,cur,rfl,hbg,hh,Nat.zero_le _,h2,h3,by simp⟩⟩
 have hcm:(c:Int)<=9223372036854775807:=by unfold maxLen at hl3;omega
 have hc24:(24:Int)<=(c:Int):=by omega
 have hc1:24<=c:=hl2;have hcn1:¬(c=1):=by omega
 have hcn2:¬(c=23):=by omega
 have hcn3:¬(c<=23):=by omega
 have HTL:=zh htl;clear hl1 hl2 hl3 hx hsl hown htl hz0 hz2;go_in;go_upto_region 5 with fail
 refine wp_region_held_drew (S:=fun _=>True) zk trivial (fun hS=> ?_);refine tY 0 hS ?_;refine tY 1 hS ?_;refine tY 2 hS ?_;refine tY 3 hS ?_;refine tY 4 hS ?_;refine tY 5 hS ?_;simp only[Act.put,zT,zO,zS];refine rO 6 (fun K hK=> ?_);refine wp_append_own_spare _ (.tmp 22) (.tmp 25) 22 rfl B 60 i0 18 Tryz.underlying22 hi0 hz1 g 0 c [] rfl OE.out ⟨g,18,none⟩ 23 (c -1) (l.tail.flatMap Bk.rcC) rfl TL.out RD.out ON.out zv ?_;intro w2 ho2 hg2;have O2:=zh ho2;have G2:=zh (jam (show W.grownBy W.drew (some g)from⟨rfl,rfl,rfl,Nat.le_refl _,fun _ _ _=>rfl⟩) hg2);have hS2:True:=trivial;clear hS ho2 hg2;have hS:=hS2;clear hS2;refine hK.out _ _ hS (fun _=> ?_);clear hK K;refine tY 7 hS ?_;simp only[Act.put,zT,zO,zS];refine wpAnyH_done zk ?_ _;clear hS;have hsz:∃cur,w2.heap[g]? =some (.cells cur 60 (0,0))/\cur.size=c*18/\B<=g/\c<=maxLen/\cur.toList.take (23*18)=l.tail.flatMap Bk.rcC:=by
  rcases O2.out.2 with⟨h,_⟩|⟨g',c',cur,h,hbg,hh,h1,h2,h3,h4⟩
  ·cases h
  ·injection h with e1 e2 e3
   injection e1 with e1
   injection e1 with e1 _
   subst e1 e3;exact⟨cur,hh,h3,hbg,h2,by simpa using h4⟩
 obtain⟨cur,k1,k2,k3,k4,k5⟩:=hsz;have hclr:=fun ty=>jpt w2 ty g 414 (c -23) (fun j hj=>by rw[cell_of_row w2 g _ _ _ _ k1,Array.getElem?_eq_getElem zv];rfl) (fun j _=>frozen_of_row w2 g _ _ _ k1);have G3:=zh (jam G2.out (jbi g (Rc.cells Rc.none_).toList 414 w2));have O3:Hid (OwF Bk.rcC 18 60 (w2.setCells g 414 (Rc.cells Rc.none_).toList) B (.slice (some ⟨g,0,none⟩) 23 c) l.tail):=by
  obtain⟨cur',m1,m2,m3⟩:=jer g 60 (Rc.cells Rc.none_).toList 414 w2 cur k1;have e:l.tail.length=23:=HTL.out;show World.ownsRow _ _ _ _ _ _ _;rw[e];refine⟨TL.out,.inr ⟨g,c,cur',rfl,k3,m1,zv,k4,by rw[m2,k2],?_⟩⟩;rw[<-k5];refine List.ext_getElem? fun i=> ?_;rw[List.getElem?_take,List.getElem?_take];split
  ·have:=m3 i zv
   simpa using this
  ·rfl
 clear O2 G2 k1 k2 k3 k4 k5;go_wp2;go_ret;exact⟨rfl,O3.out,G3.out⟩
end Go.Proofs.YtpehidgjfcfjoaaGreatDoor
