import Derived.Test.YtkinlcfhojjalaaGreatDoorQz04
import Derived.Laws.StructEq
import Derived.ChangeKeysEq
set_option maxHeartbeats 6400000
set_option maxRecDepth 100000
set_option linter.all false
namespace Go.Proofs.YtkinlcfhojjalaaGreatDoor
open Go.RowKit Go.Shelf Fr
attribute [local go_sem] Oper.semAt_some
def OwnF(w:World)(B:Nat)(v:Value)(ls:List (List Nat)):Prop:=
 ∃xs,w.ownsRow B 50 1 v ls.length xs/\∀j,j<ls.length->∃x,xs[j]? =some x/\Fits w v x (ls.getD j [])/\∀a n c,x= .slice (some a) n c->B<=a.block
theorem OwnF.none_(w:World)(B:Nat):OwnF w B (.slice none 0 0) []:=⟨[],World.ownsRow_nil _ _ _ _,fun j hj=>by simp at hj⟩
theorem OwnF.rows{w:World}{B:Nat}{v:Value}{ls:List (List Nat)}(h:OwnF w B v ls):OwnS w B v ls:=by
 obtain⟨xs,h1,h2⟩:=h;exact⟨xs,h1,fun j hj=>by obtain⟨x,h3,h4,_⟩:=h2 j hj;exact⟨x,h3,h4⟩⟩
theorem OwnF.lower{w:World}{B B':Nat}{v:Value}{ls:List (List Nat)}(h:OwnF w B v ls)(hB:B'<=B):OwnF w B' v ls:=by
 obtain⟨xs,h1,h2⟩:=h;exact⟨xs,jcj h1 hB,fun j hj=>by obtain⟨x,h3,h4,h5⟩:=h2 j hj;exact⟨x,h3,h4,fun a n c e=>Nat.le_trans hB (h5 a n c e)⟩⟩
theorem OwnF.kept{F:Nat->Prop}{w w':World}{B:Nat}{v:Value}{ls:List (List Nat)}(h:OwnF w B v ls)(hk:Kept F w w')(hF:∀i,B<=i->i<w.heap.size->¬F i):OwnF w' B v ls:=by
 obtain⟨xs,ho,hf⟩:=h;refine⟨xs,⟨ho.1,?_⟩,fun j hj=> ?_⟩
 ·rcases ho.2 with h2|⟨g,cap,cur,hv,hg,hh,r⟩
  ·exact .inl h2
  ·exact zz2c
 ·obtain⟨x,hx,⟨A,n,c,e,hs,hfar⟩,hb⟩:=hf j hj
  refine⟨x,hx,⟨A,n,c,e,⟨⟨hs.rd.1,fun hl=> ?_⟩,hs.len,hs.cap,hs.max,hs.nil⟩,hfar⟩,hb⟩;obtain⟨b,o,e2,hbb,hc⟩:=hs.rd.2 hl;exact⟨b,o,e2,Nat.lt_of_lt_of_le hbb hk.size,fun i hi=>(jji (a:=⟨b,o+i,none⟩) (hk.block b hbb (hF b (hb ⟨b,o,none⟩ n c (by rw[e,e2])) hbb))).trans (hc i hi)⟩
theorem OwnF.below{w w':World}{B:Nat}{v:Value}{ls:List (List Nat)}(h:OwnF w B v ls)(hb:zF w w'):OwnF w' B v ls:=h.kept (Kept.of_below (F:=fun _=>False) hb) fun _ _ _ hf=>hf
theorem jd4{F:Fence}{nF:Nat}{w:World}{ops:Array Oper}{rest:List Oper}{op:Oper}{a:Act}{Q:Exit->Act->World->Prop}(hgd:op.guard=none)(s x:Operand)
  (ho:op.op= .call {callee:= .builtin .append,args:=#[s,x],argTypes:=#[74,74]})
  (base:Nat) (v:Value) (ls:List (List Nat)) (hs:a.eval s=v) (hown:OwnF w base v ls) (A:Option Addr) (n c:Nat) (l:List Nat) (hl:Sl w A n c l) (hA:∀a,A=some a->base<=a.block) (hx:a.eval x= .slice (some ⟨w.heap.size,0,none⟩) 1 1)
  (hfar:∀a,A=some a->v.ownBlock≠some a.block) (hlen:ls.length<=3000000000) (hbase:base<=w.heap.size)
  (h:∀v' w',OwnF w' base v' (ls++[l])->w.grownBy w' v.ownBlock->wpListIn F nF Tryz.prog ops Q rest (a.put op.dst v') w'):wpListIn F nF Tryz.prog ops Q (op::rest) a (w.alloc (.cells #[.slice A n c] 50)):=by
 obtain⟨i0,hi0,hz0,hz1,hz2⟩:=info_parts jpd;have hb:=(Below.refl w.heap.size w).alloc zl (.cells #[.slice A n c] 50);have hvlt:=hown.rows.base;obtain⟨xs,ho1,hf⟩:=hown.below hb;have hxl:=ho1.1;rw[Nat.mul_one]at hxl;refine wpListIn_append_own_at (F:=F) (nF:=nF) (P:=Tryz.prog) (w.alloc (.cells #[.slice A n c] 50)) hgd s x 74 ho base 50 i0 _ 1 24 Tryz.underlying74 hi0 hz0 hz1 hz2 rfl zv v ls.length xs hs ho1 ⟨w.heap.size,0,none⟩ 1 1 [.slice A n c] hx rfl ?_ ?_ (by unfold maxLen;omega) zv (by simp;omega) ?_
 ·intro j u hu
  rcases j with _|j
  ·simp at hu
   subst hu;have:((⟨w.heap.size,0,none⟩:Addr).add 0)=⟨w.heap.size,0,none⟩:=by unfold Addr.add;split<;>simp_all
   rw[this,World.cell?_alloc_at _ _ _ _ rfl];rfl
  ·simp at hu
 ·intro u hu;simp at hu;subst hu;rfl
 ·intro v' w' h1 h2 _ h4
  have hg:w.grownBy w' v.ownBlock:=jam (World.grownBy_alloc w _ _) h2;have hsz:(w.alloc (.cells #[.slice A n c] 50)).heap.size=w.heap.size+1:=by simp
  refine h v' w' ⟨xs++[.slice A n c],by rw[zA];exact h1,fun j hj=> ?_⟩ hg;rw[zA,List.length_singleton]at hj;by_cases hjl:j<ls.length
  ·obtain⟨y,hy,hfy,hby⟩:=hf j hjl
   refine⟨y,?_,?_,hby⟩
   ·rw[List.getElem?_append_left zv];exact hy
   ·rw[jen _ _ _ _ hjl];exact hfy.grown h2 h4
  ·obtain rfl:j=ls.length:=by omega
   refine⟨.slice A n c,by rw[List.getElem?_append_right zv,hxl];simp,?_,fun a' n' c' e=>by injection e with e1;exact hA a' e1⟩
   rw[jeo _ _ _ _ zl (by simp),Nat.sub_self];exact(Fits.grown ⟨A,n,c,rfl,hl.on hb,fun _ a ha=>hfar a ha⟩ h2 h4)
def JAllF(ls:List (List Nat))(w:World)(e:Ending)(w':World):Prop:=∃A c,e= .returned (.slice A ls.length c)/\OwnF w' w.heap.size (.slice A ls.length c) ls/\zF w w'
theorem jt6(p0 d0:Option Addr)(l:List Nat)(w:World)(hl:l.length<=1000000000)
  (hd:∀W,zF w W->Calls Tryz.prog 53 #[.pointer p0] W fun e w'=>e= .returned (.pointer d0)/\w'=W)
  (ha:∀W,zF w W->Calls Tryz.prog 34 #[.pointer d0] W (jep l W)):
  Calls Tryz.prog 50 #[.pointer p0] w (JAllF (scan l).1 w):=by
 have HD:=zh hd;have HA:=zh ha;clear hd ha;refine(callsIn_wide (n:=3)).1 ?_;refine callsIn_of_wp_marks Tryz.func50 rfl trivial ?_ rfl;simp only[Tryz.ntmps50,List.size_toArray,List.length_cons,List.length_nil,Nat.reduceAdd,Nat.reduceSub,Array.replicate_succ,Array.replicate_zero,List.push_toArray,List.append_toArray,List.nil_append,List.cons_append];have hcount:(scan l).1.length<=1000000000:=Nat.le_trans (scan_count l) hl;have hb1:=(Below.refl w.heap.size w).alloc zl (.cells #[.slice none 0 0] 74);have hc1:=heap_alloc_new w (.cells #[.slice none 0 0] 74);have hs1:(w.alloc (.cells #[.slice none 0 0] 74)).heap.size=w.heap.size+1:=by simp
 gi_wp2_with fail
 generalize w.alloc (.cells #[.slice none 0 0] 74)=w1 at*;refine⟨trivial,callsIn_wide.2 ?_⟩;refine(HD.o w1 hb1).mono ?_;rintro e w1' ⟨rfl,rfl⟩
 gi_wp2_with fail
 refine⟨trivial,callsIn_wide.2 ?_⟩;refine(HA.o w1' hb1).mono ?_;rintro e w2 ⟨A2,c2,rfl,ho2,hb2⟩
 gi_wp2_with fail
 refine⟨trivial,callsIn_wide.2 ?_⟩;refine(jfq _ c2 A2 _).mono ?_;rintro e w3 ⟨rfl,rfl⟩
 gi_wp2_with fail
 have hb3:=(Below.refl w2.heap.size w2).alloc zl (.cells #[.slice A2 l.length c2] 50);have hbox:=heap_alloc_new w2 (.cells #[.slice A2 l.length c2] 50);have hs3:(w2.alloc (.cells #[.slice A2 l.length c2] 50)).heap.size=w2.heap.size+1:=by simp
 have S:=zh (ho2.sls.on hb3);have hfrom:=ho2.from_;have hlt2:=ho2.sls.block;have hz2:=hb2.size;have hcell:=(hb3.block w.heap.size zv).trans ((hb2.block w.heap.size zv).trans hc1);have hbw:=(hb1.trans (hb2.mono hb1.size)).trans (hb3.mono (Nat.le_trans hb1.size hb2.size));generalize w2.alloc (.cells #[.slice A2 l.length c2] 50)=W0 at*;clear ho2 hc1 hb1 hb2 hb3;refine jdb (gf:=144) (lb:=#[.pointer (some ⟨w2.heap.size,0,none⟩)]) rfl (enters_of Tryz.func144 zk rfl) (Y:=fun i=>i=w.heap.size\/W0.heap.size+2<=i)
  (jet l.length c2 A2 l W0 _ S.o hbox hl _ (fun h0 a ha hz=>by have:=hfrom a ha;have:=hlt2 h0 a ha;omega)) rfl zv zv
  (fun k W=>(∃v,W.heap[w.heap.size]? =some (.cells #[v] 74 (0,0))/\OwnF W (W0.heap.size+2) v ((scan l).1.take k))/\zF w W) ?inv ?start
  (fun x=>{tmps:=#[.pointer p0,undef,.slice none 0 0,.pointer (some ⟨w.heap.size,0,none⟩),x,.pointer p0,.pointer d0,.slice A2 l.length c2,.func (.func 144) #[] #[.pointer (some ⟨w2.heap.size,0,none⟩)],x,undef,undef,undef,undef,undef],defers:=[]}) ?assign ?body ?done
 case inv=>
  rintro k X Y ⟨⟨v,h1,h3⟩,h2⟩ hX hK;exact⟨⟨v,(hK.block _ (zg h1).1 zv).trans h1,h3.kept hK (fun i hi _ hf=>by omega)⟩,h2.trans (hK.below h2.size (fun i hi=>by omega))⟩
 case start=>
  intro W1 hb hz;exact⟨⟨_,(hb.block _ zv).trans hcell,by rw[List.take_zero];exact OwnF.none_ _ _⟩,hbw.trans (hb.mono hbw.size)⟩
 case assign=>
  intro y x W K hK
  gi_wp2
  exact hK
 case body=>
  rintro y k A' c' p V0 V hp ⟨⟨v,h1,h3⟩,h2⟩ hz0 hk ho;have hkl:=(List.getElem?_eq_some_iff.1 hp).1;have HL:Hid (((scan l).1.take k).length<=3000000000):=by show _<=_;rw[List.length_take];omega
  have HT:Hid ((scan l).1.take (k+1)=(scan l).1.take k++[p]):=by
   show _=_;rw[List.take_succ_eq_append_getElem hkl,(List.getElem?_eq_some_iff.1 hp).2]
  obtain⟨q,hq⟩:∃q,q=(scan l).1.take k:=zx;rw[<-hq]at h3 HL HT;have HQ:=zh hq;clear hq;have hzV:=hk.size;have hv0:=h3.rows.base;have h1V:=(hk.block w.heap.size (zg h1).1 zv).trans h1;have h3V:=h3.kept hk (fun i hi _ hf=>by omega);have b3:=zh (h2.trans (hk.below h2.size (fun i hi=>by omega)));have hc:V.cell? ⟨w.heap.size,0,none⟩=some v:=by rw[cell_of_row V w.heap.size 0 _ _ _ h1V];rfl
  have H1:=zh h1V;have H3:=zh h3V;have HO:=zh ho;have HF:Hid (∀a,A'=some a->v.ownBlock≠some a.block):=fun a ha e=>by
   have h5:=HO.o.from_ a ha;have h6:=(hv0 _ e).2;omega
  have HBl:Hid (∀a,A'=some a->W0.heap.size+2<=a.block):=fun a ha=>Nat.le_trans hz0 (HO.o.from_ a ha);have HV0:Hid (∀i,v.ownBlock=some i->W0.heap.size+2<=i):=fun i e=>(hv0 i e).1;have HV:Hid (v.ownBlock≠some w.heap.size):=fun e=>by have:=(hv0 _ e).1;omega
  have hbase:W0.heap.size+2<=V.heap.size:=by omega
  obtain⟨Av,cv,rfl,_⟩:=h3V.rows.sls;clear h1 h2 hp h3 ho hk h1V h3V hv0 hkl
  gi_wp2_with (gi_at_builtin;refine jd4 rfl (.tmp 10) (.tmp 12) rfl (W0.heap.size+2) _ _ rfl H3.o A' p.length c' p HO.o.sls HBl.o rfl HF.o HL.o hbase ?_;intro v3 w3 ho3 hg3;have O3:=zh ho3;have G3:=zh hg3;have hb3':=(hg3.block w.heap.size (zg H1.o).1 (fun e=>HV.o e.symm)).trans H1.o;obtain⟨A3,c3,rfl,_⟩:=ho3.rows.sls;have hc3:=frozen_of_row w3 w.heap.size 0 _ _ hb3';have hc4:=cell_of_row w3 w.heap.size 0 _ _ _ hb3';have B3:=zh hb3';clear ho3 hg3 hb3')
  have k1:Kept (fun i=>i=w.heap.size\/w2.heap.size+1+2<=i) V w3:=Kept.of_grown G3.o (fun i e=> .inr (by have:=HV0.o i e;omega));have k2:Kept (fun i=>i=w.heap.size) w3 (w3.setCell ⟨w.heap.size,0,none⟩ (.slice A3 (q.length+1) c3)):=Kept.of_grown (jad _ _ _ _) (fun i hi=>by injection hi with hi;exact hi.symm)
  have k3:=k1.trans k2 fun _ _ h=> .inl h;have o3:=O3.o;rw[hs3,zA,List.length_singleton]at o3;refine⟨k3,⟨_,heap_setCell_same _ _ 0 _ _ _ B3.o,?_⟩,b3.o.trans (k3.below b3.o.size (fun i hi=>by omega))⟩;rw[HT.o];exact o3.kept k2 fun i h1 _ h2=>by omega
 case done=>
  rintro V ⟨⟨v,h1,h3⟩,h2⟩ hz hdd;rw[List.take_length]at h3;obtain⟨Av,cv,rfl,_⟩:=h3.rows.sls;have hc:V.cell? ⟨w.heap.size,0,none⟩=some (.slice Av (scan l).1.length cv):=by rw[cell_of_row V w.heap.size 0 _ _ _ h1];rfl
  gi_wp2_with fail
  refine⟨by simp,.inl ⟨_,_,rfl,run_takeDeferred hdd,?_⟩⟩;have k4:=Kept.putObj V W0.heap.size (.deferred none);exact⟨_,results_tmp rfl _ _ _,Av,cv,rfl,(h3.kept k4 fun i h1 _ h2=>by omega).lower zv,h2.trans (k4.below zv (fun i hi=>by omega))⟩
end Go.Proofs.YtkinlcfhojjalaaGreatDoor
namespace Go.Proofs.YtkinlcfhojjalaaGreatDoor
open Go.RowKit
namespace Jn
open Fr
def Whole(d:Dk.St):Prop:=∃k ps,(∀p∈ps,ok p)/\k<=ps.length/\d=Js d.room k ps
theorem Whole.byt{d:Dk.St}(h:Whole d):Byt d:=by
 obtain⟨k,ps,h1,h2,h3⟩:=h;rw[h3];exact js_byt h1
theorem Whole.opened{d:Dk.St}(h:Byt d):Whole (opened d):=by
 obtain⟨h1,h2,h3,h4,h5⟩:=opened_l d h;refine⟨(ents d).length,ents d,h5,zl,?_⟩;unfold Js;rw[List.take_length,<-h1];show(⟨(Jn.opened d).room,(Jn.opened d).safe,(Jn.opened d).l⟩:Dk.St)=_;rw[h2,h1]
theorem putE_zero{p:List Nat}(h:putE p=0)(hb:∀x∈p,x<256):ok p:=⟨by have:=(put_ok h).1;omega,(put_ok h).2,hb⟩
theorem Whole.app{d:Dk.St}(h:Whole d){p:List Nat}(hp:∀x∈p,x<256):Whole (app d p):=by
 obtain⟨k,ps,h1,h2,h3⟩:=h;unfold Jn.app;by_cases he:putE p=0
 ·rw[if_neg zv]
  unfold Dk.write;split
  ·rename_i hg
   have ho:=putE_zero he hp;refine⟨k,ps++[p],?_,by rw[zA];omega,?_⟩
   ·intro x hx
    rcases List.mem_append.1 hx with hx|hx
    ·exact h1 x hx
    ·rw[List.mem_singleton.1 hx];exact ho
   ·unfold Js
    rw[List.take_append_of_le_length h2,all_append,all_one];have e1:=congrArg Dk.St.safe h3;have e2:=congrArg Dk.St.l h3;unfold Js at e1 e2;show(⟨d.room,d.safe,d.l++fr p⟩:Dk.St)=_;rw[e1,e2]
  ·exact⟨k,ps,h1,h2,h3⟩
 ·rw[if_pos he]
  exact⟨k,ps,h1,h2,h3⟩
theorem Whole.torn{d:Dk.St}(h:Whole d){p:List Nat}(hp:∀x∈p,x<256)(keep:Int):Whole (torn d p keep):=by
 unfold Jn.torn;split
 ·exact h
 ·exact Whole.opened (Byt.sync (h.byt.write fun x hx=>fr_byte hp x (List.mem_of_mem_take hx)))
theorem Whole.sync{d:Dk.St}(h:Whole d):Whole (Dk.sync d):=by
 obtain⟨k,ps,h1,h2,h3⟩:=h;refine⟨ps.length,ps,h1,zl,?_⟩;have:=congrArg Dk.sync h3;rw[js_sync]at this;exact this
theorem bad_zero{ls:List (List Nat)}(h:bad ls=0):∀p∈ls,putE p=0:=by
 induction ls with
 |nil=>intro p hp;cases hp
 |cons q qs ih=>
  unfold bad at h;split at h
  ·omega
  ·intro p hp
   rcases List.mem_cons.1 hp with rfl|hp
   ·omega
   ·exact ih h p hp
theorem Whole.swap{d:Dk.St}(h:Whole d){ls:List (List Nat)}(hl:∀p∈ls,∀x∈p,x<256):Whole (swap d ls):=by
 unfold Jn.swap;by_cases hb:bad ls=0
 ·rw[if_neg zv]
  unfold Dk.swap;split
  ·refine⟨ls.length,ls,fun p hp=>putE_zero (bad_zero hb p hp) (hl p hp),zl,?_⟩
   unfold Js;rw[List.take_length]
  ·exact h
 ·rw[if_pos hb]
  exact h
theorem Whole.syncN{d:Dk.St}(h:Whole d):(((scan (d.l.drop d.safe)).1.length:Nat):Int)=((ents d).length:Nat) -(safeN d:Nat):=by
 obtain⟨k,ps,h1,h2,h3⟩:=h;have e:ents d=ps:=by rw[h3];exact js_ents h1
 have s:safeN d=k:=by rw[h3];exact js_safe h1 h2
 have d1:d.l.drop d.safe=all (ps.drop k):=by
  rw[h3];unfold Js;show(all ps).drop (all (ps.take k)).length=_
  conv=>lhs;rw[<-List.take_append_drop k ps,all_append]
  rw[List.take_append_drop,List.drop_left'];rfl
 rw[e,s,d1,scan_whole (fun p hp=>h1 p (List.mem_of_mem_drop hp)),List.length_drop];omega
theorem crash_all(d:Dk.St)(h:Dk.Okay d):Dk.crash d (d.l.length:Nat)=Dk.sync d:=by
 have h1:=h.1;have:d.safe+Dk.kept d (d.l.length:Nat)=d.l.length:=by unfold Dk.kept Dk.opens;omega
 unfold Dk.crash Dk.leave Dk.sync;rw[this,List.take_length]
end Jn
def DskB(w:World)(B r:Nat)(d:Dk.St):Prop:=∃v,Dsk w r v d/\∀i,foot r v i->B<=i
def jt7(w0:World)(r:Nat)(d:Dk.St)(x:Value)(e:Ending)(w':World):Prop:=e= .returned x/\DskB w' w0.heap.size r d/\zF w0 w'
theorem jt7.mk{w0 W:World}{r:Nat}{v:Value}{d:Dk.St}{x:Value}{e:Ending}{w':World}(h:jc9 W r v d x e w')(hb:zF w0 W)(hv:∀i,foot r v i->w0.heap.size<=i):jt7 w0 r d x e w':=by
 obtain⟨rfl,v',h1,h2,h3⟩:=h;refine⟨rfl,⟨v',h1,?_⟩,hb.trans (h3.below hb.size hv)⟩;rintro i (rfl|hi)
 ·exact hv _ (.inl rfl)
 ·rcases h2 i hi with h4|h4
  ·exact hv i (.inr h4)
  ·exact Nat.le_trans hb.size h4
section
variable{w0:World}(W:World){r:Nat}{d:Dk.St}(hb:zF w0 W)(hd:DskB W w0.heap.size r d)
include hb hd
theorem jt8{n c:Nat}{A:Option Addr}{b:List Nat}(hs:Sl W A n c b):Calls Tryz.prog 31 #[.pointer (some ⟨r,0,none⟩),.slice A n c] W (jt7 w0 r (Dk.swap d b) (.int .i64 (Dk.swapE d b))):=by
 obtain⟨v,h1,h2⟩:=hd;exact(jja W r n c A b v d h1 hs).mono fun _ _ h=>jt7.mk h hb h2
end
def NewPost(w0:World)(d:Dk.St)(W:World)(e:Ending)(w':World):Prop:=∃r,e= .returned (.pointer (some ⟨r,0,none⟩))/\W.heap.size<=r/\DskB w' W.heap.size r d/\zF w0 w'/\zF W w'
theorem dNew_at{w0:World}(W:World)(n:Int)(hb:zF w0 W):Calls Tryz.prog 30 #[.int .i64 n] W (NewPost w0 (Dk.new n) W):=by
 refine(jtj n W).mono ?_;rintro e w' ⟨r,rfl,h1,h2,h3⟩;refine⟨r,rfl,h1,⟨_,h2,?_⟩,hb.trans (h3.mono hb.size),h3⟩;rintro i (rfl|hi)
 ·exact h1
 ·cases hi
theorem jkz(W:World)(o:Obj):zF W (W.alloc o):=zD.alloc zl o
theorem jmm{W:World}{g:Nat}{x y z:Value}{t:TypeId}(h:W.heap[g]? =some (.cells #[x,y,z] t (0,0))):W.cell? ⟨g,0,none⟩=some x/\W.cell? ⟨g,1,none⟩=some y/\W.cell? ⟨g,2,none⟩=some z:=
 ⟨by rw[cell_of_row W g 0 _ _ _ h];rfl,by rw[cell_of_row W g 1 _ _ _ h];rfl,by rw[cell_of_row W g 2 _ _ _ h];rfl⟩
theorem jf5{W:World}{g:Nat}{x y z:Value}{t:TypeId}(h:W.heap[g]? =some (.cells #[x,y,z] t (0,0))):
  W.cell? ⟨g,0,none⟩=some x/\W.cell? ⟨g,1,none⟩=some y/\W.cell? ⟨g,2,none⟩=some z/\W.frozen? ⟨g,0,none⟩=false/\W.frozen? ⟨g,1,none⟩=false/\W.frozen? ⟨g,2,none⟩=false:=
 ⟨by rw[cell_of_row W g 0 _ _ _ h];rfl,by rw[cell_of_row W g 1 _ _ _ h];rfl,by rw[cell_of_row W g 2 _ _ _ h];rfl,frozen_of_row W g 0 _ _ h,frozen_of_row W g 1 _ _ h,frozen_of_row W g 2 _ _ h⟩
theorem jjj{W:World}{g:Nat}{x y z:Value}{t:TypeId}(h:W.heap[g]? =some (.cells #[x,y,z] t (0,0)))(x' y' z':Value):
  (((W.setCell ⟨g,0,none⟩ x').setCell ⟨g,1,none⟩ y').setCell ⟨g,2,none⟩ z').heap[g]? =some (.cells #[x',y',z'] t (0,0)):=by
 have h1:=heap_setCell_same W g 0 _ _ x' h;have h2:=heap_setCell_same _ g 1 _ _ y' h1;exact heap_setCell_same _ g 2 _ _ z' h2
theorem jhu(W:World)(g:Nat)(x y z:Value):W.grownBy (((W.setCell ⟨g,0,none⟩ x).setCell ⟨g,1,none⟩ y).setCell ⟨g,2,none⟩ z) (some g):=
 jam (jam (jad _ _ _ _) (jad _ _ _ _)) (jad _ _ _ _)
def DskX(w:World)(X:Nat->Prop)(r:Nat)(d:Dk.St):Prop:=∃v,Dsk w r v d/\∀i,foot r v i->X i
theorem DskX.okay{w:World}{X:Nat->Prop}{r:Nat}{d:Dk.St}(h:DskX w X r d):Dk.Okay d:=by
 obtain⟨v,h1,h2⟩:=h;exact h1.okay
theorem DskX.keep{w w':World}{X:Nat->Prop}{r:Nat}{d:Dk.St}(h:DskX w X r d)(hk:∀i,X i->i<w.heap.size->w'.heap[i]? =w.heap[i]?):DskX w' X r d:=by
 obtain⟨v,h1,h2⟩:=h;exact⟨v,h1.keep fun i hi=>hk i (h2 i hi) (h1.lt i hi),h2⟩
theorem DskX.below{w w':World}{X:Nat->Prop}{r:Nat}{d:Dk.St}(h:DskX w X r d)(hb:zF w w'):DskX w' X r d:=h.keep fun i _ hi=>hb.block i hi
theorem DskB.toX{w:World}{B r:Nat}{d:Dk.St}{X:Nat->Prop}(h:DskB w B r d)(hX:∀i,B<=i->i<w.heap.size->X i):DskX w X r d:=by
 obtain⟨v,h1,h2⟩:=h;exact⟨v,h1,fun i hi=>hX i (h2 i hi) (h1.lt i hi)⟩
def jdc(W:World)(X:Nat->Prop)(r:Nat)(d:Dk.St)(x:Value)(e:Ending)(w':World):Prop:=e= .returned x/\DskX w' X r d/\Kept X W w'
theorem jdc.mk{W:World}{X:Nat->Prop}{r:Nat}{v:Value}{d:Dk.St}{x:Value}{e:Ending}{w':World}(h:jc9 W r v d x e w')(hv:∀i,foot r v i->X i)(hX:∀i,W.heap.size<=i->X i):jdc W X r d x e w':=by
 obtain⟨rfl,v',h1,h2,h3⟩:=h;refine⟨rfl,⟨v',h1,?_⟩,h3.more fun i _ hi=>hv i hi⟩;rintro i (rfl|hi)
 ·exact hv _ (.inl rfl)
 ·rcases h2 i hi with h4|h4
  ·exact hv i (.inr h4)
  ·exact hX i h4
section
variable(W:World){X:Nat->Prop}{r:Nat}{d:Dk.St}(hd:DskX W X r d)(hX:∀i,W.heap.size<=i->X i)
include hd hX
theorem jmn{n c:Nat}{A:Option Addr}{b:List Nat}(hs:Sl W A n c b):Calls Tryz.prog 68 #[.pointer (some ⟨r,0,none⟩),.slice A n c] W (jdc W X r (Dk.write d b) (.int .i64 (Dk.writeE d b))):=by
 obtain⟨v,h1,h2⟩:=hd;exact(jna W r n c A b v d h1 hs).mono fun _ _ h=>jdc.mk h h2 hX
theorem dSwap_x{n c:Nat}{A:Option Addr}{b:List Nat}(hs:Sl W A n c b):Calls Tryz.prog 31 #[.pointer (some ⟨r,0,none⟩),.slice A n c] W (jdc W X r (Dk.swap d b) (.int .i64 (Dk.swapE d b))):=by
 obtain⟨v,h1,h2⟩:=hd;exact(jja W r n c A b v d h1 hs).mono fun _ _ h=>jdc.mk h h2 hX
theorem dSync_x:Calls Tryz.prog 71 #[.pointer (some ⟨r,0,none⟩)] W (jdc W X r (Dk.sync d) (.int .i64 (Dk.opens d:Nat))):=by
 obtain⟨v,h1,h2⟩:=hd;exact(jo6 W r v d h1).mono fun _ _ h=>jdc.mk h h2 hX
theorem jt9{keep:Int}(hk: -9223372036854775808<=keep/\keep<=9223372036854775807):Calls Tryz.prog 72 #[.pointer (some ⟨r,0,none⟩),.int .i64 keep] W (jdc W X r (Dk.crash d keep) (.int .i64 (Dk.lost d keep:Nat))):=by
 obtain⟨v,h1,h2⟩:=hd;exact(jm9 W r keep v d h1 hk).mono fun _ _ h=>jdc.mk h h2 hX
theorem dCut_x{n:Int}(hk: -9223372036854775808<=n/\n<=9223372036854775807):Calls Tryz.prog 114 #[.pointer (some ⟨r,0,none⟩),.int .i64 n] W (jdc W X r (Dk.cut d n) (.int .i64 (Dk.cutE d n))):=by
 obtain⟨v,h1,h2⟩:=hd;exact(jtk W r n v d h1 hk).mono fun _ _ h=>jdc.mk h h2 hX
omit hX in
theorem jmo:Calls Tryz.prog 34 #[.pointer (some ⟨r,0,none⟩)] W (jep d.l W):=by
 obtain⟨v,h1,_⟩:=hd;exact jth W r v d h1
omit hX in
theorem dLen_x:Calls Tryz.prog 73 #[.pointer (some ⟨r,0,none⟩)] W (jd8 W (.int .i64 (d.l.length:Nat))):=by
 obtain⟨v,h1,_⟩:=hd;exact jtg W r v d h1
omit hX in
theorem jpt:Calls Tryz.prog 70 #[.pointer (some ⟨r,0,none⟩)] W (jd8 W (.int .i64 (d.safe:Nat))):=by
 obtain⟨v,h1,_⟩:=hd;exact jo5 W r v d h1
omit hX in
theorem dRoom_x:Calls Tryz.prog 54 #[.pointer (some ⟨r,0,none⟩)] W (jd8 W (.int .i64 (d.room -d.l.length:Nat))):=by
 obtain⟨v,h1,_⟩:=hd;exact ji9 W r v d h1
end
open Fr
structure JAsk(p0 d0:Option Addr)(l:List Nat)(s R:Nat)(w:World):Prop where
 disk:∀W,zF w W->Calls Tryz.prog 53 #[.pointer p0] W fun e w'=>e= .returned (.pointer d0)/\w'=W
 all:∀W,zF w W->Calls Tryz.prog 34 #[.pointer d0] W (jep l W)
 safe:∀W,zF w W->Calls Tryz.prog 70 #[.pointer d0] W (jd8 W (.int .i64 (s:Nat)))
 room:∀W,zF w W->Calls Tryz.prog 54 #[.pointer d0] W (jd8 W (.int .i64 (R:Nat)))
 le:s<=l.length
 few:l.length<=1048576
theorem jdd(w:World)(q:Nat)(d0:Option Addr)(h:w.heap[q]? =some (.cells #[.pointer d0] 128 (0,0))):
  Calls Tryz.prog 53 #[.pointer (some ⟨q,0,none⟩)] w fun e w'=>e= .returned (.pointer d0)/\w'=w:=by
 have hc:w.cell? ⟨q,0,none⟩=some (.pointer d0):=by rw[cell_of_row w q 0 _ _ _ h];rfl
 clear h;go_in;go_wp2;go_ret;exact⟨rfl,rfl⟩
section
variable{p0 d0:Option Addr}{l:List Nat}{s R:Nat}{w:World}(h:JAsk p0 d0 l s R w)
include h
theorem jmp:Calls Tryz.prog 50 #[.pointer p0] w (JAllF (scan l).1 w):=jt6 p0 d0 l w (by have:=h.few;omega) h.disk h.all
theorem jua:Calls Tryz.prog 22 #[.pointer p0] w (jd8 w (.int .i64 ((scan l).1.length:Nat))):=by
 have H:=zh h;clear h;go_in;go_wp2_with fail;refine(H.o.disk w zD).mono ?_;rintro e w1 ⟨rfl,rfl⟩;go_wp2_with fail;refine(H.o.all w1 zD).mono ?_;rintro e w2 ⟨A2,c2,rfl,ho2,hb2⟩;have S2:=zh ho2.sls;have B2:=zh hb2;clear ho2 hb2;go_wp2_with fail
 (refine(jht l.length c2 A2 l w2 S2.o (by have:=H.o.few;omega)).mono ?_)
 rintro e w3 ⟨rfl,hb3⟩;have B3:=zh (B2.o.trans (hb3.mono B2.o.size));clear hb3;go_wp2;go_ret;exact⟨rfl,B3.o⟩
theorem jpu:Calls Tryz.prog 23 #[.pointer p0] w (jd8 w (.int .i64 (R:Nat))):=by
 have H:=zh h;clear h;go_in;go_wp2_with fail;refine(H.o.disk w zD).mono ?_;rintro e w1 ⟨rfl,rfl⟩;go_wp2_with fail;refine(H.o.room w1 zD).mono ?_;rintro e w2 ⟨rfl,hb2⟩;have B2:=zh hb2;clear hb2;go_wp2;go_ret;exact⟨rfl,B2.o⟩
theorem jmq{d:Dk.St}(hR:d.room -d.l.length=R)(hok:Dk.Okay d){a:Addr}(hd:d0=some a)(n c:Nat)(A:Option Addr)(p:List Nat)(hs:Sl w A n c p)(hn:n<=900000000):
  Calls Tryz.prog 67 #[.pointer p0,.slice A n c] w fun e w'=>∃A' c' f,e= .returned (.tuple #[.slice A' f.length c',.int .i64 (Jn.appE d p)])/\OwnB w' w.heap.size (.slice A' f.length c') f/\(Jn.appE d p=0->f=fr p)/\zF w w':=by
 have H:=zh h;have HS:=zh hs;subst hd;clear h hs;unfold Dk.Okay at hok;by_cases h0:putE p=0
 ·have hp:=Jn.put_ok h0
  have h2:=jif (b:=[]) hp.1 hp.2;have HL:Hid (putL [] p=fr p):=by show putL [] p=fr p;rw[h2.2];rfl
  have HE:Hid (Jn.appE d p=Dk.writeE d (fr p)):=by show Jn.appE d p=_;unfold Jn.appE;rw[if_neg zv]
  have HF:Hid ((fr p).length=p.length+6):=fr_length p;have hfl:(fr p).length<=1006:=by rw[HF.o];omega
  clear h2;go_in;go_wp2_with fail;refine(H.o.disk w zD).mono ?_;rintro e w1 ⟨rfl,rfl⟩;go_wp2_with fail
  refine(jig 0 0 n c none A [] p w1 (Sl.none_ _) HS.o zv hn).mono ?_
  rintro e w2 ⟨A2,c2,rfl,ho2,hb2⟩;rw[HL.o,h0]at*;have O2:=zh ho2;have B2:=zh hb2;clear ho2 hb2;obtain⟨m,hm⟩:∃m,m=(fr p).length:=zx;rw[<-hm];have HM:=zh hm;rw[<-hm]at hfl;clear hm;go_wp2_with fail;refine(H.o.room w2 B2.o).mono ?_;rintro e w3 ⟨rfl,hb3⟩;have O3:=zh (O2.o.below hb3);have B3:=zh (B2.o.trans (hb3.mono B2.o.size));clear hb3;by_cases hg:R<m
  ·have HG:Hid (Dk.writeE d (fr p)=4):=by show Dk.writeE d (fr p)=4;unfold Dk.writeE;rw[if_neg];unfold Dk.goes;rw[<-HM.o];omega
   go_wp2;go_ret2;refine⟨none,0,[],?_,OwnB.none_ _ _,fun e=> ?_,B3.o⟩
   ·rw[HE.o,HG.o];rfl
   ·rw[HE.o,HG.o]at e;omega
  ·have HG:Hid (Dk.writeE d (fr p)=0):=by show Dk.writeE d (fr p)=0;unfold Dk.writeE;rw[if_pos];unfold Dk.goes;rw[<-HM.o];omega
   go_wp2;go_ret2;refine⟨A2,c2,fr p,?_,O3.o,fun _=>rfl,B3.o⟩;rw[HE.o,HG.o,HM.o];rfl
 ·have HE:Hid (Jn.appE d p=(putE p:Nat)):=by show Jn.appE d p=_;unfold Jn.appE;rw[if_pos h0]
  have h1:((putE p:Nat):Int)≠0:=by omega
  have HB:Hid (((putE p:Nat):Int) !=0):=by show(_ !=_)=true;rw[bne_iff_ne];exact h1
  have hbool:=HB.o;go_in;go_wp2_with fail;refine(H.o.disk w zD).mono ?_;rintro e w1 ⟨rfl,rfl⟩;go_wp2_with fail
  refine(jig 0 0 n c none A [] p w1 (Sl.none_ _) HS.o zv hn).mono ?_
  rintro e w2 ⟨A2,c2,rfl,ho2,hb2⟩;have B2:=zh hb2;clear ho2 hb2;generalize putE p=ee at*;go_wp2;go_ret2;refine⟨none,0,[],?_,OwnB.none_ _ _,fun e=> ?_,B2.o⟩
  ·rw[HE.o];rfl
  ·rw[HE.o]at e;exact absurd e h1
end
end Go.Proofs.YtkinlcfhojjalaaGreatDoor
namespace Go.Proofs.YtkinlcfhojjalaaGreatDoor
open Go.RowKit
def Jn.syncN(d:Dk.St):Int:=((Jn.ents d).length:Nat) -(Jn.safeN d:Nat)
open Fr
structure Jrn(w:World)(X:Nat->Prop)(q r:Nat)(d:Dk.St):Prop where
 blk:w.heap[q]? =some (.cells #[.pointer (some ⟨r,0,none⟩)] 128 (0,0))
 inX:X q
 dsk:DskX w (fun i=>X i/\i≠q) r d
 whole:Jn.Whole d
theorem DskX.lt{w:World}{X:Nat->Prop}{r:Nat}{d:Dk.St}(h:DskX w X r d):DskX w (fun i=>X i/\i<w.heap.size) r d:=by
 obtain⟨v,h1,h2⟩:=h;exact⟨v,h1,fun i hi=>⟨h2 i hi,h1.lt i hi⟩⟩
theorem DskX.more{w:World}{X Y:Nat->Prop}{r:Nat}{d:Dk.St}(h:DskX w X r d)(hY:∀i,X i->i<w.heap.size->Y i):DskX w Y r d:=by
 obtain⟨v,h1,h2⟩:=h;exact⟨v,h1,fun i hi=>hY i (h2 i hi) (h1.lt i hi)⟩
section
variable{w w':World}{X:Nat->Prop}{q r:Nat}{d:Dk.St}
theorem Jrn.lt(h:Jrn w X q r d):q<w.heap.size:=(zg h.blk).1
theorem Jrn.keep(h:Jrn w X q r d)(hk:∀i,X i->i<w.heap.size->w'.heap[i]? =w.heap[i]?):Jrn w' X q r d:=
 ⟨(hk q h.inX h.lt).trans h.blk,h.inX,h.dsk.keep fun i hi hl=>hk i hi.1 hl,h.whole⟩
theorem Jrn.below(h:Jrn w X q r d)(hb:zF w w'):Jrn w' X q r d:=h.keep fun i _ hi=>hb.block i hi
theorem Jrn.ask(h:Jrn w X q r d):JAsk (some ⟨q,0,none⟩) (some ⟨r,0,none⟩) d.l d.safe (d.room -d.l.length) w:=by
 have hok:=h.dsk.okay;unfold Dk.Okay at hok;exact⟨fun W hW=>jdd W q _ (h.below hW).blk,fun W hW=>jmo W (h.dsk.below hW),fun W hW=>jpt W (h.dsk.below hW),fun W hW=>dRoom_x W (h.dsk.below hW),hok.1,zv⟩
theorem Jrn.step{d':Dk.St}{x:Value}{e:Ending}(h:Jrn w X q r d)(hp:jdc w (fun i=>X i/\i≠q) r d' x e w')(hw:Jn.Whole d'):e= .returned x/\Jrn w' X q r d'/\Kept X w w':=by
 obtain⟨rfl,h1,h2⟩:=hp;exact⟨rfl,⟨(h2.block q h.lt (fun hf=>hf.2 rfl)).trans h.blk,h.inX,h1,hw⟩,h2.more fun i _ hi=>hi.1⟩
theorem Jrn.fresh(h:Jrn w X q r d)(hX:∀i,w.heap.size<=i->X i):∀i,w.heap.size<=i->X i/\i≠q:=fun i hi=>⟨hX i hi,fun e=>by have:=h.lt;omega⟩
end
theorem jdc.before{W W1 w':World}{X:Nat->Prop}{r:Nat}{d:Dk.St}{x:Value}{e:Ending}(h:jdc W1 X r d x e w')(hb:Kept X W W1):jdc W X r d x e w':=⟨h.1,h.2.1,hb.trans h.2.2 fun _ _ hi=>hi⟩
theorem jmr(W:World){X:Nat->Prop}{r:Nat}{d:Dk.St}(hd:DskX W X r d)(hX:∀i,W.heap.size<=i->X i)(hy:Jn.Byt d):
  Calls Tryz.prog 65 #[.pointer (some ⟨r,0,none⟩)] W (jdc W X r (Jn.opened d) (.int .i64 ((d.l.length:Nat) -(Jn.cutN d:Nat)))):=by
 have HD:=zh hd;have hok:=hd.okay;have hcl:=Jn.cutN_le d hy;have HC:=zh (Jn.cut_opened d hy);have HN:Hid (Jn.cutN d=(scan d.l).2.1):=rfl;have HX:=zh hX;unfold Dk.Okay at hok;have hlen:d.l.length<=1048576:=by omega
 clear hd hok hy hX;go_in;go_wp2_with fail;refine(jmo W HD.o).mono ?_;rintro e w1 ⟨A1,c1,rfl,ho1,hb1⟩;have S1:=zh ho1.sls;have B1:=zh hb1;clear ho1 hb1;go_wp2_with fail
 refine(jps d.l.length c1 A1 d.l w1 S1.o zv).mono ?_
 rintro e w2 ⟨A2,c2,rfl,_,hb2⟩;have B2:=zh (B1.o.trans (hb2.mono B1.o.size));rw[<-HN.o];clear hb2;generalize Jn.cutN d=m at*;go_wp2_with fail;refine(dCut_x w2 (HD.o.below B2.o) (fun i hi=>HX.o i (Nat.le_trans B2.o.size hi)) (n:=(m:Int)) zv).mono ?_;rw[HC.o.1,HC.o.2];rintro e w3 hp;obtain rfl:=hp.1;have P:=zh (hp.before (Kept.of_below B2.o));clear hp;go_wp2;go_ret;exact⟨rfl,P.o.2⟩
theorem jOpen_x(W:World){X:Nat->Prop}{r:Nat}{d:Dk.St}(hd:DskX W X r d)(hX:∀i,W.heap.size<=i->X i)(hy:Jn.Byt d):
  Calls Tryz.prog 32 #[.pointer (some ⟨r,0,none⟩)] W fun e w'=>e= .returned (.tuple #[.pointer (some ⟨W.heap.size,0,none⟩),.int .i64 ((d.l.length:Nat) -(Jn.cutN d:Nat))])/\Jrn w' X W.heap.size r (Jn.opened d)/\Kept X W w':=by
 have HD:=zh hd;have HX:=zh hX;have HY:=zh hy;clear hd hX hy;go_in;go_wp2_with fail;have hb:=(Below.refl W.heap.size W).alloc zl (.cells #[.pointer (some ⟨r,0,none⟩)] 128);have hbk:=heap_alloc_new W (.cells #[.pointer (some ⟨r,0,none⟩)] 128);have hsz:(W.alloc (.cells #[.pointer (some ⟨r,0,none⟩)] 128)).heap.size=W.heap.size+1:=by simp
 have D1:=zh ((HD.o.lt.below hb).more (Y:=fun i=>X i/\i≠W.heap.size) fun i hi _=>⟨hi.1,by have:=hi.2;omega⟩);have B1:=zh hb;have K1:=zh hbk;have Z1:=zh hsz;clear hb hbk hsz;generalize W.alloc (.cells #[.pointer (some ⟨r,0,none⟩)] 128)=w1 at*
 (refine(jmr w1 D1.o (fun i hi=>⟨HX.o i (by have:=Z1.o;omega),by have:=Z1.o;omega⟩) HY.o).mono ?_)
 rintro e w2 ⟨rfl,hd2,hk2⟩;have D2:=zh hd2;have KK:=zh hk2;clear hd2 hk2;obtain⟨z,hz⟩:∃z:Int,z=((d.l.length:Nat):Int) -(Jn.cutN d:Nat):=zx;rw[<-hz];have HZ:=zh hz;clear hz;go_wp2;go_ret2;refine⟨by rw[<-HZ.o];rfl,⟨(KK.o.block W.heap.size (by have:=Z1.o;omega) (fun hf=>hf.2 rfl)).trans K1.o,HX.o _ zl,D2.o,Jn.Whole.opened HY.o⟩,?_⟩;exact(Kept.of_below (F:=X) B1.o).trans KK.o fun i _ hi=>hi.1
section
variable{W:World}{X:Nat->Prop}{q r:Nat}{d:Dk.St}(h:Jrn W X q r d)(hX:∀i,W.heap.size<=i->X i)
include h hX
theorem jjk{n c:Nat}{A:Option Addr}{p:List Nat}(hs:Sl W A n c p)(hn:n<=900000000):
  Calls Tryz.prog 36 #[.pointer (some ⟨q,0,none⟩),.slice A n c] W fun e w'=>e= .returned (.int .i64 (Jn.appE d p))/\Jrn w' X q r (Jn.app d p)/\Kept X W w':=by
 have H:=zh h;have HX:=zh hX;have C1:=zh (jmq h.ask rfl h.dsk.okay rfl n c A p hs hn);have HP:Hid (∀x∈p,x<256):=hs.rd.1;clear h hX hs;by_cases h0:Jn.appE d p=0
 ·have E0:Hid (Jn.app d p=Dk.write d (fr p)/\Dk.writeE d (fr p)=0):=by
   show _/\_;unfold Jn.appE at h0;by_cases hp:putE p=0
   ·rw[if_neg zv]at h0
    unfold Jn.app;rw[if_neg zv];exact⟨rfl,h0⟩
   ·rw[if_pos hp]at h0;omega
  have Z0:=zh h0;rw[h0]at C1;go_in;go_wp2_with fail;refine C1.o.mono ?_;rintro e w1 ⟨A1,c1,f,rfl,ho1,hf,hb1⟩;have S1:=zh ho1.sls;have B1:=zh hb1;have HF:Hid (f=fr p):=hf (by trivial);have H1:=zh (H.o.below hb1);clear ho1 hb1 hf C1 h0;go_wp2_with fail;refine(jdd w1 q _ H1.o.blk).mono ?_;rintro e w1' ⟨rfl,rfl⟩;go_wp2_with fail
  refine(jmn w1' H1.o.dsk (H1.o.fresh fun i hi=>HX.o i (Nat.le_trans B1.o.size hi)) S1.o).mono ?_
  rw[HF.o,<-E0.o.1,E0.o.2];rintro e w2 hp;obtain⟨rfl,hj,hk⟩:=H1.o.step hp (H.o.whole.app HP.o);have J2:=zh hj;have K2:=zh hk;clear hp hj hk;go_wp2;go_ret;exact⟨by rw[Z0.o];rfl,J2.o,(Kept.of_below (F:=X) B1.o).trans K2.o fun i _ hi=>hi⟩
 ·have E0:Hid (Jn.app d p=d):=by
   show _=d;unfold Jn.appE at h0;unfold Jn.app;by_cases hp:putE p=0
   ·rw[if_neg zv]at h0⊢
    unfold Dk.writeE at h0;unfold Dk.write;split at h0
    ·omega
    ·rename_i hg;rw[if_neg hg]
   ·rw[if_pos hp]
  have hne:(Jn.appE d p !=0)=true:=by rw[bne_iff_ne];exact h0
  obtain⟨y,hy⟩:∃y,y=Jn.appE d p:=zx;rw[<-hy]at C1 hne⊢;clear h0 hy;go_in;go_wp2_with fail;refine C1.o.mono ?_;rintro e w1 ⟨A1,c1,f,rfl,ho1,hf,hb1⟩;have B1:=zh hb1;clear ho1 hb1 hf C1;go_wp2;go_ret;exact⟨rfl,by rw[E0.o];exact H.o.below B1.o,Kept.of_below B1.o⟩
omit h hX in
theorem zz13{p:Prop}(h:p:=by
 go_wp2_with fail
 refine(CN.o w2 _ _ S3.o).mono ?_
 rintro e w3 ⟨rfl,hb3⟩;have F3:=zh (FIN.o w3 hb3);clear hb3 FIN;go_wp2_with fail;refine F3.o.mono ?_;rintro e w4 ⟨⟨z,rfl⟩,hj,hk⟩;have J4:=zh hj;have K4:=zh hk;clear hj hk;go_wp2;go_ret;exact⟨rfl,J4.o,K4.o⟩):p:=h
theorem jSync_x:Calls Tryz.prog 38 #[.pointer (some ⟨q,0,none⟩)] W fun e w'=>e= .returned (.int .i64 (Jn.syncN d))/\Jrn w' X q r (Dk.sync d)/\Kept X W w':=by
 have H:=zh h;have HX:=zh hX;have hok:=h.dsk.okay;unfold Dk.Okay at hok;have hle:=hok.1;have hlen:d.l.length<=1048576:=by omega
 have HN:Hid (((scan (d.l.drop d.safe)).1.length:Nat)=Jn.syncN d):=h.whole.syncN;clear h hX hok;go_in;go_wp2_with fail;refine(jdd W q _ H.o.blk).mono ?_;rintro e W' ⟨rfl,rfl⟩;go_wp2_with fail;refine(jmo W' H.o.dsk).mono ?_;rintro e w1 ⟨A1,c1,rfl,ho1,hb1⟩;have S1:=zh ho1.sls;have B1:=zh hb1;have hcap:=ho1.sls.cap;have hmax:=ho1.sls.max;unfold maxLen at hmax;clear ho1 hb1;go_wp2_with fail;refine(jpt w1 (H.o.dsk.below B1.o)).mono ?_;rintro e w2 ⟨rfl,hb2⟩;have S2:=zh (S1.o.on hb2);have B2:=zh (B1.o.trans (hb2.mono B1.o.size));clear hb2 S1;have CN:Hid (∀w A c,Sl w A (d.l.length -d.safe) c (d.l.drop d.safe)->Calls Tryz.prog 52 #[.slice A (d.l.length -d.safe) c] w (jd8 w (.int .i64 (Jn.syncN d)))):=fun w A c hs=>by
  rw[<-HN.o];exact jht _ c A _ w hs zv
 have fin:∀w3,zF w2 w3->Calls Tryz.prog 71 #[.pointer (some ⟨r,0,none⟩)] w3 fun e w'=>(∃z:Int,e= .returned (.int .i64 z))/\Jrn w' X q r (Dk.sync d)/\Kept X W' w':=fun w3 hb3=>by
  have B3:=B2.o.trans (hb3.mono B2.o.size);have H3:=H.o.below B3;refine(dSync_x w3 H3.dsk (H3.fresh fun i hi=>HX.o i (Nat.le_trans B3.size hi))).mono ?_;intro e w4 hp;obtain⟨he,hj,hk⟩:=H3.step hp H.o.whole.sync;exact⟨⟨_,he⟩,hj,(Kept.of_below B3).trans hk fun i _ hi=>hi⟩
 have FIN:=zh fin;clear fin;by_cases hcs:c1=d.safe
 ·have S3:=zh (S2.o.dropAll hle hcs)
  rw[show c1 -d.safe=0 by omega]at S3;exact zz13
 ·have S3:=zh (S2.o.drop hle hcs)
  exact zz13
end
section
variable{W:World}{X:Nat->Prop}{q r:Nat}{d:Dk.St}(h:Jrn W X q r d)(hX:∀i,W.heap.size<=i->X i)
include h hX
theorem jTorn_x{n c:Nat}{A:Option Addr}{p:List Nat}(hs:Sl W A n c p)(hn:n<=900000000){keep:Int}:
  Calls Tryz.prog 39 #[.pointer (some ⟨q,0,none⟩),.slice A n c,.int .i64 keep] W fun e w'=>e= .returned (.int .i64 (Jn.tornE d p))/\Jrn w' X q r (Jn.torn d p keep)/\Kept X W w':=by
 have H:=zh h;have HX:=zh hX;have C1:=zh (jmq h.ask rfl h.dsk.okay rfl n c A p hs hn);have HP:Hid (∀x∈p,x<256):=hs.rd.1;have HW:=zh (h.whole.torn hs.rd.1 keep);have hok:=h.dsk.okay;clear h hX hs;by_cases h0:Jn.appE d p=0
 ·obtain⟨kk,hkk⟩:∃kk,kk=Jn.keptN p keep:=zx
  have hm:kk<=(fr p).length:=by rw[hkk];unfold Jn.keptN;omega
  have hmx:max 0 (min keep (((fr p).length:Nat):Int))=(kk:Nat):=by rw[hkk];unfold Jn.keptN;omega
  have E0:Hid (Jn.torn d p keep=Jn.opened (Dk.sync (Dk.write d ((fr p).take kk)))):=by show Jn.torn d p keep=_;unfold Jn.torn;rw[if_neg zv,<-hkk]
  have T0:Hid (Jn.tornE d p=13):=by show _=_;unfold Jn.tornE;rw[if_neg zv]
  have HY:Hid (Jn.Byt (Dk.write d ((fr p).take kk))):=H.o.whole.byt.write fun x hx=>fr_byte HP.o x (List.mem_of_mem_take hx);have HC:=zh (Jn.crash_all (Dk.write d ((fr p).take kk)) (hok.write _));have hfl:(fr p).length<=1048576:=by
   rw[fr_length];unfold Jn.appE at h0;by_cases hp:putE p=0
   ·have:=(Jn.put_ok hp).2;omega
   ·rw[if_pos hp]at h0;omega
  have hwl:(Dk.write d ((fr p).take kk)).l.length<=1048576:=Nat.le_trans (hok.write _).2.1 (hok.write _).2.2;rw[h0]at C1;clear hkk h0 hok;obtain⟨f,hf0⟩:∃f,f=fr p:=zx;rw[<-hf0]at hm hmx E0 HY HC hfl hwl;have HF0:=zh hf0;clear hf0;generalize Jn.tornE d p=te at*;go_in;go_wp2_with fail;refine C1.o.mono ?_;rintro e w1 ⟨A1,c1,f1,rfl,ho1,hf,hb1⟩;obtain rfl:f1=f:=(hf (by trivial)).trans HF0.o.symm;have B1:=zh hb1;have S1:=zh ((ho1.sls).take (k:=kk) hm);have H1:=zh (H.o.below hb1);have hcap:=ho1.sls.cap;have hmax:=ho1.sls.max;unfold maxLen at hmax;clear ho1 hb1 hf C1;go_wp2_with fail;refine(jdd w1 q _ H1.o.blk).mono ?_;rintro e w1' ⟨rfl,rfl⟩;go_wp2_with fail
  refine(jmn w1' H1.o.dsk (H1.o.fresh fun i hi=>HX.o i (Nat.le_trans B1.o.size hi)) S1.o).mono ?_
  rintro e w2 ⟨rfl,hd2,hk2⟩;have D2:=zh hd2;have K2:=zh hk2;have F2:Hid (∀i,w2.heap.size<=i->X i/\i≠q):=fun i hi=>H1.o.fresh (fun i hi=>HX.o i (Nat.le_trans B1.o.size hi)) i (Nat.le_trans hk2.size hi);clear hd2 hk2;obtain⟨d2,hd2⟩:∃d2,d2=Dk.write d (f1.take kk):=zx;rw[<-hd2]at E0 HY HC hwl D2;generalize Dk.writeE d (f1.take kk)=we at*;clear hd2;go_wp2_with fail;refine(dLen_x w2 D2.o).mono ?_;rintro e w3 ⟨rfl,hb3⟩;have D3:=zh (D2.o.below hb3);have K3:=zh (K2.o.trans (Kept.of_below (F:=fun i=>X i/\i≠q) hb3) fun i _ hi=>hi);have F3:Hid (∀i,w3.heap.size<=i->X i/\i≠q):=fun i hi=>F2.o i (Nat.le_trans hb3.size hi);clear hb3 F2 K2 D2;have CC:=zh (jt9 w3 D3.o F3.o (keep:=(d2.l.length:Nat)) zv);rw[HC.o]at CC;go_wp2_with fail
  refine CC.o.mono ?_
  rintro e w4 ⟨rfl,hd4,hk4⟩;have D4:=zh hd4;have K4:=zh (K3.o.trans hk4 fun i _ hi=>hi);have F4:Hid (∀i,w4.heap.size<=i->X i/\i≠q):=fun i hi=>F3.o i (Nat.le_trans hk4.size hi);clear hd4 hk4 CC F3 D3 K3;generalize Dk.lost d2 (d2.l.length:Nat)=lo at*;go_wp2_with fail
  refine(jmr w4 D4.o F4.o HY.o.sync).mono ?_
  rintro e w5 hp;obtain⟨rfl,hj,hk⟩:=H1.o.step (hp.before K4.o) (by rw[<-E0.o];exact HW.o);rw[<-E0.o]at hj;have J5:=zh hj;have K5:=zh ((Kept.of_below (F:=X) B1.o).trans hk fun i _ hi=>hi);clear hp hj hk;go_wp2;go_ret;exact⟨by rw[T0.o];rfl,J5.o,K5.o⟩
 ·have E0:Hid (Jn.torn d p keep=d/\Jn.tornE d p=Jn.appE d p):=by
   show _/\_;unfold Jn.torn Jn.tornE;rw[if_pos h0,if_pos h0];exact⟨rfl,rfl⟩
  have hne:(Jn.appE d p !=0)=true:=by rw[bne_iff_ne];exact h0
  rw[E0.o.2];obtain⟨y,hy⟩:∃y,y=Jn.appE d p:=zx;rw[<-hy]at C1 hne⊢;clear h0 hy;go_in;go_wp2_with fail;refine C1.o.mono ?_;rintro e w1 ⟨A1,c1,f,rfl,ho1,hf,hb1⟩;have B1:=zh hb1;clear ho1 hb1 hf C1;go_wp2;go_ret;exact⟨rfl,by rw[E0.o.1];exact H.o.below B1.o,Kept.of_below B1.o⟩
theorem jk0{n c:Nat}{A:Option Addr}{ls:List (List Nat)}(hs:SlS W A n c ls)(hl:ls.length<=1000)(hpl:∀p∈ls,p.length<=900000000):
  Calls Tryz.prog 25 #[.pointer (some ⟨q,0,none⟩),.slice A n c] W fun e w'=>e= .returned (.int .i64 (Jn.swapE d ls))/\Jrn w' X q r (Jn.swap d ls)/\Kept X W w':=by
 have H:=zh h;have HX:=zh hX;have HS:=zh hs;have hnl:n=ls.length:=hs.len;have hn1000:n<=1000:=by omega
 have HN:=zh hnl;have HPL:=zh hpl;have HB:Hid (∀p∈ls,∀x∈p,x<256):=fun p hp=>by
  obtain⟨j,hj,rfl⟩:=List.mem_iff_getElem.1 hp;obtain⟨b,o,_,_,hc⟩:=hs.rd zv;obtain⟨A',n',c',_,h2⟩:=hc j hj;have:=h2.rd.1
  rwa [jal hj]at this
 have HW:=zh (h.whole.swap HB.o);clear h hX hs hl hnl hpl;go_in;go_wp2_with fail;refine(jdd W q _ H.o.blk).mono ?_;rintro e W' ⟨rfl,rfl⟩;go_wp2_with fail;go_loopw [6,17] (fun v i wr=>∃(m:Nat) (A':Option Addr) (c' y:Nat),m<=n/\i= .int .i64 m/\(∀j,j<m->putE (ls.getD j [])=0)/\v= .slice A' y c'/\y=(all (ls.take m)).length/\OwnB wr W'.heap.size (.slice A' y c') (all (ls.take m))/\Below W'.heap.size W' wr) (fun _ i _=>n -(intOf i).toNat)
 case atStart=>exact⟨0,none,0,0,zv,rfl,fun j hj=>absurd hj zv,rfl,rfl,OwnB.none_ _ _,zD⟩
 case round=>
  obtain⟨m,A',c',y,hm,rfl,hput,rfl,hyl,hown,hb⟩:=hrel;have O:=zh hown;have B:=zh hb;have P:=zh hput;have YL:=zh hyl;have hy:y<=1006*m:=by rw[hyl];exact Jn.all_len (by rw[<-HN.o];exact hm) hput
  clear hown hb hput hyl;by_cases hlt:m<n
  ·have hml:m<ls.length:=by rw[<-HN.o];exact hlt
   obtain⟨b,o,rfl,hbb,hc⟩:=HS.o.rd zv;obtain⟨A2,n2,c2,hcell,hs2⟩:=hc m hml;have c0:=(B.o.cell (p:=⟨b,o+m,none⟩) hbb).trans hcell;have hp9:n2<=900000000:=by rw[hs2.len,jal hml];exact HPL.o _ (List.getElem_mem hml)
   have C2:=zh (jig 0 0 n2 c2 none A2 [] (ls.getD m []) wr (Sl.none_ _) (hs2.on B.o) zv hp9);have SN:=zh (all_take_snoc hml);have PM:=zh (fun he=>Jn.bad_at P.o hml he);clear hc hcell hs2 hp9;have i1:(0:Int)<=(m:Int):=by omega
   have i2:(m:Int)<(n:Int):=by omega
   obtain⟨x,hx⟩:∃x,x=all (ls.take m):=zx;rw[<-hx]at O YL SN;have HXx:=zh hx;clear hx;by_cases he:putE (ls.getD m [])=0
   ·have HE:=zh he
    have hpo:=Jn.put_ok he;have hL:putL [] (ls.getD m [])=fr (ls.getD m []):=(jif hpo.1 hpo.2).2;rw[hL,he]at C2;have HFL:Hid ((fr (ls.getD m [])).length<=1006):=by show _<=_;rw[fr_length];omega
    obtain⟨z,hz⟩:∃z,z=(fr (ls.getD m [])).length:=zx;unfold jfp at C2;rw[<-hz]at C2 HFL;have HZ:=zh hz;clear he hpo hL hz;go_wp2_with fail
    refine C2.o.mono ?_
    rintro e w4 ⟨A4,c4,rfl,ho4,hb4⟩;have S4:=zh ho4.sls;have O4:=zh (O.o.below hb4);have B4:=zh (B.o.trans (hb4.mono B.o.size));have LZ:Hid (x.length+(fr (ls.getD m [])).length<=140737488355328):=by show _<=_;have h1:=HFL.o;have h2:=YL.o;have h3:=HZ.o;omega
    have LX:Hid (y+z=(x++fr (ls.getD m [])).length):=by show _=_;rw[zA,YL.o,HZ.o]
    clear ho4 hb4 C2;obtain⟨f,hf⟩:∃f,f=fr (ls.getD m []):=zx;rw[<-hf]at S4 LZ SN LX;clear hf HZ;go_wp2_with(at_builtin;refine jan rfl (.tmp 29) (.tmp 30) rfl W'.heap.size _ x rfl O4.o z c4 A4 f rfl S4.o LZ.o B4.o.size ?_;intro v5 w5 ho5 hb5;have O5:=zh ho5;have B5:=zh (B4.o.trans hb5);obtain⟨A5,c5,rfl,_⟩:=ho5.sl;clear ho5 hb5);rw[<-LX.o]at O5;go_roundw
    case rel=>exact⟨m+1,A5,c5,y+z,zv,by go_num,(fun j hj=>by rcases Nat.lt_or_ge j m with h|h;exact P.o j h;rw[show j=m from by omega];exact HE.o),by rw[LX.o,zA],by rw[SN.o,LX.o],by rw[SN.o];exact O5.o,B5.o⟩
    case measure=>simp[intOf];omega
   ·have HBD:=zh (PM.o he)
    have hne:(((putE (ls.getD m []):Nat):Int) !=0)=true:=by rw[bne_iff_ne];omega
    have HXX:Hid (Jn.swap d ls=d/\Jn.swapE d ls=(putE (ls.getD m []):Nat)):=by
     show _/\_;unfold Jn.swap Jn.swapE;rw[HBD.o,if_pos he,if_pos he];exact⟨rfl,rfl⟩
    obtain⟨z,hz⟩:∃z,z=(putL [] (ls.getD m [])).length:=zx;unfold jfp at C2;rw[<-hz]at C2;clear he hz HBD PM;generalize putE (ls.getD m [])=ee at*;go_wp2_with fail
    refine C2.o.mono ?_
    rintro e w4 ⟨A4,c4,rfl,_,hb4⟩;have B4:=zh (B.o.trans (hb4.mono B.o.size));clear hb4;go_wp2;go_ret;exact⟨by rw[HXX.o.2];rfl,by rw[HXX.o.1];exact H.o.below B4.o,Kept.of_below B4.o⟩
  ·obtain rfl:m=n:=by omega
   have HT:Hid (ls.take m=ls):=by show _=_;rw[HN.o,List.take_length]
   have h0:=Jn.bad_none (fun j hj=>P.o j (by rw[HN.o];exact hj));have HXX:Hid (Jn.swap d ls=Dk.swap d (all ls)/\Jn.swapE d ls=Dk.swapE d (all ls)):=by
    show _/\_;unfold Jn.swap Jn.swapE;rw[h0,if_neg zv,if_neg zv];exact⟨rfl,rfl⟩
   have S:=zh O.o.sls;rw[HT.o]at S;have H1:=zh (H.o.below B.o);clear h0 HT O YL;go_wp2_with fail
   refine(dSwap_x wr H1.o.dsk (H1.o.fresh fun i hi=>HX.o i (Nat.le_trans B.o.size hi)) S.o).mono ?_
   rw[<-HXX.o.1,<-HXX.o.2];rintro e w2 hp;obtain⟨rfl,hj,hk⟩:=H1.o.step hp HW.o;have J2:=zh hj;have K2:=zh ((Kept.of_below (F:=X) B.o).trans hk fun i _ hi=>hi);clear hp hj hk;obtain⟨ee,hee⟩:∃ee,ee=Jn.swapE d ls:=zx;rw[<-hee];have HEE:=zh hee;clear hee;go_wp2;go_ret;exact⟨by rw[<-HEE.o];rfl,J2.o,K2.o⟩
end
end Go.Proofs.YtkinlcfhojjalaaGreatDoor
namespace Go.Proofs.YtkinlcfhojjalaaGreatDoor
namespace Spc
def dg(n:Nat):List Nat:=if h:n<10 then[48+n]else dg (n/10)++[48+n%10]
termination_by n
decreasing_by omega
theorem dg_one{n:Nat}(h:n<10):dg n=[48+n]:=by rw[dg];simp[h]
theorem dg_more{n:Nat}(h:¬n<10):dg n=dg (n/10)++[48+n%10]:=by rw[dg];simp[h]
def digs(n:Int):List Nat:=if n<0 then 45::dg n.natAbs else dg n.natAbs
theorem dg_byte(n:Nat):∀x∈dg n,48<=x/\x<=57:=by
 induction n using Nat.strongRecOn with
 |ind n ih=>
  intro x hx;by_cases h:n<10
  ·rw[dg_one h]at hx;simp at hx;omega
  ·rw[dg_more h]at hx
   rcases List.mem_append.1 hx with hx|hx
   ·exact ih _ zv x hx
   ·simp at hx;omega
theorem digs_byte(n:Int):∀x∈digs n,x<256/\x≠32:=by
 intro x hx;unfold digs at hx;split at hx
 ·rcases List.mem_cons.1 hx with rfl|hx
  ·omega
  ·have:=dg_byte _ x hx;omega
 ·have:=dg_byte _ x hx;omega
theorem dg_len(n k:Nat)(h:n<10^(k+1)):(dg n).length<=k+1:=by
 induction k generalizing n with
 |zero=>rw[dg_one (by simpa using h)];simp
 |succ k ih=>
  by_cases h1:n<10
  ·rw[dg_one h1];simp
  ·rw[dg_more h1,zA]
   have:=ih (n/10) (by rw[Nat.pow_succ]at h;omega);simp;omega
theorem dg_pos(n:Nat):1<=(dg n).length:=by
 by_cases h:n<10
 ·rw[dg_one h];simp
 ·rw[dg_more h,zA];simp
def acc(l:List Nat)(n:Int):Int:=l.foldl (fun(n:Int) (c:Nat)=>10*n+(c:Int) -48) n
theorem acc_snoc(l:List Nat)(c:Nat)(n:Int):acc (l++[c]) n=10*acc l n+c -48:=by unfold acc;rw[List.foldl_append];rfl
theorem acc_dg(n:Nat):acc (dg n) 0=n:=by
 induction n using Nat.strongRecOn with
 |ind n ih=>
  by_cases h:n<10
  ·rw[dg_one h];show 10*(0:Int)+((48+n:Nat):Int) -48=n;omega
  ·rw[dg_more h,acc_snoc,ih _ zv];omega
def from_(l:List Nat):Nat:=if l.getD 0 0=45/\0<l.length then 1 else 0
def numV(l:List Nat):Int:=if from_ l=1 then -(acc ((l.drop (from_ l)).take 10) 0)else acc ((l.drop (from_ l)).take 10) 0
def numB(l:List Nat):Bool:=decide (l.length<=from_ l+9)&&decide (digs (numV l)=l)
theorem _root_.Go.Proofs.YtkinlcfhojjalaaGreatDoor.zz2b{p:Prop}(h:p:=by
 have:=dg_byte n.natAbs ((dg n.natAbs).getD 0 0) (by rw[jal h2];exact List.getElem_mem h2);omega):p:=h
theorem num_digs(n:Int)(h0:0<=n)(h9:n<1000000000):numV (digs n)=n/\numB (digs n)=true:=by
 have e:digs n=dg n.natAbs:=by unfold digs;rw[if_neg zv]
 have hl:=dg_len n.natAbs 8 zv;have hp:=dg_pos n.natAbs;have hf:from_ (digs n)=0:=by
  unfold from_;rw[if_neg];rintro⟨h1,h2⟩;rw[e]at h1 h2;exact zz2b
 have hv:numV (digs n)=n:=by
  unfold numV;rw[hf,if_neg zv,List.drop_zero,List.take_of_length_le (by rw[e];omega),e,acc_dg];omega
 refine⟨hv,?_⟩;unfold numB;rw[hv,hf,Bool.and_eq_true,decide_eq_true_eq,decide_eq_true_eq];exact⟨by rw[e];omega,rfl⟩
def wstep(ws:List (List Nat))(c:Nat):List (List Nat):=if c=32 then ws++[[]]else ws.dropLast++[ws.getLastD []++[c]]
def words(l:List Nat):List (List Nat):=l.foldl wstep [[]]
theorem fold_word(ws:List (List Nat))(u v:List Nat)(hv:∀x∈v,x≠32):v.foldl wstep (ws++[u])=ws++[u++v]:=by
 induction v generalizing u with
 |nil=>simp
 |cons c v ih=>
  have hc:c≠32:=hv c (by simp);rw[List.foldl_cons];have:wstep (ws++[u]) c=ws++[u++[c]]:=by unfold wstep;rw[if_neg hc];simp
  rw[this,ih _ (fun x hx=>hv x (by simp[hx]))];simp
def join:List (List Nat)->List Nat
 |[]=>[]
 |u::l=>u++l.flatMap fun v=>32::v
theorem fold_words(ws:List (List Nat))(l:List (List Nat))(hl:∀v∈l,∀x∈v,x≠32)(hne:ws≠[]):(l.flatMap fun v=>32::v).foldl wstep ws=ws++l:=by
 induction l generalizing ws with
 |nil=>simp
 |cons v l ih=>
  rw[List.flatMap_cons,List.foldl_append,List.foldl_cons];have:wstep ws 32=ws++[[]]:=by unfold wstep;rw[if_pos rfl]
  rw[this,fold_word _ _ _ (hl v (by simp)),List.nil_append,ih _ (fun y hy=>hl y (by simp[hy])) (by simp)];simp
theorem words_join{l:List (List Nat)}(hl:∀v∈l,∀x∈v,x≠32)(hne:l≠[]):words (join l)=l:=by
 rcases l with _|⟨u,l⟩
 ·exact absurd rfl hne
 ·show(u++l.flatMap fun v=>32::v).foldl wstep [[]]=_
  rw[List.foldl_append,show([[]]:List (List Nat))=[]++[[]]from rfl,fold_word _ _ _ (hl u (by simp)),fold_words _ _ (fun v hv=>hl v (by simp[hv])) (by simp)];simp
def text(s:Sp):List Nat:=join ((flds s).map digs)
theorem text_words(s:Sp):words (text s)=(flds s).map digs:=
 words_join (fun v hv x hx=>by
  obtain⟨n,_,rfl⟩:=List.mem_map.1 hv;exact(digs_byte n x hx).2) (by simp[flds])
def rdS(t:List Nat):Sp:=of ((words t).map numV)
def rdE(t:List Nat):Int:=if(words t).length≠12\/¬(∀u∈words t,numB u=true)then 2 else chkE (rdS t)
def rdV(t:List Nat):Sp:=if rdE t=0 then rdS t else zero
theorem back{s:Sp}(h:May s):rdE (text s)=0/\rdV (text s)=s:=by
 have hw:=text_words s;have hn:∀n∈flds s,numV (digs n)=n/\numB (digs n)=true:=fun n hn=>by
  have:=h.small n hn;exact num_digs n this.1 zv
 have hs:rdS (text s)=s:=by
  unfold rdS;rw[hw,List.map_map];have:(flds s).map (numV∘digs)=flds s:=by
   conv=>rhs;rw[<-List.map_id (flds s)]
   exact List.map_congr_left fun n hm=>(hn n hm).1
  rw[this,of_flds]
 have he:rdE (text s)=0:=by
  unfold rdE;rw[if_neg,hs]
  ·unfold chkE;rw[if_pos (chk_of h)]
  ·rw[hw]
   rintro(h1|h1)
   ·exact h1 (by rw[List.length_map];rfl)
   ·refine h1 fun u hu=> ?_
    obtain⟨n,hm,rfl⟩:=List.mem_map.1 hu;exact(hn n hm).2
 refine⟨he,?_⟩;unfold rdV;rw[if_pos he,hs]
end Spc
open Go.RowKit
theorem zzn{p:Prop}(h:p:=by
 have HI:Hid (Spc.inn n lo hi=(decide (lo<=n)&&decide (n<=hi))):=rfl;by_cases h1:lo<=n
 ·by_cases h2:n<=hi
  ·have e:Spc.inn n lo hi=true:=Spc.inn_iff.2 ⟨h1,h2⟩
   rw[e];clear HI e;go_in;go_wp2;go_ret;exact⟨rfl,rfl⟩
  ·have e:Spc.inn n lo hi=false:=by rw[HI.o,Bool.and_eq_false_iff,decide_eq_false_iff_not,decide_eq_false_iff_not];exact .inr h2
   rw[e];clear HI e;go_in;go_wp2;go_ret;exact⟨rfl,rfl⟩
 ·have e:Spc.inn n lo hi=false:=by rw[HI.o,Bool.and_eq_false_iff,decide_eq_false_iff_not,decide_eq_false_iff_not];exact .inl h1
  rw[e];clear HI e;go_in;go_wp2;go_ret;exact⟨rfl,rfl⟩):p:=h
theorem ja7(n lo hi:Int)(w:World):Calls Tryz.prog 191 #[.int .i64 n,.int .i64 lo,.int .i64 hi] w fun e w'=>e= .returned (.bool (Spc.inn n lo hi))/\w'=w:=by
 exact zzn
theorem zzl{p:Prop}(h:p:=by
 have HN:Hid (Spc.near n least many=least+n%18446744073709551616%many):=rfl;have h1:=Int.emod_nonneg n (b:=18446744073709551616) zv;have h2:=Int.emod_lt_of_pos n (b:=18446744073709551616) zv;have h3:=Int.emod_nonneg (n%18446744073709551616) (b:=many) zv;have h4:=Int.emod_lt_of_pos (n%18446744073709551616) hm.1;have hu:IntKind.u64.wrap n=n%18446744073709551616:=IntKind.wrap_u64 n;have hu2:IntKind.u64.wrap many=many:=by rw[IntKind.wrap_u64];omega
 generalize n%18446744073709551616=y at*;have ht:y.tmod many=y%many:=Int.tmod_eq_emod_of_nonneg h1;generalize y%many=z at*;go_in;go_wp2;go_ret;exact⟨by rw[HN.o];rfl,rfl⟩):p:=h
theorem ja8(n least many:Int)(hl:0<=least/\least<=1000)(hm:0<many/\many<=1000)(w:World):Calls Tryz.prog 131 #[.int .i64 n,.int .i64 least,.int .i64 many] w fun e w'=>e= .returned (.int .i64 (Spc.near n least many))/\w'=w:=by
 exact zzl
def Spc.cells(s:Spc.Sp):Array Value:=#[.int .i64 s.v,.int .i64 s.d,.int .i64 s.u,.int .i64 s.n,.int .i64 s.g,.int .i64 s.a,.int .i64 s.b,.int .i64 s.c,.int .i64 s.e,.int .i64 s.w,.int .i64 s.x,.int .i64 s.k]
def Spc.val(s:Spc.Sp):Value:= .agg (Spc.cells s)
structure SpAt(w:World)(g:Nat)(s:Spc.Sp):Prop where
 f0:w.cell? ⟨g,0,none⟩=some (.int .i64 s.v)
 f1:w.cell? ⟨g,1,none⟩=some (.int .i64 s.d)
 f2:w.cell? ⟨g,2,none⟩=some (.int .i64 s.u)
 f3:w.cell? ⟨g,3,none⟩=some (.int .i64 s.n)
 f4:w.cell? ⟨g,4,none⟩=some (.int .i64 s.g)
 f5:w.cell? ⟨g,5,none⟩=some (.int .i64 s.a)
 f6:w.cell? ⟨g,6,none⟩=some (.int .i64 s.b)
 f7:w.cell? ⟨g,7,none⟩=some (.int .i64 s.c)
 f8:w.cell? ⟨g,8,none⟩=some (.int .i64 s.e)
 f9:w.cell? ⟨g,9,none⟩=some (.int .i64 s.w)
 f10:w.cell? ⟨g,10,none⟩=some (.int .i64 s.x)
 f11:w.cell? ⟨g,11,none⟩=some (.int .i64 s.k)
theorem jae{w:World}{g:Nat}{s:Spc.Sp}{t:TypeId}{fr:Nat×Nat}(h:w.heap[g]? =some (.cells (Spc.cells s) t fr)):SpAt w g s:=by
 constructor<;>(rw[cell_of_row w g _ _ _ _ h];rfl)
theorem SpAt.below{w w':World}{g:Nat}{s:Spc.Sp}(h:SpAt w g s)(hg:g<w.heap.size)(hb:zF w w'):SpAt w' g s:=
 ⟨(hb.cell (p:=⟨g,0,none⟩) hg).trans h.f0,(hb.cell (p:=⟨g,1,none⟩) hg).trans h.f1,(hb.cell (p:=⟨g,2,none⟩) hg).trans h.f2,(hb.cell (p:=⟨g,3,none⟩) hg).trans h.f3,(hb.cell (p:=⟨g,4,none⟩) hg).trans h.f4,(hb.cell (p:=⟨g,5,none⟩) hg).trans h.f5,(hb.cell (p:=⟨g,6,none⟩) hg).trans h.f6,(hb.cell (p:=⟨g,7,none⟩) hg).trans h.f7,(hb.cell (p:=⟨g,8,none⟩) hg).trans h.f8,(hb.cell (p:=⟨g,9,none⟩) hg).trans h.f9,(hb.cell (p:=⟨g,10,none⟩) hg).trans h.f10,(hb.cell (p:=⟨g,11,none⟩) hg).trans h.f11⟩
theorem jc1{s:Spc.Sp}{j:Nat}(hj:j<=4)(h:∀m,m<j->Spc.at_ s m≠0)(he:j=4\/Spc.at_ s j=0):Spc.steps s=[s.a,s.b,s.c,s.e].take j:=by
 unfold Spc.steps;have g0:0<j->s.a≠0:=fun x=>h 0 x;have g1:1<j->s.b≠0:=fun x=>h 1 x;have g2:2<j->s.c≠0:=fun x=>h 2 x;have g3:3<j->s.e≠0:=fun x=>h 3 x;rcases j with _|_|_|_|_|j
 ·have e:s.a=0:=he.resolve_left zv
  simp[e]
 ·have e:s.b=0:=he.resolve_left zv
  simp[g0,e]
 ·have e:s.c=0:=he.resolve_left zv
  simp[g0,g1,e]
 ·have e:s.e=0:=he.resolve_left zv
  simp[g0,g1,g2,e]
 ·simp[g0,g1,g2,g3]
 ·omega
theorem jk1:Tryz.prog.underlying 33=some (.struct (Tryz.prog.fieldsOf 33)):=by kernel_rfl
theorem jnh:Tryz.prog.stoodInHeld 33=false:=by kernel_rfl
theorem jpv:Tryz.prog.underlying 31=some (.array 4 3):=by kernel_rfl
theorem jbz:Tryz.prog.eqGuardType Tryz.prog.depth 33=false:=by kernel_rfl
theorem jpw:Tryz.prog.cellsOf 3=1:=by kernel_rfl
section
variable{P:Program}{W:World}
theorem jgk{d:Nat}{xs ys:Array Value}:(Op.eqFields d xs ys []).run P W= .ok true W:=rfl
theorem jai{d:Nat}{xs ys:Array Value}{f:Field}{fs:List Field}{a b:Value}{r R:Bool}(hn:f.name≠ "_")(h1:(part f.type xs f.offset).run P W= .ok a W)(h2:(part f.type ys f.offset).run P W= .ok b W)
  (h3:(Op.equalIn d f.type a b).run P W= .ok r W) (h4:(Op.eqFields d xs ys fs).run P W= .ok R W):(Op.eqFields d xs ys (f::fs)).run P W= .ok (r&&R) W:=by
 cases r<;>simp[Op.eqFields,hn,h1,h2,h3,h4,Sem.run_bind,Result.andThen]
theorem jpx{d:Nat}{e:TypeId}{c:Nat}{xs ys:Array Value}:(Op.eqItems d e c xs ys []).run P W= .ok true W:=rfl
theorem jaw{d:Nat}{e:TypeId}{c:Nat}{xs ys:Array Value}{i:Nat}{is:List Nat}{a b:Value}{r R:Bool}(h1:(part e xs (i*c)).run P W= .ok a W)(h2:(part e ys (i*c)).run P W= .ok b W)
  (h3:(Op.equalIn d e a b).run P W= .ok r W) (h4:(Op.eqItems d e c xs ys is).run P W= .ok R W):(Op.eqItems d e c xs ys (i::is)).run P W= .ok (r&&R) W:=by
 cases r<;>simp[Op.eqItems,h1,h2,h3,h4,Sem.run_bind,Result.andThen]
end
theorem arr_eq(a b c e a' b' c' e':Int)(d:Nat)(W:World):(Op.equalIn (d+2) 31 (.agg #[.int .i64 a,.int .i64 b,.int .i64 c,.int .i64 e]) (.agg #[.int .i64 a',.int .i64 b',.int .i64 c',.int .i64 e'])).run Tryz.prog W= .ok ((a==a')&&((b==b')&&((c==c')&&((e==e')&&true)))) W:=by
 obtain⟨i0,hi0,hz0,hz1,hz2⟩:=info_parts jf3;rw[run_equalIn_array W (d+1) _ _ jpv hi0,jpw,show List.range 4=[0,1,2,3]from rfl];have hi:∀x y,(Op.equalIn (d+1) 3 (.int .i64 x) (.int .i64 y)).run Tryz.prog W= .ok (x==y) W:=fun x y=>run_equalIn_int W d 3 .i64 .i64 x y Tryz.underlying3;refine jaw ?_ ?_ (hi _ _) (jaw ?_ ?_ (hi _ _) (jaw ?_ ?_ (hi _ _) (jaw ?_ ?_ (hi _ _) jpx)))
 all_goals simp[go_sem,Sem.run_bind,Result.andThen]
def Spc.same(s t:Spc.Sp):Bool:=(s.v==t.v)&&((s.d==t.d)&&((s.u==t.u)&&((s.n==t.n)&&((s.g==t.g)&&(((s.a==t.a)&&((s.b==t.b)&&((s.c==t.c)&&((s.e==t.e)&&true))))&&((s.w==t.w)&&((s.x==t.x)&&((s.k==t.k)&&true))))))))
theorem Spc.same_iff{s t:Spc.Sp}:Spc.same s t=true↔s=t:=by
 unfold Spc.same;simp only[Bool.and_eq_true,beq_iff_eq,and_true];constructor
 ·rintro⟨h1,h2,h3,h4,h5,⟨h6,h7,h8,h9⟩,h10,h11,h12⟩
  cases s;cases t
  simp only at h1 h2 h3 h4 h5 h6 h7 h8 h9 h10 h11 h12;subst h1 h2 h3 h4 h5 h6 h7 h8 h9 h10 h11 h12;rfl
 ·rintro rfl
  simp
theorem jeu(s t:Spc.Sp)(d:Nat)(W:World):(Op.equalIn (d+3) 33 (Spc.val s) (Spc.val t)).run Tryz.prog W= .ok (Spc.same s t) W:=by
 unfold Spc.val;rw[run_equalIn_agg W (d+2) 33 _ _ jk1 jnh];have hi:∀x y,(Op.equalIn (d+2) 3 (.int .i64 x) (.int .i64 y)).run Tryz.prog W= .ok (x==y) W:=fun x y=>run_equalIn_int W (d+1) 3 .i64 .i64 x y Tryz.underlying3;have ha:=arr_eq s.a s.b s.c s.e t.a t.b t.c t.e d W;simp only[Program.fieldsOf,Tryz.underlying33,Spc.cells];unfold Spc.same;refine jai (by decide) ?_ ?_ (hi _ _) (jai (by decide) ?_ ?_ (hi _ _) (jai (by decide) ?_ ?_ (hi _ _) (jai (by decide) ?_ ?_ (hi _ _) (jai (by decide) ?_ ?_ (hi _ _) (jai (by decide) ?_ ?_ ha (jai (by decide) ?_ ?_ (hi _ _) (jai (by decide) ?_ ?_ (hi _ _) (jai (by decide) ?_ ?_ (hi _ _) jgk))))))))
 all_goals simp[go_sem,Sem.run_bind,Result.andThen]
theorem spec_eq(s t:Spc.Sp)(W:World):(binOp .eql 33 (Spc.val s) (Spc.val t)).run Tryz.prog W= .ok (.bool (Spc.same s t)) W:=by
 have h:=jeu s t 9997 W;unfold Spc.val at*;rw[run_eql_struct,h];rfl
theorem jc2(s t:Spc.Sp)(W:World):(binOp .neq 33 (Spc.val s) (Spc.val t)).run Tryz.prog W= .ok (.bool (!Spc.same s t)) W:=by
 have h:=jeu s t 9997 W;unfold Spc.val at*;rw[run_neq_struct,h];rfl
