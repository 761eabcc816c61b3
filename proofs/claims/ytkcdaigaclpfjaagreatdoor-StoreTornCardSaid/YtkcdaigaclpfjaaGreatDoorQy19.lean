import Derived.Test.YtkcdaigaclpfjaaGreatDoorQy18
set_option maxHeartbeats 6400000
set_option maxRecDepth 100000
set_option linter.unusedSimpArgs false
set_option linter.unusedVariables false
namespace Go.Proofs.YtkcdaigaclpfjaaGreatDoor
open Go.RowKit Go.Shelf Fr
attribute [local go_sem] Oper.semAt_some
def OwnF(w:World)(B:Nat)(v:Value)(ls:List (List Nat)):Prop:=
 ∃xs,w.ownsRow B 78 1 v ls.length xs/\∀j,j<ls.length->∃x,xs[j]? =some x/\Fits w v x (ls.getD j [])/\∀a n c,x= .slice (some a) n c->B<=a.block
theorem OwnF.none_(w:World)(B:Nat):OwnF w B (.slice none 0 0) []:=⟨[],World.ownsRow_nil _ _ _ _,fun j hj=>by simp at hj⟩
theorem OwnF.rows{w:World}{B:Nat}{v:Value}{ls:List (List Nat)}(h:OwnF w B v ls):OwnS w B v ls:=by
 obtain⟨xs,h1,h2⟩:=h;exact⟨xs,h1,fun j hj=>by obtain⟨x,h3,h4,_⟩:=h2 j hj;exact⟨x,h3,h4⟩⟩
theorem OwnF.lower{w:World}{B B':Nat}{v:Value}{ls:List (List Nat)}(h:OwnF w B v ls)(hB:B'<=B):OwnF w B' v ls:=by
 obtain⟨xs,h1,h2⟩:=h;exact⟨xs,jcm h1 hB,fun j hj=>by obtain⟨x,h3,h4,h5⟩:=h2 j hj;exact⟨x,h3,h4,fun a n c e=>Nat.le_trans hB (h5 a n c e)⟩⟩
theorem OwnF.kept{F:Nat->Prop}{w w':World}{B:Nat}{v:Value}{ls:List (List Nat)}(h:OwnF w B v ls)(hk:Kept F w w')(hF:∀i,B<=i->i<w.heap.size->¬F i):OwnF w' B v ls:=by
 obtain⟨xs,ho,hf⟩:=h;refine⟨xs,⟨ho.1,?_⟩,fun j hj=> ?_⟩
 ·rcases ho.2 with h2|⟨g,cap,cur,hv,hg,hh,r⟩
  ·exact .inl h2
  ·have hlt:=(Array.getElem?_eq_some_iff.1 hh).1
   exact .inr ⟨g,cap,cur,hv,hg,(hk.block g hlt (hF g hg hlt)).trans hh,r⟩
 ·obtain⟨x,hx,⟨A,n,c,e,hs,hfar⟩,hb⟩:=hf j hj
  refine⟨x,hx,⟨A,n,c,e,⟨⟨hs.rd.1,fun hl=> ?_⟩,hs.len,hs.cap,hs.max,hs.nil⟩,hfar⟩,hb⟩;obtain⟨b,o,e2,hbb,hc⟩:=hs.rd.2 hl;exact⟨b,o,e2,Nat.lt_of_lt_of_le hbb hk.size,fun i hi=>(ji3 (a:=⟨b,o+i,none⟩) (hk.block b hbb (hF b (hb ⟨b,o,none⟩ n c (by rw[e,e2])) hbb))).trans (hc i hi)⟩
theorem OwnF.below{w w':World}{B:Nat}{v:Value}{ls:List (List Nat)}(h:OwnF w B v ls)(hb:Below w.heap.size w w'):OwnF w' B v ls:=h.kept (Kept.of_below (F:=fun _=>False) hb) fun _ _ _ hf=>hf
theorem jdp{F:Fence}{nF:Nat}{w:World}{ops:Array Oper}{rest:List Oper}{op:Oper}{a:Act}{Q:Exit->Act->World->Prop}(hgd:op.guard=none)(s x:Operand)
  (ho:op.op= .call {callee:= .builtin .append,args:=#[s,x],argTypes:=#[72,72]})
  (base:Nat) (v:Value) (ls:List (List Nat)) (hs:a.eval s=v) (hown:OwnF w base v ls) (A:Option Addr) (n c:Nat) (l:List Nat) (hl:Sl w A n c l) (hA:∀a,A=some a->base<=a.block) (hx:a.eval x= .slice (some ⟨w.heap.size,0,none⟩) 1 1)
  (hfar:∀a,A=some a->v.ownBlock≠some a.block) (hlen:ls.length<=3000000000) (hbase:base<=w.heap.size)
  (h:∀v' w',OwnF w' base v' (ls++[l])->w.grownBy w' v.ownBlock->wpListIn F nF Tryz.prog ops Q rest (a.put op.dst v') w'):wpListIn F nF Tryz.prog ops Q (op::rest) a (w.alloc (.cells #[.slice A n c] 78)):=by
 obtain⟨i0,hi0,hz0,hz1,hz2⟩:=info_parts jo4;have hb:=(Below.refl w.heap.size w).alloc (Nat.le_refl _) (.cells #[.slice A n c] 78);have hvlt:=hown.rows.base;obtain⟨xs,ho1,hf⟩:=hown.below hb;have hxl:=ho1.1;rw[Nat.mul_one]at hxl;refine wpListIn_append_own_at (F:=F) (nF:=nF) (P:=Tryz.prog) (w.alloc (.cells #[.slice A n c] 78)) hgd s x 72 ho base 78 i0 _ 1 24 Tryz.underlying72 hi0 hz0 hz1 hz2 rfl zv v ls.length xs hs ho1 ⟨w.heap.size,0,none⟩ 1 1 [.slice A n c] hx rfl ?_ ?_ (by unfold maxLen;omega) zv (by simp;omega) ?_
 ·intro j u hu
  rcases j with _|j
  ·simp at hu
   subst hu;have:((⟨w.heap.size,0,none⟩:Addr).add 0)=⟨w.heap.size,0,none⟩:=by unfold Addr.add;split<;>simp_all
   rw[this,World.cell?_alloc_at _ _ _ _ rfl];rfl
  ·simp at hu
 ·intro u hu;simp at hu;subst hu;rfl
 ·intro v' w' h1 h2 _ h4
  have hg:w.grownBy w' v.ownBlock:=jan (World.grownBy_alloc w _ _) h2;have hsz:(w.alloc (.cells #[.slice A n c] 78)).heap.size=w.heap.size+1:=by simp
  refine h v' w' ⟨xs++[.slice A n c],by rw[List.length_append];exact h1,fun j hj=> ?_⟩ hg;rw[List.length_append,List.length_singleton]at hj;by_cases hjl:j<ls.length
  ·obtain⟨y,hy,hfy,hby⟩:=hf j hjl
   refine⟨y,?_,?_,hby⟩
   ·rw[List.getElem?_append_left zv];exact hy
   ·rw[jd5 _ _ _ _ hjl];exact hfy.grown h2 h4
  ·obtain rfl:j=ls.length:=by omega
   refine⟨.slice A n c,by rw[List.getElem?_append_right zv,hxl];simp,?_,fun a' n' c' e=>by injection e with e1;exact hA a' e1⟩
   rw[jd6 _ _ _ _ (Nat.le_refl _) (by simp),Nat.sub_self];exact(Fits.grown ⟨A,n,c,rfl,hl.on hb,fun _ a ha=>hfar a ha⟩ h2 h4)
def JAllF(ls:List (List Nat))(w:World)(e:Ending)(w':World):Prop:=∃A c,e= .returned (.slice A ls.length c)/\OwnF w' w.heap.size (.slice A ls.length c) ls/\Below w.heap.size w w'
theorem jsx(p0 d0:Option Addr)(l:List Nat)(w:World)(hl:l.length<=1000000000)
  (hd:∀W,Below w.heap.size w W->Calls Tryz.prog 44 #[.pointer p0] W fun e w'=>e= .returned (.pointer d0)/\w'=W)
  (ha:∀W,Below w.heap.size w W->Calls Tryz.prog 45 #[.pointer d0] W (jex l W)):
  Calls Tryz.prog 21 #[.pointer p0] w (JAllF (scan l).1 w):=by
 have HD:=zh hd;have HA:=zh ha;clear hd ha;refine(callsIn_wide (n:=3)).1 ?_;refine callsIn_of_wp_marks Tryz.func21 rfl trivial ?_ rfl;simp only[Tryz.ntmps21,List.size_toArray,List.length_cons,List.length_nil,Nat.reduceAdd,Nat.reduceSub,Array.replicate_succ,Array.replicate_zero,List.push_toArray,List.append_toArray,List.nil_append,List.cons_append];have hcount:(scan l).1.length<=1000000000:=Nat.le_trans (scan_count l) hl;have hb1:=(Below.refl w.heap.size w).alloc (Nat.le_refl _) (.cells #[.slice none 0 0] 72);have hc1:=heap_alloc_new w (.cells #[.slice none 0 0] 72);have hs1:(w.alloc (.cells #[.slice none 0 0] 72)).heap.size=w.heap.size+1:=by simp
 gi_wp2_with fail
 generalize w.alloc (.cells #[.slice none 0 0] 72)=w1 at*;refine⟨trivial,callsIn_wide.2 ?_⟩;refine(HD.out w1 hb1).mono ?_;rintro e w1' ⟨rfl,rfl⟩
 gi_wp2_with fail
 refine⟨trivial,callsIn_wide.2 ?_⟩;refine(HA.out w1' hb1).mono ?_;rintro e w2 ⟨A2,c2,rfl,ho2,hb2⟩
 gi_wp2_with fail
 refine⟨trivial,callsIn_wide.2 ?_⟩;refine(jfb _ c2 A2 _).mono ?_;rintro e w3 ⟨rfl,rfl⟩
 gi_wp2_with fail
 have hb3:=(Below.refl w2.heap.size w2).alloc (Nat.le_refl _) (.cells #[.slice A2 l.length c2] 78);have hbox:=heap_alloc_new w2 (.cells #[.slice A2 l.length c2] 78);have hs3:(w2.alloc (.cells #[.slice A2 l.length c2] 78)).heap.size=w2.heap.size+1:=by simp
 have S:=zh (ho2.sls.on hb3);have hfrom:=ho2.from_;have hlt2:=ho2.sls.block;have hz2:=hb2.size;have hcell:=(hb3.block w.heap.size zv).trans ((hb2.block w.heap.size zv).trans hc1);have hbw:=(hb1.trans (hb2.mono hb1.size)).trans (hb3.mono (Nat.le_trans hb1.size hb2.size));generalize w2.alloc (.cells #[.slice A2 l.length c2] 78)=W0 at*;clear ho2 hc1 hb1 hb2 hb3;refine jc6 (gf:=96) (lb:=#[.pointer (some ⟨w2.heap.size,0,none⟩)]) rfl (enters_of Tryz.func96 (by kernel_rfl) rfl) (Y:=fun i=>i=w.heap.size\/W0.heap.size+2<=i)
  (jem l.length c2 A2 l W0 _ S.out hbox hl _ (fun h0 a ha hz=>by have:=hfrom a ha;have:=hlt2 h0 a ha;omega)) rfl zv zv
  (fun k W=>(∃v,W.heap[w.heap.size]? =some (.cells #[v] 72 (0,0))/\OwnF W (W0.heap.size+2) v ((scan l).1.take k))/\Below w.heap.size w W) ?inv ?start
  (fun x=>{tmps:=#[.pointer p0,undef,.slice none 0 0,.pointer (some ⟨w.heap.size,0,none⟩),x,.pointer p0,.pointer d0,.slice A2 l.length c2,.func (.func 96) #[] #[.pointer (some ⟨w2.heap.size,0,none⟩)],x,undef,undef,undef,undef,undef],defers:=[]}) ?assign ?body ?done
 case inv=>
  rintro k X Y ⟨⟨v,h1,h3⟩,h2⟩ hX hK;exact⟨⟨v,(hK.block _ (Array.getElem?_eq_some_iff.1 h1).1 zv).trans h1,h3.kept hK (fun i hi _ hf=>by omega)⟩,h2.trans (hK.below h2.size (fun i hi=>by omega))⟩
 case start=>
  intro W1 hb hz;exact⟨⟨_,(hb.block _ zv).trans hcell,by rw[List.take_zero];exact OwnF.none_ _ _⟩,hbw.trans (hb.mono hbw.size)⟩
 case assign=>
  intro y x W K hK
  gi_wp2
  exact hK
 case body=>
  rintro y k A' c' p V0 V hp ⟨⟨v,h1,h3⟩,h2⟩ hz0 hk ho;have hkl:=(List.getElem?_eq_some_iff.1 hp).1;have HL:Hid (((scan l).1.take k).length<=3000000000):=by show _<=_;rw[List.length_take];omega
  have HT:Hid ((scan l).1.take (k+1)=(scan l).1.take k++[p]):=by
   show _=_;rw[List.take_succ_eq_append_getElem hkl,(List.getElem?_eq_some_iff.1 hp).2]
  obtain⟨q,hq⟩:∃q,q=(scan l).1.take k:=⟨_,rfl⟩;rw[<-hq]at h3 HL HT;have HQ:=zh hq;clear hq;have hzV:=hk.size;have hv0:=h3.rows.base;have h1V:=(hk.block w.heap.size (Array.getElem?_eq_some_iff.1 h1).1 zv).trans h1;have h3V:=h3.kept hk (fun i hi _ hf=>by omega);have b3:=zh (h2.trans (hk.below h2.size (fun i hi=>by omega)));have hc:V.cell? ⟨w.heap.size,0,none⟩=some v:=by rw[cell_of_row V w.heap.size 0 _ _ _ h1V];rfl
  have H1:=zh h1V;have H3:=zh h3V;have HO:=zh ho;have HF:Hid (∀a,A'=some a->v.ownBlock≠some a.block):=fun a ha e=>by
   have h5:=HO.out.from_ a ha;have h6:=(hv0 _ e).2;omega
  have HBl:Hid (∀a,A'=some a->W0.heap.size+2<=a.block):=fun a ha=>Nat.le_trans hz0 (HO.out.from_ a ha);have HV0:Hid (∀i,v.ownBlock=some i->W0.heap.size+2<=i):=fun i e=>(hv0 i e).1;have HV:Hid (v.ownBlock≠some w.heap.size):=fun e=>by have:=(hv0 _ e).1;omega
  have hbase:W0.heap.size+2<=V.heap.size:=by omega
  obtain⟨Av,cv,rfl,_⟩:=h3V.rows.sls;clear h1 h2 hp h3 ho hk h1V h3V hv0 hkl
  gi_wp2_with (gi_at_builtin;refine jdp rfl (.tmp 10) (.tmp 12) rfl (W0.heap.size+2) _ _ rfl H3.out A' p.length c' p HO.out.sls HBl.out rfl HF.out HL.out hbase ?_;intro v3 w3 ho3 hg3;have O3:=zh ho3;have G3:=zh hg3;have hb3':=(hg3.block w.heap.size (Array.getElem?_eq_some_iff.1 H1.out).1 (fun e=>HV.out e.symm)).trans H1.out;obtain⟨A3,c3,rfl,_⟩:=ho3.rows.sls;have hc3:=frozen_of_row w3 w.heap.size 0 _ _ hb3';have hc4:=cell_of_row w3 w.heap.size 0 _ _ _ hb3';have B3:=zh hb3';clear ho3 hg3 hb3')
  have k1:Kept (fun i=>i=w.heap.size\/w2.heap.size+1+2<=i) V w3:=Kept.of_grown G3.out (fun i e=> .inr (by have:=HV0.out i e;omega));have k2:Kept (fun i=>i=w.heap.size) w3 (w3.setCell ⟨w.heap.size,0,none⟩ (.slice A3 (q.length+1) c3)):=Kept.of_grown (jad _ _ _ _) (fun i hi=>by injection hi with hi;exact hi.symm)
  have k3:=k1.trans k2 fun _ _ h=> .inl h;have o3:=O3.out;rw[hs3,List.length_append,List.length_singleton]at o3;refine⟨k3,⟨_,heap_setCell_same _ _ 0 _ _ _ B3.out,?_⟩,b3.out.trans (k3.below b3.out.size (fun i hi=>by omega))⟩;rw[HT.out];exact o3.kept k2 fun i h1 _ h2=>by omega
 case done=>
  rintro V ⟨⟨v,h1,h3⟩,h2⟩ hz hdd;rw[List.take_length]at h3;obtain⟨Av,cv,rfl,_⟩:=h3.rows.sls;have hc:V.cell? ⟨w.heap.size,0,none⟩=some (.slice Av (scan l).1.length cv):=by rw[cell_of_row V w.heap.size 0 _ _ _ h1];rfl
  gi_wp2_with fail
  refine⟨by simp,.inl ⟨_,_,rfl,run_takeDeferred hdd,?_⟩⟩;have k4:=Kept.putObj V W0.heap.size (.deferred none);exact⟨_,results_tmp rfl _ _ _,Av,cv,rfl,(h3.kept k4 fun i h1 _ h2=>by omega).lower zv,h2.trans (k4.below zv (fun i hi=>by omega))⟩
end Go.Proofs.YtkcdaigaclpfjaaGreatDoor
namespace Go.Proofs.YtkcdaigaclpfjaaGreatDoor
open Go.RowKit
namespace Jn
open Fr
def Whole(d:Dk.St):Prop:=∃k ps,(∀p∈ps,ok p)/\k<=ps.length/\d=Js d.room k ps
theorem Whole.byt{d:Dk.St}(h:Whole d):Byt d:=by
 obtain⟨k,ps,h1,h2,h3⟩:=h;rw[h3];exact js_byt h1
theorem Whole.opened{d:Dk.St}(h:Byt d):Whole (opened d):=by
 obtain⟨h1,h2,h3,h4,h5⟩:=opened_l d h;refine⟨(ents d).length,ents d,h5,Nat.le_refl _,?_⟩;unfold Js;rw[List.take_length,<-h1];show(⟨(Jn.opened d).room,(Jn.opened d).safe,(Jn.opened d).l⟩:Dk.St)=_;rw[h2,h1]
theorem putE_zero{p:List Nat}(h:putE p=0)(hb:∀x∈p,x<256):ok p:=⟨by have:=(put_ok h).1;omega,(put_ok h).2,hb⟩
theorem Whole.app{d:Dk.St}(h:Whole d){p:List Nat}(hp:∀x∈p,x<256):Whole (app d p):=by
 obtain⟨k,ps,h1,h2,h3⟩:=h;unfold Jn.app;by_cases he:putE p=0
 ·rw[if_neg zv]
  unfold Dk.write;split
  ·rename_i hg
   have ho:=putE_zero he hp;refine⟨k,ps++[p],?_,by rw[List.length_append];omega,?_⟩
   ·intro x hx
    rcases List.mem_append.1 hx with hx|hx
    ·exact h1 x hx
    ·rw[List.mem_singleton.1 hx];exact ho
   ·unfold Js
    rw[List.take_append_of_le_length h2,all_append,all_one];have e1:=congrArg Dk.St.safe h3;have e2:=congrArg Dk.St.l h3;unfold Js at e1 e2;show(⟨d.room,d.safe,d.l++fr p⟩:Dk.St)=_;rw[e1,e2]
  ·exact⟨k,ps,h1,h2,h3⟩
 ·rw[if_pos he]
  exact⟨k,ps,h1,h2,h3⟩
theorem Whole.torn{d:Dk.St}(h:Whole d){p:List Nat}(hp:∀x∈p,x<256)(keep:Int):Whole (torn d p keep):=by
 unfold Jn.torn;split
 ·exact h
 ·exact Whole.opened (Byt.sync (h.byt.write fun x hx=>fr_byte hp x (List.mem_of_mem_take hx)))
theorem Whole.sync{d:Dk.St}(h:Whole d):Whole (Dk.sync d):=by
 obtain⟨k,ps,h1,h2,h3⟩:=h;refine⟨ps.length,ps,h1,Nat.le_refl _,?_⟩;have:=congrArg Dk.sync h3;rw[js_sync]at this;exact this
theorem bad_zero{ls:List (List Nat)}(h:bad ls=0):∀p∈ls,putE p=0:=by
 induction ls with
 |nil=>intro p hp;cases hp
 |cons q qs ih=>
  unfold bad at h;split at h
  ·omega
  ·intro p hp
   rcases List.mem_cons.1 hp with rfl|hp
   ·omega
   ·exact ih h p hp
theorem Whole.swap{d:Dk.St}(h:Whole d){ls:List (List Nat)}(hl:∀p∈ls,∀x∈p,x<256):Whole (swap d ls):=by
 unfold Jn.swap;by_cases hb:bad ls=0
 ·rw[if_neg zv]
  unfold Dk.swap;split
  ·refine⟨ls.length,ls,fun p hp=>putE_zero (bad_zero hb p hp) (hl p hp),Nat.le_refl _,?_⟩
   unfold Js;rw[List.take_length]
  ·exact h
 ·rw[if_pos hb]
  exact h
theorem Whole.syncN{d:Dk.St}(h:Whole d):(((scan (d.l.drop d.safe)).1.length:Nat):Int)=((ents d).length:Nat) -(safeN d:Nat):=by
 obtain⟨k,ps,h1,h2,h3⟩:=h;have e:ents d=ps:=by rw[h3];exact js_ents h1
 have s:safeN d=k:=by rw[h3];exact js_safe h1 h2
 have d1:d.l.drop d.safe=all (ps.drop k):=by
  rw[h3];unfold Js;show(all ps).drop (all (ps.take k)).length=_
  conv=>lhs;rw[<-List.take_append_drop k ps,all_append]
  rw[List.take_append_drop,List.drop_left'];rfl
 rw[e,s,d1,scan_whole (fun p hp=>h1 p (List.mem_of_mem_drop hp)),List.length_drop];omega
theorem crash_all(d:Dk.St)(h:Dk.Okay d):Dk.crash d (d.l.length:Nat)=Dk.sync d:=by
 have h1:=h.1;have:d.safe+Dk.kept d (d.l.length:Nat)=d.l.length:=by unfold Dk.kept Dk.opens;omega
 unfold Dk.crash Dk.leave Dk.sync;rw[this,List.take_length]
end Jn
def DskX(w:World)(X:Nat->Prop)(r:Nat)(d:Dk.St):Prop:=∃v,Dsk w r v d/\∀i,foot r v i->X i
theorem DskX.okay{w:World}{X:Nat->Prop}{r:Nat}{d:Dk.St}(h:DskX w X r d):Dk.Okay d:=by
 obtain⟨v,h1,h2⟩:=h;exact h1.okay
theorem DskX.keep{w w':World}{X:Nat->Prop}{r:Nat}{d:Dk.St}(h:DskX w X r d)(hk:∀i,X i->i<w.heap.size->w'.heap[i]? =w.heap[i]?):DskX w' X r d:=by
 obtain⟨v,h1,h2⟩:=h;exact⟨v,h1.keep fun i hi=>hk i (h2 i hi) (h1.lt i hi),h2⟩
theorem DskX.below{w w':World}{X:Nat->Prop}{r:Nat}{d:Dk.St}(h:DskX w X r d)(hb:Below w.heap.size w w'):DskX w' X r d:=h.keep fun i _ hi=>hb.block i hi
theorem DskB.toX{w:World}{B r:Nat}{d:Dk.St}{X:Nat->Prop}(h:DskB w B r d)(hX:∀i,B<=i->i<w.heap.size->X i):DskX w X r d:=by
 obtain⟨v,h1,h2⟩:=h;exact⟨v,h1,fun i hi=>hX i (h2 i hi) (h1.lt i hi)⟩
def jc7(W:World)(X:Nat->Prop)(r:Nat)(d:Dk.St)(x:Value)(e:Ending)(w':World):Prop:=e= .returned x/\DskX w' X r d/\Kept X W w'
theorem jc7.mk{W:World}{X:Nat->Prop}{r:Nat}{v:Value}{d:Dk.St}{x:Value}{e:Ending}{w':World}(h:jcy W r v d x e w')(hv:∀i,foot r v i->X i)(hX:∀i,W.heap.size<=i->X i):jc7 W X r d x e w':=by
 obtain⟨rfl,v',h1,h2,h3⟩:=h;refine⟨rfl,⟨v',h1,?_⟩,h3.more fun i _ hi=>hv i hi⟩;rintro i (rfl|hi)
 ·exact hv _ (.inl rfl)
 ·rcases h2 i hi with h4|h4
  ·exact hv i (.inr h4)
  ·exact hX i h4
section
variable(W:World){X:Nat->Prop}{r:Nat}{d:Dk.St}(hd:DskX W X r d)(hX:∀i,W.heap.size<=i->X i)
include hd hX
theorem jll{n c:Nat}{A:Option Addr}{b:List Nat}(hs:Sl W A n c b):Calls Tryz.prog 73 #[.pointer (some ⟨r,0,none⟩),.slice A n c] W (jc7 W X r (Dk.write d b) (.int .i64 (Dk.writeE d b))):=by
 obtain⟨v,h1,h2⟩:=hd;exact(jml W r n c A b v d h1 hs).mono fun _ _ h=>jc7.mk h h2 hX
theorem dSwap_x{n c:Nat}{A:Option Addr}{b:List Nat}(hs:Sl W A n c b):Calls Tryz.prog 78 #[.pointer (some ⟨r,0,none⟩),.slice A n c] W (jc7 W X r (Dk.swap d b) (.int .i64 (Dk.swapE d b))):=by
 obtain⟨v,h1,h2⟩:=hd;exact(jit W r n c A b v d h1 hs).mono fun _ _ h=>jc7.mk h h2 hX
theorem dSync_x:Calls Tryz.prog 82 #[.pointer (some ⟨r,0,none⟩)] W (jc7 W X r (Dk.sync d) (.int .i64 (Dk.opens d:Nat))):=by
 obtain⟨v,h1,h2⟩:=hd;exact(jot W r v d h1).mono fun _ _ h=>jc7.mk h h2 hX
theorem jsy{keep:Int}(hk: -9223372036854775808<=keep/\keep<=9223372036854775807):Calls Tryz.prog 74 #[.pointer (some ⟨r,0,none⟩),.int .i64 keep] W (jc7 W X r (Dk.crash d keep) (.int .i64 (Dk.lost d keep:Nat))):=by
 obtain⟨v,h1,h2⟩:=hd;exact(jmk W r keep v d h1 hk).mono fun _ _ h=>jc7.mk h h2 hX
theorem dCut_x{n:Int}(hk: -9223372036854775808<=n/\n<=9223372036854775807):Calls Tryz.prog 138 #[.pointer (some ⟨r,0,none⟩),.int .i64 n] W (jc7 W X r (Dk.cut d n) (.int .i64 (Dk.cutE d n))):=by
 obtain⟨v,h1,h2⟩:=hd;exact(jr4 W r n v d h1 hk).mono fun _ _ h=>jc7.mk h h2 hX
omit hX in
theorem jpk:Calls Tryz.prog 45 #[.pointer (some ⟨r,0,none⟩)] W (jex d.l W):=by
 obtain⟨v,h1,_⟩:=hd;exact jr1 W r v d h1
omit hX in
theorem dLen_x:Calls Tryz.prog 75 #[.pointer (some ⟨r,0,none⟩)] W (jez W (.int .i64 (d.l.length:Nat))):=by
 obtain⟨v,h1,_⟩:=hd;exact jr0 W r v d h1
omit hX in
theorem jpl:Calls Tryz.prog 81 #[.pointer (some ⟨r,0,none⟩)] W (jez W (.int .i64 (d.safe:Nat))):=by
 obtain⟨v,h1,_⟩:=hd;exact jos W r v d h1
omit hX in
theorem dRoom_x:Calls Tryz.prog 134 #[.pointer (some ⟨r,0,none⟩)] W (jez W (.int .i64 (d.room -d.l.length:Nat))):=by
 obtain⟨v,h1,_⟩:=hd;exact jis W r v d h1
end
open Fr
structure JAsk(p0 d0:Option Addr)(l:List Nat)(s R:Nat)(w:World):Prop where
 disk:∀W,Below w.heap.size w W->Calls Tryz.prog 44 #[.pointer p0] W fun e w'=>e= .returned (.pointer d0)/\w'=W
 all:∀W,Below w.heap.size w W->Calls Tryz.prog 45 #[.pointer d0] W (jex l W)
 safe:∀W,Below w.heap.size w W->Calls Tryz.prog 81 #[.pointer d0] W (jez W (.int .i64 (s:Nat)))
 room:∀W,Below w.heap.size w W->Calls Tryz.prog 134 #[.pointer d0] W (jez W (.int .i64 (R:Nat)))
 le:s<=l.length
 few:l.length<=1048576
theorem jc8(w:World)(q:Nat)(d0:Option Addr)(h:w.heap[q]? =some (.cells #[.pointer d0] 167 (0,0))):
  Calls Tryz.prog 44 #[.pointer (some ⟨q,0,none⟩)] w fun e w'=>e= .returned (.pointer d0)/\w'=w:=by
 have hc:w.cell? ⟨q,0,none⟩=some (.pointer d0):=by rw[cell_of_row w q 0 _ _ _ h];rfl
 clear h;go_enter Tryz.func44,Tryz.ntmps44;go_wp2_with fail;go_ret;exact⟨rfl,rfl⟩
section
variable{p0 d0:Option Addr}{l:List Nat}{s R:Nat}{w:World}(h:JAsk p0 d0 l s R w)
include h
theorem jlm:Calls Tryz.prog 21 #[.pointer p0] w (JAllF (scan l).1 w):=jsx p0 d0 l w (by have:=h.few;omega) h.disk h.all
theorem jsz:Calls Tryz.prog 33 #[.pointer p0] w (jez w (.int .i64 ((scan l).1.length:Nat))):=by
 have H:=zh h;clear h;go_enter Tryz.func33,Tryz.ntmps33;go_wp2_with fail;refine(H.out.disk w (Below.refl _ _)).mono ?_;rintro e w1 ⟨rfl,rfl⟩;go_wp2_with fail;refine(H.out.all w1 (Below.refl _ _)).mono ?_;rintro e w2 ⟨A2,c2,rfl,ho2,hb2⟩;have S2:=zh ho2.sls;have B2:=zh hb2;clear ho2 hb2;go_wp2_with fail
 (with_reducible refine(jg9 l.length c2 A2 l w2 S2.out (by have:=H.out.few;omega)).mono ?_)
 rintro e w3 ⟨rfl,hb3⟩;have B3:=zh (B2.out.trans (hb3.mono B2.out.size));clear hb3;go_wp2_with fail;go_ret;exact⟨rfl,B3.out⟩
theorem jln{d:Dk.St}(hR:d.room -d.l.length=R)(hok:Dk.Okay d){a:Addr}(hd:d0=some a)(n c:Nat)(A:Option Addr)(p:List Nat)(hs:Sl w A n c p)(hn:n<=900000000):
  Calls Tryz.prog 72 #[.pointer p0,.slice A n c] w fun e w'=>∃A' c' f,e= .returned (.tuple #[.slice A' f.length c',.int .i64 (Jn.appE d p)])/\OwnB w' w.heap.size (.slice A' f.length c') f/\(Jn.appE d p=0->f=fr p)/\Below w.heap.size w w':=by
 have H:=zh h;have HS:=zh hs;subst hd;clear h hs;unfold Dk.Okay at hok;by_cases h0:putE p=0
 ·have hp:=Jn.put_ok h0
  have h2:=jhr (b:=[]) hp.1 hp.2;have HL:Hid (putL [] p=fr p):=by show putL [] p=fr p;rw[h2.2];rfl
  have HE:Hid (Jn.appE d p=Dk.writeE d (fr p)):=by show Jn.appE d p=_;unfold Jn.appE;rw[if_neg zv]
  have HF:Hid ((fr p).length=p.length+6):=fr_length p;have hfl:(fr p).length<=1006:=by rw[HF.out];omega
  clear h2;go_enter Tryz.func72,Tryz.ntmps72;go_wp2_with fail;refine(H.out.disk w (Below.refl _ _)).mono ?_;rintro e w1 ⟨rfl,rfl⟩;go_wp2_with fail
  (with_reducible refine(jhs 0 0 n c none A [] p w1 (Sl.none_ _) HS.out zv hn).mono ?_)
  rintro e w2 ⟨A2,c2,rfl,ho2,hb2⟩;rw[HL.out,h0]at*;have O2:=zh ho2;have B2:=zh hb2;clear ho2 hb2;obtain⟨m,hm⟩:∃m,m=(fr p).length:=⟨_,rfl⟩;rw[<-hm];have HM:=zh hm;rw[<-hm]at hfl;clear hm;go_wp2_with fail;refine(H.out.room w2 B2.out).mono ?_;rintro e w3 ⟨rfl,hb3⟩;have O3:=zh (O2.out.below hb3);have B3:=zh (B2.out.trans (hb3.mono B2.out.size));clear hb3;by_cases hg:R<m
  ·have HG:Hid (Dk.writeE d (fr p)=4):=by show Dk.writeE d (fr p)=4;unfold Dk.writeE;rw[if_neg];unfold Dk.goes;rw[<-HM.out];omega
   go_wp2_with fail;go_ret2;refine⟨none,0,[],?_,OwnB.none_ _ _,fun e=> ?_,B3.out⟩
   ·rw[HE.out,HG.out];rfl
   ·rw[HE.out,HG.out]at e;omega
  ·have HG:Hid (Dk.writeE d (fr p)=0):=by show Dk.writeE d (fr p)=0;unfold Dk.writeE;rw[if_pos];unfold Dk.goes;rw[<-HM.out];omega
   go_wp2_with fail;go_ret2;refine⟨A2,c2,fr p,?_,O3.out,fun _=>rfl,B3.out⟩;rw[HE.out,HG.out,HM.out];rfl
 ·have HE:Hid (Jn.appE d p=(putE p:Nat)):=by show Jn.appE d p=_;unfold Jn.appE;rw[if_pos h0]
  have h1:((putE p:Nat):Int)≠0:=by omega
  have HB:Hid (((putE p:Nat):Int) !=0):=by show(_ !=_)=true;rw[bne_iff_ne];exact h1
  have hbool:=HB.out;go_enter Tryz.func72,Tryz.ntmps72;go_wp2_with fail;refine(H.out.disk w (Below.refl _ _)).mono ?_;rintro e w1 ⟨rfl,rfl⟩;go_wp2_with fail
  (with_reducible refine(jhs 0 0 n c none A [] p w1 (Sl.none_ _) HS.out zv hn).mono ?_)
  rintro e w2 ⟨A2,c2,rfl,ho2,hb2⟩;have B2:=zh hb2;clear ho2 hb2;generalize putE p=ee at*;go_wp2_with fail;go_ret2;refine⟨none,0,[],?_,OwnB.none_ _ _,fun e=> ?_,B2.out⟩
  ·rw[HE.out];rfl
  ·rw[HE.out]at e;exact absurd e h1
end
end Go.Proofs.YtkcdaigaclpfjaaGreatDoor
namespace Go.Proofs.YtkcdaigaclpfjaaGreatDoor
open Go.RowKit
def Jn.syncN(d:Dk.St):Int:=((Jn.ents d).length:Nat) -(Jn.safeN d:Nat)
open Fr
structure Jrn(w:World)(X:Nat->Prop)(q r:Nat)(d:Dk.St):Prop where
 blk:w.heap[q]? =some (.cells #[.pointer (some ⟨r,0,none⟩)] 167 (0,0))
 inX:X q
 dsk:DskX w (fun i=>X i/\i≠q) r d
 whole:Jn.Whole d
theorem DskX.lt{w:World}{X:Nat->Prop}{r:Nat}{d:Dk.St}(h:DskX w X r d):DskX w (fun i=>X i/\i<w.heap.size) r d:=by
 obtain⟨v,h1,h2⟩:=h;exact⟨v,h1,fun i hi=>⟨h2 i hi,h1.lt i hi⟩⟩
theorem DskX.more{w:World}{X Y:Nat->Prop}{r:Nat}{d:Dk.St}(h:DskX w X r d)(hY:∀i,X i->i<w.heap.size->Y i):DskX w Y r d:=by
 obtain⟨v,h1,h2⟩:=h;exact⟨v,h1,fun i hi=>hY i (h2 i hi) (h1.lt i hi)⟩
section
variable{w w':World}{X:Nat->Prop}{q r:Nat}{d:Dk.St}
theorem Jrn.lt(h:Jrn w X q r d):q<w.heap.size:=(Array.getElem?_eq_some_iff.1 h.blk).1
theorem Jrn.keep(h:Jrn w X q r d)(hk:∀i,X i->i<w.heap.size->w'.heap[i]? =w.heap[i]?):Jrn w' X q r d:=
 ⟨(hk q h.inX h.lt).trans h.blk,h.inX,h.dsk.keep fun i hi hl=>hk i hi.1 hl,h.whole⟩
theorem Jrn.below(h:Jrn w X q r d)(hb:Below w.heap.size w w'):Jrn w' X q r d:=h.keep fun i _ hi=>hb.block i hi
theorem Jrn.ask(h:Jrn w X q r d):JAsk (some ⟨q,0,none⟩) (some ⟨r,0,none⟩) d.l d.safe (d.room -d.l.length) w:=by
 have hok:=h.dsk.okay;unfold Dk.Okay at hok;exact⟨fun W hW=>jc8 W q _ (h.below hW).blk,fun W hW=>jpk W (h.dsk.below hW),fun W hW=>jpl W (h.dsk.below hW),fun W hW=>dRoom_x W (h.dsk.below hW),hok.1,zv⟩
theorem Jrn.step{d':Dk.St}{x:Value}{e:Ending}(h:Jrn w X q r d)(hp:jc7 w (fun i=>X i/\i≠q) r d' x e w')(hw:Jn.Whole d'):e= .returned x/\Jrn w' X q r d'/\Kept X w w':=by
 obtain⟨rfl,h1,h2⟩:=hp;exact⟨rfl,⟨(h2.block q h.lt (fun hf=>hf.2 rfl)).trans h.blk,h.inX,h1,hw⟩,h2.more fun i _ hi=>hi.1⟩
theorem Jrn.fresh(h:Jrn w X q r d)(hX:∀i,w.heap.size<=i->X i):∀i,w.heap.size<=i->X i/\i≠q:=fun i hi=>⟨hX i hi,fun e=>by have:=h.lt;omega⟩
end
theorem jc7.before{W W1 w':World}{X:Nat->Prop}{r:Nat}{d:Dk.St}{x:Value}{e:Ending}(h:jc7 W1 X r d x e w')(hb:Kept X W W1):jc7 W X r d x e w':=⟨h.1,h.2.1,hb.trans h.2.2 fun _ _ hi=>hi⟩
theorem jlo(W:World){X:Nat->Prop}{r:Nat}{d:Dk.St}(hd:DskX W X r d)(hX:∀i,W.heap.size<=i->X i)(hy:Jn.Byt d):
  Calls Tryz.prog 76 #[.pointer (some ⟨r,0,none⟩)] W (jc7 W X r (Jn.opened d) (.int .i64 ((d.l.length:Nat) -(Jn.cutN d:Nat)))):=by
 have HD:=zh hd;have hok:=hd.okay;have hcl:=Jn.cutN_le d hy;have HC:=zh (Jn.cut_opened d hy);have HN:Hid (Jn.cutN d=(scan d.l).2.1):=rfl;have HX:=zh hX;unfold Dk.Okay at hok;have hlen:d.l.length<=1048576:=by omega
 clear hd hok hy hX;go_enter Tryz.func76,Tryz.ntmps76;go_wp2_with fail;refine(jpk W HD.out).mono ?_;rintro e w1 ⟨A1,c1,rfl,ho1,hb1⟩;have S1:=zh ho1.sls;have B1:=zh hb1;clear ho1 hb1;go_wp2_with fail
 (with_reducible refine(jo8 d.l.length c1 A1 d.l w1 S1.out zv).mono ?_)
 rintro e w2 ⟨A2,c2,rfl,_,hb2⟩;have B2:=zh (B1.out.trans (hb2.mono B1.out.size));rw[<-HN.out];clear hb2;generalize Jn.cutN d=m at*;go_wp2_with fail;refine(dCut_x w2 (HD.out.below B2.out) (fun i hi=>HX.out i (Nat.le_trans B2.out.size hi)) (n:=(m:Int)) zv).mono ?_;rw[HC.out.1,HC.out.2];rintro e w3 hp;obtain rfl:=hp.1;have P:=zh (hp.before (Kept.of_below B2.out));clear hp;go_wp2_with fail;go_ret;exact⟨rfl,P.out.2⟩
theorem jOpen_x(W:World){X:Nat->Prop}{r:Nat}{d:Dk.St}(hd:DskX W X r d)(hX:∀i,W.heap.size<=i->X i)(hy:Jn.Byt d):
  Calls Tryz.prog 79 #[.pointer (some ⟨r,0,none⟩)] W fun e w'=>e= .returned (.tuple #[.pointer (some ⟨W.heap.size,0,none⟩),.int .i64 ((d.l.length:Nat) -(Jn.cutN d:Nat))])/\Jrn w' X W.heap.size r (Jn.opened d)/\Kept X W w':=by
 have HD:=zh hd;have HX:=zh hX;have HY:=zh hy;clear hd hX hy;go_enter Tryz.func79,Tryz.ntmps79;go_wp2_with fail;have hb:=(Below.refl W.heap.size W).alloc (Nat.le_refl _) (.cells #[.pointer (some ⟨r,0,none⟩)] 167);have hbk:=heap_alloc_new W (.cells #[.pointer (some ⟨r,0,none⟩)] 167);have hsz:(W.alloc (.cells #[.pointer (some ⟨r,0,none⟩)] 167)).heap.size=W.heap.size+1:=by simp
 have D1:=zh ((HD.out.lt.below hb).more (Y:=fun i=>X i/\i≠W.heap.size) fun i hi _=>⟨hi.1,by have:=hi.2;omega⟩);have B1:=zh hb;have K1:=zh hbk;have Z1:=zh hsz;clear hb hbk hsz;generalize W.alloc (.cells #[.pointer (some ⟨r,0,none⟩)] 167)=w1 at*
 (with_reducible refine(jlo w1 D1.out (fun i hi=>⟨HX.out i (by have:=Z1.out;omega),by have:=Z1.out;omega⟩) HY.out).mono ?_)
 rintro e w2 ⟨rfl,hd2,hk2⟩;have D2:=zh hd2;have KK:=zh hk2;clear hd2 hk2;obtain⟨z,hz⟩:∃z:Int,z=((d.l.length:Nat):Int) -(Jn.cutN d:Nat):=⟨_,rfl⟩;rw[<-hz];have HZ:=zh hz;clear hz;go_wp2_with fail;go_ret2;refine⟨by rw[<-HZ.out];rfl,⟨(KK.out.block W.heap.size (by have:=Z1.out;omega) (fun hf=>hf.2 rfl)).trans K1.out,HX.out _ (Nat.le_refl _),D2.out,Jn.Whole.opened HY.out⟩,?_⟩;exact(Kept.of_below (F:=X) B1.out).trans KK.out fun i _ hi=>hi.1
section
variable{W:World}{X:Nat->Prop}{q r:Nat}{d:Dk.St}(h:Jrn W X q r d)(hX:∀i,W.heap.size<=i->X i)
include h hX
theorem ji4{n c:Nat}{A:Option Addr}{p:List Nat}(hs:Sl W A n c p)(hn:n<=900000000):
  Calls Tryz.prog 30 #[.pointer (some ⟨q,0,none⟩),.slice A n c] W fun e w'=>e= .returned (.int .i64 (Jn.appE d p))/\Jrn w' X q r (Jn.app d p)/\Kept X W w':=by
 have H:=zh h;have HX:=zh hX;have C1:=zh (jln h.ask rfl h.dsk.okay rfl n c A p hs hn);have HP:Hid (∀x∈p,x<256):=hs.rd.1;clear h hX hs;by_cases h0:Jn.appE d p=0
 ·have E0:Hid (Jn.app d p=Dk.write d (fr p)/\Dk.writeE d (fr p)=0):=by
   show _/\_;unfold Jn.appE at h0;by_cases hp:putE p=0
   ·rw[if_neg zv]at h0
    unfold Jn.app;rw[if_neg zv];exact⟨rfl,h0⟩
   ·rw[if_pos hp]at h0;omega
  have Z0:=zh h0;rw[h0]at C1;go_enter Tryz.func30,Tryz.ntmps30;go_wp2_with fail;refine C1.out.mono ?_;rintro e w1 ⟨A1,c1,f,rfl,ho1,hf,hb1⟩;have S1:=zh ho1.sls;have B1:=zh hb1;have HF:Hid (f=fr p):=hf (by trivial);have H1:=zh (H.out.below hb1);clear ho1 hb1 hf C1 h0;go_wp2_with fail;refine(jc8 w1 q _ H1.out.blk).mono ?_;rintro e w1' ⟨rfl,rfl⟩;go_wp2_with fail
  (with_reducible refine(jll w1' H1.out.dsk (H1.out.fresh fun i hi=>HX.out i (Nat.le_trans B1.out.size hi)) S1.out).mono ?_)
  rw[HF.out,<-E0.out.1,E0.out.2];rintro e w2 hp;obtain⟨rfl,hj,hk⟩:=H1.out.step hp (H.out.whole.app HP.out);have J2:=zh hj;have K2:=zh hk;clear hp hj hk;go_wp2_with fail;go_ret;exact⟨by rw[Z0.out];rfl,J2.out,(Kept.of_below (F:=X) B1.out).trans K2.out fun i _ hi=>hi⟩
 ·have E0:Hid (Jn.app d p=d):=by
   show _=d;unfold Jn.appE at h0;unfold Jn.app;by_cases hp:putE p=0
   ·rw[if_neg zv]at h0⊢
    unfold Dk.writeE at h0;unfold Dk.write;split at h0
    ·omega
    ·rename_i hg;rw[if_neg hg]
   ·rw[if_pos hp]
  have hne:(Jn.appE d p !=0)=true:=by rw[bne_iff_ne];exact h0
  obtain⟨y,hy⟩:∃y,y=Jn.appE d p:=⟨_,rfl⟩;rw[<-hy]at C1 hne⊢;clear h0 hy;go_enter Tryz.func30,Tryz.ntmps30;go_wp2_with fail;refine C1.out.mono ?_;rintro e w1 ⟨A1,c1,f,rfl,ho1,hf,hb1⟩;have B1:=zh hb1;clear ho1 hb1 hf C1;go_wp2_with fail;go_ret;exact⟨rfl,by rw[E0.out];exact H.out.below B1.out,Kept.of_below B1.out⟩
theorem jSync_x:Calls Tryz.prog 32 #[.pointer (some ⟨q,0,none⟩)] W fun e w'=>e= .returned (.int .i64 (Jn.syncN d))/\Jrn w' X q r (Dk.sync d)/\Kept X W w':=by
 have H:=zh h;have HX:=zh hX;have hok:=h.dsk.okay;unfold Dk.Okay at hok;have hle:=hok.1;have hlen:d.l.length<=1048576:=by omega
 have HN:Hid (((scan (d.l.drop d.safe)).1.length:Nat)=Jn.syncN d):=h.whole.syncN;clear h hX hok;go_enter Tryz.func32,Tryz.ntmps32;go_wp2_with fail;refine(jc8 W q _ H.out.blk).mono ?_;rintro e W' ⟨rfl,rfl⟩;go_wp2_with fail;refine(jpk W' H.out.dsk).mono ?_;rintro e w1 ⟨A1,c1,rfl,ho1,hb1⟩;have S1:=zh ho1.sls;have B1:=zh hb1;have hcap:=ho1.sls.cap;have hmax:=ho1.sls.max;unfold maxLen at hmax;clear ho1 hb1;go_wp2_with fail;refine(jpl w1 (H.out.dsk.below B1.out)).mono ?_;rintro e w2 ⟨rfl,hb2⟩;have S2:=zh (S1.out.on hb2);have B2:=zh (B1.out.trans (hb2.mono B1.out.size));clear hb2 S1;have CN:Hid (∀w A c,Sl w A (d.l.length -d.safe) c (d.l.drop d.safe)->Calls Tryz.prog 80 #[.slice A (d.l.length -d.safe) c] w (jez w (.int .i64 (Jn.syncN d)))):=fun w A c hs=>by
  rw[<-HN.out];exact jg9 _ c A _ w hs zv
 have fin:∀w3,Below w2.heap.size w2 w3->Calls Tryz.prog 82 #[.pointer (some ⟨r,0,none⟩)] w3 fun e w'=>(∃z:Int,e= .returned (.int .i64 z))/\Jrn w' X q r (Dk.sync d)/\Kept X W' w':=fun w3 hb3=>by
  have B3:=B2.out.trans (hb3.mono B2.out.size);have H3:=H.out.below B3;refine(dSync_x w3 H3.dsk (H3.fresh fun i hi=>HX.out i (Nat.le_trans B3.size hi))).mono ?_;intro e w4 hp;obtain⟨he,hj,hk⟩:=H3.step hp H.out.whole.sync;exact⟨⟨_,he⟩,hj,(Kept.of_below B3).trans hk fun i _ hi=>hi⟩
 have FIN:=zh fin;clear fin;by_cases hcs:c1=d.safe
 ·have S3:=zh (S2.out.dropAll hle hcs)
  rw[show c1 -d.safe=0 by omega]at S3;go_wp2_with fail
  (with_reducible refine(CN.out w2 _ _ S3.out).mono ?_)
  rintro e w3 ⟨rfl,hb3⟩;have F3:=zh (FIN.out w3 hb3);clear hb3 FIN;go_wp2_with fail;refine F3.out.mono ?_;rintro e w4 ⟨⟨z,rfl⟩,hj,hk⟩;have J4:=zh hj;have K4:=zh hk;clear hj hk;go_wp2_with fail;go_ret;exact⟨rfl,J4.out,K4.out⟩
 ·have S3:=zh (S2.out.drop hle hcs)
  go_wp2_with fail
  (with_reducible refine(CN.out w2 _ _ S3.out).mono ?_)
  rintro e w3 ⟨rfl,hb3⟩;have F3:=zh (FIN.out w3 hb3);clear hb3 FIN;go_wp2_with fail;refine F3.out.mono ?_;rintro e w4 ⟨⟨z,rfl⟩,hj,hk⟩;have J4:=zh hj;have K4:=zh hk;clear hj hk;go_wp2_with fail;go_ret;exact⟨rfl,J4.out,K4.out⟩
end
section
variable{W:World}{X:Nat->Prop}{q r:Nat}{d:Dk.St}(h:Jrn W X q r d)(hX:∀i,W.heap.size<=i->X i)
include h hX
theorem jTorn_x{n c:Nat}{A:Option Addr}{p:List Nat}(hs:Sl W A n c p)(hn:n<=900000000){keep:Int}:
  Calls Tryz.prog 28 #[.pointer (some ⟨q,0,none⟩),.slice A n c,.int .i64 keep] W fun e w'=>e= .returned (.int .i64 (Jn.tornE d p))/\Jrn w' X q r (Jn.torn d p keep)/\Kept X W w':=by
 have H:=zh h;have HX:=zh hX;have C1:=zh (jln h.ask rfl h.dsk.okay rfl n c A p hs hn);have HP:Hid (∀x∈p,x<256):=hs.rd.1;have HW:=zh (h.whole.torn hs.rd.1 keep);have hok:=h.dsk.okay;clear h hX hs;by_cases h0:Jn.appE d p=0
 ·obtain⟨kk,hkk⟩:∃kk,kk=Jn.keptN p keep:=⟨_,rfl⟩
  have hm:kk<=(fr p).length:=by rw[hkk];unfold Jn.keptN;omega
  have hmx:max 0 (min keep (((fr p).length:Nat):Int))=(kk:Nat):=by rw[hkk];unfold Jn.keptN;omega
  have E0:Hid (Jn.torn d p keep=Jn.opened (Dk.sync (Dk.write d ((fr p).take kk)))):=by show Jn.torn d p keep=_;unfold Jn.torn;rw[if_neg zv,<-hkk]
  have T0:Hid (Jn.tornE d p=13):=by show _=_;unfold Jn.tornE;rw[if_neg zv]
  have HY:Hid (Jn.Byt (Dk.write d ((fr p).take kk))):=H.out.whole.byt.write fun x hx=>fr_byte HP.out x (List.mem_of_mem_take hx);have HC:=zh (Jn.crash_all (Dk.write d ((fr p).take kk)) (hok.write _));have hfl:(fr p).length<=1048576:=by
   rw[fr_length];unfold Jn.appE at h0;by_cases hp:putE p=0
   ·have:=(Jn.put_ok hp).2;omega
   ·rw[if_pos hp]at h0;omega
  have hwl:(Dk.write d ((fr p).take kk)).l.length<=1048576:=Nat.le_trans (hok.write _).2.1 (hok.write _).2.2;rw[h0]at C1;clear hkk h0 hok;obtain⟨f,hf0⟩:∃f,f=fr p:=⟨_,rfl⟩;rw[<-hf0]at hm hmx E0 HY HC hfl hwl;have HF0:=zh hf0;clear hf0;generalize Jn.tornE d p=te at*;go_enter Tryz.func28,Tryz.ntmps28;go_wp2_with fail;refine C1.out.mono ?_;rintro e w1 ⟨A1,c1,f1,rfl,ho1,hf,hb1⟩;obtain rfl:f1=f:=(hf (by trivial)).trans HF0.out.symm;have B1:=zh hb1;have S1:=zh ((ho1.sls).take (k:=kk) hm);have H1:=zh (H.out.below hb1);have hcap:=ho1.sls.cap;have hmax:=ho1.sls.max;unfold maxLen at hmax;clear ho1 hb1 hf C1;go_wp2_with fail;refine(jc8 w1 q _ H1.out.blk).mono ?_;rintro e w1' ⟨rfl,rfl⟩;go_wp2_with fail
  (with_reducible refine(jll w1' H1.out.dsk (H1.out.fresh fun i hi=>HX.out i (Nat.le_trans B1.out.size hi)) S1.out).mono ?_)
  rintro e w2 ⟨rfl,hd2,hk2⟩;have D2:=zh hd2;have K2:=zh hk2;have F2:Hid (∀i,w2.heap.size<=i->X i/\i≠q):=fun i hi=>H1.out.fresh (fun i hi=>HX.out i (Nat.le_trans B1.out.size hi)) i (Nat.le_trans hk2.size hi);clear hd2 hk2;obtain⟨d2,hd2⟩:∃d2,d2=Dk.write d (f1.take kk):=⟨_,rfl⟩;rw[<-hd2]at E0 HY HC hwl D2;generalize Dk.writeE d (f1.take kk)=we at*;clear hd2;go_wp2_with fail;refine(dLen_x w2 D2.out).mono ?_;rintro e w3 ⟨rfl,hb3⟩;have D3:=zh (D2.out.below hb3);have K3:=zh (K2.out.trans (Kept.of_below (F:=fun i=>X i/\i≠q) hb3) fun i _ hi=>hi);have F3:Hid (∀i,w3.heap.size<=i->X i/\i≠q):=fun i hi=>F2.out i (Nat.le_trans hb3.size hi);clear hb3 F2 K2 D2;have CC:=zh (jsy w3 D3.out F3.out (keep:=(d2.l.length:Nat)) zv);rw[HC.out]at CC;go_wp2_with fail
  (with_reducible refine CC.out.mono ?_)
  rintro e w4 ⟨rfl,hd4,hk4⟩;have D4:=zh hd4;have K4:=zh (K3.out.trans hk4 fun i _ hi=>hi);have F4:Hid (∀i,w4.heap.size<=i->X i/\i≠q):=fun i hi=>F3.out i (Nat.le_trans hk4.size hi);clear hd4 hk4 CC F3 D3 K3;generalize Dk.lost d2 (d2.l.length:Nat)=lo at*;go_wp2_with fail
  (with_reducible refine(jlo w4 D4.out F4.out HY.out.sync).mono ?_)
  rintro e w5 hp;obtain⟨rfl,hj,hk⟩:=H1.out.step (hp.before K4.out) (by rw[<-E0.out];exact HW.out);rw[<-E0.out]at hj;have J5:=zh hj;have K5:=zh ((Kept.of_below (F:=X) B1.out).trans hk fun i _ hi=>hi);clear hp hj hk;go_wp2_with fail;go_ret;exact⟨by rw[T0.out];rfl,J5.out,K5.out⟩
 ·have E0:Hid (Jn.torn d p keep=d/\Jn.tornE d p=Jn.appE d p):=by
   show _/\_;unfold Jn.torn Jn.tornE;rw[if_pos h0,if_pos h0];exact⟨rfl,rfl⟩
  have hne:(Jn.appE d p !=0)=true:=by rw[bne_iff_ne];exact h0
  rw[E0.out.2];obtain⟨y,hy⟩:∃y,y=Jn.appE d p:=⟨_,rfl⟩;rw[<-hy]at C1 hne⊢;clear h0 hy;go_enter Tryz.func28,Tryz.ntmps28;go_wp2_with fail;refine C1.out.mono ?_;rintro e w1 ⟨A1,c1,f,rfl,ho1,hf,hb1⟩;have B1:=zh hb1;clear ho1 hb1 hf C1;go_wp2_with fail;go_ret;exact⟨rfl,by rw[E0.out.1];exact H.out.below B1.out,Kept.of_below B1.out⟩
theorem jpm{n c:Nat}{A:Option Addr}{ls:List (List Nat)}(hs:SlS W A n c ls)(hl:ls.length<=1000)(hpl:∀p∈ls,p.length<=900000000):
  Calls Tryz.prog 71 #[.pointer (some ⟨q,0,none⟩),.slice A n c] W fun e w'=>e= .returned (.int .i64 (Jn.swapE d ls))/\Jrn w' X q r (Jn.swap d ls)/\Kept X W w':=by
 have H:=zh h;have HX:=zh hX;have HS:=zh hs;have hnl:n=ls.length:=hs.len;have hn1000:n<=1000:=by omega
 have HN:=zh hnl;have HPL:=zh hpl;have HB:Hid (∀p∈ls,∀x∈p,x<256):=fun p hp=>by
  obtain⟨j,hj,rfl⟩:=List.mem_iff_getElem.1 hp;obtain⟨b,o,_,_,hc⟩:=hs.rd zv;obtain⟨A',n',c',_,h2⟩:=hc j hj;have:=h2.rd.1
  rwa [jak hj]at this
 have HW:=zh (h.whole.swap HB.out);clear h hX hs hl hnl hpl;go_enter Tryz.func71,Tryz.ntmps71;go_wp2_with fail;refine(jc8 W q _ H.out.blk).mono ?_;rintro e W' ⟨rfl,rfl⟩;go_wp2_with fail;go_loopw [6,17] (fun v i wr=>∃(m:Nat) (A':Option Addr) (c' y:Nat),m<=n/\i= .int .i64 m/\(∀j,j<m->putE (ls.getD j [])=0)/\v= .slice A' y c'/\y=(all (ls.take m)).length/\OwnB wr W'.heap.size (.slice A' y c') (all (ls.take m))/\Below W'.heap.size W' wr) (fun _ i _=>n -(intOf i).toNat)
 case atStart=>exact⟨0,none,0,0,zv,rfl,fun j hj=>absurd hj zv,rfl,rfl,OwnB.none_ _ _,Below.refl _ _⟩
 case round=>
  obtain⟨m,A',c',y,hm,rfl,hput,rfl,hyl,hown,hb⟩:=hrel;have O:=zh hown;have B:=zh hb;have P:=zh hput;have YL:=zh hyl;have hy:y<=1006*m:=by rw[hyl];exact Jn.all_len (by rw[<-HN.out];exact hm) hput
  clear hown hb hput hyl;by_cases hlt:m<n
  ·have hml:m<ls.length:=by rw[<-HN.out];exact hlt
   obtain⟨b,o,rfl,hbb,hc⟩:=HS.out.rd zv;obtain⟨A2,n2,c2,hcell,hs2⟩:=hc m hml;have c0:=(B.out.cell (p:=⟨b,o+m,none⟩) hbb).trans hcell;have hp9:n2<=900000000:=by rw[hs2.len,jak hml];exact HPL.out _ (List.getElem_mem hml)
   have C2:=zh (jhs 0 0 n2 c2 none A2 [] (ls.getD m []) wr (Sl.none_ _) (hs2.on B.out) zv hp9);have SN:=zh (all_take_snoc hml);have PM:=zh (fun he=>Jn.bad_at P.out hml he);clear hc hcell hs2 hp9;have i1:(0:Int)<=(m:Int):=by omega
   have i2:(m:Int)<(n:Int):=by omega
   obtain⟨x,hx⟩:∃x,x=all (ls.take m):=⟨_,rfl⟩;rw[<-hx]at O YL SN;have HXx:=zh hx;clear hx;by_cases he:putE (ls.getD m [])=0
   ·have HE:=zh he
    have hpo:=Jn.put_ok he;have hL:putL [] (ls.getD m [])=fr (ls.getD m []):=(jhr hpo.1 hpo.2).2;rw[hL,he]at C2;have HFL:Hid ((fr (ls.getD m [])).length<=1006):=by show _<=_;rw[fr_length];omega
    obtain⟨z,hz⟩:∃z,z=(fr (ls.getD m [])).length:=⟨_,rfl⟩;unfold jfa at C2;rw[<-hz]at C2 HFL;have HZ:=zh hz;clear he hpo hL hz;go_wp2_with fail
    (with_reducible refine C2.out.mono ?_)
    rintro e w4 ⟨A4,c4,rfl,ho4,hb4⟩;have S4:=zh ho4.sls;have O4:=zh (O.out.below hb4);have B4:=zh (B.out.trans (hb4.mono B.out.size));have LZ:Hid (x.length+(fr (ls.getD m [])).length<=140737488355328):=by show _<=_;have h1:=HFL.out;have h2:=YL.out;have h3:=HZ.out;omega
    have LX:Hid (y+z=(x++fr (ls.getD m [])).length):=by show _=_;rw[List.length_append,YL.out,HZ.out]
    clear ho4 hb4 C2;obtain⟨f,hf⟩:∃f,f=fr (ls.getD m []):=⟨_,rfl⟩;rw[<-hf]at S4 LZ SN LX;clear hf HZ;go_wp2_with(at_builtin;refine jal rfl (.tmp 29) (.tmp 30) rfl W'.heap.size _ x rfl O4.out z c4 A4 f rfl S4.out LZ.out B4.out.size ?_;intro v5 w5 ho5 hb5;have O5:=zh ho5;have B5:=zh (B4.out.trans hb5);obtain⟨A5,c5,rfl,_⟩:=ho5.sl;clear ho5 hb5);rw[<-LX.out]at O5;go_roundw
    case rel=>exact⟨m+1,A5,c5,y+z,zv,by go_num,(fun j hj=>by rcases Nat.lt_or_ge j m with h|h;exact P.out j h;rw[show j=m from by omega];exact HE.out),by rw[LX.out,List.length_append],by rw[SN.out,LX.out],by rw[SN.out];exact O5.out,B5.out⟩
    case measure=>simp[intOf];omega
   ·have HBD:=zh (PM.out he)
    have hne:(((putE (ls.getD m []):Nat):Int) !=0)=true:=by rw[bne_iff_ne];omega
    have HXX:Hid (Jn.swap d ls=d/\Jn.swapE d ls=(putE (ls.getD m []):Nat)):=by
     show _/\_;unfold Jn.swap Jn.swapE;rw[HBD.out,if_pos he,if_pos he];exact⟨rfl,rfl⟩
    obtain⟨z,hz⟩:∃z,z=(putL [] (ls.getD m [])).length:=⟨_,rfl⟩;unfold jfa at C2;rw[<-hz]at C2;clear he hz HBD PM;generalize putE (ls.getD m [])=ee at*;go_wp2_with fail
    (with_reducible refine C2.out.mono ?_)
    rintro e w4 ⟨A4,c4,rfl,_,hb4⟩;have B4:=zh (B.out.trans (hb4.mono B.out.size));clear hb4;go_wp2_with fail;go_ret;exact⟨by rw[HXX.out.2];rfl,by rw[HXX.out.1];exact H.out.below B4.out,Kept.of_below B4.out⟩
  ·obtain rfl:m=n:=by omega
   have HT:Hid (ls.take m=ls):=by show _=_;rw[HN.out,List.take_length]
   have h0:=Jn.bad_none (fun j hj=>P.out j (by rw[HN.out];exact hj));have HXX:Hid (Jn.swap d ls=Dk.swap d (all ls)/\Jn.swapE d ls=Dk.swapE d (all ls)):=by
    show _/\_;unfold Jn.swap Jn.swapE;rw[h0,if_neg zv,if_neg zv];exact⟨rfl,rfl⟩
   have S:=zh O.out.sls;rw[HT.out]at S;have H1:=zh (H.out.below B.out);clear h0 HT O YL;go_wp2_with fail
   (with_reducible refine(dSwap_x wr H1.out.dsk (H1.out.fresh fun i hi=>HX.out i (Nat.le_trans B.out.size hi)) S.out).mono ?_)
   rw[<-HXX.out.1,<-HXX.out.2];rintro e w2 hp;obtain⟨rfl,hj,hk⟩:=H1.out.step hp HW.out;have J2:=zh hj;have K2:=zh ((Kept.of_below (F:=X) B.out).trans hk fun i _ hi=>hi);clear hp hj hk;obtain⟨ee,hee⟩:∃ee,ee=Jn.swapE d ls:=⟨_,rfl⟩;rw[<-hee];have HEE:=zh hee;clear hee;go_wp2_with fail;go_ret;exact⟨by rw[<-HEE.out];rfl,J2.out,K2.out⟩
end
end Go.Proofs.YtkcdaigaclpfjaaGreatDoor
namespace Go.Proofs.YtkcdaigaclpfjaaGreatDoor
open Go.RowKit Go.Deep Go.Maps
structure RdC(w0:World)(q:Nat)(s:Bk.St)(ru:Nat->Bk.Un)(rv:Int)(lo ko:Option Nat)(H:Value)(K:Kv.St)(g:Nat)(r:Rc.R)(W:World):Prop where
 bd:BdIs W q s ru rv lo ko H K
 rc:RcAt W g r
 b:Below w0.heap.size w0 W
section
variable{w0 W W':World}{q g:Nat}{s:Bk.St}{ru:Nat->Bk.Un}{rv:Int}{lo ko:Option Nat}{H:Value}{K:Kv.St}{r:Rc.R}
theorem RdC.on(h:RdC w0 q s ru rv lo ko H K g r W)(hb:Below W.heap.size W W'):RdC w0 q s ru rv lo ko H K g r W':=⟨h.bd.on hb,h.rc.on hb,h.b.trans (hb.mono h.b.size)⟩
theorem RdC.open_(h:BdIs w0 q s ru rv lo ko H K)(r:Rc.R):RdC w0 q s ru rv lo ko H K w0.heap.size r (w0.alloc (.cells (Rc.cells r) 45)):=by
 have hb:Below w0.heap.size w0 (w0.alloc (.cells (Rc.cells r) 45)):=(Below.refl _ _).alloc (Nat.le_refl _) _;exact⟨h.on hb,RcAt.new _ _,hb⟩
end
theorem Ph.of_small(t:ByteArray):i64P (Ph.of t):=by
 have:=Ph.place_le t;unfold Ph.of i64P;split<;>omega
theorem jpn(q:Nat)(s:Bk.St)(ru:Nat->Bk.Un)(rv:Int)(lo ko:Option Nat)(H:Value)(K:Kv.St)(w:World)(h:BdIs w q s ru rv lo ko H K)(ht:BT w)(r:Rc.R)(hin:Rc.In r):Calls Tryz.prog 58 #[.pointer (some ⟨q,0,none⟩),.agg (Rc.cells r)] w (BRet (.int .i64 (Bk.chk2 s r)) w):=by
 obtain⟨ans,hans⟩:∃ans,ans=Bk.chk2 s r:=⟨_,rfl⟩;rw[<-hans];have AN:=zh hans;clear hans;have HT:=zh ht;obtain⟨W,hW⟩:∃W,W=w.alloc (.cells (Rc.cells r) 45):=⟨_,rfl⟩;obtain⟨g,hg⟩:∃g,g=w.heap.size:=⟨_,rfl⟩;have R0:=zh (RdC.open_ h r);rw[<-hW,<-hg]at R0;have GE:Hid (w.heap.size<=g):=Nat.le_of_eq hg.symm;have HI:=zh (hin.nums r.n (by simp[Rc.nums]));have CH:Hid (∀W,RdC w q s ru rv lo ko H K g r W->Calls Tryz.prog 119 #[.pointer (some ⟨q,0,none⟩),.int .i64 r.n] W (BRet (.bool (Bk.has s.vs r.n)) W)):=fun W h=>jk7 q s ru rv lo ko H K W h.bd (HT.out.on h.b) r.n HI.out;have CL:Hid (∀W,RdC w q s ru rv lo ko H K g r W->Calls Tryz.prog 120 #[.pointer (some ⟨q,2,none⟩)] W (fun e w'=>e= .returned (.int .i64 (s.vs.length:Nat))/\w'=W)):=fun W h=>by
  have:=jij W _ ko K h.bd.kvIs.ask;rw[h.bd.dg.len]at this;exact this
 clear h ht;go_enter Tryz.func58,Tryz.ntmps58;go_upto_region 1 with fail
 rw[<-hW,<-hg];clear hW hg;have c3:=R0.out.rc.cs.c3
 cases hx:Bk.has s.vs r.n with
 |true=>
  have E:ans=6:=AN.out.trans (if_pos hx);subst E;rw[hx]at CH;clear hx;go_wp2_with(go_at_call 119;(with_reducible refine(CH.out _ R0.out).mono ?_);rintro e w1 ⟨rfl,hb⟩;have R1:=zh (R0.out.on hb);clear hb c3;have lq:=R1.out.bd.lt.1);go_ret;exact⟨rfl,R1.out.b⟩
 |false=>
  rw[hx]at CH;by_cases hl:64<=s.vs.length
  ·have E:ans=4:=by rw[AN.out];unfold Bk.chk2;rw[if_neg (by rw[hx];simp),if_pos hl]
   subst E;have hl2:(64:Int)<=(s.vs.length:Nat):=by omega
   clear hx hl
   go_wp2_with(first
   |(go_at_call 119;(with_reducible refine(CH.out _ R0.out).mono ?_);rintro e w1 ⟨rfl,hb⟩;have R1:=zh (R0.out.on hb);clear hb c3;have lq:=R1.out.bd.lt.1)
   |(go_at_call 120;(with_reducible refine(CL.out _ R1.out).mono ?_);rintro e w2 ⟨rfl,hw⟩;obtain rfl:=hw))
   go_ret;exact⟨rfl,R1.out.b⟩
  ·have E:ans=0:=by rw[AN.out];unfold Bk.chk2;rw[if_neg (by rw[hx];simp),if_neg hl]
   subst E;have hl2:¬(64:Int)<=(s.vs.length:Nat):=by omega
   clear hx hl
   go_wp2_with(first
   |(go_at_call 119;(with_reducible refine(CH.out _ R0.out).mono ?_);rintro e w1 ⟨rfl,hb⟩;have R1:=zh (R0.out.on hb);clear hb c3;have lq:=R1.out.bd.lt.1)
   |(go_at_call 120;(with_reducible refine(CL.out _ R1.out).mono ?_);rintro e w2 ⟨rfl,hw⟩;obtain rfl:=hw))
   go_ret;exact⟨rfl,R1.out.b⟩
theorem jpo(q:Nat)(s:Bk.St)(ru:Nat->Bk.Un)(rv:Int)(lo ko:Option Nat)(H:Value)(K:Kv.St)(w:World)(h:BdIs w q s ru rv lo ko H K)(ht:BT w)(r:Rc.R)(hin:Rc.In r):Calls Tryz.prog 60 #[.pointer (some ⟨q,0,none⟩),.agg (Rc.cells r)] w (BRet (.int .i64 (Bk.chk3 s r)) w):=by
 obtain⟨ans,hans⟩:∃ans,ans=Bk.chk3 s r:=⟨_,rfl⟩;rw[<-hans];have AN:=zh hans;clear hans;have HT:=zh ht;obtain⟨W,hW⟩:∃W,W=w.alloc (.cells (Rc.cells r) 45):=⟨_,rfl⟩;obtain⟨g,hg⟩:∃g,g=w.heap.size:=⟨_,rfl⟩;have R0:=zh (RdC.open_ h r);rw[<-hW,<-hg]at R0;have GE:Hid (w.heap.size<=g):=Nat.le_of_eq hg.symm;have HI:=zh (hin.sp r.sp.v (by simp[Spc.flds]));have CH:Hid (∀W,RdC w q s ru rv lo ko H K g r W->Calls Tryz.prog 119 #[.pointer (some ⟨q,0,none⟩),.int .i64 r.sp.v] W (BRet (.bool (Bk.has s.vs r.sp.v)) W)):=fun W h=>jk7 q s ru rv lo ko H K W h.bd (HT.out.on h.b) r.sp.v HI.out;have CO:=zh (fun W=>joo s.ph W);clear h ht;go_enter Tryz.func60,Tryz.ntmps60;go_upto_region 1 with fail
 rw[<-hW,<-hg];clear hW hg;have b9:=R0.out.bd.at_.cs.c9;have lq:=R0.out.bd.lt.1
 cases hx:Ph.open_ s.ph with
 |true=>
  have E:ans=10:=AN.out.trans (if_pos hx);subst E;rw[hx]at CO;clear hx;go_wp2_with(go_at_call 123;(with_reducible refine(CO.out _).mono ?_);rintro e w1 ⟨rfl,hb⟩;have R1:=zh (R0.out.on hb);clear hb b9;have c6:=R1.out.rc.cs.c6;have lq:=R1.out.bd.lt.1);go_ret;exact⟨rfl,R1.out.b⟩
 |false=>
  rw[hx]at CO
  cases hy:Bk.has s.vs r.sp.v with
  |false=>
   have E:ans=5:=by rw[AN.out];unfold Bk.chk3;rw[if_neg (by rw[hx];simp),if_pos hy]
   subst E;rw[hy]at CH;clear hx hy
   go_wp2_with(first
   |(go_at_call 123;(with_reducible refine(CO.out _).mono ?_);rintro e w1 ⟨rfl,hb⟩;have R1:=zh (R0.out.on hb);clear hb b9;have c6:=R1.out.rc.cs.c6;have lq:=R1.out.bd.lt.1)
   |(go_at_call 119;(with_reducible refine(CH.out _ R1.out).mono ?_);rintro e w2 ⟨rfl,hb⟩;have R2:=zh (R1.out.on hb);clear hb c6;have c6:=R2.out.rc.cs.c6;have b7:=R2.out.bd.at_.cs.c7;have lq:=R2.out.bd.lt.1))
   go_ret;exact⟨rfl,R2.out.b⟩
  |true=>
   rw[hy]at CH;go_upto_region 5 with(first
   |(go_at_call 123;(with_reducible refine(CO.out _).mono ?_);rintro e w1 ⟨rfl,hb⟩;have R1:=zh (R0.out.on hb);clear hb b9;have c6:=R1.out.rc.cs.c6;have lq:=R1.out.bd.lt.1)
   |(go_at_call 119;(with_reducible refine(CH.out _ R1.out).mono ?_);rintro e w2 ⟨rfl,hb⟩;have R2:=zh (R1.out.on hb);clear hb c6;have c6:=R2.out.rc.cs.c6;have b7:=R2.out.bd.at_.cs.c7;have lq:=R2.out.bd.lt.1))
   by_cases hz:r.sp.v=s.stable
   ·have E:ans=6:=by rw[AN.out];unfold Bk.chk3;rw[if_neg (by rw[hx];simp),if_neg (by rw[hy];simp),if_pos hz]
    subst E;have hz2:(r.sp.v==s.stable)=true:=by simpa using hz
    clear hx hy hz;go_region;go_wp2_with fail;go_ret;exact⟨rfl,R2.out.b.drew⟩
   ·have E:ans=0:=by rw[AN.out];unfold Bk.chk3;rw[if_neg (by rw[hx];simp),if_neg (by rw[hy];simp),if_neg hz]
    subst E;have hz2:(r.sp.v==s.stable)=false:=by simpa using hz
    clear hx hy hz;go_region;go_wp2_with fail;go_ret;exact⟨rfl,R2.out.b.drew⟩
theorem jpp(q:Nat)(s:Bk.St)(ru:Nat->Bk.Un)(rv:Int)(lo ko:Option Nat)(H:Value)(K:Kv.St)(w:World)(h:BdIs w q s ru rv lo ko H K)(ht:BT w)(r:Rc.R)(hin:Rc.In r):Calls Tryz.prog 62 #[.pointer (some ⟨q,0,none⟩),.agg (Rc.cells r)] w (BRet (.int .i64 (Bk.chk4 s r)) w):=by
 obtain⟨ans,hans⟩:∃ans,ans=Bk.chk4 s r:=⟨_,rfl⟩;rw[<-hans];have AN:=zh hans;clear hans;have HT:=zh ht;obtain⟨W,hW⟩:∃W,W=w.alloc (.cells (Rc.cells r) 45):=⟨_,rfl⟩;obtain⟨g,hg⟩:∃g,g=w.heap.size:=⟨_,rfl⟩;have R0:=zh (RdC.open_ h r);rw[<-hW,<-hg]at R0;have GE:Hid (w.heap.size<=g):=Nat.le_of_eq hg.symm;obtain⟨ev,hev⟩:∃ev,ev=Ph.of r.text:=⟨_,rfl⟩;obtain⟨ok,hok⟩:∃ok,ok=Ph.isWord r.text:=⟨_,rfl⟩;obtain⟨nx,hnx⟩:∃nx,nx=Ph.next s.ph ev:=⟨_,rfl⟩;obtain⟨dd,hdd⟩:∃dd,dd=Ph.did s.ph ev:=⟨_,rfl⟩;have HA:Hid (Bk.chk4 s r=if ok=false\/ev=0\/ev=3 then 2 else if dd=false\/nx≠r.n then 10 else 0):=by show _=_;rw[hok,hdd,hnx,hev];rfl
 have PHS:Hid (i64P s.ph):=by have:=h.lok.ok.ph;exact jom zv
 have CF:Hid (∀W,RdC w q s ru rv lo ko H K g r W->Calls Tryz.prog 125 #[.string r.text] W (je7 W (.int .i64 ev) (.bool ok))):=fun W h=>by rw[hev,hok];exact pof_any r.text W (HT.out.on h.b).ph
 have CN:Hid (∀W,RdC w q s ru rv lo ko H K g r W->Calls Tryz.prog 126 #[.int .i64 s.ph,.int .i64 ev] W (je7 W (.int .i64 nx) (.bool dd))):=fun W h=>by rw[hnx,hdd];exact jol s.ph ev PHS.out (by rw[hev];exact Ph.of_small _) W (HT.out.on h.b).ph
 clear hev hok hnx hdd;clear h ht;go_enter Tryz.func62,Tryz.ntmps62;go_upto_region 1 with fail
 rw[<-hW,<-hg];clear hW hg;have AE:=zh (AN.out.trans HA.out);clear HA AN;have HA:=AE;clear AE;have c5:=R0.out.rc.cs.c5
 cases ok with
 |false=>
  obtain rfl:=HA.out.trans (if_pos (.inl rfl));clear HA;go_wp2_with(go_at_call 125;(with_reducible refine(CF.out _ R0.out).mono ?_);rintro e w1 ⟨rfl,hb⟩;have R1:=zh (R0.out.on hb);clear hb c5;have b9:=R1.out.bd.at_.cs.c9;have lq:=R1.out.bd.lt.1);go_ret;exact⟨rfl,R1.out.b⟩
 |true=>
  by_cases h0:ev=0
  ·obtain rfl:=HA.out.trans (if_pos (.inr (.inl h0)))
   have h02:(ev==0)=true:=by simpa using h0
   clear HA h0;go_wp2_with(go_at_call 125;(with_reducible refine(CF.out _ R0.out).mono ?_);rintro e w1 ⟨rfl,hb⟩;have R1:=zh (R0.out.on hb);clear hb c5;have b9:=R1.out.bd.at_.cs.c9;have lq:=R1.out.bd.lt.1);go_ret;exact⟨rfl,R1.out.b⟩
  ·have h02:(ev==0)=false:=by simpa using h0
   by_cases h3:ev=3
   ·obtain rfl:=HA.out.trans (if_pos (.inr (.inr h3)))
    have h32:(ev==3)=true:=by simpa using h3
    clear HA h0 h3;go_wp2_with(go_at_call 125;(with_reducible refine(CF.out _ R0.out).mono ?_);rintro e w1 ⟨rfl,hb⟩;have R1:=zh (R0.out.on hb);clear hb c5;have b9:=R1.out.bd.at_.cs.c9;have lq:=R1.out.bd.lt.1);go_ret;exact⟨rfl,R1.out.b⟩
   ·have h32:(ev==3)=false:=by simpa using h3
    have HB:=zh (HA.out.trans (if_neg (by rintro(h|h|h);cases h;exact h0 h;exact h3 h)));clear HA;have HA:=HB;clear HB
    cases dd with
    |false=>
     obtain rfl:=HA.out.trans (if_pos (.inl rfl));clear HA h0 h3
     go_wp2_with(first
   |(go_at_call 125;(with_reducible refine(CF.out _ R0.out).mono ?_);rintro e w1 ⟨rfl,hb⟩;have R1:=zh (R0.out.on hb);clear hb c5;have b9:=R1.out.bd.at_.cs.c9;have lq:=R1.out.bd.lt.1)
   |(go_at_call 126;(with_reducible refine(CN.out _ R1.out).mono ?_);rintro e w2 ⟨rfl,hb⟩;have R2:=zh (R1.out.on hb);clear hb b9;have c3:=R2.out.rc.cs.c3;have lq:=R2.out.bd.lt.1))
     go_ret;exact⟨rfl,R2.out.b⟩
    |true=>
     by_cases hn:nx=r.n
     ·obtain rfl:=HA.out.trans (if_neg (by rintro(h|h);cases h;exact h hn))
      have hn2:(nx !=r.n)=false:=by simpa using hn
      clear HA h0 h3 hn
      go_wp2_with(first
   |(go_at_call 125;(with_reducible refine(CF.out _ R0.out).mono ?_);rintro e w1 ⟨rfl,hb⟩;have R1:=zh (R0.out.on hb);clear hb c5;have b9:=R1.out.bd.at_.cs.c9;have lq:=R1.out.bd.lt.1)
   |(go_at_call 126;(with_reducible refine(CN.out _ R1.out).mono ?_);rintro e w2 ⟨rfl,hb⟩;have R2:=zh (R1.out.on hb);clear hb b9;have c3:=R2.out.rc.cs.c3;have lq:=R2.out.bd.lt.1))
      go_ret;exact⟨rfl,R2.out.b⟩
     ·obtain rfl:=HA.out.trans (if_pos (.inr hn))
      have hn2:(nx !=r.n)=true:=by simpa using hn
      clear HA h0 h3 hn
      go_wp2_with(first
   |(go_at_call 125;(with_reducible refine(CF.out _ R0.out).mono ?_);rintro e w1 ⟨rfl,hb⟩;have R1:=zh (R0.out.on hb);clear hb c5;have b9:=R1.out.bd.at_.cs.c9;have lq:=R1.out.bd.lt.1)
   |(go_at_call 126;(with_reducible refine(CN.out _ R1.out).mono ?_);rintro e w2 ⟨rfl,hb⟩;have R2:=zh (R1.out.on hb);clear hb b9;have c3:=R2.out.rc.cs.c3;have lq:=R2.out.bd.lt.1))
      go_ret;exact⟨rfl,R2.out.b⟩
end Go.Proofs.YtkcdaigaclpfjaaGreatDoor
