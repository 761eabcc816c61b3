import Derived.Test.YtkinlcfhojjalaaGreatDoorQz23
import Derived.Defers
import Derived.Test.YtkinlcfhojjalaaGreatDoorQz22
import Derived.Test.YtkinlcfhojjalaaGreatDoorQz12
set_option maxHeartbeats 6400000
set_option maxRecDepth 100000
set_option linter.all false
namespace Go.Proofs.YtkinlcfhojjalaaGreatDoor
open Go.RowKit Go.Deep Go.Maps
def poC(o:Kv.Po):List Value:=[.string o.key,.string o.val,.int .i64 o.rev,.bool o.drop]
theorem jsi(o:Kv.Po):(poC o).length=4:=rfl
theorem poC_one(o:Kv.Po):∀u∈poC o,u.oneCell'=true:=by intro u hu;simp[poC]at hu;rcases hu with rfl|rfl|rfl|rfl<;>rfl
theorem slp_of{w:World}{A:Option Addr}{n c:Nat}{l:List Kv.Po}(h:SlF poC w A n c l)(hz:∀o∈l,o.key.size<=maxLen/\o.val.size<=maxLen/\jnz o.rev):SlP w A n c l:=
 ⟨fun j t hj=>by
  obtain⟨b,o,e,hb,hc⟩:=h.at_ jsi hj;refine⟨b,o,poC t,e,hb,rfl,fun i hi=> ?_,rfl,hz t (List.mem_of_getElem? hj)⟩;have hl:i<(poC t).length:=hi;rw[List.getElem?_eq_getElem hl];exact hc i _ (List.getElem?_eq_getElem hl),h.len,h.cap,h.max,h.nil⟩
namespace Bd
def mk(l:List Kv.En)(k:ByteArray):Kv.Po:=⟨k,Kv.valOf l k,0,false⟩
theorem mk_po{l:List Kv.En}(hr:Kv.Rise l):((Kv.keysOf l).map (mk l)).map po=l.map pr:=by
 unfold Kv.keysOf;rw[List.map_map,List.map_map];refine List.map_congr_left fun e he=> ?_;show(e.key,Kv.valOf l e.key)=(e.key,e.val);unfold Kv.valOf;rw[Kv.find_mem hr he]
theorem twin_digs{K:Kv.St}{vs:List Bk.Vn}(hd:Digs K vs)(hg:Kv.Good K):Kv.Good (Kv.doS Kv.St.none ((Kv.keysOf K.l).map (mk K.l)))/\Digs (Kv.doS Kv.St.none ((Kv.keysOf K.l).map (mk K.l))) vs/\(Kv.doS Kv.St.none ((Kv.keysOf K.l).map (mk K.l))).rev<=vs.length:=by
 have hl:=hd.len;by_cases h0:K.l=[]
 ·have e:((Kv.keysOf K.l).map (mk K.l))=[]:=by rw[h0];rfl
  have hv:vs=[]:=List.eq_nil_of_length_eq_zero (by rw[<-hl,h0];rfl);rw[e,(Kv.doS_no (by rw[Kv.doE_right (fun h=>by have:=h.1;simp at this)];decide)).1,hv];exact⟨Kv.Good.none_,none_digs,Int.le_refl _⟩
 ·have hp:0<K.l.length:=List.length_pos_iff.2 h0
  have hk:∀o∈(Kv.keysOf K.l).map (mk K.l),∃e∈K.l,o=⟨e.key,e.val,0,false⟩:=fun o ho=>by
   obtain⟨k,hk,rfl⟩:=List.mem_map.1 ho;obtain⟨e,he,rfl⟩:=List.mem_map.1 hk;refine⟨e,he,?_⟩;unfold mk Kv.valOf;rw[Kv.find_mem hg.rise he]
  obtain⟨a1,a2,a3,a4⟩:=puts_new (K:=Kv.St.none) (ops:=(Kv.keysOf K.l).map (mk K.l)) Kv.Good.none_ (by unfold Kv.keysOf;simpa using hp)
   (fun o ho=>by obtain⟨e,_,rfl⟩:=hk o ho;exact⟨rfl,rfl⟩)
   (by
    unfold Kv.keysOf;rw[List.map_map,List.pairwise_map];exact hg.rise.imp fun h=>Kv.lt_ne h)
   (fun o ho e he=>by cases he)
   (fun o ho=>by obtain⟨e,he,rfl⟩:=hk o ho;exact hg.size e he)
   (by unfold Kv.keysOf;simp[Kv.St.none];exact hg.len)
  refine⟨a3,?_,?_⟩
  ·rw[mk_po hg.rise]at a4
   unfold Digs at hd⊢;refine List.Perm.trans a4 ?_;simpa[Kv.St.none]using hd
  ·rw[a2]
   show(0:Int)+1<=_;omega
end Bd
def jsj(s:Bk.St)(W:World)(e:Ending)(w':World):Prop:=
 ∃(ko:Option Nat) (K:Kv.St),e= .returned (.agg #[.int .i64 K.rev,.map ko])/\MapO w' ko K.l/\Kv.Good K/\K.rev<=s.vs.length/\Bd.Digs K s.vs/\(∀b,ko=some b->W.heap.size<=b)/\zF W w'
theorem jsk:Tryz.prog.underlying 81=some (.struct (Tryz.prog.fieldsOf 81)):=by kernel_rfl
theorem jsl(r:Int)(mo:Option Nat):(Tryz.prog.info? 81).map (·.size)=some (#[Value.int .i64 r,.map mo]).size:=by kernel_rfl
theorem jhd{w:World}{ops:Array Oper}{rest:List Oper}{op:Oper}{a:Act}{Q:Exit->Act->World->Prop}{g:Nat}{M:Int}{mo:Option Nat}{cs:Array Value}(hgd:op.guard=none)(x y:Operand)(ho:op.op= .store 81 x y)(hx:a.eval x= .pointer (some ⟨g,0,none⟩))(hy:a.eval y= .agg #[.int .i64 M,.map mo])(hg:w.heap[g]? =some (.cells cs 81 (0,0)))(hc:cs.size=2)
  (h:wpList Tryz.prog ops Q rest (a.put op.dst undef) (w.setRow g #[.int .i64 M,.map mo])):wpList Tryz.prog ops Q (op::rest) a w:=
 wpList_plain hgd fun _ hK=>wp_store_row 81 x y ho g #[.int .i64 M,.map mo] hx hy 81 _ hg (jsl M mo) hc (by simp[Value.oneCell']) (hK _ _ h)
theorem twd_any(q:Nat)(s:Bk.St)(ru:Nat->Bk.Un)(rv:Int)(lo ko:Option Nat)(H:Value)(K:Kv.St)(W:World)(h:BdIs W q s ru rv lo ko H K):Calls Tryz.prog 157 #[.pointer (some ⟨q,0,none⟩)] W (jsj s W):=by
 have TD:=zh (Bd.twin_digs h.dg h.kg);have GK:=zh h.kg;have HL:Hid ((Kv.keysOf K.l).length<=64):=by show _<=_;unfold Kv.keysOf;rw[List.length_map];exact h.kg.len
 have x1:zF W (W.alloc (.cells #[zi,.map none] 81)):=zE;have P1:=zh (heap_alloc_new W (.cells #[zi,.map none] 81));have B1:=zh x1;have H1:=zh (h.on x1);have lq:=(h.on x1).lt.1;clear h x1;go_in;go_upto_region 1 with fail
 obtain⟨r,hr⟩:∃r,r=W.heap.size:=zx;have HR:=zh hr;rw[<-hr]at P1⊢;clear hr;generalize W.alloc (.cells #[zi,.map none] 81)=w1 at*;have CK:=zh (jhz w1 _ ko K H1.o.kvIs.ask);unfold KTx at CK;have KM:Hid (∀k∈Kv.keysOf K.l,k.size<=64/\(Kv.valOf K.l k).size<=64):=fun k hk=>by
  obtain⟨e,he,rfl⟩:=List.mem_map.1 hk;unfold Kv.valOf;rw[Kv.find_mem GK.o.rise he];exact(GK.o.size e he).2
 obtain⟨mk,hmk⟩:∃mk,mk=Bd.mk K.l:=zx;have MK:Hid (∀k,mk k=⟨k,Kv.valOf K.l k,0,false⟩):=fun k=>by rw[hmk];rfl
 rw[<-hmk]at TD;clear hmk;have CG:Hid (∀X,zF w1 X->∀k∈Kv.keysOf K.l,Calls Tryz.prog 109 #[.pointer (some ⟨q,2,none⟩),.string k] X (KGet K k X)):=fun X hX k hk=>jgx X _ ko K (H1.o.kvIs.ask.on hX) k (by have:=(KM.o k hk).1;unfold maxLen;omega);unfold KGet at CG;generalize Kv.keysOf K.l=ks at*;go_upto_region 2 with fail
 generalize hv0:Value.slice none 0 0=v0;have HV:=zh hv0;clear hv0;go_wp2_with(go_at_call 106;refine CK.o.mono ?_;rintro e w2 hp;obtain⟨v1,rfl,ho,hb⟩:=hp;obtain⟨A9,c9,rfl,s9⟩:=(jlj.any (w1:=w2) ho).slr ETx.on zD;have SK:=zh s9;have B2:=zh hb;clear ho hb s9);go_loopw [3,14] (fun v i wr=>∃j:Nat,j<=ks.length/\i= .int .i64 j/\OwF poC 4 236 wr w2.heap.size v ((ks.take j).map mk)/\zF w2 wr) (fun v i wr=>ks.length -(intOf i).toNat)
 case atStart=>exact⟨0,Nat.zero_le _,rfl,by rw[<-HV.o];exact OwF.none_ _ _ _,zD⟩
 case round=>
  obtain⟨j,hj,rfl,ho,hbr⟩:=hrel;have O:=zh ho;have B:=zh hbr;clear ho hbr;have i1:(0:Int)<=(j:Int):=by omega
  by_cases hlt:j<ks.length
  ·have hx:ks[j]? =some ks[j]:=List.getElem?_eq_getElem hlt
   have NX:Hid (((ks.take (j+1)).map mk)=(ks.take j).map mk++[mk ks[j]]):=by show _=_;rw[List.take_add_one,hx,List.map_append];rfl
   obtain⟨b,o,rfl⟩:=(SK.o).addr zv;have S2:=zh (SlR.on ETx.on SK.o B.o);obtain⟨hbl,cs,hcl,hce,hE⟩:=S2.o.cell hlt;have hE2:cs=[.string ks[j]]:=hE;subst hE2;have e0:=hce 0 zv;simp only[Nat.mul_one,Nat.add_zero,List.getElem?_cons_zero]at e0;have CA:=zh (CG.o wr (B2.o.trans (B.o.mono B2.o.size)) ks[j] (List.getElem_mem hlt));have MX:=zh (MK.o ks[j]);generalize ks[j]=x at*;generalize Kv.valOf K.l x=vx at*;have q1:((j:Nat):Int)<(ks.length:Nat):=by omega
   have q2:((ks.length:Nat):Int)<=64:=by have:=HL.o;omega
   have LT:=zh hlt;clear hx hce hE hcl hlt;go_upto_region 6 with(go_at_call 109;refine CA.o.mono ?_;rintro e w3 ⟨rfl,hb⟩;have B3:=zh hb;clear hb CA)
   have O2:=zh (O.o.below B3.o);have B4:=zh (B.o.trans (B3.o.mono B.o.size));clear e0
   go_wp2_with(first
    |((with_reducible show zB 30);refine jap Tryz.underlying237 jmx zv zv rfl (.tmp 29) rfl #[.string x,.string vx,zi,.bool false] rfl rfl ?_)
    |(at_builtin;refine jaf jsi poC_one Tryz.underlying237 jmx rfl zv rfl (.tmp 26) (.tmp 30) rfl w2.heap.size _ _ rfl O2.o ⟨x,vx,0,false⟩ rfl (by have:=HL.o;have:=LT.o;rw[List.length_map,List.length_take];unfold maxLen;omega) (by have:=HL.o;have:=LT.o;rw[List.length_map,List.length_take];omega) B4.o.size ?_;intro v9 w9 ho9 hb9 _ _;have O9:=zh ho9;have B9:=zh (B4.o.trans hb9);clear ho9 hb9))
   have hq:=LT.o;have hq2:=HL.o;refine⟨⟨j+1,zv,by go_num,?_,B9.o⟩,by simp[intOf];omega⟩;rw[NX.o,MX.o];exact O9.o
  ·have q1:((ks.length:Nat):Int)<=(j:Nat):=by omega
   obtain rfl:j=ks.length:=by omega
   have O1:=O.o;rw[List.take_length]at O1;have O2:=zh O1;clear O1 O hlt;obtain⟨AF,cF,rfl⟩:=O2.o.form;have LE:Hid ((ks.map mk).length=ks.length):=List.length_map _;rw[LE.o]at O2⊢;have OZ:Hid (∀o∈ks.map mk,o.key.size<=maxLen/\o.val.size<=maxLen/\jnz o.rev):=fun o ho=>by
    obtain⟨k,hk,rfl⟩:=List.mem_map.1 ho;rw[MK.o k];have:=KM.o k hk;unfold maxLen;exact⟨by show k.size<=_;omega,by show(Kv.valOf K.l k).size<=_;omega,by show _<=(0:Int)/\(0:Int)<=_;omega⟩
   go_upto_region 9 with(go_at_call 203;refine(jqm _).mono ?_;rintro e w5 ⟨rfl,hk,hb⟩;obtain⟨qs,hqs⟩:∃qs,qs=wr.heap.size:=zx;rw[<-hqs]at hk⊢;have K5:=zh hk;have O5:=zh (O2.o.below hb);have B5:=zh (B2.o.trans ((B.o.trans (hb.mono B.o.size)).mono B2.o.size));have QG:Hid (w1.heap.size<=qs):=(by show _<=_;rw[hqs];exact Nat.le_trans B2.o.size B.o.size);clear hk hb hqs)
   go_upto_region 10 with(go_at_call 179;(refine(jmy _ qs 0 _ _ none Kv.St.none _ cF AF _ K5.o (by decide) (slp_of O5.o.sl OZ.o) (by rw[LE.o];have:=HL.o;omega)).mono ?_);rintro e w6 hp;obtain⟨mo,rfl,d1,d2,d3⟩:=hp;have D6:=zh d1;have B6:=zh (B5.o.trans (d2.below B5.o.size (fun i hi=>by rcases hi with rfl|hi;exact QG.o;cases hi)));have M6:Hid (∀b,mo=some b->w1.heap.size<=b):=fun b hb=>by{rcases d3 b hb with h|h;cases h;exact Nat.le_trans B5.o.size h};clear d1 d2 d3)
   obtain⟨Q0,Q1,Q2⟩:w6.cell? ⟨qs,0,none⟩=some (.int .i64 (Kv.doS Kv.St.none (ks.map mk)).rev)/\w6.cell? ⟨qs,1,none⟩=some (.map mo)/\qs<w6.heap.size:=by
    have h:=D6.o;exact⟨by rw[cell_of_row _ qs 0 _ _ _ h.row];rfl,by rw[cell_of_row _ qs 1 _ _ _ h.row];rfl,(zg h.row).1⟩
   obtain⟨K9,hK9⟩:∃K9,K9=Kv.doS Kv.St.none (ks.map mk):=zx;rw[<-hK9]at TD D6 Q0;clear hK9;have R0:=zh (jah P1.o B6.o);go_wp2_with((with_reducible show zW);refine jhd rfl (.tmp 2) (.tmp 39) rfl rfl rfl R0.o rfl ?_);have g2:=(zg P1.o).1;exact bodyPost_ret (v:= .agg #[.int .i64 K9.rev,.map mo]) (results_cell_row (P:=Tryz.prog) Tryz.results157 _ _ r 81 #[.int .i64 K9.rev,.map mo] (0,0) _ rfl (setRow_heap w6 r _ _ _ _ R0.o) jsk rfl (jsl K9.rev mo)) rfl ⟨mo,K9,rfl,D6.o.map.keep fun b hb=>jbn _ _ (by have:=M6.o b hb;omega),TD.o.1,TD.o.2.2,TD.o.2.1,fun b hb=>by have:=M6.o b hb;have:=B1.o.size;omega,below_setRow (B1.o.trans (B6.o.mono B1.o.size)) (by have:=HR.o;omega) _⟩
open Go.RowKit
namespace Bk
def vwSame(a b:St):Bool:=(a.ep==b.ep)&&((a.who==b.who)&&((a.till==b.till)&&((a.stable==b.stable)&&((a.from_==b.from_)&&((a.ph==b.ph)&&((a.step==b.step)&&((a.since==b.since)&&((a.begun==b.begun)&&((a.seq==b.seq)&&(Spc.same a.sp b.sp&&true))))))))))
theorem vwSame_iff{a b:St}:vwSame a b=true↔(a.ep=b.ep/\a.who=b.who/\a.till=b.till/\a.stable=b.stable/\a.from_=b.from_/\a.ph=b.ph/\a.step=b.step/\a.since=b.since/\a.begun=b.begun/\a.seq=b.seq/\a.sp=b.sp):=by
 unfold vwSame;simp only[Bool.and_eq_true,beq_iff_eq,and_true,Spc.same_iff]
end Bk
theorem jsm:Tryz.prog.underlying 59=some (.struct (Tryz.prog.fieldsOf 59)):=by kernel_rfl
theorem jvn:Tryz.prog.stoodInHeld 59=false:=by kernel_rfl
theorem vw_eqIn(r s:Bk.St)(W:World):(Op.equalIn 10000 59 (.agg (Bk.viewC r)) (.agg (Bk.viewC s))).run Tryz.prog W= .ok (Bk.vwSame r s) W:=by
 rw[run_equalIn_agg W 9999 59 _ _ jsm jvn];have hi:∀x y,(Op.equalIn 9999 3 (.int .i64 x) (.int .i64 y)).run Tryz.prog W= .ok (x==y) W:=fun x y=>run_equalIn_int W 9998 3 .i64 .i64 x y Tryz.underlying3;have hs:=jeu r.sp s.sp 9996 W;simp only[Program.fieldsOf,Tryz.underlying59,Bk.viewC];unfold Bk.vwSame;unfold Spc.val Spc.cells at hs;refine jai (by decide) ?_ ?_ (hi _ _) (jai (by decide) ?_ ?_ (hi _ _) (jai (by decide) ?_ ?_ (hi _ _) (jai (by decide) ?_ ?_ (hi _ _) (jai (by decide) ?_ ?_ (hi _ _) (jai (by decide) ?_ ?_ (hi _ _) (jai (by decide) ?_ ?_ (hi _ _) (jai (by decide) ?_ ?_ (hi _ _) (jai (by decide) ?_ ?_ (hi _ _) (jai (by decide) ?_ ?_ (hi _ _) (jai (by decide) ?_ ?_ hs jgk))))))))))
 all_goals simp[go_sem,Sem.run_bind,Result.andThen]
theorem vw_eq(r s:Bk.St)(W:World):(binOp .eql 59 (.agg (Bk.viewC r)) (.agg (Bk.viewC s))).run Tryz.prog W= .ok (.bool (Bk.vwSame r s)) W:=by
 have h:=vw_eqIn r s W;unfold Bk.viewC at*;rw[run_eql_struct,h];rfl
theorem jsn(l:List Int):l.flatMap (fun x:Int=>[Value.int .i64 x])=l.map (Value.int .i64):=by
 exact zz33
theorem jso{w:World}{A:Option Addr}{n c:Nat}{l:List Int}(h:SlF (fun x:Int=>[Value.int .i64 x]) w A n c l):SlI w A n c l:=
 ⟨fun hl=>by
  obtain⟨b,o,e,hb,hc⟩:=h.rd hl;refine⟨b,o,e,hb,fun j hj=>hc j _ ?_⟩;rw[jsn,List.getElem?_map,List.getElem?_eq_getElem hj];have:l.getD j 0=l[j]:=by rw[List.getD_eq_getElem?_getD,List.getElem?_eq_getElem hj];rfl
  rw[this];rfl,h.len,h.cap,h.max⟩
theorem jkk(A1 A2:Option Addr)(n m c1 c2:Nat)(a b:List Rc.R)(w:World)(h1:SlF Bk.rcC w A1 n c1 a)(h2:SlF Bk.rcC w A2 m c2 b)(hn:n<=100000):Calls Tryz.prog 28 #[.slice A1 n c1,.slice A2 m c2] w (jeb (a=b) w):=by
 have S1:=zh h1;have S2:=zh h2;have L1:=zh h1.len;have L2:=zh h2.len;have hc1:=h1.cap;have hc2:=h2.cap;clear h1 h2;by_cases hnm:n=m
 case neg=>
  have q0:((n:Int) !=(m:Int))=true:=by rw[bne_iff_ne];omega
  go_in;go_wp2;go_ret;exact⟨⟨false,rfl,by simp;rintro rfl;exact hnm (L1.o.trans L2.o.symm)⟩,zD⟩
 case pos=>
  subst hnm;go_in;go_wp2_with fail;go_loopw [5,13] (fun _ i wr=>∃j:Nat,j<=n/\i= .int .i64 j/\(∀k,k<j->a[k]? =b[k]?)/\zF w wr) (fun _ i _=>n -(intOf i).toNat)
  case atStart=>exact⟨0,zv,rfl,fun k hk=>by omega,zD⟩
  case round=>
   obtain⟨j,hj,rfl,hk,hbr⟩:=hrel;have HK:=zh hk;have B:=zh hbr;clear hk hbr;by_cases hlt:j<n
   ·have hx:a[j]? =some (a[j]'(by have:=L1.o;omega)):=List.getElem?_eq_getElem _
    have hy:b[j]? =some (b[j]'(by have:=L2.o;omega)):=List.getElem?_eq_getElem _;generalize a[j]'(by have:=L1.o;omega)=x at hx;generalize b[j]'(by have:=L2.o;omega)=y at hy;obtain⟨b1,o1,rfl,hl1,hr1⟩:=jc3 S1.o hx;obtain⟨b2,o2,rfl,hl2,hr2⟩:=jc3 S2.o hy;have EX:=zh hx;have EY:=zh hy;have R1:=zh hr1;have R2:=zh hr2;have H1:=zh hl1;have H2:=zh hl2;have i1:(0:Int)<=(j:Int):=by omega
    have i2:(j:Int)<(n:Int):=by omega
    have hgd:=jpz;obtain⟨q,hq⟩:∃q:Bool,q=true↔x≠y:=by
     classical exact⟨decide (x≠y),decide_eq_true_iff⟩
    have hne:∀W,(binOp .neq 56 (.agg (Rc.cells x)) (.agg (Rc.cells y))).run Tryz.prog W= .ok (.bool q) W:=fun W=>by
     classical
     rw[jlf,show(!decide (x=y))=q from by rw[Bool.eq_iff_iff,hq];simp]
    have HQ:=zh hq;clear hx hy hr1 hr2 hl1 hl2 hq;go_upto_region 6 with fail
    refine wp_region_held_drew (S:=fun W=>zF w W) zk B.o.drew (fun hS=> ?_);refine tY 0 hS ?_;refine tY 1 hS ?_;refine tY 2 hS ?_;refine tZ 3 (v:= .agg (Rc.cells x)) rfl (fun W hW=>jmv (.tmp 18) rfl b1 (o1+j*18) x (by simp[Act.eval,go_sem]) (jf6 R1.o (hW.block b1 H1.o))) hS ?_;refine tY 4 hS ?_;refine tY 5 hS ?_;simp only[Act.put,zT,zO,zS];refine tY 6 hS ?_;refine tZ 7 (v:= .agg (Rc.cells y)) rfl (fun W hW=>jmv (.tmp 22) rfl b2 (o2+j*18) y (by simp[Act.eval,go_sem]) (jf6 R2.o (hW.block b2 H2.o))) hS ?_;refine tY 8 hS ?_;simp only[Act.put,zT,zO,zS];refine wpAnyH_done zk ?_ _
    cases q with
    |true=>
     have HN:Hid (x≠y):=HQ.o.1 rfl;go_wp2;go_ret;refine⟨⟨false,rfl,?_⟩,hS⟩;simp only[Bool.false_eq_true,false_iff];intro e;have e2:=EX.o;rw[e,EY.o]at e2;exact HN.o (Option.some.inj e2).symm
    |false=>
     have HE:Hid (x=y):=by
      show x=y
      classical
      exact Decidable.byContradiction fun h=>by have:=HQ.o.2 h;cases this
     go_wp2_with fail;refine⟨⟨j+1,zv,by go_num,fun k hk=> ?_,hS⟩,by simp[intOf];omega⟩;rcases Nat.lt_or_ge k j with h|h
     ·exact HK.o k h
     ·rw[show k=j by omega,EX.o,EY.o,HE.o]
   ·obtain rfl:j=n:=by omega
    go_wp2;go_ret;refine⟨⟨true,rfl,?_⟩,B.o⟩;simp only[true_iff];exact jqg (L1.o.symm.trans L2.o) fun k hk=>HK.o k (by have:=L1.o;omega)
theorem jkl(A1 A2:Option Addr)(n m c1 c2:Nat)(a b:List Int)(w:World)(h1:SlI w A1 n c1 a)(h2:SlI w A2 m c2 b)(hn:n<=1000000)(hm:m<=1000000):Calls Tryz.prog 61 #[.slice A1 n c1,.slice A2 m c2] w (jeb (a=b) w):=by
 have l1:=h1.len;have l2:=h2.len;by_cases hnm:n=m
 ·subst hnm
  by_cases h0:n=0
  ·subst h0
   refine(Tryz.slices_Equal_int_empty A1 A2 c1 0 c2 w zv).mono fun e w' ⟨he,hw⟩=> ?_;subst hw;refine⟨⟨_,he,?_⟩,zD⟩;have ha:a=[]:=List.eq_nil_of_length_eq_zero zv;have hb:b=[]:=List.eq_nil_of_length_eq_zero zv;simp[ha,hb]
  ·obtain⟨b1,o1,rfl,_,e1⟩:=h1.rd zv
   obtain⟨b2,o2,rfl,_,e2⟩:=h2.rd zv;refine(Tryz.slices_Equal_int b1 o1 n c1 b2 o2 n c2 a b w zv zv zv zv e1 e2).mono fun e w' ⟨he,q,hw⟩=> ?_;subst hw;refine⟨⟨_,he,?_⟩,jci zD q⟩;rw[List.take_of_length_le zv,List.take_of_length_le zv,beq_iff_eq]
 ·refine(Tryz.slices_Equal_int_lens A1 A2 n c1 m c2 w hnm).mono fun e w' ⟨he,hw⟩=> ?_
  subst hw;refine⟨⟨_,he,?_⟩,zD⟩;simp;rintro rfl;omega
def GoodC:Prop:=∀s W,Spc.In s->Calls Tryz.prog 76 #[Spc.val s] W (APos W (Spc.val (Spc.good s)))
