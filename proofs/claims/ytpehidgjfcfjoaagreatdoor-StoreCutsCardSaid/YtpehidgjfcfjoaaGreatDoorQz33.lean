/- StoreCuts: for every input the statement's function returns true, and its arguments read afterwards as before. The library's tables that the row lists lie as the program's text lays them (tied); no other condition. -/
import Derived.Test.YtpehidgjfcfjoaaGreatDoorQz32
import Derived.Handed
import Derived.HandedShaped
import Derived.Stop.LaidErr
import Derived.Shelf.Vars
import Derived.MakeChecks
import Derived.Lay
import Derived.Test.YtpehidgjfcfjoaaGreatDoorTie
import Derived.Test.YtpehidgjfcfjoaaGreatDoorCards
import Derived.ShutString
import Derived.ChangeOld
import Derived.LaidMore
import Derived.SevenTiedAt
set_option maxHeartbeats 6400000
set_option maxRecDepth 100000
set_option linter.unusedSimpArgs false
set_option linter.unusedVariables false
namespace Go.Proofs.YtpehidgjfcfjoaaGreatDoor
open Go.RowKit
theorem us_eq(u t:Nat->Bk.Un)(W:World):(binOp .eql 36 (.agg (Bk.uC u)) (.agg (Bk.uC t))).run Tryz.prog W= .ok (.bool (Bk.usSame u t)) W:=by
 have h:=us_eqIn u t 9996 W;rw[run_eql_struct,h];rfl
theorem jbc{a:Act}{oi:Oper}(ty:TypeId)(x:Operand)(ho:oi.op= .load ty x)(b o:Nat)(cs:Array Value)(d:TypeDesc)(hx:a.eval x= .pointer (some ⟨b,o,none⟩)){W:World}(h:W.rangeAt b o cs.toList)(hu:Tryz.prog.underlying ty=some d)(hd:d.isRow=true)(hi:(Tryz.prog.info? ty).map (·.size)=some cs.toList.length):(execOp a.eval oi).run Tryz.prog W= .ok (.value (.agg cs)) W:=by
 have:=run_loadVar_mid (P:=Tryz.prog) W b o ty cs.toList d h hu hd hi;exact zz1p
theorem jn8{w:World}{q:Nat}{s:Bk.St}{ru:Nat->Bk.Un}{rv:Int}{lm km H:Value}(h:BdAt w q s ru rv lm km H):w.rangeAt q 26 (Bk.uC ru).toList:=by
 intro j v hv;have hj:j<48:=(List.getElem?_eq_some_iff.1 hv).1;rw[cell_of_row w q _ _ _ _ h.row];rcases j with _|_|_|_|_|_|_|_|_|_|_|_|_|_|_|_|_|_|_|_|_|_|_|_|_|_|_|_|_|_|_|_|_|_|_|_|_|_|_|_|_|_|_|_|_|_|_|_|j
 all_goals first|exact hv|omega
theorem bd_hist{w:World}{q:Nat}{s:Bk.St}{ru:Nat->Bk.Un}{rv:Int}{lm km H:Value}(h:BdAt w q s ru rv lm km H):w.cell? ⟨q,74,none⟩=some H:=by
 rw[cell_of_row w q _ _ _ _ h.row];rfl
structure CmpB(W:World)(q:Nat)(s:Bk.St)(ru:Nat->Bk.Un)(A:Option Addr)(c:Nat):Prop where
 vw:W.rangeAt q 4 (Bk.viewC s).toList
 us:W.rangeAt q 26 (Bk.uC ru).toList
 hc:W.cell? ⟨q,74,none⟩=some (.slice A s.h.length c)
 hs:SlF Bk.rcC W A s.h.length c s.h
 raw:Bd.Raw ru s.us
 lt:q<W.heap.size
theorem jsk{w0 W:World}{F:Nat->Prop}{q:Nat}{s:Bk.St}(h:BP w0 F q s W):∃ru A c,CmpB W q s ru A c:=by
 obtain⟨X,⟨ru,rv,lo,ko,H,K,h1,_⟩,_⟩:=h;obtain⟨A,c,rfl⟩:=h1.h.form;exact⟨ru,A,c,jfc h1.at_,jn8 h1.at_,bd_hist h1.at_,h1.h.sl,h1.raw,h1.at_.lt⟩
theorem CmpB.on{W W':World}{q:Nat}{s:Bk.St}{ru:Nat->Bk.Un}{A:Option Addr}{c:Nat}(h:CmpB W q s ru A c)(hb:Below W.heap.size W W'):CmpB W' q s ru A c:=
 ⟨jdp h.vw (hb.block q h.lt),jdp h.us (hb.block q h.lt),(hb.cell (p:=⟨q,74,none⟩) h.lt).trans h.hc,h.hs.on hb,h.raw,Nat.lt_of_lt_of_le h.lt hb.size⟩
theorem jn9{s t:Bk.St}:Bk.Like s t↔(Bk.vwSame s t=true/\(∀i,i<16->s.us i=t.us i)/\s.h=t.h/\s.vs=t.vs):=by
 rw[Bk.vwSame_iff];constructor
 ·intro h
  exact⟨⟨h.ep,h.who,h.till,h.stable,h.from_,h.ph,h.step,h.since,h.begun,h.seq,h.sp⟩,h.us,h.h,h.vs⟩
 ·rintro⟨⟨h1,h2,h3,h4,h5,h6,h7,h8,h9,h10,h11⟩,h12,h13,h14⟩
  exact⟨h1,h2,h3,h4,h5,h6,h7,h8,h9,h10,h11,h12,h14,h13⟩
theorem zzn{p:Prop}(h:p:=by
 refine tY 19 hS ?_;refine tY 20 hS ?_;refine tN 21 hS ?_;refine tN 22 hS ?_;refine tN 23 hS ?_;simp only[Act.put,zT,zO,zS];refine tN 24 hS ?_;refine tN 25 hS ?_;refine tN 26 hS ?_;refine tN 27 hS ?_;refine tN 28 hS ?_;refine tN 29 hS ?_;simp only[Act.put,zT,zO,zS];refine tY 30 hS ?_;refine tY 31 hS ?_;refine tN 32 hS ?_;refine tN 33 hS ?_;refine tN 34 hS ?_;refine tY 35 hS ?_;simp only[Act.put,zT,zO,zS];refine tY 36 hS ?_;simp only[Act.put,zT,zO,zS];refine wpAnyH_done zk ?_ _;have D5:=zh hS;clear hS;go_wp2;go_ret;exact⟨⟨false,rfl,by simp only[Bool.false_eq_true,false_iff];exact NO.out⟩,D5.out⟩):p:=h
theorem jj5{w0 w1 W:World}{F G:Nat->Prop}{qa qb:Nat}{s t:Bk.St}(ha:BP w0 F qa s W)(hb:BP w1 G qb t W)(ht:BT W):Calls Tryz.prog 11 #[.pointer (some ⟨qa,0,none⟩),.pointer (some ⟨qb,0,none⟩)] W (jgi (Bk.Like s t) W):=by
 obtain⟨ra,AA,ca,hca⟩:=jsk ha;obtain⟨rb,AB,cb,hcb⟩:=jsk hb;have KA:=zh (fun X (h:Below W.heap.size W X)=>hca.on h);have KB:=zh (fun X (h:Below W.heap.size W X)=>hcb.on h);have CS:=zh (fun X (h:Below W.heap.size W X)=>jsj (jb6 ha h) (jb6 hb h) (ht.on h));have LA:Hid (s.h.length<=24):=(bp_ok ha).hl;have US:=zh (hca.raw.same hcb.raw);have LP:=zh (jn9 (s:=s) (t:=t));rw[US.out,<-Bk.usSame_iff]at LP;clear ha hb ht hca hcb US;go_in;go_upto_region 2 with(first|(go_at_call 30;(with_reducible refine(jg7 qb _).mono ?_);rintro e wb ⟨rfl,hb⟩;have B0:=zh (BA.out.trans (hb.mono BA.out.size));clear hb BA)|(go_at_call 30;(with_reducible refine(jg7 qa _).mono ?_);rintro e wa ⟨rfl,hb⟩;have BA:=zh hb;clear hb))
 have hve:∀W,(binOp .eql 64 (.agg (Bk.viewC s)) (.agg (Bk.viewC t))).run Tryz.prog W= .ok (.bool (Bk.vwSame s t)) W:=fun W=>vw_eq s t W;have hue:∀W,(binOp .eql 36 (.agg (Bk.uC ra)) (.agg (Bk.uC rb))).run Tryz.prog W= .ok (.bool (Bk.usSame ra rb)) W:=fun W=>us_eq ra rb W;generalize Bk.vwSame s t=vz at*;generalize Bk.usSame ra rb=uz at*
 cases vz with
 |false=>
  have NO:Hid (¬Bk.Like s t):=fun h=>by have:=(LP.out.1 h).1;cases this
  clear LP CS;refine wp_region_held_drew (S:=fun X=>Below W.heap.size W X) zk B0.out.drew (fun hS=> ?_);refine tY 0 hS ?_;refine tY 1 hS ?_;refine tY 2 hS ?_;refine tZ 3 (v:= .agg (Bk.viewC s)) rfl (fun W hW=>jbc 64 (.tmp 11) rfl qa 4 (Bk.viewC s) _ rfl (KA.out W hW).vw jax rfl (jbk s)) hS ?_;refine tY 4 hS ?_;refine tY 5 hS ?_;simp only[Act.put,zT,zO,zS];refine tY 6 hS ?_;refine tZ 7 (v:= .agg (Bk.viewC t)) rfl (fun W hW=>jbc 64 (.tmp 15) rfl qb 4 (Bk.viewC t) _ rfl (KB.out W hW).vw jax rfl (jbk t)) hS ?_;refine tY 8 hS ?_;refine tY 9 hS ?_;refine tN 10 hS ?_;refine tN 11 hS ?_;simp only[Act.put,zT,zO,zS];refine tN 12 hS ?_;refine tN 13 hS ?_;refine tN 14 hS ?_;refine tN 15 hS ?_;refine tN 16 hS ?_;refine tN 17 hS ?_;simp only[Act.put,zT,zO,zS];refine tN 18 hS ?_;exact zzn
 |true=>
  cases uz with
  |false=>
   have NO:Hid (¬Bk.Like s t):=fun h=>by have:=(LP.out.1 h).2.1;cases this
   clear LP CS;refine wp_region_held_drew (S:=fun X=>Below W.heap.size W X) zk B0.out.drew (fun hS=> ?_);refine tY 0 hS ?_;refine tY 1 hS ?_;refine tY 2 hS ?_;refine tZ 3 (v:= .agg (Bk.viewC s)) rfl (fun W hW=>jbc 64 (.tmp 11) rfl qa 4 (Bk.viewC s) _ rfl (KA.out W hW).vw jax rfl (jbk s)) hS ?_;refine tY 4 hS ?_;refine tY 5 hS ?_;simp only[Act.put,zT,zO,zS];refine tY 6 hS ?_;refine tZ 7 (v:= .agg (Bk.viewC t)) rfl (fun W hW=>jbc 64 (.tmp 15) rfl qb 4 (Bk.viewC t) _ rfl (KB.out W hW).vw jax rfl (jbk t)) hS ?_;refine tY 8 hS ?_;refine tY 9 hS ?_;refine tY 10 hS ?_;refine tY 11 hS ?_;simp only[Act.put,zT,zO,zS];refine tY 12 hS ?_;refine tZ 13 (v:= .agg (Bk.uC ra)) rfl (fun W hW=>jbc 36 (.tmp 21) rfl qa 26 (Bk.uC ra) _ rfl (KA.out W hW).us jgj rfl (je4 ra)) hS ?_;refine tY 14 hS ?_;refine tY 15 hS ?_;refine tY 16 hS ?_;refine tZ 17 (v:= .agg (Bk.uC rb)) rfl (fun W hW=>jbc 36 (.tmp 25) rfl qb 26 (Bk.uC rb) _ rfl (KB.out W hW).us jgj rfl (je4 rb)) hS ?_;simp only[Act.put,zT,zO,zS];refine tY 18 hS ?_;exact zzn
  |true=>
   by_cases hh:s.h=t.h
   ·have HH:=zh hh
    have LP2:Hid (Bk.Like s t↔s.vs=t.vs):=⟨fun h=>(LP.out.1 h).2.2.2,fun h=>LP.out.2 ⟨rfl,rfl,HH.out,h⟩⟩;clear hh LP;refine wp_region_held_drew (S:=fun X=>Below W.heap.size W X) zk B0.out.drew (fun hS=> ?_);refine tY 0 hS ?_;refine tY 1 hS ?_;refine tY 2 hS ?_;refine tZ 3 (v:= .agg (Bk.viewC s)) rfl (fun W hW=>jbc 64 (.tmp 11) rfl qa 4 (Bk.viewC s) _ rfl (KA.out W hW).vw jax rfl (jbk s)) hS ?_;refine tY 4 hS ?_;refine tY 5 hS ?_;simp only[Act.put,zT,zO,zS];refine tY 6 hS ?_;refine tZ 7 (v:= .agg (Bk.viewC t)) rfl (fun W hW=>jbc 64 (.tmp 15) rfl qb 4 (Bk.viewC t) _ rfl (KB.out W hW).vw jax rfl (jbk t)) hS ?_;refine tY 8 hS ?_;refine tY 9 hS ?_;refine tY 10 hS ?_;refine tY 11 hS ?_;simp only[Act.put,zT,zO,zS];refine tY 12 hS ?_;refine tZ 13 (v:= .agg (Bk.uC ra)) rfl (fun W hW=>jbc 36 (.tmp 21) rfl qa 26 (Bk.uC ra) _ rfl (KA.out W hW).us jgj rfl (je4 ra)) hS ?_;refine tY 14 hS ?_;refine tY 15 hS ?_;refine tY 16 hS ?_;refine tZ 17 (v:= .agg (Bk.uC rb)) rfl (fun W hW=>jbc 36 (.tmp 25) rfl qb 26 (Bk.uC rb) _ rfl (KB.out W hW).us jgj rfl (je4 rb)) hS ?_;simp only[Act.put,zT,zO,zS];refine tY 18 hS ?_;refine tY 19 hS ?_;refine tY 20 hS ?_;refine tY 21 hS ?_;refine tY 22 hS ?_;refine tY 23 hS ?_;simp only[Act.put,zT,zO,zS];refine tZ 24 rfl (by intro W hW;have e0:=(KA.out W hW).hc;have lg:=(KA.out W hW).lt;go_simp;(try with_reducible rfl)) hS ?_;refine tY 25 hS ?_;refine tY 26 hS ?_;refine tY 27 hS ?_;refine tZ 28 rfl (by intro W hW;have e0:=(KB.out W hW).hc;have lg:=(KB.out W hW).lt;go_simp;(try with_reducible rfl)) hS ?_;simp only[Act.put,zT,zO,zS];refine rO 29 (fun K hK=> ?_);go_simp
    with_reducible refine(jj2 AA AB s.h.length t.h.length ca cb s.h t.h _ (KA.out _ hS).hs (KB.out _ hS).hs (by have:=LA.out;omega)).mono ?_
    rintro e wv ⟨⟨zz,rfl,hzz⟩,hb⟩;obtain rfl:zz=true:=hzz.2 HH.out;clear hzz;replace hS:=hS.trans (hb.mono hS.size);clear hb;refine hK.out _ _ hS (fun _=> ?_);clear hK K;refine tY 30 hS ?_;refine tY 31 hS ?_;refine tY 32 hS ?_;refine tY 33 hS ?_;simp only[Act.put,zT,zO,zS];refine rO 34 (fun K hK=> ?_);go_simp
    with_reducible refine(CS.out _ hS).mono ?_
    rintro e wv ⟨⟨zz,rfl,hzz⟩,hb⟩;have HZ:=zh hzz;clear hzz;replace hS:=hS.trans (hb.mono hS.size);clear hb;refine hK.out _ _ hS (fun _=> ?_);clear hK K;refine tY 35 hS ?_;refine tY 36 hS ?_;simp only[Act.put,zT,zO,zS];refine wpAnyH_done zk ?_ _;have D5:=zh hS;clear hS;go_wp2;go_ret;exact⟨⟨_,rfl,by first|exact HZ.out.trans LP2.out.symm|(rw[LP2.out,<-HZ.out];simp)⟩,D5.out⟩
   ·have HH:=zh hh
    have NO:Hid (¬Bk.Like s t):=fun h=>HH.out (LP.out.1 h).2.2.1;clear hh LP CS;refine wp_region_held_drew (S:=fun X=>Below W.heap.size W X) zk B0.out.drew (fun hS=> ?_);refine tY 0 hS ?_;refine tY 1 hS ?_;refine tY 2 hS ?_;refine tZ 3 (v:= .agg (Bk.viewC s)) rfl (fun W hW=>jbc 64 (.tmp 11) rfl qa 4 (Bk.viewC s) _ rfl (KA.out W hW).vw jax rfl (jbk s)) hS ?_;refine tY 4 hS ?_;refine tY 5 hS ?_;simp only[Act.put,zT,zO,zS];refine tY 6 hS ?_;refine tZ 7 (v:= .agg (Bk.viewC t)) rfl (fun W hW=>jbc 64 (.tmp 15) rfl qb 4 (Bk.viewC t) _ rfl (KB.out W hW).vw jax rfl (jbk t)) hS ?_;refine tY 8 hS ?_;refine tY 9 hS ?_;refine tY 10 hS ?_;refine tY 11 hS ?_;simp only[Act.put,zT,zO,zS];refine tY 12 hS ?_;refine tZ 13 (v:= .agg (Bk.uC ra)) rfl (fun W hW=>jbc 36 (.tmp 21) rfl qa 26 (Bk.uC ra) _ rfl (KA.out W hW).us jgj rfl (je4 ra)) hS ?_;refine tY 14 hS ?_;refine tY 15 hS ?_;refine tY 16 hS ?_;refine tZ 17 (v:= .agg (Bk.uC rb)) rfl (fun W hW=>jbc 36 (.tmp 25) rfl qb 26 (Bk.uC rb) _ rfl (KB.out W hW).us jgj rfl (je4 rb)) hS ?_;simp only[Act.put,zT,zO,zS];refine tY 18 hS ?_;refine tY 19 hS ?_;refine tY 20 hS ?_;refine tY 21 hS ?_;refine tY 22 hS ?_;refine tY 23 hS ?_;simp only[Act.put,zT,zO,zS];refine tZ 24 rfl (by intro W hW;have e0:=(KA.out W hW).hc;have lg:=(KA.out W hW).lt;go_simp;(try with_reducible rfl)) hS ?_;refine tY 25 hS ?_;refine tY 26 hS ?_;refine tY 27 hS ?_;refine tZ 28 rfl (by intro W hW;have e0:=(KB.out W hW).hc;have lg:=(KB.out W hW).lt;go_simp;(try with_reducible rfl)) hS ?_;simp only[Act.put,zT,zO,zS];refine rO 29 (fun K hK=> ?_);go_simp
    with_reducible refine(jj2 AA AB s.h.length t.h.length ca cb s.h t.h _ (KA.out _ hS).hs (KB.out _ hS).hs (by have:=LA.out;omega)).mono ?_
    rintro e wv ⟨⟨zz,rfl,hzz⟩,hb⟩;obtain rfl:zz=false:=Bool.eq_false_iff.2 (fun h=>HH.out (hzz.1 h));clear hzz;replace hS:=hS.trans (hb.mono hS.size);clear hb;refine hK.out _ _ hS (fun _=> ?_);clear hK K;refine tY 30 hS ?_;refine tY 31 hS ?_;refine tN 32 hS ?_;refine tN 33 hS ?_;refine tN 34 hS ?_;refine tY 35 hS ?_;simp only[Act.put,zT,zO,zS];refine tY 36 hS ?_;simp only[Act.put,zT,zO,zS];refine wpAnyH_done zk ?_ _;have D5:=zh hS;clear hS;go_wp2;go_ret;exact⟨⟨false,rfl,by simp only[Bool.false_eq_true,false_iff];exact NO.out⟩,D5.out⟩
open Go.Deep Go.Maps
theorem So.all_bound:∀(l:List Rc.R),(∀r∈l,Rc.right r=true)->(Fr.all (So.ens l)).length<=l.length*306:=by
 intro l
 induction l with
 |nil=>intro _;exact Nat.le_refl _
 |cons r l ih=>
  intro h;show(Fr.all ([Rc.bytes r]++So.ens l)).length<=_;rw[Fr.all_append,List.length_append,Fr.all_one,Fr.fr_length,List.length_cons];have h1:=ih fun x hx=>h x (List.mem_cons_of_mem _ hx);have h2:=Rc.bytes_len (h r List.mem_cons_self);omega
theorem Bk.like_self(s:Bk.St):Bk.Like s s:=⟨rfl,rfl,rfl,rfl,rfl,rfl,rfl,rfl,rfl,rfl,rfl,fun _ _=>rfl,rfl,rfl⟩
theorem zz6{p:Prop}(h:p:=by
 go_wp2_with fail
 (with_reducible refine(jbv ST5.out LS.out).mono ?_)
 rintro e w6 ⟨A7,c7,rfl,hs7,hb,_⟩;have S7:=zh hs7;have B6:=zh (B5.out.trans (hb.mono B5.out.size));have SA6:=zh (SA5.out.on hb);have T6:=zh (T5.out.on hb);clear hs7 hb;go_wp2_with fail
 (with_reducible refine(jbv SA6.out (by rw[LJ.out];have:=LS.out;omega)).mono ?_)
 rintro e w7 ⟨A8,c8,rfl,hs8,hb,_⟩;rw[LJ.out]at hs8⊢;have S8:=zh hs8;have S7b:=zh ((S7.out.on hb).take Bk.rcC_len (k:=j) hjl);rw[<-L2E.out]at S7b;have B7:=zh (B6.out.trans (hb.mono B6.out.size));have SA7:=zh (SA6.out.on hb);have T7:=zh (T6.out.on hb);have hc7:=Nat.le_trans hjl S7.out.cap;have hm7:=S7.out.max;unfold maxLen at hm7;clear hs8 hb S7;have C8:=zh (jhi A8 A7 j j c8 c7 L2 L2 w7 S8.out S7b.out (by have:=LS.out;omega));have hll:(Ls.length:Int)<=1000:=by have:=LS.out;omega
 have i1:((j:Nat):Int)<=(Ls.length:Nat):=by omega
 have i2:((j:Nat):Int)<=(c7:Nat):=by omega
 have i3:decide (((Ls.length:Nat):Int)<((j:Nat):Int))=false:=decide_eq_false zv;go_wp2_with fail
 (with_reducible refine C8.out.mono ?_)
 rintro e w8 ⟨⟨x,rfl,hx⟩,hb⟩;obtain rfl:x=true:=hx.2 (by first|exact rfl|trivial);have S9:=zh (S8.out.on hb);have B8:=zh (B7.out.trans (hb.mono B7.out.size));have SA8:=zh (SA7.out.on hb);have T8:=zh (T7.out.on hb);clear hx hb S8 S7b C8 i2 hc7 hm7;have C9:=zh (jig margin A8 j c8 L2 IN.out w8 S9.out (by have:=LS.out;omega) T8.out);go_wp2_with fail
 (with_reducible refine C9.out.mono ?_)
 intro e w9 hp;obtain⟨q9,rfl,hk9⟩:=jlc hp;have K9:=zh hk9;have hb:=jbg hk9;have B9:=zh (B8.out.trans (hb.mono B8.out.size));have SA9:=zh (SA8.out.on hb);have T9:=zh (T8.out.on hb);clear hp hb hk9 C9;go_wp2_with fail
 (with_reducible refine(jfg SA9.out T4.out (by rw[LJ.out];have:=LS.out;omega)).mono ?_)
 rintro e w10 ⟨q10,rfl,hk⟩;have K10:=zh hk;have hb:=jbg hk;have K9b:=zh (jb6 K9.out hb);have B10:=zh (B9.out.trans (hb.mono B9.out.size));have T10:=zh (T9.out.on hb);clear hk hb;go_wp2_with fail
 (with_reducible refine(jj5 K10.out K9b.out T10.out).mono ?_)
 rintro e w11 ⟨⟨x,rfl,hx⟩,hb⟩;obtain rfl:x=true:=hx.2 (Bk.like_self _);have B11:=zh (B10.out.trans (hb.mono B10.out.size));clear hx hb;go_wp2;go_ret;exact⟨rfl,B11.out⟩):p:=h
theorem jhf(margin:Int)(A:Option Addr)(k c:Nat)(l:List Rc.R)(at_:Int)(hin:∀r∈l,Rc.In r)(W:World)(hs:SlF Bk.rcC W A k c l)(ht:BT W):Calls Tryz.prog 3 #[.int .i64 margin,.slice A k c,.int .i64 at_] W (BRet (.bool true) W):=by
 have hz:=jfb;have HI:=zh hin;have T1:=zh ht;have S0:=zh hs;have CL:=zh (fun w (h:BT w)=>jn5 w h);have CF:=zh (fun w (h:BT w) (hs:SlF Bk.rcC w A k c l)=>ju3 10000 margin A k c l HI.out w hs h);rw[show Dk.fits 10000=10000 from rfl]at CF;obtain⟨R,hR⟩:∃R:Nat,R=10000:=⟨_,rfl⟩;rw[<-hR]at CF;have HR:=zh hR;clear hs hin ht hR;go_in;go_upto_region 3 with(go_at_call 4;(with_reducible refine(CL.out _ T1.out).mono ?_);rintro e w1 ⟨rfl,hb⟩;have B2:=zh hb;have S1:=zh (S0.out.on hb);have T2:=zh (T1.out.on hb);clear hb CL)
 go_upto_region 4 with(first
   |(go_at_call 5;(with_reducible refine(CF.out _ T2.out S1.out).mono ?_);rintro e w2 ⟨p,g,A5,c5,L,V,H,Ls,rfl,hl30,hbo⟩;have FA:=zh hbo;have L30:=zh hl30;clear hl30 hbo CF)
   |((with_reducible show zW);refine jas rfl (.tmp 8) (.tmp 25) rfl rfl rfl (heap_alloc_new w2 (.cells Ss.zeros 40)) rfl (Ss.one (l:= .slice A5 Ls.length c5) rfl FA.out.rd.one) ?_))
 rw[World.setRow_alloc_new];have hb3:Below w2.heap.size w2 (w2.alloc (.cells (Ss.cs margin (R:Nat) (tA (So.disk R Ls)) (tB (So.disk R Ls)) (.slice A5 Ls.length c5) (Bk.cells (Bk.all margin Ls) L V H)).toArray 40)):=(Below.refl _ _).alloc (Nat.le_refl _) _;have ST3:=zh (FA.out.st.on hb3);have BZ:=zh (B2.out.trans (ST3.out.below.mono B2.out.size));have TK:=zh FA.out.st.took;have T3:=zh (T1.out.on0 BZ.out);clear hb3 FA S0 S1;obtain⟨g8,hg8⟩:∃g,g=w2.heap.size:=⟨_,rfl⟩;rw[<-hg8];clear hg8;generalize w2.alloc (.cells (Ss.cs margin (R:Nat) (tA (So.disk R Ls)) (tB (So.disk R Ls)) (.slice A5 Ls.length c5) (Bk.cells (Bk.all margin Ls) L V H)).toArray 40)=w3 at*;have LS:Hid (Ls.length<=1000):=Nat.le_trans L30.out zv;have AB:=zh (So.all_bound Ls (So.took_right TK.out));have OC:=zh (So.of_cut TK.out);have CB:=zh (jlm ST3.out);generalize hq:Fr.all (So.ens Ls)=q at*;have hql:q.length<=9180:=by have:=AB.out;have:=L30.out;omega
 go_upto_region 5 with(go_at_call 6;(with_reducible refine CB.out.mono ?_);rintro e w4 ⟨A6,c6,rfl,hob,hb⟩;have S6:=zh hob.sls;have B4:=zh hb;have ST4:=zh (ST3.out.on hb);have T4:=zh (T3.out.on hb);clear hob hb)
 generalize hz2:q.length=z at*;go_upto_region 6 with fail
 obtain⟨k,hke,hkm⟩:=mod_at at_ (z+1) zv zv;rw[show((z:Int)+1)=((z+1:Nat):Int)from by omega,hke];have SK:=zh (S6.out.take (k:=k) zv);obtain⟨j,h1,h2,h3,h4⟩:=OC.out k zv;have CO:=zh (jg5 w4 SK.out 10000 margin T4.out (by rw[List.length_take];show _<=10000;omega) (by rw[h3];have:=LS.out;omega));obtain⟨L2,hL2⟩:∃L2,L2=Ls.take j:=⟨_,rfl⟩;have L2E:=zh hL2;have LJ:Hid (L2.length=j):=by show _=_;rw[hL2,List.length_take];omega
 have IN:Hid (∀r∈L2,Rc.In r):=fun r hr=>Rc.ok_in (Rc.ok_of (So.took_right TK.out r (by rw[hL2]at hr;exact List.mem_of_mem_take hr)));have CO1:=CO.out;rw[h2,h3,<-hL2]at CO1;rw[show((j:Int) -((L2.length:Nat):Int))=0 by rw[LJ.out];omega]at CO1;rw[show Dk.fits 10000=10000 from rfl]at CO1;have C5:=zh CO1;have ZJ:=zh h4;have hjl:j<=Ls.length:=h1;clear CO CO1 h1 h2 h3 h4 hL2 OC AB hke;generalize(IntKind.u64.wrap at_).tmod ((z+1:Nat):Int)=q1;generalize IntKind.u64.wrap at_=q2;generalize((z+1:Nat):Int)=q3;have ZC:=S6.out.cap;have ZM:=S6.out.max;unfold maxLen at ZM;have k1:((k:Nat):Int)<=(z:Nat):=by omega
 have k2:((k:Nat):Int)<=(c6:Nat):=by omega
 go_wp2_with fail
 (with_reducible refine C5.out.mono ?_)
 rintro e w5 ⟨p5,rfl,hsa⟩;have SA5:=zh hsa;have hb:=hsa.below;have ST5:=zh (ST4.out.on hb);have T5:=zh (T4.out.on hb);have B5:=zh (BZ.out.trans ((B4.out.trans (hb.mono B4.out.size)).mono BZ.out.size));clear hsa hb C5 CB SK S6 ST4 B4;by_cases hkz:k=z
 ·have hje:=ZJ.out hkz
  have g2:(((j:Nat):Int) !=((Ls.length:Nat):Int))=false:=by rw[hje];simp
  have g1:(((k:Nat):Int)==((z:Nat):Int))=true:=by simp[hkz]
  clear hkz hje ZC ZM k2;exact zz6
 ·have g1:(((k:Nat):Int)==((z:Nat):Int))=false:=by rw[beq_eq_false_iff_ne];omega
  clear hkz ZC ZM k2;exact zz6
end Go.Proofs.YtpehidgjfcfjoaaGreatDoor
namespace Go.Proofs.YtpehidgjfcfjoaaGreatDoor
open Go
variable{H:Type}{enc:TypeId×Value->H}
theorem jed{a:Assume}{C:Checked}{os:Os}{f:FuncId}{fn:Func}{s:ChangeSpec}{conds:List PathCond}{apart fresh handsOn again:Bool}{X:World->Array Value->Prop}
  (hX:∀(w w':World) (args:Array Value),w.heap=w'.heap->X w args->X w' args)
  (own:ownKnob C.prog.godebug=none) (started:os.Started) (noInit:C.prog.inits.idxOf? f=none) (hfn:C.prog.funcs[f]? =some fn)
  (witness:∃(w:World) (tape:Tape) (i:Input),w.os=os/\(w.forCall tape i).Shaped C.prog/\i.vars=[]/\Input.okWide C.prog (w.forCall tape i) .any w.heap.size f i/\
   ((s.pre enc C.prog fn conds apart (w.forCall tape i).memory i.args/\X (w.forCall tape i).memory i.args)/\sizedMet enc C.prog fn (OpenSpec.ofChange s) apart (w.forCall tape i).memory i.args)/\a.holds C.prog (lone (Frame.enter C.prog f i.args .normal) [] (w.forCall tape i)))
  (contract:∀(W:World) (base:Nat) (args:Array Value) (ds gs:List (DataW H)) (before:List MemPlace),
   (∀(j:Nat) t v,fn.params[j]? =some t->args[j]? =some v->Value.okWide C.prog W .any base t v)->
   DataW.Whole enc C.prog fn.params.toList s.vars apart W args.toList ds gs before->
   X W args->W.ShapedOpen C.prog->
   Calls C.prog f args W fun e W'=>∃v,e= .returned v/\s.post enc C.prog fn apart fresh handsOn again W args v W'):
  ReturnsInHanded a C os f .any (fun w args=>(s.pre enc C.prog fn conds apart w args/\X w args)/\sizedMet enc C.prog fn (OpenSpec.ofChange s) apart w args) (s.post enc C.prog fn apart fresh handsOn again):=by
 refine returnsInHanded_of_calls own started noInit witness ?_;intro w tape i _ hsh _ hok hpre _;obtain⟨_,_,_,fn',hfn',_,_,_,_,hval⟩:=hok;have e:fn'=fn:=Option.some.inj (hfn'.symm.trans hfn);subst e;obtain⟨⟨⟨ds,gs,before,hw,_⟩,hx⟩,_⟩:=hpre;have hw':=DataW.Whole.of_heap (w':=w.forCall tape i) (by rfl) hw;refine(contract (w.forCall tape i) w.heap.size i.args ds gs before hval hw' (hX _ _ _ (by rfl) hx) hsh).mono fun e W' ⟨v,he,hp⟩=> ?_;subst he;exact ChangeSpec.post_blind hp
open Go.RowKit
theorem joa:leaf3 (Rows.laid_pacesetter_phase_leads:DataW Unit)=jpl:=by kernel_rfl
theorem job:jtd (Rows.laid_pacesetter_phase_words:DataW Unit)=jpm:=by kernel_rfl
theorem ju7:Rows.laid_internal_strconv_uint64pow10=(Lib.tabData .u64 Lib.pow10Tab:DataW Unit):=by kernel_rfl
theorem tb_of{W:World}(hL:laidMetH Tryz.prog Rows.storeCutsRow.laid W)(_:W.ShapedOpen Tryz.prog):BT W:=by
 rw[MakeChecks.laidMetH_plain _ _ _ zk]at hL;refine⟨⟨?_⟩,?_,?_⟩
 ·have h3:=hL.tail.tail
  exact Lib.tabIs_of_head (n:=20) (t:=320) (e:=266) g_pow zk zk Tryz.underlying266 zk zk (ju7▸h3)
 ·have:=jls (name:= "pacesetter/phase.leads") (d:=Rows.laid_pacesetter_phase_leads) (L:=leaf3) (t:=249) hL (by simp[Rows.storeCutsRow]) jkv zk
   (fun _ _ _ _=>jgp (fun _=>rfl) (jgp (n:=9) (e:=3) (L:=jpg) (fun _=>rfl) (jpi Tryz.underlying3) Tryz.underlying248 zk) Tryz.underlying249 zk)
  rw[joa]at this;exact this
 ·have:=jls (name:= "pacesetter/phase.words") (d:=Rows.laid_pacesetter_phase_words) (L:=jtd) (t:=247) hL (by simp[Rows.storeCutsRow]) jh2 zk
   (fun _ _ _ _=>jgp (fun _=>rfl) (jpj Tryz.underlying9) Tryz.underlying247 zk)
  rw[job]at this;exact this
end Go.Proofs.YtpehidgjfcfjoaaGreatDoor
namespace Go.Proofs.YtpehidgjfcfjoaaGreatDoor.storeCuts
open Go.ChangeShapes Go.WideShapes Go.ChangeAt Go.RowKit Go.Deep
open Go.ChangeMaps (open_string shut_string)
theorem own:ownKnob Tryz.prog.godebug=none:=by kernel_rfl
theorem laidOut:laidOutB Tryz.prog=true:=by kernel_rfl
theorem lifted(os:Os)(started:os.Started)(H:Type)(enc:TypeId×Value->H):
  ReturnsInHanded {} Tryz.checked os 3 .any (fun w args=>(Rows.storeCutsSpec.pre enc Tryz.prog Tryz.f3 Rows.storeCutsRow.domain false w args/\laidMetH Tryz.prog Rows.storeCutsRow.laid w)/\sizedMet enc Tryz.prog Tryz.f3 (OpenSpec.ofChange Rows.storeCutsSpec) false w args)
   (Rows.storeCutsSpec.post enc Tryz.prog Tryz.f3 false true false false):=by
 refine jed (C:=Tryz.checked) (X:=fun w _=>laidMetH Tryz.prog Rows.storeCutsRow.laid w) (fun _ _ _ hh h=>h.of_heap hh) own started zk Tryz.func3
  (ChangeSpec.witness_shaped (enc:=enc) (C:=Tryz.checked) (os:=os) (X:=fun w _=>laidMetH Tryz.prog Rows.storeCutsRow.laid w) false (World.laidAll Tryz.prog os Rows.storeCutsRow.laid) #[.int .i64 0,.slice none 0 0,.int .i64 0] 8 (World.laidAll_os _ _ _)
   (World.shaped_of_ZipB zk zk) zk zk zk
   (by rw[MakeChecks.laidMetH_plain _ _ _ zk];exact laidMet_laidAll _ zk zk)) ?_
 intro W base args ds gs before hval0 hW hL hsh;have TB:BT W:=tb_of hL hsh;have hval:∀(j:Nat) t v,Tryz.f3.params[j]? =some t->args[j]? =some v->Value.okWide Tryz.prog W .any base t v:=hval0;have hW':=hW;obtain⟨p,q,hA0,hV,rfl,hfz,hnd⟩:=hW;have hA:DataW.TrodAll enc Tryz.prog W 0 (fun _=>true) true Tryz.f3.params.toList args.toList ds p:=hA0;rw[Tryz.params3]at hA hval;obtain⟨v0,vs0,d0,ds0,p0,q0,hargs,rfl,rfl,h0,r0⟩:=trodAll_cons hA;obtain⟨v1,vs1,d1,ds1,p1,q1,rfl,rfl,rfl,h1,r1⟩:=trodAll_cons r0;obtain⟨v2,vs2,d2,ds2,p2,q2,rfl,rfl,rfl,h2,r2⟩:=trodAll_cons r1;obtain⟨rfl,rfl,rfl⟩:=trodAll_nil r2;obtain rfl:args= #[v0,v1,v2]:=by cases args;simp_all
 obtain⟨rfl,rfl⟩:=trodVars_none hV;obtain⟨a0,rfl,rfl,rfl,w0⟩:=open_int Tryz.underlying3 (hval 0 3 v0 rfl rfl) h0;obtain⟨a1,len1,cap1,rfl⟩:=okWide_slice Tryz.underlying22 (hval 1 22 v1 rfl rfl);have k1:=h1;have lt1:∀x∈p1,x.block<W.heap.size:=by obtain⟨m,hm⟩:=k1;exact DataW.trod_lt m _ _ _ hm
 obtain⟨l1,s1⟩:∃ts,SlF Bk.rcC W a1 len1 cap1 ts/\∀r∈ts,Rc.In r:=by
  obtain⟨fuel,hf⟩:=h1;exact recs_of hf
 obtain⟨a2,rfl,rfl,rfl,w2⟩:=open_int Tryz.underlying3 (hval 2 3 v2 rfl rfl) h2;clear hA0 hval0;refine(jhf a0 a1 len1 cap1 l1 a2 s1.2 W s1.1 TB).mono fun e W' ⟨he,bel⟩=> ?_;subst he;exact⟨_,rfl,_,_,_,[],_,[],hW',trodAll_mk1 (shut_bool Tryz.underlying4 _),(trodAll_cons_mk (shut_int Tryz.underlying3 w0) (trodAll_cons_mk (Below.trod laidOut zk (of_decide_eq_true zk) k1 bel lt1) (trodAll_cons_mk (shut_int Tryz.underlying3 w2) trodAll_mk0))),rfl,bel.frame _,fun h=>by cases h⟩
theorem factA:mapsRowed Tryz.prog=true:=by kernel_rfl
theorem factB:Tryz.prog.inPlace 3=Rows.storeCutsRow.inPlace:=by kernel_rfl
theorem factC:Tryz.prog.unfollowed 3=true:=by kernel_rfl
theorem factD:Tryz.prog.recurses 3=true:=by unfold Go.Program.recurses;rw[factC];rfl
theorem factE:Tryz.prog.varsNamed 3=Rows.storeCutsRow.named:=by kernel_rfl
theorem facts:joinedFacts Tryz.prog 3 Tryz.f3 Rows.storeCutsSpec Rows.storeCutsRow=true:=by
 unfold joinedFacts;rw[laidOut,factA,factB,factC,factD,factE]
 kernel_rfl
theorem over:Rows.storeCutsRow.holds Tryz.pinned (OpenSpec.ofChange Rows.storeCutsSpec):=
 OpenClaim.holds_of_wide 3 Tryz.f3 rfl rfl rfl rfl rfl rfl rfl ⟨rfl,rfl,rfl,rfl,rfl⟩ rfl rfl rfl rfl rfl zk Tryz.func3 facts
  (of_decide_eq_true zk) (by unfold Func.isWrapper;first|(rw[if_pos (by decide+kernel)];kernel_rfl)|(rw[if_neg (by decide+kernel)];exact⟨rfl,rfl⟩))
  (fun os started H enc _=>lifted os started H enc)
theorem cardA:Rows.storeCutsRow.wfByText (OpenSpec.ofChange Rows.storeCutsSpec)=true:=by kernel_rfl
theorem cardB:Tryz.prog.mainIs=some (true,("bf6a4c74f78e48f992d6fe6cbf705785774ef3ad828479eb87947e958ed6c431").toList):=by kernel_rfl
theorem cardC:true=Tryz.prog.looks []:=by kernel_rfl
theorem cardD:false=Rows.storeCutsRow.goesBy Tryz.prog:=by kernel_rfl
theorem cardE:([3,22,3].all fun u=> !Tryz.prog.wantsStandIn u)=true:=by kernel_rfl
theorem proved:Rows.StoreCutsCardSaid:=
 Claim7.holds_tied_plain_at .later [] [.data,.data,.data,.data,.data,.sentinel,.sentinel] true (true, "bf6a4c74f78e48f992d6fe6cbf705785774ef3ad828479eb87947e958ed6c431") true over (fun _ h=>by cases h) cardA (fun _ h=>by cases h) storeCuts_row_tie rfl ⟨rfl,rfl⟩ cardB rfl
  (fun f fn hf hfn=>by
   obtain rfl:f=3:=Option.some.inj ((show Tryz.prog.funcNamed Rows.storeCutsRow.func=some 3 by kernel_rfl).symm.trans hf)|>.symm;obtain rfl:fn=Tryz.f3:=(Option.some.inj (Tryz.func3.symm.trans hfn)).symm;exact⟨cardC,fun j t ht=>by
    rw[Tryz.params3]at ht;have hm:t∈[3,22,3]:=by simpa using Array.mem_of_getElem? ht
    exact(show Tryz.prog.wantsStandIn t=false by simpa using List.all_eq_true.1 cardE t hm)⟩)
  cardD
end Go.Proofs.YtpehidgjfcfjoaaGreatDoor.storeCuts
