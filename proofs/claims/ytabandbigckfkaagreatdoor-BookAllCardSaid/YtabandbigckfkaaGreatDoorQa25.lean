import Derived.Test.YtabandbigckfkaaGreatDoorQa24
set_option maxHeartbeats 6400000
set_option maxRecDepth 100000
set_option linter.unusedSimpArgs false
set_option linter.unusedVariables false
namespace Go.Proofs.YtabandbigckfkaaGreatDoor
open Go Go.RowKit Go.Deep
theorem jbx{n:Int}(h:(Lit.int .i64 n).wf=true): -9223372036854775808≤n∧n≤9223372036854775807:=by
 simp[Lit.wf,IntKind.min,IntKind.max,IntKind.signed,IntKind.bits]at h;omega
def ERc(_:World)(cs:List Value)(r:Rc.R):Prop:=cs=Bk.rcC r∧Rc.In r
theorem jm2{H:Type}{enc:TypeId×Value→H}{w:World}{held:Bool}(f:Nat)(cs:List Value)(y:DataW H×List MemPlace)(h:DataW.trod enc Tryz.prog w 0 (fun _=>true) held f 35 cs=some y)(hl:cs.length=12):∃s:Spc.Sp,cs=[.int .i64 s.v,.int .i64 s.d,.int .i64 s.u,.int .i64 s.n,.int .i64 s.g,.int .i64 s.a,.int .i64 s.b,.int .i64 s.c,.int .i64 s.e,.int .i64 s.w,.int .i64 s.x,.int .i64 s.k]∧Spc.In s:=by
 obtain⟨xs,n,_,_,_,hxl,hf⟩:=DataW.trod_struct Tryz.underlying35 h
 match cs,hl with
 |[a0,a1,a2,a3,a4,a5,a6,a7,a8,a9,a10,a11],_=>
  have hxl3:xs.length=9:=hxl;have k1:Tryz.prog.cellsOf 3=1:=by kernel_rfl
  have k4:Tryz.prog.cellsOf 33=4:=by kernel_rfl
  have h0:DataW.trod enc Tryz.prog w 0 (fun _=>true) held n 3 (([a0,a1,a2,a3,a4,a5,a6,a7,a8,a9,a10,a11].drop 0).take (Tryz.prog.cellsOf 3))=xs[0]? :=hf 0 _ rfl;have h1:DataW.trod enc Tryz.prog w 0 (fun _=>true) held n 3 (([a0,a1,a2,a3,a4,a5,a6,a7,a8,a9,a10,a11].drop 1).take (Tryz.prog.cellsOf 3))=xs[1]? :=hf 1 _ rfl;have h2:DataW.trod enc Tryz.prog w 0 (fun _=>true) held n 3 (([a0,a1,a2,a3,a4,a5,a6,a7,a8,a9,a10,a11].drop 2).take (Tryz.prog.cellsOf 3))=xs[2]? :=hf 2 _ rfl;have h3:DataW.trod enc Tryz.prog w 0 (fun _=>true) held n 3 (([a0,a1,a2,a3,a4,a5,a6,a7,a8,a9,a10,a11].drop 3).take (Tryz.prog.cellsOf 3))=xs[3]? :=hf 3 _ rfl;have h4:DataW.trod enc Tryz.prog w 0 (fun _=>true) held n 3 (([a0,a1,a2,a3,a4,a5,a6,a7,a8,a9,a10,a11].drop 4).take (Tryz.prog.cellsOf 3))=xs[4]? :=hf 4 _ rfl;have h9:DataW.trod enc Tryz.prog w 0 (fun _=>true) held n 3 (([a0,a1,a2,a3,a4,a5,a6,a7,a8,a9,a10,a11].drop 9).take (Tryz.prog.cellsOf 3))=xs[6]? :=hf 6 _ rfl;have h10:DataW.trod enc Tryz.prog w 0 (fun _=>true) held n 3 (([a0,a1,a2,a3,a4,a5,a6,a7,a8,a9,a10,a11].drop 10).take (Tryz.prog.cellsOf 3))=xs[7]? :=hf 7 _ rfl;have h11:DataW.trod enc Tryz.prog w 0 (fun _=>true) held n 3 (([a0,a1,a2,a3,a4,a5,a6,a7,a8,a9,a10,a11].drop 11).take (Tryz.prog.cellsOf 3))=xs[8]? :=hf 8 _ rfl;have hA:DataW.trod enc Tryz.prog w 0 (fun _=>true) held n 33 (([a0,a1,a2,a3,a4,a5,a6,a7,a8,a9,a10,a11].drop 5).take (Tryz.prog.cellsOf 33))=xs[5]? :=hf 5 _ rfl;rw[k1]at h0 h1 h2 h3 h4 h9 h10 h11;rw[k4]at hA;rw[List.getElem?_eq_getElem (by omega)]at h0 h1 h2 h3 h4 h9 h10 h11 hA;obtain⟨ys,m,_,_,hl4,hyl,hi⟩:=DataW.trod_array (cs:=[a5,a6,a7,a8]) Tryz.underlying33 hA;have h5:DataW.trod enc Tryz.prog w 0 (fun _=>true) held m 3 (([a5,a6,a7,a8].drop (0*Tryz.prog.cellsOf 3)).take (Tryz.prog.cellsOf 3))=ys[0]? :=hi 0 (by omega);have h6:DataW.trod enc Tryz.prog w 0 (fun _=>true) held m 3 (([a5,a6,a7,a8].drop (1*Tryz.prog.cellsOf 3)).take (Tryz.prog.cellsOf 3))=ys[1]? :=hi 1 (by omega);have h7:DataW.trod enc Tryz.prog w 0 (fun _=>true) held m 3 (([a5,a6,a7,a8].drop (2*Tryz.prog.cellsOf 3)).take (Tryz.prog.cellsOf 3))=ys[2]? :=hi 2 (by omega);have h8:DataW.trod enc Tryz.prog w 0 (fun _=>true) held m 3 (([a5,a6,a7,a8].drop (3*Tryz.prog.cellsOf 3)).take (Tryz.prog.cellsOf 3))=ys[3]? :=hi 3 (by omega);rw[k1]at h5 h6 h7 h8;rw[List.getElem?_eq_getElem (by omega)]at h5 h6 h7 h8;obtain⟨x0,e0,_,w0⟩:=DataW.trod_int (cs:=[a0]) Tryz.underlying3 h0;obtain⟨x1,e1,_,w1⟩:=DataW.trod_int (cs:=[a1]) Tryz.underlying3 h1;obtain⟨x2,e2,_,w2⟩:=DataW.trod_int (cs:=[a2]) Tryz.underlying3 h2;obtain⟨x3,e3,_,w3⟩:=DataW.trod_int (cs:=[a3]) Tryz.underlying3 h3;obtain⟨x4,e4,_,w4⟩:=DataW.trod_int (cs:=[a4]) Tryz.underlying3 h4;obtain⟨x5,e5,_,w5⟩:=DataW.trod_int (cs:=[a5]) Tryz.underlying3 h5;obtain⟨x6,e6,_,w6⟩:=DataW.trod_int (cs:=[a6]) Tryz.underlying3 h6;obtain⟨x7,e7,_,w7⟩:=DataW.trod_int (cs:=[a7]) Tryz.underlying3 h7;obtain⟨x8,e8,_,w8⟩:=DataW.trod_int (cs:=[a8]) Tryz.underlying3 h8;obtain⟨x9,e9,_,w9⟩:=DataW.trod_int (cs:=[a9]) Tryz.underlying3 h9;obtain⟨x10,e10,_,w10⟩:=DataW.trod_int (cs:=[a10]) Tryz.underlying3 h10;obtain⟨x11,e11,_,w11⟩:=DataW.trod_int (cs:=[a11]) Tryz.underlying3 h11;simp at e0 e1 e2 e3 e4 e5 e6 e7 e8 e9 e10 e11;subst e0 e1 e2 e3 e4 e5 e6 e7 e8 e9 e10 e11;exact⟨⟨x0,x1,x2,x3,x4,x5,x6,x7,x8,x9,x10,x11⟩,rfl,by
   intro n hn;simp only[Spc.flds,List.mem_cons,List.not_mem_nil,or_false]at hn;have v0:=jbx w0;have v1:=jbx w1;have v2:=jbx w2;have v3:=jbx w3;have v4:=jbx w4;have v5:=jbx w5;have v6:=jbx w6;have v7:=jbx w7;have v8:=jbx w8;have v9:=jbx w9;have v10:=jbx w10;have v11:=jbx w11;rcases hn with rfl|rfl|rfl|rfl|rfl|rfl|rfl|rfl|rfl|rfl|rfl|rfl<;>assumption⟩
theorem jor{H:Type}{enc:TypeId×Value→H}{w:World}{held:Bool}(f:Nat)(cs:List Value)(y:DataW H×List MemPlace)(h:DataW.trod enc Tryz.prog w 0 (fun _=>true) held f 45 cs=some y)(hl:cs.length=18):∃r,ERc w cs r:=by
 obtain⟨xs,n,_,_,_,hxl,hf⟩:=DataW.trod_struct Tryz.underlying45 h
 match cs,hl with
 |[a0,a1,a2,a3,a4,a5,a6,a7,a8,a9,a10,a11,a12,a13,a14,a15,a16,a17],_=>
  have hxl3:xs.length=7:=hxl;have k1:Tryz.prog.cellsOf 3=1:=by kernel_rfl
  have k2:Tryz.prog.cellsOf 9=1:=by kernel_rfl
  have k3:Tryz.prog.cellsOf 35=12:=by kernel_rfl
  have h0:DataW.trod enc Tryz.prog w 0 (fun _=>true) held n 3 (([a0,a1,a2,a3,a4,a5,a6,a7,a8,a9,a10,a11,a12,a13,a14,a15,a16,a17].drop 0).take (Tryz.prog.cellsOf 3))=xs[0]? :=hf 0 _ rfl;have h1:DataW.trod enc Tryz.prog w 0 (fun _=>true) held n 3 (([a0,a1,a2,a3,a4,a5,a6,a7,a8,a9,a10,a11,a12,a13,a14,a15,a16,a17].drop 1).take (Tryz.prog.cellsOf 3))=xs[1]? :=hf 1 _ rfl;have h2:DataW.trod enc Tryz.prog w 0 (fun _=>true) held n 3 (([a0,a1,a2,a3,a4,a5,a6,a7,a8,a9,a10,a11,a12,a13,a14,a15,a16,a17].drop 2).take (Tryz.prog.cellsOf 3))=xs[2]? :=hf 2 _ rfl;have h3:DataW.trod enc Tryz.prog w 0 (fun _=>true) held n 3 (([a0,a1,a2,a3,a4,a5,a6,a7,a8,a9,a10,a11,a12,a13,a14,a15,a16,a17].drop 3).take (Tryz.prog.cellsOf 3))=xs[3]? :=hf 3 _ rfl;have h4:DataW.trod enc Tryz.prog w 0 (fun _=>true) held n 3 (([a0,a1,a2,a3,a4,a5,a6,a7,a8,a9,a10,a11,a12,a13,a14,a15,a16,a17].drop 4).take (Tryz.prog.cellsOf 3))=xs[4]? :=hf 4 _ rfl;have h5:DataW.trod enc Tryz.prog w 0 (fun _=>true) held n 9 (([a0,a1,a2,a3,a4,a5,a6,a7,a8,a9,a10,a11,a12,a13,a14,a15,a16,a17].drop 5).take (Tryz.prog.cellsOf 9))=xs[5]? :=hf 5 _ rfl;have h6:DataW.trod enc Tryz.prog w 0 (fun _=>true) held n 35 (([a0,a1,a2,a3,a4,a5,a6,a7,a8,a9,a10,a11,a12,a13,a14,a15,a16,a17].drop 6).take (Tryz.prog.cellsOf 35))=xs[6]? :=hf 6 _ rfl;rw[k1]at h0 h1 h2 h3 h4;rw[k2]at h5;rw[k3]at h6;rw[List.getElem?_eq_getElem (by omega)]at h0 h1 h2 h3 h4 h5 h6;obtain⟨x0,e0,_,w0⟩:=DataW.trod_int (cs:=[a0]) Tryz.underlying3 h0;obtain⟨x1,e1,_,w1⟩:=DataW.trod_int (cs:=[a1]) Tryz.underlying3 h1;obtain⟨x2,e2,_,w2⟩:=DataW.trod_int (cs:=[a2]) Tryz.underlying3 h2;obtain⟨x3,e3,_,w3⟩:=DataW.trod_int (cs:=[a3]) Tryz.underlying3 h3;obtain⟨x4,e4,_,w4⟩:=DataW.trod_int (cs:=[a4]) Tryz.underlying3 h4;obtain⟨x5,e5,_,w5⟩:=DataW.trod_string (cs:=[a5]) Tryz.underlying9 h5;obtain⟨sp,e6,w6⟩:=jm2 _ [a6,a7,a8,a9,a10,a11,a12,a13,a14,a15,a16,a17] _ h6 rfl;simp at e0 e1 e2 e3 e4 e5;subst e0 e1 e2 e3 e4 e5;have hc:[.int .i64 x0,.int .i64 x1,.int .i64 x2,.int .i64 x3,.int .i64 x4,.string x5]++[a6,a7,a8,a9,a10,a11,a12,a13,a14,a15,a16,a17]=Bk.rcC ⟨x0,x1,x2,x3,x4,x5,sp⟩:=by
   rw[e6];rfl
  refine⟨⟨x0,x1,x2,x3,x4,x5,sp⟩,hc,?_,w5,w6⟩;intro x hx;simp only[Rc.nums,List.mem_cons,List.not_mem_nil,or_false]at hx;have v0:=jbx w0;have v1:=jbx w1;have v2:=jbx w2;have v3:=jbx w3;have v4:=jbx w4;rcases hx with rfl|rfl|rfl|rfl|rfl<;>assumption
theorem jm3:Tryz.prog.cellsOf 45=18:=by kernel_rfl
theorem jos{w:World}{A:Option Addr}{n c:Nat}{ts:List Rc.R}(h:SlR 18 ERc w A n c ts):SlF Bk.rcC w A n c ts∧∀r∈ts,Rc.In r:=by
 refine⟨sle_of Bk.rcC_len h (fun _ _ e=>e.1),fun r hr=> ?_⟩;obtain⟨j,hj,e⟩:=List.mem_iff_getElem.1 hr;obtain⟨b,o,cs,h1,h2,h3,h4,h5⟩:=h.rd j r (e▸List.getElem?_eq_getElem hj);exact h5.2
theorem recs_of{H:Type}{enc:TypeId×Value→H}{w:World}{held:Bool}{A:Option Addr}{n c:Nat}{f:Nat}{y:DataW H×List MemPlace}(h:DataW.trod enc Tryz.prog w 0 (fun _=>true) held f 28 [.slice A n c]=some y):∃ts,SlF Bk.rcC w A n c ts∧∀r∈ts,Rc.In r:=by
 obtain⟨ts,h1⟩:=slr_of Tryz.underlying28 jm3 (by omega) jor h;exact⟨ts,jos h1⟩
end Go.Proofs.YtabandbigckfkaaGreatDoor
namespace Go.Proofs.YtabandbigckfkaaGreatDoor
theorem je5{w0 W:World}{F:Nat→Prop}{q:Nat}{s:Bk.St}(h:BP w0 F q s W)(ht:BT W)(n:Int)(hn:jla n):Calls Tryz.prog 87 #[.pointer (some ⟨q,0,none⟩),.int .i64 n] W (BRet (.tuple #[.string (Bk.text s.vs n),.bool (Bk.has s.vs n)]) W):=by
 obtain⟨X,⟨ru,rv,lo,ko,H,K,h1,_⟩,_⟩:=h;exact je1 q s ru rv lo ko H K W h1 ht n hn
open Go.RowKit
namespace Bk
def vwSame(a b:St):Bool:=(a.ep==b.ep)&&((a.who==b.who)&&((a.till==b.till)&&((a.stable==b.stable)&&((a.from_==b.from_)&&((a.ph==b.ph)&&((a.step==b.step)&&((a.since==b.since)&&((a.begun==b.begun)&&((a.seq==b.seq)&&(Spc.same a.sp b.sp&&true))))))))))
theorem vwSame_iff{a b:St}:vwSame a b=true↔(a.ep=b.ep∧a.who=b.who∧a.till=b.till∧a.stable=b.stable∧a.from_=b.from_∧a.ph=b.ph∧a.step=b.step∧a.since=b.since∧a.begun=b.begun∧a.seq=b.seq∧a.sp=b.sp):=by
 unfold vwSame;simp only[Bool.and_eq_true,beq_iff_eq,and_true,Spc.same_iff]
end Bk
theorem jg8:Tryz.prog.underlying 93=some (.struct (Tryz.prog.fieldsOf 93)):=by kernel_rfl
theorem jot:Tryz.prog.stoodInHeld 93=false:=by kernel_rfl
theorem jm4(r s:Bk.St)(W:World):(Op.equalIn 10000 93 (.agg (Bk.viewC r)) (.agg (Bk.viewC s))).run Tryz.prog W= .ok (Bk.vwSame r s) W:=by
 rw[run_equalIn_agg W 9999 93 _ _ jg8 jot];have hi:∀x y,(Op.equalIn 9999 3 (.int .i64 x) (.int .i64 y)).run Tryz.prog W= .ok (x==y) W:=fun x y=>run_equalIn_int W 9998 3 .i64 .i64 x y Tryz.underlying3;have hs:=jdg r.sp s.sp 9996 W;simp only[Program.fieldsOf,Tryz.underlying93,Bk.viewC];unfold Bk.vwSame;unfold Spc.val Spc.cells at hs;refine jag (by decide) ?_ ?_ (hi _ _) (jag (by decide) ?_ ?_ (hi _ _) (jag (by decide) ?_ ?_ (hi _ _) (jag (by decide) ?_ ?_ (hi _ _) (jag (by decide) ?_ ?_ (hi _ _) (jag (by decide) ?_ ?_ (hi _ _) (jag (by decide) ?_ ?_ (hi _ _) (jag (by decide) ?_ ?_ (hi _ _) (jag (by decide) ?_ ?_ (hi _ _) (jag (by decide) ?_ ?_ (hi _ _) (jag (by decide) ?_ ?_ hs jdp))))))))))
 all_goals simp[go_sem,Sem.run_bind,Result.andThen]
theorem vw_eq(r s:Bk.St)(W:World):(binOp .eql 93 (.agg (Bk.viewC r)) (.agg (Bk.viewC s))).run Tryz.prog W= .ok (.bool (Bk.vwSame r s)) W:=by
 have h:=jm4 r s W;unfold Bk.viewC at*;rw[run_eql_struct,h];rfl
theorem vw_neq(r s:Bk.St)(W:World):(binOp .neq 93 (.agg (Bk.viewC r)) (.agg (Bk.viewC s))).run Tryz.prog W= .ok (.bool (!Bk.vwSame r s)) W:=by
 have h:=jm4 r s W;unfold Bk.viewC at*;rw[run_neq_struct,h];rfl
theorem un_neq(a b:Bk.Un)(W:World):(binOp .neq 37 (.agg #[.int .i64 a.v,.int .i64 a.q,.bool a.d]) (.agg #[.int .i64 b.v,.int .i64 b.q,.bool b.d])).run Tryz.prog W= .ok (.bool (!Bk.unSame a b)) W:=by
 have h:=jbg a b 9998 W;rw[run_neq_struct,h];rfl
theorem jm5{a:Act}{oi:Oper}(x:Operand)(ho:oi.op= .load 93 x)(g:Nat)(s:Bk.St)(hx:a.eval x= .pointer (some ⟨g,0,none⟩)){W:World}(h:W.heap[g]? =some (.cells (Bk.viewC s) 93 (0,0))):(execOp a.eval oi).run Tryz.prog W= .ok (.value (.agg (Bk.viewC s))) W:=by
 unfold execOp;simp only[ho,hx,Instr.loadAt,Instr.sureAddr,Sem.run_bind,Sem.run_pure,Result.andThen_ok,run_loadVar_row (P:=Tryz.prog) W g 93 93 (Bk.viewC s) (0,0) _ h jg8 rfl (by kernel_rfl)]
theorem jm6(l:List Int):l.flatMap (fun x:Int=>[Value.int .i64 x])=l.map (Value.int .i64):=by
 induction l with
 |nil=>rfl
 |cons x l ih=>rw[List.flatMap_cons,ih];rfl
theorem jg9{w:World}{A:Option Addr}{n c:Nat}{l:List Int}(h:SlF (fun x:Int=>[Value.int .i64 x]) w A n c l):SlI w A n c l:=
 ⟨fun hl=>by
  obtain⟨b,o,e,hb,hc⟩:=h.rd hl;refine⟨b,o,e,hb,fun j hj=>hc j _ ?_⟩;rw[jm6,List.getElem?_map,List.getElem?_eq_getElem hj];have:l.getD j 0=l[j]:=by rw[List.getD_eq_getElem?_getD,List.getElem?_eq_getElem hj];rfl
  rw[this];rfl,h.len,h.cap,h.max⟩
theorem lkc_len(x:Int):((fun x:Int=>[Value.int .i64 x]) x).length=1:=rfl
theorem lkc_one(x:Int):∀u∈(fun x:Int=>[Value.int .i64 x]) x,u.oneCell'=true:=by intro u hu;rw[List.mem_singleton.1 hu];rfl
theorem jm7(s:Bk.St){u:Nat}(hu:u<16):(Bk.units s)[u]? =some (s.us u):=by
 unfold Bk.units;rw[List.getElem?_map,List.getElem?_range hu];rfl
theorem jha{vs:List Bk.Vn}{n:Int}{t:ByteArray}(h:Bk.dig vs n=some t):Bk.text vs n=t∧Bk.has vs n=true:=by
 unfold Bk.text Bk.has;rw[h];exact⟨rfl,rfl⟩
theorem jfm{w0 W:World}{F:Nat→Prop}{q:Nat}{s t:Bk.St}(hl:Bk.Like s t)(L V H:Value)(hd:BP w0 F q s W)(ht:BT W)(hr:BkRd W t L V H):Calls Tryz.prog 42 #[.pointer (some ⟨q,0,none⟩),.agg (Bk.cells t L V H)] W (BRet (.bool true) W):=by
 obtain⟨A2,c2,rfl,hrv⟩:=hr.v;obtain⟨A3,c3,rfl,hrh⟩:=hr.h;have HL:=zh hl;have OK:=zh (joo hd);have hsv:∀W,(zeroValue 93).run Tryz.prog W= .ok (.agg (Bk.viewC Bk.none_)) W:=(zero_of_info (n:=22) (by kernel_rfl)).1;have BA:=zh (BkAt.new W t L (.slice A2 t.vs.length c2) (.slice A3 t.h.length c3));have B:=zh ((Below.refl W.heap.size W).alloc (Nat.le_refl _) (.cells (Bk.cells t L (.slice A2 t.vs.length c2) (.slice A3 t.h.length c3)) 40));have D:=zh (jby hd B.out);have RV:=zh (hrv.on B.out);have RH:=zh (hrh.on B.out);have TT:=zh (ht.on B.out);have hc2:=hrv.cap;have hc3:=hrh.cap;clear hl hd ht hr hrv hrh;go_enter Tryz.func42,Tryz.ntmps42;go_upto_region 1 with fail
 obtain⟨g,hg⟩:∃g,g=W.heap.size:=⟨_,rfl⟩;rw[←hg]at BA⊢;clear hg;generalize W.alloc (.cells (Bk.cells t L (.slice A2 t.vs.length c2) (.slice A3 t.h.length c3)) 40)=w1 at*;have x0:=BA.out.cs;have c3:=x0.c3;have c4:=x0.c4;have c5:=x0.c5;have c6:=x0.c6;have c7:=x0.c7;have c8:=x0.c8;have c9:=x0.c9;have c10:=x0.c10;have c11:=x0.c11;have c12:=x0.c12;have c13:=x0.c13;have c14:=x0.c14;have c15:=x0.c15;have c16:=x0.c16;have c17:=x0.c17;have c18:=x0.c18;have c19:=x0.c19;have c20:=x0.c20;have c21:=x0.c21;have c22:=x0.c22;have c23:=x0.c23;have c24:=x0.c24;have clt:=x0.lt;clear x0;go_upto_region 2 with(first
  |((with_reducible show wpList _ _ _ ({dst:=some 34,op:= .build _ _,type:=_,pos:=_,after:=_,guard:=_}::_) _ _);refine jbk rfl 93 _ rfl (Bk.viewC t) (by kernel_rfl) ?_)
  |((with_reducible show zW);refine jbr (s:=t) rfl (.tmp 5) (.tmp 34) rfl rfl rfl (heap_alloc_new w1 _) rfl ?_))
 clear c3 c4 c5 c6 c7 c8 c9 c10 c11 c12 c13 c14 c15 c16 c17 c18 c19 c20 c21 c22 c23 c24 clt;rw[World.setRow_alloc_new];have hb2:Below w1.heap.size w1 (w1.alloc (.cells (Bk.viewC t) 93)):=(Below.refl _ _).alloc (Nat.le_refl _) _;have V2:=zh (heap_alloc_new w1 (.cells (Bk.viewC t) 93));have BA2:=zh (BA.out.on hb2);have B2:=zh (B.out.trans (hb2.mono B.out.size));have D2:=zh (jby D.out hb2);have RV2:=zh (RV.out.on hb2);have RH2:=zh (RH.out.on hb2);have T2:=zh (TT.out.on hb2);clear hb2 BA B D RV RH TT;generalize w1.alloc (.cells (Bk.viewC t) 93)=w2 at*;generalize w1.heap.size=g5 at*;go_upto_region 3 with(go_at_call 86;(with_reducible refine(jix D2.out).mono ?_);rintro e w3 ⟨A5,c5,rfl,h1,h2,h3⟩;rw[jg7]at h1⊢;have D3:=zh (jby D2.out h2);have U3:=zh h1;have BA3:=zh (BA2.out.on h2);have V3:=zh (jaf V2.out h2);have B3:=zh (B2.out.trans (h2.mono B2.out.size));have RV3:=zh (RV2.out.on h2);have RH3:=zh (RH2.out.on h2);have T3:=zh (T2.out.on h2);clear h1 h2 h3 D2 BA2 V2 B2 RV2 RH2 T2)
 obtain⟨bu,ou,rfl⟩:∃b o,A5=some ⟨b,o,none⟩:=by
  obtain⟨b,o,e,_⟩:=U3.out.rd (by rw[jg7];omega);exact⟨b,o,e⟩
 have hcu:=U3.out.cap;have ON:Hid (∀X,Below w3.heap.size w3 X→BP w0 F q s X∧BkAt X g t L (.slice A2 t.vs.length c2) (.slice A3 t.h.length c3)∧X.heap[g5]? =some (.cells (Bk.viewC t) 93)∧Below W.heap.size W X):=fun X hb=>⟨jby D3.out hb,BA3.out.on hb,jaf V3.out hb,B3.out.trans (hb.mono B3.out.size)⟩;clear D3 BA3 V3 B3;have HLH:=zh HL.out.h;have LH:Hid (s.h.length≤24):=OK.out.hl;have hne:∀W,(binOp .neq 93 (.agg (Bk.viewC s)) (.agg (Bk.viewC t))).run Tryz.prog W= .ok (.bool false) W:=fun W=>by
  rw[vw_neq,Bk.vwSame_iff.2 ⟨HL.out.ep,HL.out.who,HL.out.till,HL.out.stable,HL.out.from_,HL.out.ph,HL.out.step,HL.out.since,HL.out.begun,HL.out.seq,HL.out.sp⟩];rfl
 refine wp_region_held_drew (S:=fun X=>Below w3.heap.size w3 X) (by kernel_rfl) (Below.refl w3.heap.size w3).drew (fun hS=> ?_);refine tY 0 hS ?_;refine tZ 2 (v:= .agg (Bk.viewC t)) rfl (fun W hW=>jm5 (.tmp 5) rfl g5 t rfl (ON.out W hW).2.2.1) hS ?_;simp only[Act.put,zT,zO,zS];refine rO 1 (fun K hK=> ?_);go_simp
 with_reducible refine(jmy (ON.out _ hS).1).mono ?_
 rintro e wv ⟨rfl,hb⟩;replace hS:=hS.trans (hb.mono hS.size);clear hb;refine hK.out _ _ hS (fun _=> ?_);clear hK K;refine tY 3 hS ?_;refine tY 4 hS ?_;refine tY 5 hS ?_;refine tY 6 hS ?_;refine tY 7 hS ?_;refine tY 8 hS ?_;simp only[Act.put,zT,zO,zS];refine tY 9 hS ?_;refine tY 10 hS ?_;refine tY 12 hS ?_;refine tZ 13 rfl (by intro W hW;have c73:=(ON.out W hW).2.1.cs.c73;have lg:=(ON.out W hW).2.1.cs.lt;go_simp;(try with_reducible rfl)) hS ?_;simp only[Act.put,zT,zO,zS];refine rO 11 (fun K hK=> ?_);go_simp
 with_reducible refine(jmz (ON.out _ hS).1).mono ?_
 rintro e wh hp;obtain⟨A8,c8,rfl,p1,hb,p3⟩:=hp;have S8:=zh p1;clear p1 p3;replace hS:=hS.trans (hb.mono hS.size);clear hb;refine hK.out _ _ hS (fun _=> ?_);clear hK K;try simp only[Act.put,zT,zO,zS]
 refine rO 14 (fun K hK=> ?_);go_simp
 with_reducible refine(jc0 A8 A3 s.h.length t.h.length c8 c3 s.h t.h _ S8.out (RH3.out.on hS) (by have:=LH.out;omega)).mono ?_
 rintro e ws ⟨⟨zz,rfl,hzz⟩,hb⟩;obtain rfl:zz=true:=hzz.2 HLH.out;clear hzz;replace hS:=hS.trans (hb.mono hS.size);clear hb;refine hK.out _ _ hS (fun _=> ?_);clear hK K;refine tY 15 hS ?_;refine tY 16 hS ?_;simp only[Act.put,zT,zO,zS];refine wpAnyH_done (by kernel_rfl) ?_ _;have B4:=zh hS;clear hS hne;go_upto_region 5 with fail
 go_wp2_with fail;go_loopw [7] (fun i wr=>∃u:Nat,u≤16∧i= .int .i64 u∧Below w3.heap.size w3 wr) (fun i _=>16 -(intOf i).toNat)
 case atStart=>exact⟨0,Nat.zero_le _,rfl,B4.out⟩
 case round=>
  clear B4;obtain⟨u,hu,rfl,hb⟩:=hrel;have BU:=zh hb;clear hb;have k1:(0:Int)≤(u:Int):=by omega
  by_cases hlu:u<16
  ·have k2:(u:Int)<16:=by omega
   have HLU:=zh hlu;have EU:Hid (t.us u=s.us u):=(HL.out.us u hlu).symm;have XU:Hid (∀X,Below w3.heap.size w3 X→X.cell? ⟨bu,ou+u*3,none⟩=some (.int .i64 (s.us u).v)∧X.cell? ⟨bu,ou+u*3+1,none⟩=some (.int .i64 (s.us u).q)∧X.cell? ⟨bu,ou+u*3+2,none⟩=some (.bool (s.us u).d)∧bu<X.heap.size):=fun X hb=>by
    obtain⟨b',o',e,hb',hc⟩:=(U3.out.on hb).at_ jmo (jm7 s hlu);injection e with e;injection e with e1 e2;subst e1 e2
    exact⟨hc 0 _ rfl,hc 1 _ rfl,hc 2 _ rfl,hb'⟩
   have XB:Hid (∀X,Below w3.heap.size w3 X→X.cell? ⟨g,25+u*3,none⟩=some (.int .i64 (s.us u).v)∧X.cell? ⟨g,25+u*3+1,none⟩=some (.int .i64 (s.us u).q)∧X.cell? ⟨g,25+u*3+2,none⟩=some (.bool (s.us u).d)∧g<X.heap.size):=fun X hb=>by
    obtain⟨h1,h2,h3⟩:=(ON.out X hb).2.1.unit hlu;rw[EU.out]at h1 h2 h3;exact⟨h1,h2,h3,(ON.out X hb).2.1.lt⟩
   have hne:∀W,(binOp .neq 37 (.agg #[.int .i64 (s.us u).v,.int .i64 (s.us u).q,.bool (s.us u).d]) (.agg #[.int .i64 (s.us u).v,.int .i64 (s.us u).q,.bool (s.us u).d])).run Tryz.prog W= .ok (.bool false) W:=fun W=>by
    rw[un_neq,Bk.unSame_iff.2 rfl];rfl
   generalize s.us u=a at*;clear hlu EU;go_upto_region 8 with fail
   refine wp_region_held_drew (S:=fun X=>Below w3.heap.size w3 X) (by kernel_rfl) (BU.out.trans ((Below.refl _ _).drew.mono BU.out.size)) (fun hS=> ?_);refine tY 0 hS ?_;refine tY 1 hS ?_;refine tY 2 hS ?_;refine tZ 3 rfl (by intro W hW;obtain⟨c0,c1,c2,lc⟩:=XU.out W hW;go_simp;(try with_reducible rfl)) hS ?_;refine tY 4 hS ?_;refine tY 5 hS ?_;simp only[Act.put,zT,zO,zS];refine tY 6 hS ?_;refine tZ 7 rfl (by intro W hW;obtain⟨c0,c1,c2,lc⟩:=XB.out W hW;go_simp;(try with_reducible rfl)) hS ?_;refine tY 8 hS ?_;simp only[Act.put,zT,zO,zS];refine wpAnyH_done (by kernel_rfl) ?_ _;have D5:=zh hS;clear hS;go_wp2_with fail;exact⟨⟨u+1,by have:=HLU.out;omega,by go_num,D5.out⟩,by simp[intOf];have:=HLU.out;omega⟩
  ·have k2:(16:Int)≤(u:Int):=by omega
   clear hlu;have hlv:=HL.out.vs;have VI:Hid (∀v∈t.vs,jla v.n∧Bk.dig s.vs v.n=some v.t):=fun v hv=>by
    rw[←hlv]at hv;exact⟨⟨by have:=OK.out.vs v hv;omega,by have:=OK.out.vs v hv;omega⟩,Bd.dig_mem OK.out.rise hv⟩
   obtain⟨N,hN⟩:∃N,N=t.vs.length:=⟨_,rfl⟩;have HN:=zh hN;have q64:(N:Int)≤64:=by have:=OK.out.vl;rw[hlv]at this;omega
   have RN:=RV3.out;rw[←hN]at RN;have RVN:=zh RN;have C2:Hid (∀X,Below w3.heap.size w3 X→X.cell? ⟨g,2,none⟩=some (.slice A2 N c2)∧g<X.heap.size):=fun X hb=>by
    have h:=(ON.out X hb).2.1.cs;rw[hN];exact⟨h.c2,h.lt⟩
   have HLV:=zh hlv;clear hlv hN RN RV3;have hc2:=RVN.out.cap;go_upto_region 11 with fail
   generalize hv0:Value.slice none 0 0=v0;have HV0:=zh hv0;clear hv0;go_wp2_with fail;go_loopw [8,9] (fun v i wr=>∃p:Nat,p≤N∧i= .int .i64 p∧OwF (fun x:Int=>[Value.int .i64 x]) 1 3 wr w3.heap.size v ((t.vs.map (·.n)).take p)∧Below w3.heap.size w3 wr) (fun _ i _=>N -(intOf i).toNat)
   case atStart=>exact⟨0,Nat.zero_le _,rfl,HV0.out▸OwF.none_ _ _ _,BU.out⟩
   case round=>
    clear BU;obtain⟨p,hp,rfl,ho,hb⟩:=hrel;have O:=zh ho;have BU:=zh hb;clear ho hb;have k1:(0:Int)≤(p:Int):=by omega
    obtain⟨f2,lg⟩:=C2.out _ BU.out;by_cases hlp:p<N
    ·have hlp2:p<t.vs.length:=by have:=HN.out;omega
     have hxp:t.vs[p]? =some (t.vs[p]'hlp2):=List.getElem?_eq_getElem _;have VP:=zh (VI.out _ (List.getElem_mem hlp2));have NX:Hid ((t.vs.map (·.n)).take (p+1)=(t.vs.map (·.n)).take p++[(t.vs[p]'hlp2).n]):=by
      show _=_;rw[List.take_add_one,List.getElem?_map,hxp];rfl
     generalize t.vs[p]'hlp2=x at*;obtain⟨bv,ov,rfl,_,_⟩:=RVN.out.at_ Bk.vnC_len hxp;have XV:Hid (∀X,Below w3.heap.size w3 X→X.cell? ⟨bv,ov+p*2,none⟩=some (.int .i64 x.n)∧X.cell? ⟨bv,ov+p*2+1,none⟩=some (.string x.t)∧bv<X.heap.size):=fun X hb=>by
      obtain⟨b',o',e,hb',hc⟩:=(RVN.out.on hb).at_ Bk.vnC_len hxp;injection e with e;injection e with e1 e2;subst e1 e2
      exact⟨hc 0 _ rfl,hc 1 _ rfl,hb'⟩
     have k2:(p:Int)<(N:Int):=by omega
     have HLP:=zh hlp;have CD:Hid (∀X,Below w3.heap.size w3 X→Calls Tryz.prog 87 #[.pointer (some ⟨q,0,none⟩),.int .i64 x.n] X (BRet (.tuple #[.string x.t,.bool true]) X)):=fun X hb=>by
      have h:=je5 (ON.out X hb).1 (T3.out.on hb) x.n VP.out.1;rw[(jha VP.out.2).1,(jha VP.out.2).2]at h;exact h
     generalize x.t=tx at*;generalize x.n=xn at*;obtain⟨e0,e1,le⟩:=XV.out _ BU.out;clear hxp hlp hlp2 VP;go_upto_region 15 with(at_builtin;refine jad lkc_len lkc_one Tryz.underlying137 jfr rfl (by omega) rfl (.tmp 74) (.tmp 81) rfl w3.heap.size _ _ rfl O.out xn rfl (by rw[List.length_take];unfold maxLen;omega) (by rw[List.length_take];omega) BU.out.size ?_;intro v9 w9 ho9 hb9 hg9 hv9;have O7:=zh ho9;have B7:=zh (BU.out.trans hb9);clear ho9 hb9 hg9 hv9 O BU)
     clear e0 e1 le f2 lg;obtain⟨e0,e1,le⟩:=XV.out _ B7.out;obtain⟨f2,lg⟩:=C2.out _ B7.out;go_upto_region 16 with(go_at_call 87;(with_reducible refine(CD.out _ B7.out).mono ?_);rintro e w10 ⟨rfl,hb⟩;have O8:=zh (O7.out.below hb);have B8:=zh (B7.out.trans (hb.mono B7.out.size));clear hb O7)
     clear e0 e1 le f2 lg;obtain⟨e0,e1,le⟩:=XV.out _ B8.out;obtain⟨f2,lg⟩:=C2.out _ B8.out;go_wp2_with fail;have h2:=HLP.out;refine⟨⟨p+1,by omega,by go_num,?_,B8.out⟩,by simp[intOf];omega⟩;rw[NX.out];exact O8.out
    ·obtain rfl:p=N:=by omega
     have k2:(p:Int)≤(p:Int):=Int.le_refl _;obtain⟨AF,cF,rfl⟩:=O.out.form;have ET:Hid ((t.vs.map (·.n)).take p=s.vs.map (·.n)):=by
      show _=_;rw[HLV.out];exact List.take_of_length_le (by rw[List.length_map,HN.out];exact Nat.le_refl _)
     have LMS:Hid ((s.vs.map (·.n)).length=s.vs.length):=List.length_map _;rw[ET.out]at O⊢;rw[LMS.out]at O⊢;clear hlp ET
     go_wp2_with(first
      |(go_at_call 89;(with_reducible refine(jf4 (ON.out _ BU.out).1).mono ?_);rintro e w11 ⟨A9,c9,rfl,h1,h2,h3⟩;rw[LMS.out]at h1⊢;have W1:=zh (jg9 h1);have O9:=zh (jg9 (O.out.below h2).sl);have B8:=zh (BU.out.trans (h2.mono BU.out.size));clear h1 h2 h3 O)
      |(go_at_call 88;(with_reducible refine(jnj _ c9 cF A9 AF _ _ W1.out O9.out (by have:=OK.out.vl;omega)).mono ?_);rintro e w12 ⟨rfl,d,rfl⟩;have B9:=zh (jbo (ON.out _ B8.out).2.2.2 d)))
     go_ret;exact⟨rfl,B9.out⟩
open Go.Deep Go.Maps
namespace Bd
def tw(M:Int)(e:Nat):Ls.St:=⟨M,if e=0 then[]else[⟨leader,0,e,0,true⟩]⟩
theorem put_one(x y:Ls.En)(hx:x.name=leader)(hy:y.name=leader):Ls.put [x] y=[y]:=by
 unfold Ls.put;rw[Ls.dropK_cons,hy,if_pos hx];rfl
theorem find_one(x:Ls.En)(hx:x.name=leader):Ls.find [x] leader=some x:=by rw[Ls.find_cons,if_pos hx]
theorem tw_find(M:Int)(e:Nat):Ls.find (tw M e).l leader=if e=0 then none else some ⟨leader,0,e,0,true⟩:=by
 unfold tw;by_cases h:e=0
 ·rw[if_pos h,if_pos h];rfl
 ·rw[if_neg h,if_neg h];exact find_one _ rfl
open Classical in
theorem tw_take(M:Int)(e:Nat){who now ttl:Int}(hr:Ls.Right leader who now ttl):Ls.takeE (tw M e) leader who now ttl=0∧Ls.takeS (tw M e) leader who now ttl=⟨M,[⟨leader,who,(e:Int)+1,Ls.late now ttl,false⟩]⟩:=by
 have hf:Ls.Free (tw M e) leader now:=fun en he=>by
  rw[tw_find]at he;split at he
  ·cases he
  ·injection he with he;subst he;exact .inl rfl
 have h0:Ls.takeE (tw M e) leader who now ttl=0:=by
  unfold Ls.takeE;rw[if_neg (fun h=>h hr),if_neg (fun h=>h hf)]
 refine⟨h0,?_⟩;unfold Ls.takeS;rw[if_pos h0];unfold Ls.taken Ls.epochOf;rw[tw_find];unfold tw;by_cases h:e=0
 ·subst h;rfl
 ·simp only[if_neg h]
  rw[put_one _ _ rfl rfl]
open Classical in
theorem tw_drop(M:Int)(e:Nat)(t:Int):Ls.dropE ⟨M,[⟨leader,0,(e:Int)+1,t,false⟩]⟩ leader 0 ((e:Int)+1)=0∧Ls.dropS ⟨M,[⟨leader,0,(e:Int)+1,t,false⟩]⟩ leader 0 ((e:Int)+1)=tw M (e+1):=by
 have h0:Ls.dropE ⟨M,[⟨leader,0,(e:Int)+1,t,false⟩]⟩ leader 0 ((e:Int)+1)=0:=by
  unfold Ls.dropE;rw[find_one _ rfl];show(if Ls.Other _ _ _ then 8 else if false=true then 10 else 0)=0;rw[if_neg (by unfold Ls.Other;simp),if_neg (by simp)]
 refine⟨h0,?_⟩;unfold Ls.dropS;rw[if_pos h0];unfold Ls.droppedS;rw[find_one _ rfl];show(⟨M,Ls.put [_] ⟨leader,0,(e:Int)+1,0,true⟩⟩:Ls.St)=_;rw[put_one _ _ rfl rfl];unfold tw;rw[if_neg (by omega)];simp
theorem tw_few(M:Int){e n:Nat}(h1:e≤n)(h2:1≤n):Ls.Few (tw M e) n:=by
 unfold tw Ls.Few;by_cases h:e=0
 ·simp[h]
 ·simp only[if_neg h,List.mem_singleton,List.length_singleton]
  refine⟨fun x hx=> ?_,h2⟩;subst hx;show(e:Int)≤n;omega
theorem right_leader{who now ttl:Int}(h1:0≤who∧who≤63)(h2:0≤now∧now≤1099511627776)(h3:1≤ttl∧ttl≤1048576):Ls.Right leader who now ttl:=⟨by decide,by decide,h1.1,h1.2,h2,h3.1,h3.2⟩
theorem tw_last{s:Bk.St}(hk:Lok s){M:Int}{e:Nat}(he:(e:Int)+1=s.ep):Ls.takeS (tw M e) leader s.who (s.till -1) 1=tab {s with m:=M}:=by
 have h1:=hk.t1 (by omega);have h2:=hk.ok.till;have h3:=hk.ok.who;rw[(tw_take M e (right_leader h3 ⟨by omega,by omega⟩ ⟨by omega,by omega⟩)).2,tab_some (s:={s with m:=M}) (show s.ep≠0 by omega)]
 have:Ls.late (s.till -1) 1=s.till:=by unfold Ls.late;omega
 rw[this,he]
end Bd
theorem lsx_of{W:World}{q:Nat}{cs:Array Value}{ty:TypeId}{mo:Option Nat}{s:Ls.St}(h:LsIs W q cs ty mo s):LsX W (fun i=>i=q∨mo=some i) q mo:=
 ⟨.inl rfl,fun m e=> .inr e,fun i hi=>by
  rcases hi with rfl|e
  ·exact h.cells.2.2.2
  ·subst e;exact MapW.Opt.lt h.map⟩
def jig(s:Bk.St)(m:Int)(W:World)(e:Ending)(w':World):Prop:=
 ∃mo,e= .returned (.agg #[.int .i64 (min (max m 0) 1048576),.map mo])∧LM.Opt w' mo (Ls.zOf (Bd.tab {s with m:=min (max m 0) 1048576}).l) (Bd.tab {s with m:=min (max m 0) 1048576}).l.length∧(∀b,mo=some b→W.heap.size≤b)∧Below W.heap.size W w'
structure TwAt(w0 W:World)(q:Nat)(M:Int)(mo:Option Nat)(s:Ls.St):Prop where
 is:LsIs W q #[.int .i64 M,.map mo] 120 mo s
 q0:w0.heap.size≤q
 m0:∀b,mo=some b→w0.heap.size≤b
 below:Below w0.heap.size w0 W
theorem TwAt.turn{w0 W:World}{q:Nat}{M:Int}{mo:Option Nat}{s s':Ls.St}{v:Value}{e:Ending}{w':World}(h:TwAt w0 W q M mo s)(hp:jfi q #[.int .i64 M,.map mo] 120 mo s' v W e w'):e= .returned v∧∃mo',TwAt w0 w' q M mo' s':=by
 obtain⟨mo',rfl,h1,h2,h3⟩:=hp;refine⟨rfl,mo',h1,h.q0,fun b hb=> ?_,h.below.trans (h2.below h.below.size fun i hi=> ?_)⟩
 ·rcases h3 b hb with h4|h4
  ·exact h.m0 b h4
  ·exact Nat.le_trans h.below.size h4
 ·rcases hi with rfl|hi
  ·exact h.q0
  ·exact h.m0 i hi
theorem TwAt.take{w0 W:World}{q:Nat}{M:Int}{mo:Option Nat}{s:Ls.St}(h:TwAt w0 W q M mo s)(hf:Ls.Few s 2199023255552)(ho now ttl:Int):Calls Tryz.prog 206 #[.pointer (some ⟨q,0,none⟩),.string ⟨#[108,101,97,100,101,114]⟩,.int .i64 ho,.int .i64 now,.int .i64 ttl] W (fun e w'=>∃v mo',e= .returned v∧TwAt w0 w' q M mo' (Ls.takeS s Bd.leader ho now ttl)):=
 (jfj W _ q _ _ mo s (lsx_of h.is) h.is hf Bd.leader (by decide) ho now ttl).mono fun e w' hp=>by
  obtain⟨h1,mo',h2⟩:=h.turn hp;exact⟨_,mo',h1,h2⟩
theorem TwAt.drop{w0 W:World}{q:Nat}{M:Int}{mo:Option Nat}{s:Ls.St}(h:TwAt w0 W q M mo s)(ho ep:Int):Calls Tryz.prog 278 #[.pointer (some ⟨q,0,none⟩),.string ⟨#[108,101,97,100,101,114]⟩,.int .i64 ho,.int .i64 ep] W (fun e w'=>∃v mo',e= .returned v∧TwAt w0 w' q M mo' (Ls.dropS s Bd.leader ho ep)):=
 (jju W _ q _ _ mo s (lsx_of h.is) h.is Bd.leader (by decide) ho ep).mono fun e w' hp=>by
  obtain⟨h1,mo',h2⟩:=h.turn hp;exact⟨_,mo',h1,h2⟩
theorem jfn:Tryz.prog.underlying 120=some (.struct (Tryz.prog.fieldsOf 120)):=by kernel_rfl
theorem jf5(M:Int)(mo:Option Nat):(Tryz.prog.info? 120).map (·.size)=some (#[Value.int .i64 M,.map mo]).size:=by kernel_rfl
theorem jcm{w:World}{ops:Array Oper}{rest:List Oper}{op:Oper}{a:Act}{Q:Exit→Act→World→Prop}{g:Nat}{M:Int}{mo:Option Nat}{cs:Array Value}(hgd:op.guard=none)(x y:Operand)(ho:op.op= .store 120 x y)(hx:a.eval x= .pointer (some ⟨g,0,none⟩))(hy:a.eval y= .agg #[.int .i64 M,.map mo])(hg:w.heap[g]? =some (.cells cs 120 (0,0)))(hc:cs.size=2)
  (h:wpList Tryz.prog ops Q rest (a.put op.dst undef) (w.setRow g #[.int .i64 M,.map mo])):wpList Tryz.prog ops Q (op::rest) a w:=
 wpList_plain hgd fun _ hK=>wp_store_row 120 x y ho g #[.int .i64 M,.map mo] hx hy 120 _ hg (jf5 M mo) hc (by simp[Value.oneCell']) (hK _ _ h)
theorem TwAt.margin{w0 W:World}{q:Nat}{M:Int}{mo:Option Nat}{s:Ls.St}(h:TwAt w0 W q M mo s):s.margin=M:=by
 have:=h.is.k0;simp at this;exact this.symm
theorem twl_any(s:Bk.St)(hk:Bd.Lok s)(m:Int)(W:World):Calls Tryz.prog 229 #[.agg (Bk.viewC s),.int .i64 m] W (jig s m W):=by
 have LK:=zh hk;have x1:Below W.heap.size W (W.alloc (.cells (Bk.viewC s) 93)):=(Below.refl _ _).alloc (Nat.le_refl _) _;have p1:=heap_alloc_new W (.cells (Bk.viewC s) 93);obtain⟨g,hg⟩:∃g,g=W.heap.size:=⟨_,rfl⟩;have hs1:(W.alloc (.cells (Bk.viewC s) 93)).heap.size=g+1:=by simp[hg]
 obtain⟨W1,hW1⟩:∃W1,W1=W.alloc (.cells (Bk.viewC s) 93):=⟨_,rfl⟩;rw[←hW1]at x1 p1 hs1;rw[←hg]at p1;have x2:Below W1.heap.size W1 (W1.alloc (.cells #[.int .i64 0,.map none] 120)):=(Below.refl _ _).alloc (Nat.le_refl _) _;have p2:=heap_alloc_new W1 (.cells #[.int .i64 0,.map none] 120);have p1b:=jaf p1 x2;rw[hs1]at p2;have B2:=zh (x1.trans (x2.mono x1.size));obtain⟨W2,hW2⟩:∃W2,W2=W1.alloc (.cells #[.int .i64 0,.map none] 120):=⟨_,rfl⟩;rw[←hW2]at B2 p1b p2;have P1:=zh p1b;have P2:=zh p2;have EW:Hid ((W.alloc (.cells (Bk.viewC s) 93)).alloc (.cells #[.int .i64 0,.map none] 120)=W2):=by show _=_;rw[hW2,hW1]
 have EG:=zh hg;clear x1 x2 p1 p1b p2 hs1 hW1 hW2 hg hk;have VC:Hid (∀X,Below W2.heap.size W2 X→X.cell? ⟨g,0,none⟩=some (.int .i64 s.ep)∧X.cell? ⟨g,1,none⟩=some (.int .i64 s.who)∧X.cell? ⟨g,2,none⟩=some (.int .i64 s.till)∧g<X.heap.size):=fun X hX=>by
  have h:=jaf P1.out hX;exact⟨by rw[cell_of_row _ g 0 _ _ _ h];rfl,by rw[cell_of_row _ g 1 _ _ _ h];rfl,by rw[cell_of_row _ g 2 _ _ _ h];rfl,(Array.getElem?_eq_some_iff.1 h).1⟩
 have CN:=zh (fun X=>jgp X m);obtain⟨M,hM⟩:∃M,M=min (max m 0) 1048576:=⟨_,rfl⟩;have HM:=zh hM;have LST:=zh (fun(e:Nat) (he:(e:Int)+1=s.ep)=>Bd.tw_last LK.out (M:=M) (e:=e) he);unfold jig;rw[←hM];clear hM;have EPB:=zh LK.out.ok.ep;have NOZ:Hid (s.ep=0→Bd.tab {s with m:=M}=Bd.tw M 0):=fun h=>by
  unfold Bd.tab Bd.tw;rw[if_pos (show({s with m:=M}:Bk.St).ep=0 from h),if_pos rfl]
 have TB:=zh (And.intro LK.out.ok.till LK.out.t1);generalize Bd.tab {s with m:=M}=tb at*
 go_enter Tryz.func229,Tryz.ntmps229;go_upto_region 1 with fail
 rw[EW.out,←EG.out];clear EW;generalize s.who=who at*;generalize s.till=till at*;generalize s.ep=ep at*;have q1:=EPB.out.1;have q2:=EPB.out.2;go_upto_region 2 with(go_at_call 115;(with_reducible refine(CN.out _).mono ?_);rintro e w1 ⟨rfl,hl,hb⟩;have T1:Hid (TwAt W2 w1 W2.heap.size M none (Bd.tw M 0)):=⟨by have h2:=hl;rw[show(Ls.new m).margin=M from HM.out.symm,show Ls.new m=Bd.tw M 0 from by unfold Ls.new Bd.tw;rw[←HM.out,if_pos rfl]]at h2;exact h2,Nat.le_refl _,fun b hb=>(by cases hb),hb⟩;obtain⟨q,hq⟩:∃q,q=W2.heap.size:=⟨_,rfl⟩;rw[←hq]at T1⊢;clear hl hb hq)
 go_wp2_with fail;go_loopw [6] (fun i wr=>∃(e:Nat) (mo:Option Nat),((e:Int)+1≤ep∨e=0)∧i= .int .i64 ((e:Int)+1)∧TwAt W2 wr q M mo (Bd.tw M e)) (fun i _=>ep.toNat+1 -(intOf i).toNat)
 case atStart=>exact⟨0,none,.inr rfl,rfl,T1.out⟩
 case round=>
  obtain⟨e,mo,he,rfl,ht⟩:=hrel;have TA:=zh ht;clear ht;obtain⟨v0,v1,v2,vl⟩:=VC.out _ TA.out.below;have k1:(0:Int)≤(e:Int):=by omega
  by_cases hlt:(e:Int)+1<ep
  ·have HLT:=zh hlt
   have CT:=zh (TA.out.take (Bd.tw_few M (by omega) (by omega)) 0 0 1);rw[(Bd.tw_take M e (Bd.right_leader ⟨by omega,by omega⟩ ⟨by omega,by omega⟩ ⟨by omega,by omega⟩)).2]at CT;have hw1:wrap64 ((e:Int)+1+1)=(e:Int)+1+1:=IntWalk.wrap64_in _ ⟨by omega,by omega⟩;have hw2:IntKind.i64.wrap ((e:Int)+1+1)=(e:Int)+1+1:=IntWalk.i64_in _ ⟨by omega,by omega⟩
   go_wp2_with(first
    |(go_at_call 206;(with_reducible refine CT.out.mono ?_);rintro en w3 ⟨vv,mo1,rfl,h1⟩;have T3:=zh h1;have CD:=zh (h1.drop 0 ((e:Int)+1));clear h1 CT)
    |(go_at_call 278;(with_reducible refine CD.out.mono ?_);rintro en w4 ⟨vv4,mo2,rfl,h1⟩;have T4:=zh h1;clear h1 CD T3))
   have h2:=HLT.out;refine⟨⟨e+1,mo2,.inl (by omega),by simp,?_⟩,by simp[intOf];omega⟩;have h3:=T4.out;rw[(Bd.tw_drop M e _).2]at h3;exact h3
  ·by_cases h0:0<ep
   ·have HE:Hid ((e:Int)+1=ep):=by show _=_;omega
    have CT:=zh (TA.out.take (Bd.tw_few M (by omega) (by omega)) who (till -1) 1);rw[LST.out e HE.out]at CT;have t1:=TB.out.1;have t2:=TB.out.2 (by omega);have hw1:wrap64 (till -1)=till -1:=IntWalk.wrap64_in _ ⟨by omega,by omega⟩;have hw2:IntKind.i64.wrap (till -1)=till -1:=IntWalk.i64_in _ ⟨by omega,by omega⟩;have h5:ep>0:=h0;have h6:ep≤(e:Int)+1:=by omega
    clear t1 t2;go_upto_region 9 with(go_at_call 206;(with_reducible refine CT.out.mono ?_);rintro en w3 ⟨vv,mo2,rfl,h1⟩;have T4:=zh h1;clear h1 CT)
    clear v0 v1 v2 vl;obtain⟨c0,c1,f1,lq⟩:=T4.out.is.cells;rw[T4.out.margin]at c0;have R0:=zh (jaf P2.out T4.out.below);go_wp2_with((with_reducible show zW);refine jcm rfl (.tmp 4) (.tmp 32) rfl rfl rfl R0.out rfl ?_);have g2:=(Array.getElem?_eq_some_iff.1 P2.out).1;have b2:=B2.out.size;exact bodyPost_ret (v:= .agg #[.int .i64 M,.map mo2]) (results_cell_row (P:=Tryz.prog) Tryz.results229 _ _ (g+1) 120 #[.int .i64 M,.map mo2] (0,0) _ rfl (setRow_heap w3 (g+1) _ _ _ _ R0.out) jfn rfl (jf5 M mo2)) rfl ⟨mo2,rfl,T4.out.is.map.keep fun b hb=>jas _ _ (by have:=T4.out.m0 b hb;omega),fun b hb=>by have:=T4.out.m0 b hb;omega,below_setRow (B2.out.trans (T4.out.below.mono B2.out.size)) (by have:=EG.out;omega) _⟩
   ·have h5:ep≤0:=by omega
    have h6:ep≤(e:Int)+1:=by omega
    have HZ:Hid (Bd.tw M e=tb):=by
     obtain rfl:e=0:=by omega
     exact(NOZ.out (by omega)).symm
    have T4:=TA;rw[HZ.out]at T4;clear HZ TA;go_upto_region 9 with fail
    clear v0 v1 v2 vl;obtain⟨c0,c1,f1,lq⟩:=T4.out.is.cells;rw[T4.out.margin]at c0;have R0:=zh (jaf P2.out T4.out.below);go_wp2_with((with_reducible show zW);refine jcm rfl (.tmp 4) (.tmp 32) rfl rfl rfl R0.out rfl ?_);have g2:=(Array.getElem?_eq_some_iff.1 P2.out).1;have b2:=B2.out.size;exact bodyPost_ret (v:= .agg #[.int .i64 M,.map mo]) (results_cell_row (P:=Tryz.prog) Tryz.results229 _ _ (g+1) 120 #[.int .i64 M,.map mo] (0,0) _ rfl (setRow_heap wr (g+1) _ _ _ _ R0.out) jfn rfl (jf5 M mo)) rfl ⟨mo,rfl,T4.out.is.map.keep fun b hb=>jas _ _ (by have:=T4.out.m0 b hb;omega),fun b hb=>by have:=T4.out.m0 b hb;omega,below_setRow (B2.out.trans (T4.out.below.mono B2.out.size)) (by have:=EG.out;omega) _⟩
def poC(o:Kv.Po):List Value:=[.string o.key,.string o.val,.int .i64 o.rev,.bool o.drop]
theorem jm8(o:Kv.Po):(poC o).length=4:=rfl
theorem poC_one(o:Kv.Po):∀u∈poC o,u.oneCell'=true:=by intro u hu;simp[poC]at hu;rcases hu with rfl|rfl|rfl|rfl<;>rfl
theorem slp_of{w:World}{A:Option Addr}{n c:Nat}{l:List Kv.Po}(h:SlF poC w A n c l)(hz:∀o∈l,o.key.size≤maxLen∧o.val.size≤maxLen∧jjk o.rev):SlP w A n c l:=
 ⟨fun j t hj=>by
  obtain⟨b,o,e,hb,hc⟩:=h.at_ jm8 hj;refine⟨b,o,poC t,e,hb,rfl,fun i hi=> ?_,rfl,hz t (List.mem_of_getElem? hj)⟩;have hl:i<(poC t).length:=hi;rw[List.getElem?_eq_getElem hl];exact hc i _ (List.getElem?_eq_getElem hl),h.len,h.cap,h.max,h.nil⟩
namespace Bd
def mk(l:List Kv.En)(k:ByteArray):Kv.Po:=⟨k,Kv.valOf l k,0,false⟩
theorem mk_po{l:List Kv.En}(hr:Kv.Rise l):((Kv.keysOf l).map (mk l)).map po=l.map pr:=by
 unfold Kv.keysOf;rw[List.map_map,List.map_map];refine List.map_congr_left fun e he=> ?_;show(e.key,Kv.valOf l e.key)=(e.key,e.val);unfold Kv.valOf;rw[Kv.find_mem hr he]
theorem twin_digs{K:Kv.St}{vs:List Bk.Vn}(hd:Digs K vs)(hg:Kv.Good K):Kv.Good (Kv.doS Kv.St.none ((Kv.keysOf K.l).map (mk K.l)))∧Digs (Kv.doS Kv.St.none ((Kv.keysOf K.l).map (mk K.l))) vs∧(Kv.doS Kv.St.none ((Kv.keysOf K.l).map (mk K.l))).rev≤vs.length:=by
 have hl:=hd.len;by_cases h0:K.l=[]
 ·have e:((Kv.keysOf K.l).map (mk K.l))=[]:=by rw[h0];rfl
  have hv:vs=[]:=List.eq_nil_of_length_eq_zero (by rw[←hl,h0];rfl);rw[e,(Kv.doS_no (by rw[Kv.doE_right (fun h=>by have:=h.1;simp at this)];decide)).1,hv];exact⟨Kv.Good.none_,none_digs,Int.le_refl _⟩
 ·have hp:0<K.l.length:=List.length_pos_iff.2 h0
  have hk:∀o∈(Kv.keysOf K.l).map (mk K.l),∃e∈K.l,o=⟨e.key,e.val,0,false⟩:=fun o ho=>by
   obtain⟨k,hk,rfl⟩:=List.mem_map.1 ho;obtain⟨e,he,rfl⟩:=List.mem_map.1 hk;refine⟨e,he,?_⟩;unfold mk Kv.valOf;rw[Kv.find_mem hg.rise he]
  obtain⟨a1,a2,a3,a4⟩:=puts_new (K:=Kv.St.none) (ops:=(Kv.keysOf K.l).map (mk K.l)) Kv.Good.none_ (by unfold Kv.keysOf;simpa using hp)
   (fun o ho=>by obtain⟨e,_,rfl⟩:=hk o ho;exact⟨rfl,rfl⟩)
   (by
    unfold Kv.keysOf;rw[List.map_map,List.pairwise_map];exact hg.rise.imp fun h=>Kv.lt_ne h)
   (fun o ho e he=>by cases he)
   (fun o ho=>by obtain⟨e,he,rfl⟩:=hk o ho;exact hg.size e he)
   (by unfold Kv.keysOf;simp[Kv.St.none];exact hg.len)
  refine⟨a3,?_,?_⟩
  ·rw[mk_po hg.rise]at a4
   unfold Digs at hd⊢;refine List.Perm.trans a4 ?_;simpa[Kv.St.none]using hd
  ·rw[a2]
   show(0:Int)+1≤_;omega
end Bd
def jm9(s:Bk.St)(W:World)(e:Ending)(w':World):Prop:=
 ∃(ko:Option Nat) (K:Kv.St),e= .returned (.agg #[.int .i64 K.rev,.map ko])∧MapO w' ko K.l∧Kv.Good K∧K.rev≤s.vs.length∧Bd.Digs K s.vs∧(∀b,ko=some b→W.heap.size≤b)∧Below W.heap.size W w'
theorem jna:Tryz.prog.underlying 123=some (.struct (Tryz.prog.fieldsOf 123)):=by kernel_rfl
theorem jnb(r:Int)(mo:Option Nat):(Tryz.prog.info? 123).map (·.size)=some (#[Value.int .i64 r,.map mo]).size:=by kernel_rfl
theorem je6{w:World}{ops:Array Oper}{rest:List Oper}{op:Oper}{a:Act}{Q:Exit→Act→World→Prop}{g:Nat}{M:Int}{mo:Option Nat}{cs:Array Value}(hgd:op.guard=none)(x y:Operand)(ho:op.op= .store 123 x y)(hx:a.eval x= .pointer (some ⟨g,0,none⟩))(hy:a.eval y= .agg #[.int .i64 M,.map mo])(hg:w.heap[g]? =some (.cells cs 123 (0,0)))(hc:cs.size=2)
  (h:wpList Tryz.prog ops Q rest (a.put op.dst undef) (w.setRow g #[.int .i64 M,.map mo])):wpList Tryz.prog ops Q (op::rest) a w:=
 wpList_plain hgd fun _ hK=>wp_store_row 123 x y ho g #[.int .i64 M,.map mo] hx hy 123 _ hg (jnb M mo) hc (by simp[Value.oneCell']) (hK _ _ h)
theorem twd_any(q:Nat)(s:Bk.St)(ru:Nat→Bk.Un)(rv:Int)(lo ko:Option Nat)(H:Value)(K:Kv.St)(W:World)(h:BdIs W q s ru rv lo ko H K):Calls Tryz.prog 230 #[.pointer (some ⟨q,0,none⟩)] W (jm9 s W):=by
 have TD:=zh (Bd.twin_digs h.dg h.kg);have GK:=zh h.kg;have HL:Hid ((Kv.keysOf K.l).length≤64):=by show _≤_;unfold Kv.keysOf;rw[List.length_map];exact h.kg.len
 have x1:Below W.heap.size W (W.alloc (.cells #[.int .i64 0,.map none] 123)):=(Below.refl _ _).alloc (Nat.le_refl _) _;have P1:=zh (heap_alloc_new W (.cells #[.int .i64 0,.map none] 123));have B1:=zh x1;have H1:=zh (h.on x1);have lq:=(h.on x1).lt.1;clear h x1;go_enter Tryz.func230,Tryz.ntmps230;go_upto_region 1 with fail
 obtain⟨r,hr⟩:∃r,r=W.heap.size:=⟨_,rfl⟩;have HR:=zh hr;rw[←hr]at P1⊢;clear hr;generalize W.alloc (.cells #[.int .i64 0,.map none] 123)=w1 at*;have CK:=zh (jfh w1 _ ko K H1.out.kvIs.ask);unfold KTx at CK;have KM:Hid (∀k∈Kv.keysOf K.l,k.size≤64∧(Kv.valOf K.l k).size≤64):=fun k hk=>by
  obtain⟨e,he,rfl⟩:=List.mem_map.1 hk;unfold Kv.valOf;rw[Kv.find_mem GK.out.rise he];exact(GK.out.size e he).2
 obtain⟨mk,hmk⟩:∃mk,mk=Bd.mk K.l:=⟨_,rfl⟩;have MK:Hid (∀k,mk k=⟨k,Kv.valOf K.l k,0,false⟩):=fun k=>by rw[hmk];rfl
 rw[←hmk]at TD;clear hmk;have CG:Hid (∀X,Below w1.heap.size w1 X→∀k∈Kv.keysOf K.l,Calls Tryz.prog 154 #[.pointer (some ⟨q,2,none⟩),.string k] X (KGet K k X)):=fun X hX k hk=>jev X _ ko K (H1.out.kvIs.ask.on hX) k (by have:=(KM.out k hk).1;unfold maxLen;omega);unfold KGet at CG;generalize Kv.keysOf K.l=ks at*;go_upto_region 2 with fail
 generalize hv0:Value.slice none 0 0=v0;have HV:=zh hv0;clear hv0;go_wp2_with(go_at_call 156;(with_reducible refine CK.out.mono ?_);rintro e w2 hp;obtain⟨v1,rfl,ho,hb⟩:=hp;obtain⟨A9,c9,rfl,s9⟩:=(jh1.any (w1:=w2) ho).slr ETx.on (Below.refl _ _);have SK:=zh s9;have B2:=zh hb;clear ho hb s9);go_loopw [3,14] (fun v i wr=>∃j:Nat,j≤ks.length∧i= .int .i64 j∧OwF poC 4 265 wr w2.heap.size v ((ks.take j).map mk)∧Below w2.heap.size w2 wr) (fun v i wr=>ks.length -(intOf i).toNat)
 case atStart=>exact⟨0,Nat.zero_le _,rfl,by rw[←HV.out];exact OwF.none_ _ _ _,Below.refl _ _⟩
 case round=>
  obtain⟨j,hj,rfl,ho,hbr⟩:=hrel;have O:=zh ho;have B:=zh hbr;clear ho hbr;have i1:(0:Int)≤(j:Int):=by omega
  by_cases hlt:j<ks.length
  ·have hx:ks[j]? =some ks[j]:=List.getElem?_eq_getElem hlt
   have NX:Hid (((ks.take (j+1)).map mk)=(ks.take j).map mk++[mk ks[j]]):=by show _=_;rw[List.take_add_one,hx,List.map_append];rfl
   obtain⟨b,o,rfl⟩:=(SK.out).addr (by omega);have S2:=zh (SlR.on ETx.on SK.out B.out);obtain⟨hbl,cs,hcl,hce,hE⟩:=S2.out.cell hlt;have hE2:cs=[.string ks[j]]:=hE;subst hE2;have e0:=hce 0 (by omega);simp only[Nat.mul_one,Nat.add_zero,List.getElem?_cons_zero]at e0;have CA:=zh (CG.out wr (B2.out.trans (B.out.mono B2.out.size)) ks[j] (List.getElem_mem hlt));have MX:=zh (MK.out ks[j]);generalize ks[j]=x at*;generalize Kv.valOf K.l x=vx at*;have q1:((j:Nat):Int)<(ks.length:Nat):=by omega
   have q2:((ks.length:Nat):Int)≤64:=by have:=HL.out;omega
   have LT:=zh hlt;clear hx hce hE hcl hlt;go_upto_region 6 with(go_at_call 154;(with_reducible refine CA.out.mono ?_);rintro e w3 ⟨rfl,hb⟩;have B3:=zh hb;clear hb CA)
   have O2:=zh (O.out.below B3.out);have B4:=zh (B.out.trans (B3.out.mono B.out.size));clear e0
   go_wp2_with(first
    |((with_reducible show zB 30);refine jah Tryz.underlying266 jio (by omega) (by omega) rfl (.tmp 29) rfl #[.string x,.string vx,.int .i64 0,.bool false] rfl rfl ?_)
    |(at_builtin;refine jad jm8 poC_one Tryz.underlying266 jio rfl (by omega) rfl (.tmp 26) (.tmp 30) rfl w2.heap.size _ _ rfl O2.out ⟨x,vx,0,false⟩ rfl (by have:=HL.out;have:=LT.out;rw[List.length_map,List.length_take];unfold maxLen;omega) (by have:=HL.out;have:=LT.out;rw[List.length_map,List.length_take];omega) B4.out.size ?_;intro v9 w9 ho9 hb9 _ _;have O9:=zh ho9;have B9:=zh (B4.out.trans hb9);clear ho9 hb9))
   have hq:=LT.out;have hq2:=HL.out;refine⟨⟨j+1,by omega,by go_num,?_,B9.out⟩,by simp[intOf];omega⟩;rw[NX.out,MX.out];exact O9.out
  ·have q1:((ks.length:Nat):Int)≤(j:Nat):=by omega
   obtain rfl:j=ks.length:=by omega
   have O1:=O.out;rw[List.take_length]at O1;have O2:=zh O1;clear O1 O hlt;obtain⟨AF,cF,rfl⟩:=O2.out.form;have LE:Hid ((ks.map mk).length=ks.length):=List.length_map _;rw[LE.out]at O2⊢;have OZ:Hid (∀o∈ks.map mk,o.key.size≤maxLen∧o.val.size≤maxLen∧jjk o.rev):=fun o ho=>by
    obtain⟨k,hk,rfl⟩:=List.mem_map.1 ho;rw[MK.out k];have:=KM.out k hk;unfold maxLen;exact⟨by show k.size≤_;omega,by show(Kv.valOf K.l k).size≤_;omega,by show _≤(0:Int)∧(0:Int)≤_;omega⟩
   go_upto_region 9 with(go_at_call 279;(with_reducible refine(jlf _).mono ?_);rintro e w5 ⟨rfl,hk,hb⟩;obtain⟨qs,hqs⟩:∃qs,qs=wr.heap.size:=⟨_,rfl⟩;rw[←hqs]at hk⊢;have K5:=zh hk;have O5:=zh (O2.out.below hb);have B5:=zh (B2.out.trans ((B.out.trans (hb.mono B.out.size)).mono B2.out.size));have QG:Hid (w1.heap.size≤qs):=(by show _≤_;rw[hqs];exact Nat.le_trans B2.out.size B.out.size);clear hk hb hqs)
   go_upto_region 10 with(go_at_call 210;(with_reducible refine(jip _ qs 0 _ _ none Kv.St.none _ cF AF _ K5.out (by decide) (slp_of O5.out.sl OZ.out) (by rw[LE.out];have:=HL.out;omega)).mono ?_);rintro e w6 hp;obtain⟨mo,rfl,d1,d2,d3⟩:=hp;have D6:=zh d1;have B6:=zh (B5.out.trans (d2.below B5.out.size (fun i hi=>by rcases hi with rfl|hi;exact QG.out;cases hi)));have M6:Hid (∀b,mo=some b→w1.heap.size≤b):=fun b hb=>by{rcases d3 b hb with h|h;cases h;exact Nat.le_trans B5.out.size h};clear d1 d2 d3)
   obtain⟨Q0,Q1,Q2⟩:w6.cell? ⟨qs,0,none⟩=some (.int .i64 (Kv.doS Kv.St.none (ks.map mk)).rev)∧w6.cell? ⟨qs,1,none⟩=some (.map mo)∧qs<w6.heap.size:=by
    have h:=D6.out;exact⟨by rw[cell_of_row _ qs 0 _ _ _ h.row];rfl,by rw[cell_of_row _ qs 1 _ _ _ h.row];rfl,(Array.getElem?_eq_some_iff.1 h.row).1⟩
   obtain⟨K9,hK9⟩:∃K9,K9=Kv.doS Kv.St.none (ks.map mk):=⟨_,rfl⟩;rw[←hK9]at TD D6 Q0;clear hK9;have R0:=zh (jaf P1.out B6.out);go_wp2_with((with_reducible show zW);refine je6 rfl (.tmp 2) (.tmp 39) rfl rfl rfl R0.out rfl ?_);have g2:=(Array.getElem?_eq_some_iff.1 P1.out).1;exact bodyPost_ret (v:= .agg #[.int .i64 K9.rev,.map mo]) (results_cell_row (P:=Tryz.prog) Tryz.results230 _ _ r 123 #[.int .i64 K9.rev,.map mo] (0,0) _ rfl (setRow_heap w6 r _ _ _ _ R0.out) jna rfl (jnb K9.rev mo)) rfl ⟨mo,K9,rfl,D6.out.map.keep fun b hb=>jas _ _ (by have:=M6.out b hb;omega),TD.out.1,TD.out.2.2,TD.out.2.1,fun b hb=>by have:=M6.out b hb;have:=B1.out.size;omega,below_setRow (B1.out.trans (B6.out.mono B1.out.size)) (by have:=HR.out;omega) _⟩
end Go.Proofs.YtabandbigckfkaaGreatDoor
namespace Go.Proofs.YtabandbigckfkaaGreatDoor
open Go.RowKit
theorem jhb(A1 A2:Option Addr)(n m c1 c2:Nat)(a b:List Rc.R)(w:World)(h1:SlF Bk.rcC w A1 n c1 a)(h2:SlF Bk.rcC w A2 m c2 b)(hn:n≤100000):Calls Tryz.prog 67 #[.slice A1 n c1,.slice A2 m c2] w (jb2 (a=b) w):=by
 have S1:=zh h1;have S2:=zh h2;have L1:=zh h1.len;have L2:=zh h2.len;have hc1:=h1.cap;have hc2:=h2.cap;clear h1 h2;by_cases hnm:n=m
 case neg=>
  have q0:((n:Int) !=(m:Int))=true:=by rw[bne_iff_ne];omega
  go_enter Tryz.func67,Tryz.ntmps67;go_wp2_with fail;go_ret;exact⟨⟨false,rfl,by simp;rintro rfl;exact hnm (L1.out.trans L2.out.symm)⟩,Below.refl _ _⟩
 case pos=>
  subst hnm;go_enter Tryz.func67,Tryz.ntmps67;go_wp2_with fail;go_loopw [5,13] (fun _ i wr=>∃j:Nat,j≤n∧i= .int .i64 j∧(∀k,k<j→a[k]? =b[k]?)∧Below w.heap.size w wr) (fun _ i _=>n -(intOf i).toNat)
  case atStart=>exact⟨0,by omega,rfl,fun k hk=>by omega,Below.refl _ _⟩
  case round=>
   obtain⟨j,hj,rfl,hk,hbr⟩:=hrel;have HK:=zh hk;have B:=zh hbr;clear hk hbr;by_cases hlt:j<n
   ·have hx:a[j]? =some (a[j]'(by have:=L1.out;omega)):=List.getElem?_eq_getElem _
    have hy:b[j]? =some (b[j]'(by have:=L2.out;omega)):=List.getElem?_eq_getElem _;generalize a[j]'(by have:=L1.out;omega)=x at hx;generalize b[j]'(by have:=L2.out;omega)=y at hy;obtain⟨b1,o1,rfl,hl1,hr1⟩:=jbi S1.out hx;obtain⟨b2,o2,rfl,hl2,hr2⟩:=jbi S2.out hy;have EX:=zh hx;have EY:=zh hy;have R1:=zh hr1;have R2:=zh hr2;have H1:=zh hl1;have H2:=zh hl2;have i1:(0:Int)≤(j:Int):=by omega
    have i2:(j:Int)<(n:Int):=by omega
    have hgd:=jf9;obtain⟨q,hq⟩:∃q:Bool,q=true↔x≠y:=by
     classical exact⟨decide (x≠y),decide_eq_true_iff⟩
    have hne:∀W,(binOp .neq 45 (.agg (Rc.cells x)) (.agg (Rc.cells y))).run Tryz.prog W= .ok (.bool q) W:=fun W=>by
     classical
     rw[jeq,show(!decide (x=y))=q from by rw[Bool.eq_iff_iff,hq];simp]
    have HQ:=zh hq;clear hx hy hr1 hr2 hl1 hl2 hq;go_upto_region 6 with fail
    refine wp_region_held_drew (S:=fun W=>Below w.heap.size w W) (by kernel_rfl) B.out.drew (fun hS=> ?_);refine tY 0 hS ?_;refine tY 1 hS ?_;refine tY 2 hS ?_;refine tZ 3 (v:= .agg (Rc.cells x)) rfl (fun W hW=>jcz (.tmp 18) rfl b1 (o1+j*18) x (by simp[Act.eval,go_sem]) (jbs R1.out (hW.block b1 H1.out))) hS ?_;refine tY 4 hS ?_;refine tY 5 hS ?_;simp only[Act.put,zT,zO,zS];refine tY 6 hS ?_;refine tZ 7 (v:= .agg (Rc.cells y)) rfl (fun W hW=>jcz (.tmp 22) rfl b2 (o2+j*18) y (by simp[Act.eval,go_sem]) (jbs R2.out (hW.block b2 H2.out))) hS ?_;refine tY 8 hS ?_;simp only[Act.put,zT,zO,zS];refine wpAnyH_done (by kernel_rfl) ?_ _
    cases q with
    |true=>
     have HN:Hid (x≠y):=HQ.out.1 rfl;go_wp2_with fail;go_ret;refine⟨⟨false,rfl,?_⟩,hS⟩;simp only[Bool.false_eq_true,false_iff];intro e;have e2:=EX.out;rw[e,EY.out]at e2;exact HN.out (Option.some.inj e2).symm
    |false=>
     have HE:Hid (x=y):=by
      show x=y
      classical
      exact Decidable.byContradiction fun h=>by have:=HQ.out.2 h;cases this
     go_wp2_with fail;refine⟨⟨j+1,by omega,by go_num,fun k hk=> ?_,hS⟩,by simp[intOf];omega⟩;rcases Nat.lt_or_ge k j with h|h
     ·exact HK.out k h
     ·rw[show k=j by omega,EX.out,EY.out,HE.out]
   ·obtain rfl:j=n:=by omega
    go_wp2_with fail;go_ret;refine⟨⟨true,rfl,?_⟩,B.out⟩;simp only[true_iff];exact jer (L1.out.symm.trans L2.out) fun k hk=>HK.out k (by have:=L1.out;omega)
theorem jhc(A1 A2:Option Addr)(n m c1 c2:Nat)(a b:List Int)(w:World)(h1:SlI w A1 n c1 a)(h2:SlI w A2 m c2 b)(hn:n≤1000000)(hm:m≤1000000):Calls Tryz.prog 117 #[.slice A1 n c1,.slice A2 m c2] w (jb2 (a=b) w):=by
 have l1:=h1.len;have l2:=h2.len;by_cases hnm:n=m
 ·subst hnm
  by_cases h0:n=0
  ·subst h0
   refine(Tryz.slices_Equal_int_empty A1 A2 c1 0 c2 w (by omega)).mono fun e w' ⟨he,hw⟩=> ?_;subst hw;refine⟨⟨_,he,?_⟩,Below.refl _ _⟩;have ha:a=[]:=List.eq_nil_of_length_eq_zero (by omega);have hb:b=[]:=List.eq_nil_of_length_eq_zero (by omega);simp[ha,hb]
  ·obtain⟨b1,o1,rfl,_,e1⟩:=h1.rd (by omega)
   obtain⟨b2,o2,rfl,_,e2⟩:=h2.rd (by omega);refine(Tryz.slices_Equal_int b1 o1 n c1 b2 o2 n c2 a b w (by omega) (by omega) (by omega) (by omega) e1 e2).mono fun e w' ⟨he,q,hw⟩=> ?_;subst hw;refine⟨⟨_,he,?_⟩,jbo (Below.refl _ _) q⟩;rw[List.take_of_length_le (by omega),List.take_of_length_le (by omega),beq_iff_eq]
 ·refine(Tryz.slices_Equal_int_lens A1 A2 n c1 m c2 w hnm).mono fun e w' ⟨he,hw⟩=> ?_
  subst hw;refine⟨⟨_,he,?_⟩,Below.refl _ _⟩;simp;rintro rfl;omega
end Go.Proofs.YtabandbigckfkaaGreatDoor
