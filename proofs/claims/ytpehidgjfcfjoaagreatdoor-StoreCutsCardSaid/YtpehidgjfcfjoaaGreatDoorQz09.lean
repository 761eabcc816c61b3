import Derived.Test.YtpehidgjfcfjoaaGreatDoorQz08
set_option maxHeartbeats 6400000
set_option maxRecDepth 100000
set_option linter.unusedSimpArgs false
set_option linter.unusedVariables false
namespace Go.Proofs.YtpehidgjfcfjoaaGreatDoor
open Go.RowKit
open Classical in
theorem jgh(a b:Rc.R)(W:World):(binOp .neq 60 (.agg (Rc.cells a)) (.agg (Rc.cells b))).run Tryz.prog W= .ok (.bool (!decide (a=b))) W:=by
 have h:=rec_neq a b W;unfold Rc.val at h;have e:Rc.same a b=decide (a=b):=by rw[Bool.eq_iff_iff,Rc.same_iff,decide_eq_true_iff]
 rw[h,e]
def jgi(p:Prop)(w:World)(e:Ending)(w':World):Prop:=(∃x:Bool,e= .returned (.bool x)/\(x=true↔p))/\Below w.heap.size w w'
theorem jiv{T:Type}{a b:List T}(hl:a.length=b.length)(h:∀k,k<a.length->a[k]? =b[k]?):a=b:=by
 refine List.ext_getElem? fun k=> ?_;rcases Nat.lt_or_ge k a.length with h1|h1
 ·exact h k h1
 ·rw[List.getElem?_eq_none h1,List.getElem?_eq_none zv]
theorem zzo{p:Prop}(h:p:=by
 refine tY 8 hS ?_;simp only[Act.put,zT,zO,zS];refine wpAnyH_done zk ?_ _
 cases q with
 |true=>
  have HN:Hid (x≠y):=HQ.out.1 rfl;go_wp2;go_ret;refine⟨⟨false,rfl,?_⟩,hS⟩;simp only[Bool.false_eq_true,false_iff];intro e;have e2:=EX.out;rw[e,EY.out]at e2;exact HN.out (Option.some.inj e2).symm
 |false=>
  have HE:Hid (x=y):=by
   show x=y
   classical
   exact Decidable.byContradiction fun h=>by have:=HQ.out.2 h;cases this
  go_wp2_with fail;refine⟨⟨j+1,zv,by go_num,fun k hk=> ?_,hS⟩,by simp[intOf];omega⟩;rcases Nat.lt_or_ge k j with h|h
  ·exact HK.out k h
  ·rw[show k=j by omega,EX.out,EY.out,HE.out]):p:=h
theorem zz1k{p:Prop}(h:p:=by
 have q0:((n:Int) !=(m:Int))=true:=by rw[bne_iff_ne];omega
 go_in;go_wp2;go_ret;exact⟨⟨false,rfl,by simp;rintro rfl;exact hnm (L1.out.trans L2.out.symm)⟩,Below.refl _ _⟩):p:=h
theorem jhi(A1 A2:Option Addr)(n m c1 c2:Nat)(a b:List Rc.R)(w:World)(h1:SlF Bk.rcC w A1 n c1 a)(h2:SlF Bk.rcC w A2 m c2 b)(hn:n<=100000):Calls Tryz.prog 9 #[.slice A1 n c1,.slice A2 m c2] w (jgi (a=b) w):=by
 have S1:=zh h1;have S2:=zh h2;have L1:=zh h1.len;have L2:=zh h2.len;have hc1:=h1.cap;have hc2:=h2.cap;clear h1 h2;by_cases hnm:n=m
 case neg=>
  exact zz1k
 case pos=>
  subst hnm;go_in;go_wp2_with fail;go_loopw [5] (fun i wr=>∃j:Nat,j<=n/\i= .int .i64 j/\(∀k,k<j->a[k]? =b[k]?)/\Below w.heap.size w wr) (fun i _=>n -(intOf i).toNat)
  case atStart=>exact⟨0,zv,rfl,fun k hk=>by omega,Below.refl _ _⟩
  case round=>
   obtain⟨j,hj,rfl,hk,hbr⟩:=hrel;have HK:=zh hk;have B:=zh hbr;clear hk hbr;by_cases hlt:j<n
   ·have hx:a[j]? =some (a[j]'(by have:=L1.out;omega)):=List.getElem?_eq_getElem _
    have hy:b[j]? =some (b[j]'(by have:=L2.out;omega)):=List.getElem?_eq_getElem _;generalize a[j]'(by have:=L1.out;omega)=x at hx;generalize b[j]'(by have:=L2.out;omega)=y at hy;obtain⟨b1,o1,rfl,hl1,hr1⟩:=jdo S1.out hx;obtain⟨b2,o2,rfl,hl2,hr2⟩:=jdo S2.out hy;have EX:=zh hx;have EY:=zh hy;have R1:=zh hr1;have R2:=zh hr2;have H1:=zh hl1;have H2:=zh hl2;have i1:(0:Int)<=(j:Int):=by omega
    have i2:(j:Int)<(n:Int):=by omega
    have hgd:=jin;obtain⟨q,hq⟩:∃q:Bool,q=true↔x≠y:=by
     classical exact⟨decide (x≠y),decide_eq_true_iff⟩
    have hne:∀W,(binOp .neq 60 (.agg (Rc.cells x)) (.agg (Rc.cells y))).run Tryz.prog W= .ok (.bool q) W:=fun W=>by
     classical
     rw[jgh,show(!decide (x=y))=q from by rw[Bool.eq_iff_iff,hq];simp]
    have HQ:=zh hq;clear hx hy hr1 hr2 hl1 hl2 hq;go_upto_region 6 with fail
    refine wp_region_held_drew (S:=fun W=>Below w.heap.size w W) zk B.out.drew (fun hS=> ?_);refine tY 0 hS ?_;refine tY 1 hS ?_;refine tY 2 hS ?_;refine tZ 3 (v:= .agg (Rc.cells x)) rfl (fun W hW=>jfy (.tmp 19) rfl b1 (o1+j*18) x (by simp[Act.eval,go_sem]) (jdp R1.out (hW.block b1 H1.out))) hS ?_;refine tY 4 hS ?_;refine tY 5 hS ?_;simp only[Act.put,zT,zO,zS];refine tY 6 hS ?_;refine tZ 7 (v:= .agg (Rc.cells y)) rfl (fun W hW=>jfy (.tmp 23) rfl b2 (o2+j*18) y (by simp[Act.eval,go_sem]) (jdp R2.out (hW.block b2 H2.out))) hS ?_;exact zzo
   ·obtain rfl:j=n:=by omega
    go_wp2;go_ret;exact⟨⟨true,rfl,by simp;exact jiv (by rw[<-L1.out,<-L2.out]) fun k hk=>HK.out k (by rw[L1.out];exact hk)⟩,B.out⟩
end Go.Proofs.YtpehidgjfcfjoaaGreatDoor
namespace Go.Proofs.YtpehidgjfcfjoaaGreatDoor
open Go.RowKit
namespace Bk
def unSame(a b:Un):Bool:=(a.v==b.v)&&((a.q==b.q)&&((a.d==b.d)&&true))
theorem unSame_iff{a b:Un}:unSame a b=true↔a=b:=by
 unfold unSame;simp only[Bool.and_eq_true,beq_iff_eq,and_true];constructor
 ·rintro⟨h1,h2,h3⟩
  cases a;cases b
  simp only at h1 h2 h3;subst h1 h2 h3;rfl
 ·rintro rfl;simp
def uC(u:Nat->Un):Array Value:=#[.int .i64 (u 0).v,.int .i64 (u 0).q,.bool (u 0).d,.int .i64 (u 1).v,.int .i64 (u 1).q,.bool (u 1).d,.int .i64 (u 2).v,.int .i64 (u 2).q,.bool (u 2).d,.int .i64 (u 3).v,.int .i64 (u 3).q,.bool (u 3).d,.int .i64 (u 4).v,.int .i64 (u 4).q,.bool (u 4).d,.int .i64 (u 5).v,.int .i64 (u 5).q,.bool (u 5).d,.int .i64 (u 6).v,.int .i64 (u 6).q,.bool (u 6).d,.int .i64 (u 7).v,.int .i64 (u 7).q,.bool (u 7).d,.int .i64 (u 8).v,.int .i64 (u 8).q,.bool (u 8).d,.int .i64 (u 9).v,.int .i64 (u 9).q,.bool (u 9).d,.int .i64 (u 10).v,.int .i64 (u 10).q,.bool (u 10).d,.int .i64 (u 11).v,.int .i64 (u 11).q,.bool (u 11).d,.int .i64 (u 12).v,.int .i64 (u 12).q,.bool (u 12).d,.int .i64 (u 13).v,.int .i64 (u 13).q,.bool (u 13).d,.int .i64 (u 14).v,.int .i64 (u 14).q,.bool (u 14).d,.int .i64 (u 15).v,.int .i64 (u 15).q,.bool (u 15).d]
def usSame(u t:Nat->Un):Bool:=(Bk.unSame (u 0) (t 0)&&(Bk.unSame (u 1) (t 1)&&(Bk.unSame (u 2) (t 2)&&(Bk.unSame (u 3) (t 3)&&(Bk.unSame (u 4) (t 4)&&(Bk.unSame (u 5) (t 5)&&(Bk.unSame (u 6) (t 6)&&(Bk.unSame (u 7) (t 7)&&(Bk.unSame (u 8) (t 8)&&(Bk.unSame (u 9) (t 9)&&(Bk.unSame (u 10) (t 10)&&(Bk.unSame (u 11) (t 11)&&(Bk.unSame (u 12) (t 12)&&(Bk.unSame (u 13) (t 13)&&(Bk.unSame (u 14) (t 14)&&(Bk.unSame (u 15) (t 15)&&true))))))))))))))))
theorem usSame_iff{u t:Nat->Un}:usSame u t=true↔∀i,i<16->u i=t i:=by
 unfold usSame;simp only[Bool.and_eq_true,unSame_iff,and_true];constructor
 ·rintro⟨h0,h1,h2,h3,h4,h5,h6,h7,h8,h9,h10,h11,h12,h13,h14,h15⟩ i hi
  rcases i with _|_|_|_|_|_|_|_|_|_|_|_|_|_|_|_|i
  all_goals first|assumption|omega
 ·intro h
  exact⟨h 0 zv,h 1 zv,h 2 zv,h 3 zv,h 4 zv,h 5 zv,h 6 zv,h 7 zv,h 8 zv,h 9 zv,h 10 zv,h 11 zv,h 12 zv,h 13 zv,h 14 zv,h 15 zv⟩
end Bk
theorem joz:Tryz.prog.underlying 35=some (.struct (Tryz.prog.fieldsOf 35)):=by kernel_rfl
theorem js1:Tryz.prog.stoodInHeld 35=false:=by kernel_rfl
theorem js2:Tryz.prog.cellsOf 35=3:=by kernel_rfl
theorem jgj:Tryz.prog.underlying 36=some (.array 16 35):=by kernel_rfl
theorem un_info:(Tryz.prog.info? 35).map (fun i=>(i.zero,i.size,i.bytes))=some (some (.agg #[.int .i64 0,.int .i64 0,.bool false]),3,24):=by kernel_rfl
theorem jbh(a b:Bk.Un)(d:Nat)(W:World):(Op.equalIn (d+2) 35 (.agg #[.int .i64 a.v,.int .i64 a.q,.bool a.d]) (.agg #[.int .i64 b.v,.int .i64 b.q,.bool b.d])).run Tryz.prog W= .ok (Bk.unSame a b) W:=by
 rw[run_equalIn_agg W (d+1) 35 _ _ joz js1];have hi:∀x y,(Op.equalIn (d+1) 3 (.int .i64 x) (.int .i64 y)).run Tryz.prog W= .ok (x==y) W:=fun x y=>run_equalIn_int W d 3 .i64 .i64 x y Tryz.underlying3;have hb:∀x y,(Op.equalIn (d+1) 4 (.bool x) (.bool y)).run Tryz.prog W= .ok (x==y) W:=fun x y=>run_equalIn_bool' W d 4 x y Tryz.underlying4;simp only[Program.fieldsOf,Tryz.underlying35];unfold Bk.unSame;refine jah (by decide) ?_ ?_ (hi _ _) (jah (by decide) ?_ ?_ (hi _ _) (jah (by decide) ?_ ?_ (hb _ _) jf6))
 all_goals simp[go_sem,Sem.run_bind,Result.andThen]
theorem us_eqIn(u t:Nat->Bk.Un)(d:Nat)(W:World):(Op.equalIn (d+4) 36 (.agg (Bk.uC u)) (.agg (Bk.uC t))).run Tryz.prog W= .ok (Bk.usSame u t) W:=by
 obtain⟨i0,hi0,hz0,hz1,hz2⟩:=info_parts un_info;rw[run_equalIn_array W (d+3) _ _ jgj hi0,js2,show List.range 16=[0,1,2,3,4,5,6,7,8,9,10,11,12,13,14,15]from rfl];unfold Bk.usSame Bk.uC;exact(jat (by simp[go_sem,Sem.run_bind,Result.andThen]) (by simp[go_sem,Sem.run_bind,Result.andThen]) (jbh (u 0) (t 0) (d+1) W) (jat (by simp[go_sem,Sem.run_bind,Result.andThen]) (by simp[go_sem,Sem.run_bind,Result.andThen]) (jbh (u 1) (t 1) (d+1) W) (jat (by simp[go_sem,Sem.run_bind,Result.andThen]) (by simp[go_sem,Sem.run_bind,Result.andThen]) (jbh (u 2) (t 2) (d+1) W) (jat (by simp[go_sem,Sem.run_bind,Result.andThen]) (by simp[go_sem,Sem.run_bind,Result.andThen]) (jbh (u 3) (t 3) (d+1) W) (jat (by simp[go_sem,Sem.run_bind,Result.andThen]) (by simp[go_sem,Sem.run_bind,Result.andThen]) (jbh (u 4) (t 4) (d+1) W) (jat (by simp[go_sem,Sem.run_bind,Result.andThen]) (by simp[go_sem,Sem.run_bind,Result.andThen]) (jbh (u 5) (t 5) (d+1) W) (jat (by simp[go_sem,Sem.run_bind,Result.andThen]) (by simp[go_sem,Sem.run_bind,Result.andThen]) (jbh (u 6) (t 6) (d+1) W) (jat (by simp[go_sem,Sem.run_bind,Result.andThen]) (by simp[go_sem,Sem.run_bind,Result.andThen]) (jbh (u 7) (t 7) (d+1) W) (jat (by simp[go_sem,Sem.run_bind,Result.andThen]) (by simp[go_sem,Sem.run_bind,Result.andThen]) (jbh (u 8) (t 8) (d+1) W) (jat (by simp[go_sem,Sem.run_bind,Result.andThen]) (by simp[go_sem,Sem.run_bind,Result.andThen]) (jbh (u 9) (t 9) (d+1) W) (jat (by simp[go_sem,Sem.run_bind,Result.andThen]) (by simp[go_sem,Sem.run_bind,Result.andThen]) (jbh (u 10) (t 10) (d+1) W) (jat (by simp[go_sem,Sem.run_bind,Result.andThen]) (by simp[go_sem,Sem.run_bind,Result.andThen]) (jbh (u 11) (t 11) (d+1) W) (jat (by simp[go_sem,Sem.run_bind,Result.andThen]) (by simp[go_sem,Sem.run_bind,Result.andThen]) (jbh (u 12) (t 12) (d+1) W) (jat (by simp[go_sem,Sem.run_bind,Result.andThen]) (by simp[go_sem,Sem.run_bind,Result.andThen]) (jbh (u 13) (t 13) (d+1) W) (jat (by simp[go_sem,Sem.run_bind,Result.andThen]) (by simp[go_sem,Sem.run_bind,Result.andThen]) (jbh (u 14) (t 14) (d+1) W) (jat (by simp[go_sem,Sem.run_bind,Result.andThen]) (by simp[go_sem,Sem.run_bind,Result.andThen]) (jbh (u 15) (t 15) (d+1) W) jof))))))))))))))))
theorem je4(u:Nat->Bk.Un):(Tryz.prog.info? 36).map (·.size)=some (Bk.uC u).toList.length:=by kernel_rfl
structure Bk.Like(a b:Bk.St):Prop where
 ep:a.ep=b.ep
 who:a.who=b.who
 till:a.till=b.till
 stable:a.stable=b.stable
 from_:a.from_=b.from_
 ph:a.ph=b.ph
 step:a.step=b.step
 since:a.since=b.since
 begun:a.begun=b.begun
 seq:a.seq=b.seq
 sp:a.sp=b.sp
 us:∀i,i<16->a.us i=b.us i
 vs:a.vs=b.vs
 h:a.h=b.h
theorem jc5{ops:Array Oper}{rest:List Oper}{op:Oper}{a:Act}{w:World}{Q:Exit->Act->World->Prop}(hgd:op.guard=none)(x:Operand)(ho:op.op= .load 60 x)
  (b o:Nat) (hx:a.eval x= .pointer (some ⟨b,o,none⟩)) (r:Rc.R) (hc:w.rangeAt b o (Rc.cells r).toList)
  (h:wpList Tryz.prog ops Q rest (a.put op.dst (.agg (Rc.cells r))) w):wpList Tryz.prog ops Q (op::rest) a w:=by
 refine wpList_load_mid hgd 60 x ho b o hx (Rc.cells r).toList _ hc jaf rfl (jak r) ?_;rw[Array.toArray_toList];exact h
def Rc.txt_(r:Rc.R)(t:ByteArray):Rc.R:={r with text:=t}
theorem jmy{w:World}{g:Nat}{r:Rc.R}(h:RcAt w g r)(t:ByteArray):RcAt (w.setCell ⟨g,5,none⟩ (.string t)) g (Rc.txt_ r t):=⟨heap_setCell_same w g 5 _ _ _ h.row⟩
theorem twelve{l:List Int}(h:l.length=12):∃l0 l1 l2 l3 l4 l5 l6 l7 l8 l9 l10 l11,l=[l0,l1,l2,l3,l4,l5,l6,l7,l8,l9,l10,l11]:=by
 match l,h with
 |[l0,l1,l2,l3,l4,l5,l6,l7,l8,l9,l10,l11],_=>exact⟨l0,l1,l2,l3,l4,l5,l6,l7,l8,l9,l10,l11,rfl⟩
structure SpFz(w:World)(g:Nat):Prop where
 z0:w.frozen? ⟨g,0,none⟩=false
 z1:w.frozen? ⟨g,1,none⟩=false
 z2:w.frozen? ⟨g,2,none⟩=false
 z3:w.frozen? ⟨g,3,none⟩=false
 z4:w.frozen? ⟨g,4,none⟩=false
 z5:w.frozen? ⟨g,5,none⟩=false
 z6:w.frozen? ⟨g,6,none⟩=false
 z7:w.frozen? ⟨g,7,none⟩=false
 z8:w.frozen? ⟨g,8,none⟩=false
 z9:w.frozen? ⟨g,9,none⟩=false
 z10:w.frozen? ⟨g,10,none⟩=false
 z11:w.frozen? ⟨g,11,none⟩=false
theorem ja8{w:World}{g:Nat}{cs:Array Value}{t:TypeId}(h:w.heap[g]? =some (.cells cs t (0,0))):SpFz w g:=by
 constructor<;>exact frozen_of_row w g _ _ _ h
def puts(w:World)(g:Nat):Nat->List Value->World
 |_,[]=>w
 |k,v::vs=>puts (w.setCell ⟨g,k,none⟩ v) g (k+1) vs
theorem jce(g:Nat)(vs:List Value)(k:Nat)(w:World):w.grownBy (puts w g k vs) (some g):=by
 induction vs generalizing k w with
 |nil=>exact World.grownBy.refl _ _
 |cons v vs ih=>exact jam (jad _ _ _ _) (ih (k+1) _)
theorem jo0(g:Nat)(vs:List Value)(pre post:List Value)(old:List Value)(w:World)(t:TypeId)(hl:old.length=vs.length)(h:w.heap[g]? =some (.cells (pre++old++post).toArray t (0,0))):
  (puts w g pre.length vs).heap[g]? =some (.cells (pre++vs++post).toArray t (0,0)):=by
 induction vs generalizing pre old w with
 |nil=>
  have:old=[]:=List.eq_nil_of_length_eq_zero (by simpa using hl);subst this;exact h
 |cons v vs ih=>
  rcases old with _|⟨x,old⟩
  ·simp at hl
  ·have h1:=heap_setCell_same w g pre.length _ _ v h
   have e:(pre++x::old++post).toArray.setIfInBounds pre.length v=((pre++[v])++old++post).toArray:=by
    simp
   rw[e]at h1;have:=ih (pre++[v]) old _ (by simpa using hl) h1;rw[List.length_append,List.length_singleton]at this;rw[show pre++v::vs++post=pre++[v]++vs++post by simp];exact this
theorem je5{w:World}{g:Nat}{r s:Spc.Sp}{t:TypeId}(h:w.heap[g]? =some (.cells (Spc.cells r) t (0,0))):(puts w g 0 (Spc.cells s).toList).heap[g]? =some (.cells (Spc.cells s) t (0,0)):=by
 have:=jo0 g (Spc.cells s).toList [] [] (Spc.cells r).toList w t rfl (by simpa using h);simpa using this
def GoodC:Prop:=∀s W,Spc.In s->Calls Tryz.prog 79 #[Spc.val s] W (APos W (Spc.val (Spc.good s)))
end Go.Proofs.YtpehidgjfcfjoaaGreatDoor
