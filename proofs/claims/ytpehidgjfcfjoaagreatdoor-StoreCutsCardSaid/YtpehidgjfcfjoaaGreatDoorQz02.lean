import Derived.Test.YtpehidgjfcfjoaaGreatDoorQz01
import Derived.Laws.StructEq
import Derived.ChangeKeysEq
import Derived.Maps.AppendAt
import Derived.Deep.Slices
import Derived.Deep.WholeRow
import Derived.Lib.MinMax
import Derived.Handy
import Derived.BigRegion
import Derived.Deep.Cut
import Derived.Deep.DeepCutAuto
import Derived.Deep.RegionHeld3
set_option maxHeartbeats 6400000
set_option maxRecDepth 100000
set_option linter.unusedSimpArgs false
set_option linter.unusedVariables false
namespace Go.Proofs.YtpehidgjfcfjoaaGreatDoor
open Go.RowKit
theorem zzp{p:Prop}(h:p:=by
 have HI:Hid (Spc.inn n lo hi=(decide (lo<=n)&&decide (n<=hi))):=rfl;by_cases h1:lo<=n
 ·by_cases h2:n<=hi
  ·have e:Spc.inn n lo hi=true:=Spc.inn_iff.2 ⟨h1,h2⟩
   rw[e];clear HI e;go_in;go_wp2;go_ret;exact⟨rfl,rfl⟩
  ·have e:Spc.inn n lo hi=false:=by rw[HI.out,Bool.and_eq_false_iff,decide_eq_false_iff_not,decide_eq_false_iff_not];exact .inr h2
   rw[e];clear HI e;go_in;go_wp2;go_ret;exact⟨rfl,rfl⟩
 ·have e:Spc.inn n lo hi=false:=by rw[HI.out,Bool.and_eq_false_iff,decide_eq_false_iff_not,decide_eq_false_iff_not];exact .inl h1
  rw[e];clear HI e;go_in;go_wp2;go_ret;exact⟨rfl,rfl⟩):p:=h
theorem ja3(n lo hi:Int)(w:World):Calls Tryz.prog 187 #[.int .i64 n,.int .i64 lo,.int .i64 hi] w fun e w'=>e= .returned (.bool (Spc.inn n lo hi))/\w'=w:=by
 exact zzp
theorem zzl{p:Prop}(h:p:=by
 have HN:Hid (Spc.near n least many=least+n%18446744073709551616%many):=rfl;have h1:=Int.emod_nonneg n (b:=18446744073709551616) zv;have h2:=Int.emod_lt_of_pos n (b:=18446744073709551616) zv;have h3:=Int.emod_nonneg (n%18446744073709551616) (b:=many) zv;have h4:=Int.emod_lt_of_pos (n%18446744073709551616) hm.1;have hu:IntKind.u64.wrap n=n%18446744073709551616:=IntKind.wrap_u64 n;have hu2:IntKind.u64.wrap many=many:=by rw[IntKind.wrap_u64];omega
 generalize n%18446744073709551616=y at*;have ht:y.tmod many=y%many:=Int.tmod_eq_emod_of_nonneg h1;generalize y%many=z at*;go_in;go_wp2;go_ret;exact⟨by rw[HN.out];rfl,rfl⟩):p:=h
theorem ja4(n least many:Int)(hl:0<=least/\least<=1000)(hm:0<many/\many<=1000)(w:World):Calls Tryz.prog 135 #[.int .i64 n,.int .i64 least,.int .i64 many] w fun e w'=>e= .returned (.int .i64 (Spc.near n least many))/\w'=w:=by
 exact zzl
def Spc.cells(s:Spc.Sp):Array Value:=#[.int .i64 s.v,.int .i64 s.d,.int .i64 s.u,.int .i64 s.n,.int .i64 s.g,.int .i64 s.a,.int .i64 s.b,.int .i64 s.c,.int .i64 s.e,.int .i64 s.w,.int .i64 s.x,.int .i64 s.k]
def Spc.val(s:Spc.Sp):Value:= .agg (Spc.cells s)
structure SpAt(w:World)(g:Nat)(s:Spc.Sp):Prop where
 f0:w.cell? ⟨g,0,none⟩=some (.int .i64 s.v)
 f1:w.cell? ⟨g,1,none⟩=some (.int .i64 s.d)
 f2:w.cell? ⟨g,2,none⟩=some (.int .i64 s.u)
 f3:w.cell? ⟨g,3,none⟩=some (.int .i64 s.n)
 f4:w.cell? ⟨g,4,none⟩=some (.int .i64 s.g)
 f5:w.cell? ⟨g,5,none⟩=some (.int .i64 s.a)
 f6:w.cell? ⟨g,6,none⟩=some (.int .i64 s.b)
 f7:w.cell? ⟨g,7,none⟩=some (.int .i64 s.c)
 f8:w.cell? ⟨g,8,none⟩=some (.int .i64 s.e)
 f9:w.cell? ⟨g,9,none⟩=some (.int .i64 s.w)
 f10:w.cell? ⟨g,10,none⟩=some (.int .i64 s.x)
 f11:w.cell? ⟨g,11,none⟩=some (.int .i64 s.k)
theorem jae{w:World}{g:Nat}{s:Spc.Sp}{t:TypeId}{fr:Nat×Nat}(h:w.heap[g]? =some (.cells (Spc.cells s) t fr)):SpAt w g s:=by
 constructor<;>(rw[cell_of_row w g _ _ _ _ h];rfl)
theorem SpAt.below{w w':World}{g:Nat}{s:Spc.Sp}(h:SpAt w g s)(hg:g<w.heap.size)(hb:Below w.heap.size w w'):SpAt w' g s:=
 ⟨(hb.cell (p:=⟨g,0,none⟩) hg).trans h.f0,(hb.cell (p:=⟨g,1,none⟩) hg).trans h.f1,(hb.cell (p:=⟨g,2,none⟩) hg).trans h.f2,(hb.cell (p:=⟨g,3,none⟩) hg).trans h.f3,(hb.cell (p:=⟨g,4,none⟩) hg).trans h.f4,(hb.cell (p:=⟨g,5,none⟩) hg).trans h.f5,(hb.cell (p:=⟨g,6,none⟩) hg).trans h.f6,(hb.cell (p:=⟨g,7,none⟩) hg).trans h.f7,(hb.cell (p:=⟨g,8,none⟩) hg).trans h.f8,(hb.cell (p:=⟨g,9,none⟩) hg).trans h.f9,(hb.cell (p:=⟨g,10,none⟩) hg).trans h.f10,(hb.cell (p:=⟨g,11,none⟩) hg).trans h.f11⟩
theorem jcy{s:Spc.Sp}{j:Nat}(hj:j<=4)(h:∀m,m<j->Spc.at_ s m≠0)(he:j=4\/Spc.at_ s j=0):Spc.steps s=[s.a,s.b,s.c,s.e].take j:=by
 unfold Spc.steps;have g0:0<j->s.a≠0:=fun x=>h 0 x;have g1:1<j->s.b≠0:=fun x=>h 1 x;have g2:2<j->s.c≠0:=fun x=>h 2 x;have g3:3<j->s.e≠0:=fun x=>h 3 x;rcases j with _|_|_|_|_|j
 ·have e:s.a=0:=he.resolve_left zv
  simp[e]
 ·have e:s.b=0:=he.resolve_left zv
  simp[g0,e]
 ·have e:s.c=0:=he.resolve_left zv
  simp[g0,g1,e]
 ·have e:s.e=0:=he.resolve_left zv
  simp[g0,g1,g2,e]
 ·simp[g0,g1,g2,g3]
 ·omega
theorem jj8:Tryz.prog.underlying 33=some (.struct (Tryz.prog.fieldsOf 33)):=by kernel_rfl
theorem jmk:Tryz.prog.stoodInHeld 33=false:=by kernel_rfl
theorem jod:Tryz.prog.underlying 31=some (.array 4 3):=by kernel_rfl
theorem jbw:Tryz.prog.eqGuardType Tryz.prog.depth 33=false:=by kernel_rfl
theorem joe:Tryz.prog.cellsOf 3=1:=by kernel_rfl
section
variable{P:Program}{W:World}
theorem jf6{d:Nat}{xs ys:Array Value}:(Op.eqFields d xs ys []).run P W= .ok true W:=rfl
theorem jah{d:Nat}{xs ys:Array Value}{f:Field}{fs:List Field}{a b:Value}{r R:Bool}(hn:f.name≠ "_")(h1:(part f.type xs f.offset).run P W= .ok a W)(h2:(part f.type ys f.offset).run P W= .ok b W)
  (h3:(Op.equalIn d f.type a b).run P W= .ok r W) (h4:(Op.eqFields d xs ys fs).run P W= .ok R W):(Op.eqFields d xs ys (f::fs)).run P W= .ok (r&&R) W:=by
 cases r<;>simp[Op.eqFields,hn,h1,h2,h3,h4,Sem.run_bind,Result.andThen]
theorem jof{d:Nat}{e:TypeId}{c:Nat}{xs ys:Array Value}:(Op.eqItems d e c xs ys []).run P W= .ok true W:=rfl
theorem jat{d:Nat}{e:TypeId}{c:Nat}{xs ys:Array Value}{i:Nat}{is:List Nat}{a b:Value}{r R:Bool}(h1:(part e xs (i*c)).run P W= .ok a W)(h2:(part e ys (i*c)).run P W= .ok b W)
  (h3:(Op.equalIn d e a b).run P W= .ok r W) (h4:(Op.eqItems d e c xs ys is).run P W= .ok R W):(Op.eqItems d e c xs ys (i::is)).run P W= .ok (r&&R) W:=by
 cases r<;>simp[Op.eqItems,h1,h2,h3,h4,Sem.run_bind,Result.andThen]
end
theorem arr_eq(a b c e a' b' c' e':Int)(d:Nat)(W:World):(Op.equalIn (d+2) 31 (.agg #[.int .i64 a,.int .i64 b,.int .i64 c,.int .i64 e]) (.agg #[.int .i64 a',.int .i64 b',.int .i64 c',.int .i64 e'])).run Tryz.prog W= .ok ((a==a')&&((b==b')&&((c==c')&&((e==e')&&true)))) W:=by
 obtain⟨i0,hi0,hz0,hz1,hz2⟩:=info_parts jfw;rw[run_equalIn_array W (d+1) _ _ jod hi0,joe,show List.range 4=[0,1,2,3]from rfl];have hi:∀x y,(Op.equalIn (d+1) 3 (.int .i64 x) (.int .i64 y)).run Tryz.prog W= .ok (x==y) W:=fun x y=>run_equalIn_int W d 3 .i64 .i64 x y Tryz.underlying3;refine jat ?_ ?_ (hi _ _) (jat ?_ ?_ (hi _ _) (jat ?_ ?_ (hi _ _) (jat ?_ ?_ (hi _ _) jof)))
 all_goals simp[go_sem,Sem.run_bind,Result.andThen]
def Spc.same(s t:Spc.Sp):Bool:=(s.v==t.v)&&((s.d==t.d)&&((s.u==t.u)&&((s.n==t.n)&&((s.g==t.g)&&(((s.a==t.a)&&((s.b==t.b)&&((s.c==t.c)&&((s.e==t.e)&&true))))&&((s.w==t.w)&&((s.x==t.x)&&((s.k==t.k)&&true))))))))
theorem Spc.same_iff{s t:Spc.Sp}:Spc.same s t=true↔s=t:=by
 unfold Spc.same;simp only[Bool.and_eq_true,beq_iff_eq,and_true];constructor
 ·rintro⟨h1,h2,h3,h4,h5,⟨h6,h7,h8,h9⟩,h10,h11,h12⟩
  cases s;cases t
  simp only at h1 h2 h3 h4 h5 h6 h7 h8 h9 h10 h11 h12;subst h1 h2 h3 h4 h5 h6 h7 h8 h9 h10 h11 h12;rfl
 ·rintro rfl
  simp
theorem jeg(s t:Spc.Sp)(d:Nat)(W:World):(Op.equalIn (d+3) 33 (Spc.val s) (Spc.val t)).run Tryz.prog W= .ok (Spc.same s t) W:=by
 unfold Spc.val;rw[run_equalIn_agg W (d+2) 33 _ _ jj8 jmk];have hi:∀x y,(Op.equalIn (d+2) 3 (.int .i64 x) (.int .i64 y)).run Tryz.prog W= .ok (x==y) W:=fun x y=>run_equalIn_int W (d+1) 3 .i64 .i64 x y Tryz.underlying3;have ha:=arr_eq s.a s.b s.c s.e t.a t.b t.c t.e d W;simp only[Program.fieldsOf,Tryz.underlying33,Spc.cells];unfold Spc.same;refine jah (by decide) ?_ ?_ (hi _ _) (jah (by decide) ?_ ?_ (hi _ _) (jah (by decide) ?_ ?_ (hi _ _) (jah (by decide) ?_ ?_ (hi _ _) (jah (by decide) ?_ ?_ (hi _ _) (jah (by decide) ?_ ?_ ha (jah (by decide) ?_ ?_ (hi _ _) (jah (by decide) ?_ ?_ (hi _ _) (jah (by decide) ?_ ?_ (hi _ _) jf6))))))))
 all_goals simp[go_sem,Sem.run_bind,Result.andThen]
theorem spec_eq(s t:Spc.Sp)(W:World):(binOp .eql 33 (Spc.val s) (Spc.val t)).run Tryz.prog W= .ok (.bool (Spc.same s t)) W:=by
 have h:=jeg s t 9997 W;unfold Spc.val at*;rw[run_eql_struct,h];rfl
theorem jcz(s t:Spc.Sp)(W:World):(binOp .neq 33 (Spc.val s) (Spc.val t)).run Tryz.prog W= .ok (.bool (!Spc.same s t)) W:=by
 have h:=jeg s t 9997 W;unfold Spc.val at*;rw[run_neq_struct,h];rfl
def Rc.cells(r:Rc.R):Array Value:=#[.int .i64 r.kind,.int .i64 r.epoch,.int .i64 r.who,.int .i64 r.n,.int .i64 r.seq,.string r.text,.int .i64 r.sp.v,.int .i64 r.sp.d,.int .i64 r.sp.u,.int .i64 r.sp.n,.int .i64 r.sp.g,.int .i64 r.sp.a,.int .i64 r.sp.b,.int .i64 r.sp.c,.int .i64 r.sp.e,.int .i64 r.sp.w,.int .i64 r.sp.x,.int .i64 r.sp.k]
def Rc.val(r:Rc.R):Value:= .agg (Rc.cells r)
structure RcAt(w:World)(g:Nat)(r:Rc.R):Prop where
 row:w.heap[g]? =some (.cells (Rc.cells r) 60 (0,0))
theorem RcAt.new(w:World)(r:Rc.R):RcAt (w.alloc (.cells (Rc.cells r) 60)) w.heap.size r:=⟨heap_alloc_new w _⟩
theorem RcAt.on{w w':World}{g:Nat}{r:Rc.R}(h:RcAt w g r)(hb:Below w.heap.size w w'):RcAt w' g r:=⟨(hb.block g (Array.getElem?_eq_some_iff.1 h.row).1).trans h.row⟩
structure RcCs(w:World)(g:Nat)(r:Rc.R):Prop where
 c0:w.cell? ⟨g,0,none⟩=some (.int .i64 r.kind)
 c1:w.cell? ⟨g,1,none⟩=some (.int .i64 r.epoch)
 c2:w.cell? ⟨g,2,none⟩=some (.int .i64 r.who)
 c3:w.cell? ⟨g,3,none⟩=some (.int .i64 r.n)
 c4:w.cell? ⟨g,4,none⟩=some (.int .i64 r.seq)
 c5:w.cell? ⟨g,5,none⟩=some (.string r.text)
 c6:w.cell? ⟨g,6,none⟩=some (.int .i64 r.sp.v)
 c7:w.cell? ⟨g,7,none⟩=some (.int .i64 r.sp.d)
 c8:w.cell? ⟨g,8,none⟩=some (.int .i64 r.sp.u)
 c9:w.cell? ⟨g,9,none⟩=some (.int .i64 r.sp.n)
 c10:w.cell? ⟨g,10,none⟩=some (.int .i64 r.sp.g)
 c11:w.cell? ⟨g,11,none⟩=some (.int .i64 r.sp.a)
 c12:w.cell? ⟨g,12,none⟩=some (.int .i64 r.sp.b)
 c13:w.cell? ⟨g,13,none⟩=some (.int .i64 r.sp.c)
 c14:w.cell? ⟨g,14,none⟩=some (.int .i64 r.sp.e)
 c15:w.cell? ⟨g,15,none⟩=some (.int .i64 r.sp.w)
 c16:w.cell? ⟨g,16,none⟩=some (.int .i64 r.sp.x)
 c17:w.cell? ⟨g,17,none⟩=some (.int .i64 r.sp.k)
 lt:g<w.heap.size
theorem RcAt.cs{w:World}{g:Nat}{r:Rc.R}(h:RcAt w g r):RcCs w g r:=
 ⟨by rw[cell_of_row w g 0 _ _ _ h.row];rfl,by rw[cell_of_row w g 1 _ _ _ h.row];rfl,by rw[cell_of_row w g 2 _ _ _ h.row];rfl,by rw[cell_of_row w g 3 _ _ _ h.row];rfl,by rw[cell_of_row w g 4 _ _ _ h.row];rfl,by rw[cell_of_row w g 5 _ _ _ h.row];rfl,
  by rw[cell_of_row w g 6 _ _ _ h.row];rfl,by rw[cell_of_row w g 7 _ _ _ h.row];rfl,by rw[cell_of_row w g 8 _ _ _ h.row];rfl,by rw[cell_of_row w g 9 _ _ _ h.row];rfl,by rw[cell_of_row w g 10 _ _ _ h.row];rfl,by rw[cell_of_row w g 11 _ _ _ h.row];rfl,
  by rw[cell_of_row w g 12 _ _ _ h.row];rfl,by rw[cell_of_row w g 13 _ _ _ h.row];rfl,by rw[cell_of_row w g 14 _ _ _ h.row];rfl,by rw[cell_of_row w g 15 _ _ _ h.row];rfl,by rw[cell_of_row w g 16 _ _ _ h.row];rfl,by rw[cell_of_row w g 17 _ _ _ h.row];rfl,(Array.getElem?_eq_some_iff.1 h.row).1⟩
def Rc.same(r s:Rc.R):Bool:=(r.kind==s.kind)&&((r.epoch==s.epoch)&&((r.who==s.who)&&((r.n==s.n)&&((r.seq==s.seq)&&((r.text.toList==s.text.toList)&&(Spc.same r.sp s.sp&&true))))))
theorem zz1q{p:Prop}(h:p:=by
 rw[beq_iff_eq];constructor
 ·intro h
  rw[ByteArray.toList_eq,ByteArray.toList_eq]at h;exact ByteArray.ext (Array.ext' h)
 ·rintro rfl;rfl):p:=h
theorem jeh{a b:ByteArray}:(a.toList==b.toList)=true↔a=b:=by
 exact zz1q
theorem Rc.same_iff{r s:Rc.R}:Rc.same r s=true↔r=s:=by
 unfold Rc.same;simp only[Bool.and_eq_true,beq_iff_eq,and_true,Spc.same_iff];constructor
 ·rintro⟨h1,h2,h3,h4,h5,h6,h7⟩
  have ht:r.text=s.text:=jeh.1 (beq_iff_eq.2 h6);clear h6;exact Rc.ext (by unfold Rc.nums;rw[h1,h2,h3,h4,h5]) ht h7
 ·rintro rfl
  simp
theorem jaf:Tryz.prog.underlying 60=some (.struct (Tryz.prog.fieldsOf 60)):=by kernel_rfl
theorem jog:Tryz.prog.stoodInHeld 60=false:=by kernel_rfl
theorem jin:Tryz.prog.eqGuardType Tryz.prog.depth 60=false:=by kernel_rfl
theorem jsm(r s:Rc.R)(W:World):(Op.equalIn 10000 60 (Rc.val r) (Rc.val s)).run Tryz.prog W= .ok (Rc.same r s) W:=by
 unfold Rc.val;rw[run_equalIn_agg W 9999 60 _ _ jaf jog];have hi:∀x y,(Op.equalIn 9999 3 (.int .i64 x) (.int .i64 y)).run Tryz.prog W= .ok (x==y) W:=fun x y=>run_equalIn_int W 9998 3 .i64 .i64 x y Tryz.underlying3;have ht:∀x y,(Op.equalIn 9999 9 (.string x) (.string y)).run Tryz.prog W= .ok (x.toList==y.toList) W:=fun x y=>run_equalIn_string W 9998 9 x y Tryz.underlying9;have hs:=jeg r.sp s.sp 9996 W;simp only[Program.fieldsOf,Tryz.underlying60,Rc.cells];unfold Rc.same;unfold Spc.val Spc.cells at hs;refine jah (by decide) ?_ ?_ (hi _ _) (jah (by decide) ?_ ?_ (hi _ _) (jah (by decide) ?_ ?_ (hi _ _) (jah (by decide) ?_ ?_ (hi _ _) (jah (by decide) ?_ ?_ (hi _ _) (jah (by decide) ?_ ?_ (ht _ _) (jah (by decide) ?_ ?_ hs jf6))))))
 all_goals simp[go_sem,Sem.run_bind,Result.andThen]
theorem rec_neq(r s:Rc.R)(W:World):(binOp .neq 60 (Rc.val r) (Rc.val s)).run Tryz.prog W= .ok (.bool (!Rc.same r s)) W:=by
 have h:=jsm r s W;unfold Rc.val at*;rw[run_neq_struct,h];rfl
theorem zR{ops:Array Oper}{rest:List Oper}{op:Oper}{a:Act}{w:World}{Q:Exit->Act->World->Prop}{g:Nat}{r:Rc.R}(x:Operand)(hg:RcAt w g r)(h:wpList Tryz.prog ops Q rest (a.put op.dst (.agg (Rc.cells r))) w)(hgd:op.guard=none:=by rfl)(ho:op.op= .load 60 x:=by rfl)(hx:a.eval x= .pointer (some ⟨g,0,none⟩):=by rfl):wpList Tryz.prog ops Q (op::rest) a w:=wpList_load_row hgd 60 x ho g hx 60 _ (0,0) _ hg.row jaf rfl zk h
open Go.Deep
structure SlR{T:Type}(K:Nat)(E:World->List Value->T->Prop)(w:World)(A:Option Addr)(n c:Nat)(ts:List T):Prop where
 rd:∀j t,ts[j]? =some t->∃b o cs,A=some ⟨b,o,none⟩/\b<w.heap.size/\cs.length=K/\(∀i,i<K->w.cell? ⟨b,o+j*K+i,none⟩=cs[i]?)/\E w cs t
 len:n=ts.length
 cap:n<=c
 max:c<=maxLen
 nil:A=none->c=0
section
variable{T:Type}{K:Nat}{E:World->List Value->T->Prop}
theorem SlR.none_(w:World):SlR K E w none 0 0 []:=⟨by simp,rfl,Nat.le_refl _,Nat.zero_le _,fun _=>rfl⟩
theorem SlR.on(hE:∀w w' cs t,Below w.heap.size w w'->E w cs t->E w' cs t){w w':World}{A:Option Addr}{n c:Nat}{ts:List T}(h:SlR K E w A n c ts)(hb:Below w.heap.size w w'):SlR K E w' A n c ts:=
 ⟨fun j t hj=>by
  obtain⟨b,o,cs,h1,h2,h3,h4,h5⟩:=h.rd j t hj;exact⟨b,o,cs,h1,Nat.lt_of_lt_of_le h2 hb.size,h3,fun i hi=>(hb.cell (p:=⟨b,o+j*K+i,none⟩) h2).trans (h4 i hi),hE _ _ _ _ hb h5⟩,h.len,h.cap,h.max,h.nil⟩
theorem list_of{n:Nat}{p:Nat->T->Prop}(h:∀i,i<n->∃x,p i x):∃ts:List T,ts.length=n/\∀j t,ts[j]? =some t->p j t:=by
 induction n with
 |zero=>exact⟨[],rfl,by simp⟩
 |succ n ih=>
  obtain⟨ts,h1,h2⟩:=ih fun i hi=>h i zv;obtain⟨x,hx⟩:=h n zv;refine⟨ts++[x],by simp[h1],fun j t hj=> ?_⟩;rcases Nat.lt_or_ge j ts.length with hlt|hge
  ·rw[List.getElem?_append_left hlt]at hj;exact h2 j t hj
  ·have hjl:j<(ts++[x]).length:=(List.getElem?_eq_some_iff.1 hj).1
   rw[List.length_append,List.length_singleton]at hjl;obtain rfl:j=n:=by omega
   rw[List.getElem?_append_right hge,show j -ts.length=0 from by omega]at hj;simp at hj;subst hj;exact hx
theorem slr_of{H:Type}{enc:TypeId×Value->H}{P:Program}{w:World}{held:Bool}{t e:TypeId}{fuel:Nat}{A:Option Addr}{n c:Nat}{x:DataW H×List MemPlace}(ht:P.underlying t=some (.slice e))(hK:P.cellsOf e=K)(hK0:0<K)
  (hE:∀f cs y,DataW.trod enc P w 0 (fun _=>true) held f e cs=some y->cs.length=K->∃t,E w cs t) (h:DataW.trod enc P w 0 (fun _=>true) held fuel t [.slice A n c]=some x):∃ts,SlR K E w A n c ts:=by
 rcases open_slice ht h with⟨h1,_⟩|⟨a,len,cap,m,f,D,Pl,h1,_,hl,hm,hmm,_,hi⟩
 ·simp only[List.cons.injEq,Value.slice.injEq,and_true]at h1
  obtain⟨rfl,rfl,rfl⟩:=h1;exact⟨[],SlR.none_ w⟩
 ·simp only[List.cons.injEq,Value.slice.injEq,and_true]at h1
  obtain⟨rfl,rfl,rfl⟩:=h1;simp only[if_true]at hmm;rw[hK]at hi;have each:∀i,i<n->∃y:List Value×T,y.1.length=K/\(∀k,k<K->w.cell? ((a.add (i*K)).add k)=y.1[k]?)/\E w y.1 y.2:=by
   intro i hin;obtain⟨cs,hc,ht'⟩:=hi i zv;obtain⟨_,hcl,hat⟩:=World.cells?_some hc;obtain⟨y,hy⟩:=hE _ _ _ ht' hcl;exact⟨(cs,y),hcl,hat,hy⟩
  obtain⟨ys,hyl,hys⟩:=list_of each;refine⟨ys.map (·.2),fun j t hj=> ?_,by simp[hyl],hl,hm,fun h=>by cases h⟩;rw[List.getElem?_map]at hj;obtain⟨y,hy,rfl⟩:=Option.map_eq_some_iff.1 hj;obtain⟨h2,h3,h4⟩:=hys j y hy;obtain⟨b,o,spot⟩:=a;have hk0:=h3 0 hK0;rw[List.getElem?_eq_getElem zv]at hk0;have hspot:spot=none:=by
   have hyj:j<ys.length:=(List.getElem?_eq_some_iff.1 hy).1;obtain⟨q2,q3,_⟩:=hys 0 _ (List.getElem?_eq_getElem (show 0<ys.length by omega));have q0:=q3 0 hK0;rw[List.getElem?_eq_getElem zv]at q0;simpa[Addr.add]using World.cell?_spot q0
  subst hspot;have hadd:∀k,((⟨b,o,none⟩:Addr).add (j*K)).add k=⟨b,o+j*K+k,none⟩:=by
   intro k;rw[add_add];unfold Addr.add;split
   ·rename_i h0
    congr 1
    omega
   ·simp[Nat.add_assoc]
  refine⟨b,o,y.1,rfl,?_,h2,fun k hk=>by rw[<-hadd];exact h3 k hk,h4⟩;have:=block_lt_of_cell hk0;rw[hadd]at this;exact this
def OwnR(K:Nat)(E:World->List Value->T->Prop)(e:TypeId)(w0 w:World)(B:Nat)(v:Value)(ts:List T):Prop:=
 ∃xs,w.ownsRow B e K v ts.length xs/\∀j t,ts[j]? =some t->∃cs,cs.length=K/\(∀i,i<K->xs[j*K+i]? =cs[i]?)/\E w0 cs t
theorem OwnR.none_(e:TypeId)(w0 w:World)(B:Nat):OwnR K E e w0 w B (.slice none 0 0) []:=⟨[],World.ownsRow_nil _ _ _ _,by simp⟩
theorem OwnR.below{e:TypeId}{w0 w w':World}{B:Nat}{v:Value}{ts:List T}(h:OwnR K E e w0 w B v ts)(hb:Below w.heap.size w w'):OwnR K E e w0 w' B v ts:=by
 obtain⟨xs,h1,h2⟩:=h;exact⟨xs,jb1 h1 hb,h2⟩
theorem OwnR.kept{e:TypeId}{w0 w w':World}{B g:Nat}{v:Value}{ts:List T}(h:OwnR K E e w0 w B v ts)(hg:w.grownBy w' (some g))(hv:v.ownBlock≠some g):OwnR K E e w0 w' B v ts:=by
 obtain⟨xs,h1,h2⟩:=h;exact⟨xs,h1.kept hg (.inr hv),h2⟩
theorem OwnR.lt{e:TypeId}{w0 w:World}{B:Nat}{v:Value}{ts:List T}(h:OwnR K E e w0 w B v ts):∀k,v.ownBlock=some k->B<=k/\k<w.heap.size:=by
 obtain⟨xs,h1,_⟩:=h;exact h1.lt
theorem OwnR.slr{e:TypeId}{w0 w:World}{B:Nat}{v:Value}{ts:List T}(hE:∀w w' cs t,Below w.heap.size w w'->E w cs t->E w' cs t)(h:OwnR K E e w0 w B v ts)(hb:Below w0.heap.size w0 w):∃A c,v= .slice A ts.length c/\SlR K E w A ts.length c ts:=by
 obtain⟨xs,h1,h2⟩:=h;rcases h1.2 with⟨rfl,h0⟩|⟨g,cap,cur,rfl,_,hg,hl,hm,hs,_⟩
 ·obtain rfl:ts=[]:=List.eq_nil_of_length_eq_zero h0
  exact⟨none,0,rfl,SlR.none_ w⟩
 ·refine⟨_,cap,rfl,fun j t hj=> ?_,rfl,hl,hm,fun h=>by cases h⟩
  obtain⟨cs,h3,h4,h5⟩:=h2 j t hj;have hjl:j<ts.length:=(List.getElem?_eq_some_iff.1 hj).1;refine⟨g,0,cs,rfl,(Array.getElem?_eq_some_iff.1 hg).1,h3,fun i hi=> ?_,hE _ _ _ _ hb h5⟩;have:j*K+i<ts.length*K:=by
   have:=Nat.mul_le_mul_right K (show j+1<=ts.length by omega);rw[Nat.succ_mul]at this;omega
  rw[Nat.zero_add,h1.cellAt _ this,h4 i hi]
theorem jei{P:Program}{e sl:TypeId}{i0:TypeInfo}{z:Value}{by_:Nat}(hsl:P.underlying sl=some (.slice e))(hi0:P.info? e=some i0)(hz0:i0.zero=some z)(hz1:i0.size=K)(hz2:i0.bytes=by_)(hzs:z.cells.size=K)(hK0:0<K)
  {w0 w:World} {ops:Array Oper} {rest:List Oper} {op:Oper} {a:Act} {Q:Exit->Act->World->Prop} (hgd:op.guard=none) (s x:Operand)
  (ho:op.op= .call {callee:= .builtin .append,args:=#[s,x],argTypes:=#[sl,sl]})
  (base:Nat) (v:Value) (ts:List T) (hs:a.eval s=v) (hown:OwnR K E e w0 w base v ts) (cs:List Value) (t:T) (hcl:cs.length=K) (h1c:∀u∈cs,u.oneCell'=true) (hE:E w0 cs t) (hx:a.eval x= .slice (some ⟨w.heap.size,0,none⟩) 1 1)
  (hlen:ts.length+1<=maxLen) (hbytes:(ts.length+1)*by_<=140737488355328) (hB:base<=w.heap.size)
  (h:∀v' w',OwnR K E e w0 w' base v' (ts++[t])->Below base w w'->w.grownBy w' v.ownBlock->wpList P ops Q rest (a.put op.dst v') w'):wpList P ops Q (op::rest) a (w.alloc (.cells cs.toArray e)):=by
 obtain⟨xs,ho1,hf⟩:=hown;refine wpList_append_own _ hgd s x sl ho base e i0 z K by_ hsl hi0 hz0 hz1 hz2 hzs hK0 v ts.length xs hs (ho1.alloc _) ⟨w.heap.size,0,none⟩ 1 1 cs hx zv ?_ h1c hlen hbytes (by simp;omega) ?_
 ·intro j u hu
  have:((⟨w.heap.size,0,none⟩:Addr).add j)=⟨w.heap.size,j,none⟩:=by unfold Addr.add;split<;>simp_all
  rw[this,World.cell?_alloc_at _ _ _ _ rfl,List.getElem?_toArray];exact hu
 ·intro v' w' h1 h2 _
  have hg:w.grownBy w' v.ownBlock:=jam (World.grownBy_alloc w _ _) h2;refine h v' w' ⟨xs++cs,by rw[List.length_append];exact h1,fun j t' hj=> ?_⟩ ((Below.refl base w).grown hg hB (jaz ho1)) hg;have hxl:=ho1.1;rcases Nat.lt_or_ge j ts.length with hlt|hge
  ·rw[List.getElem?_append_left hlt]at hj
   obtain⟨cs',h3,h4,h5⟩:=hf j t' hj;refine⟨cs',h3,fun i hi=> ?_,h5⟩;have:j*K+i<ts.length*K:=by
    have:=Nat.mul_le_mul_right K (show j+1<=ts.length by omega);rw[Nat.succ_mul]at this;omega
   rw[List.getElem?_append_left zv];exact h4 i hi
  ·have hjl:j<(ts++[t]).length:=(List.getElem?_eq_some_iff.1 hj).1
   rw[List.length_append,List.length_singleton]at hjl;obtain rfl:j=ts.length:=by omega
   rw[List.getElem?_append_right hge,Nat.sub_self]at hj;simp at hj;subst hj;refine⟨cs,hcl,fun i hi=> ?_,hE⟩;rw[List.getElem?_append_right zv,show ts.length*K+i -xs.length=i from by omega]
section
variable{G:List Value->Option Nat}{e:TypeId}{w0 w w':World}{B:Nat}{v:Value}{ts:List T}
end
end
end Go.Proofs.YtpehidgjfcfjoaaGreatDoor
namespace Go.Proofs.YtpehidgjfcfjoaaGreatDoor
open Go.RowKit
structure Kept(F:Nat->Prop)(w w':World):Prop where
 os:w'.os=w.os
 tape:w'.tape=w.tape
 output:w'.output=w.output
 size:w.heap.size<=w'.heap.size
 block:∀i,i<w.heap.size->¬F i->w'.heap[i]? =w.heap[i]?
theorem Kept.refl(F:Nat->Prop)(w:World):Kept F w w:=⟨rfl,rfl,rfl,Nat.le_refl _,fun _ _ _=>rfl⟩
theorem Kept.trans{F G:Nat->Prop}{a b c:World}(h:Kept F a b)(k:Kept G b c)(hG:∀i,i<a.heap.size->G i->F i):Kept F a c:=
 ⟨k.os.trans h.os,k.tape.trans h.tape,k.output.trans h.output,Nat.le_trans h.size k.size,fun i hi hF=>(k.block i (Nat.lt_of_lt_of_le hi h.size) (fun hg=>hF (hG i hi hg))).trans (h.block i hi hF)⟩
theorem Kept.more{F G:Nat->Prop}{a b:World}(h:Kept F a b)(hG:∀i,i<a.heap.size->F i->G i):Kept G a b:=⟨h.os,h.tape,h.output,h.size,fun i hi hg=>h.block i hi (fun hf=>hg (hG i hi hf))⟩
theorem Kept.of_grown{F:Nat->Prop}{w w':World}{row:Option Nat}(h:w.grownBy w' row)(hr:∀k,row=some k->F k):Kept F w w':=
 ⟨h.os,h.tape,h.output,h.size,fun i hi hF=>h.block i hi (fun e=>hF (hr i e.symm))⟩
theorem Kept.of_below{F:Nat->Prop}{w w':World}(h:Below w.heap.size w w'):Kept F w w':=⟨h.os,h.tape,h.output,h.size,fun i hi _=>h.block i hi⟩
theorem Kept.below{F:Nat->Prop}{w w':World}{B:Nat}(h:Kept F w w')(hB:B<=w.heap.size)(hF:∀i,F i->B<=i):Below B w w':=
 ⟨h.os,h.tape,h.output,h.size,fun i hi=>h.block i zv (fun hf=>by have:=hF i hf;omega)⟩
theorem jag{W W':World}{g:Nat}{o:Obj}(h:W.heap[g]? =some o)(hb:Below W.heap.size W W'):W'.heap[g]? =some o:=(hb.block g (Array.getElem?_eq_some_iff.1 h).1).trans h
section
variable{T:Type}{enc:T->List Value}{K:Nat}
theorem jhx(hK:∀t,(enc t).length=K)(ts:List T):(ts.flatMap enc).length=ts.length*K:=by
 induction ts with
 |nil=>simp
 |cons t ts ih=>rw[List.flatMap_cons,List.length_append,ih,hK,List.length_cons,Nat.succ_mul];omega
theorem joh(hK:∀t,(enc t).length=K)(ts:List T)(k:Nat):(ts.take k).flatMap enc=(ts.flatMap enc).take (k*K):=by
 induction ts generalizing k with
 |nil=>simp
 |cons t ts ih=>
  cases k with
  |zero=>simp
  |succ k=>rw[List.take_succ_cons,List.flatMap_cons,List.flatMap_cons,ih,Nat.succ_mul,List.take_append,hK,show k*K+K -K=k*K by omega,List.take_of_length_le (l:=enc t) (by rw[hK];omega)]
theorem jio(hK:∀t,(enc t).length=K)(ts:List T)(k:Nat):(ts.drop k).flatMap enc=(ts.flatMap enc).drop (k*K):=by
 induction ts generalizing k with
 |nil=>simp
 |cons t ts ih=>
  cases k with
  |zero=>simp
  |succ k=>rw[List.drop_succ_cons,List.flatMap_cons,ih,Nat.succ_mul,List.drop_append,hK,show k*K+K -K=k*K by omega,List.drop_eq_nil_of_le («as»:=enc t) (by rw[hK];omega),List.nil_append]
theorem jlp(hK:∀t,(enc t).length=K){ts:List T}{q:Nat}{t:T}(hq:ts[q]? =some t){i:Nat}(hi:i<K):(ts.flatMap enc)[q*K+i]? =(enc t)[i]? :=by
 have h1:=jio hK ts q;have hl:=(List.getElem?_eq_some_iff.1 hq).1;have h2:ts.drop q=t::ts.drop (q+1):=by
  rw[List.drop_eq_getElem_cons hl,(List.getElem?_eq_some_iff.1 hq).2]
 rw[h2,List.flatMap_cons]at h1;rw[<-List.getElem?_drop,<-h1,List.getElem?_append_left (by rw[hK];exact hi)]
structure SlF(enc:T->List Value)(w:World)(A:Option Addr)(n c:Nat)(ts:List T):Prop where
 rd:0<ts.length->∃b o,A=some ⟨b,o,none⟩/\b<w.heap.size/\∀j u,(ts.flatMap enc)[j]? =some u->w.cell? ⟨b,o+j,none⟩=some u
 len:n=ts.length
 cap:n<=c
 max:c<=maxLen
 nil:A=none->c=0
theorem SlF.none_(w:World):SlF enc w none 0 0 []:=⟨by simp,rfl,Nat.le_refl _,Nat.zero_le _,fun _=>rfl⟩
theorem SlF.keep{w w':World}{A:Option Addr}{n c:Nat}{ts:List T}(h:SlF enc w A n c ts)(hs:w.heap.size<=w'.heap.size)(hk:∀b o,A=some ⟨b,o,none⟩->0<ts.length->w'.heap[b]? =w.heap[b]?):SlF enc w' A n c ts:=
 ⟨fun hl=>by
  obtain⟨b,o,h1,h2,h3⟩:=h.rd hl;exact⟨b,o,h1,zv,fun j u hj=>(World.cell?_of_block (hk b o h1 hl)).trans (h3 j u hj)⟩,h.len,h.cap,h.max,h.nil⟩
theorem SlF.on{w w':World}{A:Option Addr}{n c:Nat}{ts:List T}(h:SlF enc w A n c ts)(hb:Below w.heap.size w w'):SlF enc w' A n c ts:=
 h.keep hb.size fun b o he hl=>by
  obtain⟨b',o',h1,h2,_⟩:=h.rd hl;rw[he]at h1;injection h1 with h1;injection h1 with h1 _
  exact hb.block b zv
theorem SlF.at_(hK:∀t,(enc t).length=K){w:World}{A:Option Addr}{n c:Nat}{ts:List T}(h:SlF enc w A n c ts){q:Nat}{t:T}(hq:ts[q]? =some t):∃b o,A=some ⟨b,o,none⟩/\b<w.heap.size/\∀i u,(enc t)[i]? =some u->w.cell? ⟨b,o+q*K+i,none⟩=some u:=by
 obtain⟨b,o,h1,h2,h3⟩:=h.rd (by have:=(List.getElem?_eq_some_iff.1 hq).1;omega);refine⟨b,o,h1,h2,fun i u hi=> ?_⟩;have hlt:i<K:=by have:=(List.getElem?_eq_some_iff.1 hi).1;rw[hK]at this;exact this
 rw[Nat.add_assoc];exact h3 _ u (by rw[jlp hK hq hlt];exact hi)
theorem SlF.take(hK:∀t,(enc t).length=K){w:World}{A:Option Addr}{n c:Nat}{ts:List T}(h:SlF enc w A n c ts){k:Nat}(hk:k<=n):SlF enc w A k c (ts.take k):=by
 refine⟨fun hl=> ?_,by rw[List.length_take,<-h.len];omega,Nat.le_trans hk h.cap,h.max,h.nil⟩;rw[List.length_take]at hl;obtain⟨b,o,h1,h2,h3⟩:=h.rd zv;refine⟨b,o,h1,h2,fun j u hj=>h3 j u ?_⟩;rw[joh hK]at hj;rw[List.getElem?_take]at hj;split at hj
 ·exact hj
 ·cases hj
theorem SlF.drop(hK:∀t,(enc t).length=K){w:World}{A:Option Addr}{n c:Nat}{ts:List T}(h:SlF enc w A n c ts){k:Nat}(hk:k<=n){f:Addr->Addr}(hf:∀b o,f ⟨b,o,none⟩=⟨b,o+k*K,none⟩):SlF enc w (if c=k then A else A.map f) (n -k) (c -k) (ts.drop k):=by
 have hlen:=h.len;have hcap:=h.cap;have hmax:=h.max;refine⟨fun hl=> ?_,by rw[List.length_drop,<-h.len],zv,zv,fun e=> ?_⟩
 ·rw[List.length_drop]at hl
  obtain⟨b,o,rfl,h2,h3⟩:=h.rd zv;rw[if_neg zv];refine⟨b,o+k*K,by rw[Option.map_some,hf],h2,fun j u hj=> ?_⟩;rw[jio hK,List.getElem?_drop]at hj;rw[Nat.add_assoc];exact h3 _ u hj
 ·by_cases hc:c=k
  ·omega
  ·rw[if_neg hc]at e
   have:A=none:=by cases A with
    |none=>rfl
    |some a=>cases e
   have:=h.nil this;omega
theorem sle_of{E:World->List Value->T->Prop}(hK:∀t,(enc t).length=K){w:World}{A:Option Addr}{n c:Nat}{ts:List T}(h:SlR K E w A n c ts)(hE:∀cs t,E w cs t->cs=enc t):SlF enc w A n c ts:=by
 refine⟨fun hl=> ?_,h.len,h.cap,h.max,h.nil⟩;obtain⟨b,o,cs,h1,h2,h3,h4,h5⟩:=h.rd 0 _ (List.getElem?_eq_getElem hl);refine⟨b,o,h1,h2,fun j u hj=> ?_⟩;have hjl:=(List.getElem?_eq_some_iff.1 hj).1;rw[jhx hK]at hjl;have hK0:0<K:=by
  rcases Nat.eq_zero_or_pos K with h0|h0
  ·rw[h0]at hjl;omega
  ·exact h0
 have hq:j/K<ts.length:=(Nat.div_lt_iff_lt_mul hK0).2 hjl;obtain⟨b',o',cs',g1,g2,g3,g4,g5⟩:=h.rd (j/K) _ (List.getElem?_eq_getElem hq);rw[h1]at g1;injection g1 with g1;injection g1 with g1 g1'
 subst g1 g1';have hd:=Nat.div_add_mod j K;rw[Nat.mul_comm]at hd;have hm:=Nat.mod_lt j hK0;have h6:=g4 (j%K) hm;rw[Nat.add_assoc,hd]at h6;rw[h6,hE _ _ g5,<-hj]
 conv=>rhs;rw[<-hd]
 rw[jlp hK (List.getElem?_eq_getElem hq) hm]
def OwF(enc:T->List Value)(K:Nat)(e:TypeId)(w:World)(B:Nat)(v:Value)(ts:List T):Prop:=w.ownsRow B e K v ts.length (ts.flatMap enc)
section
variable{e:TypeId}{w w':World}{B:Nat}{v:Value}{ts:List T}
theorem OwF.none_(e:TypeId)(w:World)(B:Nat):OwF enc K e w B (.slice none 0 0) []:=World.ownsRow_nil _ _ _ _
theorem OwF.below(h:OwF enc K e w B v ts)(hb:Below w.heap.size w w'):OwF enc K e w' B v ts:=jb1 h hb
theorem OwF.lower{B':Nat}(h:OwF enc K e w B v ts)(hB:B'<=B):OwF enc K e w B' v ts:=jch h hB
theorem OwF.kept{g:Nat}(h:OwF enc K e w B v ts)(hg:w.grownBy w' (some g))(hv:v.ownBlock≠some g):OwF enc K e w' B v ts:=World.ownsRow.kept h hg (.inr hv)
theorem OwF.keep(h:OwF enc K e w B v ts)(hk:∀k,v.ownBlock=some k->w'.heap[k]? =w.heap[k]?):OwF enc K e w' B v ts:=by
 refine⟨h.1,?_⟩;rcases h.2 with h3|⟨g,cap,cur,rfl,hg,hh,r⟩
 ·exact .inl h3
 ·exact .inr ⟨g,cap,cur,rfl,hg,(hk g rfl).trans hh,r⟩
theorem OwF.lt(h:OwF enc K e w B v ts):∀k,v.ownBlock=some k->B<=k/\k<w.heap.size:=World.ownsRow.lt h
theorem OwF.form(h:OwF enc K e w B v ts):∃A c,v= .slice A ts.length c:=by
 rcases h.2 with⟨rfl,h0⟩|⟨g,cap,cur,rfl,_⟩
 ·exact⟨none,0,by rw[h0]⟩
 ·exact⟨_,cap,rfl⟩
theorem OwF.len{n c:Nat}{A:Option Addr}(h:OwF enc K e w B (.slice A n c) ts):n=ts.length/\n<=c/\c<=maxLen:=by
 rcases h.2 with⟨h2,h3⟩|⟨g,cap,cur,h2,_,_,h3,h4,_⟩
 ·injection h2 with _ h4 h5;subst h4 h5;exact⟨h3.symm,Nat.le_refl _,Nat.zero_le _⟩
 ·injection h2 with _ h5 h6;subst h5 h6;exact⟨rfl,h3,h4⟩
theorem OwF.sl{n c:Nat}{A:Option Addr}(h:OwF enc K e w B (.slice A n c) ts):SlF enc w A n c ts:=by
 have hl:=h.len;rcases h.2 with⟨h2,h3⟩|⟨g,cap,cur,h2,_,hh,h3,h4,h5,h6⟩
 ·injection h2 with h7 h8 h9;subst h7 h8 h9
  obtain rfl:ts=[]:=List.eq_nil_of_length_eq_zero h3;exact SlF.none_ w
 ·injection h2 with h7 h8 h9;subst h7 h8 h9
  refine⟨fun _=>⟨g,0,rfl,(Array.getElem?_eq_some_iff.1 hh).1,fun j u hj=> ?_⟩,rfl,h3,h4,fun hn=>by cases hn⟩;rw[cell_of_row w g (0+j) _ _ _ hh,Nat.zero_add];rw[<-h6,List.getElem?_take]at hj;split at hj
  ·simpa using hj
  ·cases hj
end
theorem jai{P:Program}{e sl:TypeId}{z:Value}{by_:Nat}(hK:∀t,(enc t).length=K)(h1c:∀t,∀u∈enc t,u.oneCell'=true)(hsl:P.underlying sl=some (.slice e))(hi0:(P.info? e).map (fun i=>(i.zero,i.size,i.bytes))=some (some z,K,by_))(hzs:z.cells.size=K)(hK0:0<K)
  {w:World} {ops:Array Oper} {rest:List Oper} {op:Oper} {a:Act} {Q:Exit->Act->World->Prop} (hgd:op.guard=none) (s x:Operand)
  (ho:op.op= .call {callee:= .builtin .append,args:=#[s,x],argTypes:=#[sl,sl]})
  (base:Nat) (v:Value) (ts:List T) (hs:a.eval s=v) (hown:OwF enc K e w base v ts) (t:T) (hx:a.eval x= .slice (some ⟨w.heap.size,0,none⟩) 1 1)
  (hlen:ts.length+1<=maxLen) (hbytes:(ts.length+1)*by_<=140737488355328) (hB:base<=w.heap.size)
  (h:∀v' w',OwF enc K e w' base v' (ts++[t])->Below base w w'->w.grownBy w' v.ownBlock->(v'.ownBlock=v.ownBlock\/∃k,v'.ownBlock=some k/\w.heap.size<=k)->wpList P ops Q rest (a.put op.dst v') w'):wpList P ops Q (op::rest) a (w.alloc (.cells (enc t).toArray e)):=by
 obtain⟨i0,hi,hz0,hz1,hz2⟩:=info_parts hi0;refine wpList_append_own_at (w.alloc (.cells (enc t).toArray e)) hgd s x sl ho base e i0 z K by_ hsl hi hz0 hz1 hz2 hzs hK0 v ts.length _ hs (World.ownsRow.alloc hown _) ⟨w.heap.size,0,none⟩ 1 1 (enc t) hx (by rw[hK];omega) ?_ (h1c t) hlen hbytes (by simp;omega) ?_
 ·intro j u hu
  have:((⟨w.heap.size,0,none⟩:Addr).add j)=⟨w.heap.size,j,none⟩:=by unfold Addr.add;split<;>simp_all
  rw[this,World.cell?_alloc_at _ _ _ _ rfl,List.getElem?_toArray];exact hu
 ·intro v' w' h1 h2 _ hvo
  have hg:w.grownBy w' v.ownBlock:=jam (World.grownBy_alloc w _ _) h2;refine h v' w' ?_ ((Below.refl base w).grown hg hB (jaz hown)) hg (hvo.imp id fun e=>⟨_,e,by simp⟩);unfold OwF;rw[List.flatMap_append,List.length_append,List.length_singleton,List.flatMap_singleton];exact h1
theorem jcv{P:Program}{e sl:TypeId}{z:Value}{by_:Nat}(hK:∀t,(enc t).length=K)(h1c:∀t,∀u∈enc t,u.oneCell'=true)(hsl:P.underlying sl=some (.slice e))(hi0:(P.info? e).map (fun i=>(i.zero,i.size,i.bytes))=some (some z,K,by_))(hzs:z.cells.size=K)(hK0:0<K)
  {w:World} {ops:Array Oper} {rest:List Oper} {op:Oper} {a:Act} {Q:Exit->Act->World->Prop} (hgd:op.guard=none) (s x:Operand)
  (ho:op.op= .call {callee:= .builtin .append,args:=#[s,x],argTypes:=#[sl,sl]})
  (base:Nat) (v:Value) (ts us:List T) (hs:a.eval s=v) (hown:OwF enc K e w base v ts) {A:Option Addr} {n c:Nat} (hx:a.eval x= .slice A n c) (hr:SlF enc w A n c us)
  (hlen:ts.length+us.length<=maxLen) (hbytes:(ts.length+us.length)*by_<=140737488355328) (hB:base<=w.heap.size)
  (h:∀v' w',OwF enc K e w' base v' (ts++us)->Below base w w'->w.grownBy w' v.ownBlock->(v'.ownBlock=v.ownBlock\/∃k,v'.ownBlock=some k/\w.heap.size<=k)->wpList P ops Q rest (a.put op.dst v') w'):wpList P ops Q (op::rest) a w:=by
 obtain⟨i0,hi,hz0,hz1,hz2⟩:=info_parts hi0;rcases A with _|ad
 ·obtain rfl:=hr.nil rfl
  have hn:us=[]:=by
   rcases us with _|⟨y,l⟩
   ·rfl
   ·obtain⟨_,_,h0,_⟩:=hr.rd (by simp);cases h0
  subst hn;obtain rfl:=hr.len;refine wpList_append_own_none hgd s x sl ho base e i0 K hsl hi v ts.length _ hs hown hx ?_;exact h v w (by rw[List.append_nil];exact hown) (Below.refl _ _) (jf5 _ (Below.refl _ _)) (.inl rfl)
 ·have hcells:∀j u,(us.flatMap enc)[j]? =some u->w.cell? (ad.add j)=some u:=by
   intro j u hj;have hl:0<us.length:=by
    rcases us with _|⟨y,l⟩
    ·simp at hj
    ·simp
   obtain⟨b,o,e1,_,hc⟩:=hr.rd hl;injection e1 with e1
   subst e1;have:((⟨b,o,none⟩:Addr).add j)=⟨b,o+j,none⟩:=by unfold Addr.add;split<;>simp_all
   rw[this];exact hc j u hj
  have hn:=hr.len;subst hn;refine wpList_append_own_at w hgd s x sl ho base e i0 z K by_ hsl hi hz0 hz1 hz2 hzs hK0 v ts.length _ hs hown ad us.length c (us.flatMap enc) hx (jhx hK us) hcells (fun u hu=> ?_) hlen hbytes hB ?_
  ·obtain⟨t,_,ht⟩:=List.mem_flatMap.1 hu
   exact h1c t u ht
  ·intro v' w' h1 h2 _ hvo
   refine h v' w' ?_ ((Below.refl base w).grown h2 hB (jaz hown)) h2 (hvo.imp id fun e=>⟨_,e,Nat.le_refl _⟩);unfold OwF;rw[List.flatMap_append,List.length_append];exact h1
end
structure Le where
 who:Int
 ep:Int
 till:Int
namespace Bk
def lead:ByteArray:=⟨#[108,101,97,100]⟩
def leC(l:Le):List Value:=[.string lead,.int .i64 l.who,.int .i64 l.ep,.int .i64 l.till,.bool false]
def vnC(v:Vn):List Value:=[.int .i64 v.n,.string v.t]
def rcC(r:Rc.R):List Value:=(Rc.cells r).toList
theorem leC_len(l:Le):(leC l).length=5:=rfl
theorem vnC_len(v:Vn):(vnC v).length=2:=rfl
theorem rcC_len(r:Rc.R):(rcC r).length=18:=rfl
theorem leC_one(l:Le):∀u∈leC l,u.oneCell'=true:=by intro u hu;simp[leC]at hu;rcases hu with rfl|rfl|rfl|rfl|rfl<;>rfl
theorem vnC_one(v:Vn):∀u∈vnC v,u.oneCell'=true:=by intro u hu;simp[vnC]at hu;rcases hu with rfl|rfl<;>rfl
theorem rcC_one(r:Rc.R):∀u∈rcC r,u.oneCell'=true:=by
 intro u hu;simp[rcC,Rc.cells]at hu;rcases hu with rfl|rfl|rfl|rfl|rfl|rfl|rfl|rfl|rfl|rfl|rfl|rfl|rfl|rfl|rfl|rfl|rfl|rfl<;>rfl
def tl(s:St):List Le:=if s.ep=0 then[]else[⟨s.who,s.ep,s.till⟩]
def cells(s:St)(L V H:Value):Array Value:=#[.int .i64 s.m,L,V,.int .i64 s.ep,.int .i64 s.who,.int .i64 s.till,.int .i64 s.stable,.int .i64 s.from_,.int .i64 s.ph,.int .i64 s.step,.int .i64 s.since,.int .i64 s.begun,.int .i64 s.seq,.int .i64 s.sp.v,.int .i64 s.sp.d,.int .i64 s.sp.u,.int .i64 s.sp.n,.int .i64 s.sp.g,.int .i64 s.sp.a,.int .i64 s.sp.b,.int .i64 s.sp.c,.int .i64 s.sp.e,.int .i64 s.sp.w,.int .i64 s.sp.x,.int .i64 s.sp.k,.int .i64 (s.us 0).v,.int .i64 (s.us 0).q,.bool (s.us 0).d,.int .i64 (s.us 1).v,.int .i64 (s.us 1).q,.bool (s.us 1).d,.int .i64 (s.us 2).v,.int .i64 (s.us 2).q,.bool (s.us 2).d,.int .i64 (s.us 3).v,.int .i64 (s.us 3).q,.bool (s.us 3).d,.int .i64 (s.us 4).v,.int .i64 (s.us 4).q,.bool (s.us 4).d,.int .i64 (s.us 5).v,.int .i64 (s.us 5).q,.bool (s.us 5).d,.int .i64 (s.us 6).v,.int .i64 (s.us 6).q,.bool (s.us 6).d,.int .i64 (s.us 7).v,.int .i64 (s.us 7).q,.bool (s.us 7).d,.int .i64 (s.us 8).v,.int .i64 (s.us 8).q,.bool (s.us 8).d,.int .i64 (s.us 9).v,.int .i64 (s.us 9).q,.bool (s.us 9).d,.int .i64 (s.us 10).v,.int .i64 (s.us 10).q,.bool (s.us 10).d,.int .i64 (s.us 11).v,.int .i64 (s.us 11).q,.bool (s.us 11).d,.int .i64 (s.us 12).v,.int .i64 (s.us 12).q,.bool (s.us 12).d,.int .i64 (s.us 13).v,.int .i64 (s.us 13).q,.bool (s.us 13).d,.int .i64 (s.us 14).v,.int .i64 (s.us 14).q,.bool (s.us 14).d,.int .i64 (s.us 15).v,.int .i64 (s.us 15).q,.bool (s.us 15).d,H]
def zeros:Array Value:=#[.int .i64 0,.slice none 0 0,.slice none 0 0,.int .i64 0,.int .i64 0,.int .i64 0,.int .i64 0,.int .i64 0,.int .i64 0,.int .i64 0,.int .i64 0,.int .i64 0,.int .i64 0,.int .i64 0,.int .i64 0,.int .i64 0,.int .i64 0,.int .i64 0,.int .i64 0,.int .i64 0,.int .i64 0,.int .i64 0,.int .i64 0,.int .i64 0,.int .i64 0,.int .i64 0,.int .i64 0,.bool false,.int .i64 0,.int .i64 0,.bool false,.int .i64 0,.int .i64 0,.bool false,.int .i64 0,.int .i64 0,.bool false,.int .i64 0,.int .i64 0,.bool false,.int .i64 0,.int .i64 0,.bool false,.int .i64 0,.int .i64 0,.bool false,.int .i64 0,.int .i64 0,.bool false,.int .i64 0,.int .i64 0,.bool false,.int .i64 0,.int .i64 0,.bool false,.int .i64 0,.int .i64 0,.bool false,.int .i64 0,.int .i64 0,.bool false,.int .i64 0,.int .i64 0,.bool false,.int .i64 0,.int .i64 0,.bool false,.int .i64 0,.int .i64 0,.bool false,.int .i64 0,.int .i64 0,.bool false,.slice none 0 0]
def none_:St:=⟨0,0,0,0,0,0,0,0,0,0,0,Spc.zero,fun _=>⟨0,0,false⟩,[],[]⟩
end Bk
structure BkAt(w:World)(g:Nat)(s:Bk.St)(L V H:Value):Prop where
 row:w.heap[g]? =some (.cells (Bk.cells s L V H) 38 (0,0))
structure BkRd(w:World)(s:Bk.St)(L V H:Value):Prop where
 l:∃A c,L= .slice A (Bk.tl s).length c/\SlF Bk.leC w A (Bk.tl s).length c (Bk.tl s)
 v:∃A c,V= .slice A s.vs.length c/\SlF Bk.vnC w A s.vs.length c s.vs
 h:∃A c,H= .slice A s.h.length c/\SlF Bk.rcC w A s.h.length c s.h
section
variable{w w':World}{g:Nat}{s:Bk.St}{L V H:Value}
theorem BkAt.new(w:World)(s:Bk.St)(L V H:Value):BkAt (w.alloc (.cells (Bk.cells s L V H) 38)) w.heap.size s L V H:=⟨heap_alloc_new w _⟩
theorem BkAt.on(h:BkAt w g s L V H)(hb:Below w.heap.size w w'):BkAt w' g s L V H:=⟨(hb.block g (Array.getElem?_eq_some_iff.1 h.row).1).trans h.row⟩
theorem BkAt.lt(h:BkAt w g s L V H):g<w.heap.size:=(Array.getElem?_eq_some_iff.1 h.row).1
theorem BkAt.keep(h:BkAt w g s L V H)(hk:w'.heap[g]? =w.heap[g]?):BkAt w' g s L V H:=⟨hk.trans h.row⟩
theorem BkRd.on(h:BkRd w s L V H)(hb:Below w.heap.size w w'):BkRd w' s L V H:=by
 obtain⟨⟨A1,c1,e1,h1⟩,⟨A2,c2,e2,h2⟩,⟨A3,c3,e3,h3⟩⟩:=h;exact⟨⟨A1,c1,e1,h1.on hb⟩,⟨A2,c2,e2,h2.on hb⟩,⟨A3,c3,e3,h3.on hb⟩⟩
structure BkCs(w:World)(g:Nat)(s:Bk.St)(L V H:Value):Prop where
 c0:w.cell? ⟨g,0,none⟩=some (.int .i64 s.m)
 c1:w.cell? ⟨g,1,none⟩=some (L)
 c2:w.cell? ⟨g,2,none⟩=some (V)
 c3:w.cell? ⟨g,3,none⟩=some (.int .i64 s.ep)
 c4:w.cell? ⟨g,4,none⟩=some (.int .i64 s.who)
 c5:w.cell? ⟨g,5,none⟩=some (.int .i64 s.till)
 c6:w.cell? ⟨g,6,none⟩=some (.int .i64 s.stable)
 c7:w.cell? ⟨g,7,none⟩=some (.int .i64 s.from_)
 c8:w.cell? ⟨g,8,none⟩=some (.int .i64 s.ph)
 c9:w.cell? ⟨g,9,none⟩=some (.int .i64 s.step)
 c10:w.cell? ⟨g,10,none⟩=some (.int .i64 s.since)
 c11:w.cell? ⟨g,11,none⟩=some (.int .i64 s.begun)
 c12:w.cell? ⟨g,12,none⟩=some (.int .i64 s.seq)
 c13:w.cell? ⟨g,13,none⟩=some (.int .i64 s.sp.v)
 c14:w.cell? ⟨g,14,none⟩=some (.int .i64 s.sp.d)
 c15:w.cell? ⟨g,15,none⟩=some (.int .i64 s.sp.u)
 c16:w.cell? ⟨g,16,none⟩=some (.int .i64 s.sp.n)
 c17:w.cell? ⟨g,17,none⟩=some (.int .i64 s.sp.g)
 c18:w.cell? ⟨g,18,none⟩=some (.int .i64 s.sp.a)
 c19:w.cell? ⟨g,19,none⟩=some (.int .i64 s.sp.b)
 c20:w.cell? ⟨g,20,none⟩=some (.int .i64 s.sp.c)
 c21:w.cell? ⟨g,21,none⟩=some (.int .i64 s.sp.e)
 c22:w.cell? ⟨g,22,none⟩=some (.int .i64 s.sp.w)
 c23:w.cell? ⟨g,23,none⟩=some (.int .i64 s.sp.x)
 c24:w.cell? ⟨g,24,none⟩=some (.int .i64 s.sp.k)
 c73:w.cell? ⟨g,73,none⟩=some (H)
 lt:g<w.heap.size
theorem zz2v{p:Prop}(h:p:=by
 constructor
 all_goals first|(rw[cell_of_row w g _ _ _ _ h.row];rfl)|exact h.lt):p:=h
theorem BkAt.cs(h:BkAt w g s L V H):BkCs w g s L V H:=by
 exact zz2v
theorem zz1e{p:Prop}(h:p:=by
 rw[cell_of_row w g _ _ _ _ h.row,cell_of_row w g _ _ _ _ h.row,cell_of_row w g _ _ _ _ h.row];rcases j with _|_|_|_|_|_|_|_|_|_|_|_|_|_|_|_|j
 all_goals first|exact⟨rfl,rfl,rfl⟩|omega):p:=h
theorem BkAt.unit(h:BkAt w g s L V H){j:Nat}(hj:j<16):w.cell? ⟨g,25+j*3,none⟩=some (.int .i64 (s.us j).v)/\w.cell? ⟨g,25+j*3+1,none⟩=some (.int .i64 (s.us j).q)/\w.cell? ⟨g,25+j*3+2,none⟩=some (.bool (s.us j).d):=by
 exact zz1e
theorem BkAt.fz(h:BkAt w g s L V H)(i:Nat):w.frozen? ⟨g,i,none⟩=false:=frozen_of_row _ _ _ _ _ h.row
theorem BkAt.set(h:BkAt w g s L V H)(k:Nat)(v:Value){s':Bk.St}{L' V' H':Value}(he:(Bk.cells s L V H).setIfInBounds k v=Bk.cells s' L' V' H'):BkAt (w.setCell ⟨g,k,none⟩ v) g s' L' V' H':=⟨by rw[<-he];exact heap_setCell_same w g k _ _ _ h.row⟩
theorem BkAt.ep(h:BkAt w g s L V H)(x:Int):BkAt (w.setCell ⟨g,3,none⟩ (.int .i64 x)) g {s with ep:=x} L V H:=h.set 3 _ rfl
theorem BkAt.who(h:BkAt w g s L V H)(x:Int):BkAt (w.setCell ⟨g,4,none⟩ (.int .i64 x)) g {s with who:=x} L V H:=h.set 4 _ rfl
theorem BkAt.till(h:BkAt w g s L V H)(x:Int):BkAt (w.setCell ⟨g,5,none⟩ (.int .i64 x)) g {s with till:=x} L V H:=h.set 5 _ rfl
theorem BkAt.stable(h:BkAt w g s L V H)(x:Int):BkAt (w.setCell ⟨g,6,none⟩ (.int .i64 x)) g {s with stable:=x} L V H:=h.set 6 _ rfl
theorem BkAt.frm(h:BkAt w g s L V H)(x:Int):BkAt (w.setCell ⟨g,7,none⟩ (.int .i64 x)) g {s with from_:=x} L V H:=h.set 7 _ rfl
theorem BkAt.ph(h:BkAt w g s L V H)(x:Int):BkAt (w.setCell ⟨g,8,none⟩ (.int .i64 x)) g {s with ph:=x} L V H:=h.set 8 _ rfl
theorem BkAt.step(h:BkAt w g s L V H)(x:Int):BkAt (w.setCell ⟨g,9,none⟩ (.int .i64 x)) g {s with step:=x} L V H:=h.set 9 _ rfl
theorem BkAt.since(h:BkAt w g s L V H)(x:Int):BkAt (w.setCell ⟨g,10,none⟩ (.int .i64 x)) g {s with since:=x} L V H:=h.set 10 _ rfl
theorem BkAt.begun(h:BkAt w g s L V H)(x:Int):BkAt (w.setCell ⟨g,11,none⟩ (.int .i64 x)) g {s with begun:=x} L V H:=h.set 11 _ rfl
theorem BkAt.seq(h:BkAt w g s L V H)(x:Int):BkAt (w.setCell ⟨g,12,none⟩ (.int .i64 x)) g {s with seq:=x} L V H:=h.set 12 _ rfl
theorem BkAt.ls(h:BkAt w g s L V H)(L':Value):BkAt (w.setCell ⟨g,1,none⟩ L') g s L' V H:=h.set 1 _ rfl
theorem BkAt.mg(h:BkAt w g s L V H)(x:Int):BkAt (w.setCell ⟨g,0,none⟩ (.int .i64 x)) g {s with m:=x} L V H:=h.set 0 _ rfl
theorem BkAt.sp_v(h:BkAt w g s L V H)(x:Int):BkAt (w.setCell ⟨g,13,none⟩ (.int .i64 x)) g {s with sp:={s.sp with v:=x}} L V H:=h.set 13 _ rfl
theorem BkAt.sp_d(h:BkAt w g s L V H)(x:Int):BkAt (w.setCell ⟨g,14,none⟩ (.int .i64 x)) g {s with sp:={s.sp with d:=x}} L V H:=h.set 14 _ rfl
theorem BkAt.sp_u(h:BkAt w g s L V H)(x:Int):BkAt (w.setCell ⟨g,15,none⟩ (.int .i64 x)) g {s with sp:={s.sp with u:=x}} L V H:=h.set 15 _ rfl
theorem BkAt.sp_n(h:BkAt w g s L V H)(x:Int):BkAt (w.setCell ⟨g,16,none⟩ (.int .i64 x)) g {s with sp:={s.sp with n:=x}} L V H:=h.set 16 _ rfl
theorem BkAt.sp_g(h:BkAt w g s L V H)(x:Int):BkAt (w.setCell ⟨g,17,none⟩ (.int .i64 x)) g {s with sp:={s.sp with g:=x}} L V H:=h.set 17 _ rfl
theorem BkAt.sp_a(h:BkAt w g s L V H)(x:Int):BkAt (w.setCell ⟨g,18,none⟩ (.int .i64 x)) g {s with sp:={s.sp with a:=x}} L V H:=h.set 18 _ rfl
theorem BkAt.sp_b(h:BkAt w g s L V H)(x:Int):BkAt (w.setCell ⟨g,19,none⟩ (.int .i64 x)) g {s with sp:={s.sp with b:=x}} L V H:=h.set 19 _ rfl
theorem BkAt.sp_c(h:BkAt w g s L V H)(x:Int):BkAt (w.setCell ⟨g,20,none⟩ (.int .i64 x)) g {s with sp:={s.sp with c:=x}} L V H:=h.set 20 _ rfl
theorem BkAt.sp_e(h:BkAt w g s L V H)(x:Int):BkAt (w.setCell ⟨g,21,none⟩ (.int .i64 x)) g {s with sp:={s.sp with e:=x}} L V H:=h.set 21 _ rfl
theorem BkAt.sp_w(h:BkAt w g s L V H)(x:Int):BkAt (w.setCell ⟨g,22,none⟩ (.int .i64 x)) g {s with sp:={s.sp with w:=x}} L V H:=h.set 22 _ rfl
theorem BkAt.sp_x(h:BkAt w g s L V H)(x:Int):BkAt (w.setCell ⟨g,23,none⟩ (.int .i64 x)) g {s with sp:={s.sp with x:=x}} L V H:=h.set 23 _ rfl
theorem BkAt.sp_k(h:BkAt w g s L V H)(x:Int):BkAt (w.setCell ⟨g,24,none⟩ (.int .i64 x)) g {s with sp:={s.sp with k:=x}} L V H:=h.set 24 _ rfl
def jd1(w:World)(g:Nat)(t:Spc.Sp):World:=((((((((((((w.setCell ⟨g,13,none⟩ (.int .i64 t.v)).setCell ⟨g,14,none⟩ (.int .i64 t.d)).setCell ⟨g,15,none⟩ (.int .i64 t.u)).setCell ⟨g,16,none⟩ (.int .i64 t.n)).setCell ⟨g,17,none⟩ (.int .i64 t.g)).setCell ⟨g,18,none⟩ (.int .i64 t.a)).setCell ⟨g,19,none⟩ (.int .i64 t.b)).setCell ⟨g,20,none⟩ (.int .i64 t.c)).setCell ⟨g,21,none⟩ (.int .i64 t.e)).setCell ⟨g,22,none⟩ (.int .i64 t.w)).setCell ⟨g,23,none⟩ (.int .i64 t.x)).setCell ⟨g,24,none⟩ (.int .i64 t.k))
theorem BkAt.spec(h:BkAt w g s L V H)(t:Spc.Sp):BkAt (jd1 w g t) g {s with sp:=t} L V H:=(((((((((((h.sp_v t.v).sp_d t.d).sp_u t.u).sp_n t.n).sp_g t.g).sp_a t.a).sp_b t.b).sp_c t.c).sp_e t.e).sp_w t.w).sp_x t.x).sp_k t.k
theorem zz2g{p:Prop}(h:p:=by
 refine h.set _ _ ?_;rcases j with _|_|_|_|_|_|_|_|_|_|_|_|_|_|_|_|j
 all_goals first|rfl|omega):p:=h
theorem BkAt.unitV(h:BkAt w g s L V H){j:Nat}(hj:j<16)(x:Int):BkAt (w.setCell ⟨g,25+j*3,none⟩ (.int .i64 x)) g {s with us:=Bk.setU s.us j {s.us j with v:=x}} L V H:=by
 exact zz2g
theorem BkAt.unitQ(h:BkAt w g s L V H){j:Nat}(hj:j<16)(x:Int):BkAt (w.setCell ⟨g,25+j*3+1,none⟩ (.int .i64 x)) g {s with us:=Bk.setU s.us j {s.us j with q:=x}} L V H:=by
 exact zz2g
theorem BkAt.unitD(h:BkAt w g s L V H){j:Nat}(hj:j<16)(x:Bool):BkAt (w.setCell ⟨g,25+j*3+2,none⟩ (.bool x)) g {s with us:=Bk.setU s.us j {s.us j with d:=x}} L V H:=by
 exact zz2g
end
theorem jej:Tryz.prog.underlying 38=some (.struct (Tryz.prog.fieldsOf 38)):=by kernel_rfl
theorem je1(s:Bk.St)(L V H:Value):(Tryz.prog.info? 38).map (·.size)=some (Bk.cells s L V H).size:=by kernel_rfl
theorem jbo:∀w,(zeroValue 38).run Tryz.prog w= .ok (.agg Bk.zeros) w:=(zero_of_info (n:=74) zk).1
theorem jf7:(Tryz.prog.info? 98).map (fun i=>(i.zero,i.size,i.bytes))=some (some (.agg #[.int .i64 0,.string ⟨#[]⟩]),2,24):=by kernel_rfl
theorem joi:(Tryz.prog.info? 157).map (fun i=>(i.zero,i.size,i.bytes))=some (some (.agg #[.string ⟨#[]⟩,.int .i64 0,.int .i64 0,.int .i64 0,.bool false]),5,48):=by kernel_rfl
theorem jbp:(Tryz.prog.info? 60).map (fun i=>(i.zero,i.size,i.bytes))=some (some (.agg #[.int .i64 0,.int .i64 0,.int .i64 0,.int .i64 0,.int .i64 0,.string ⟨#[]⟩,.int .i64 0,.int .i64 0,.int .i64 0,.int .i64 0,.int .i64 0,.int .i64 0,.int .i64 0,.int .i64 0,.int .i64 0,.int .i64 0,.int .i64 0,.int .i64 0]),18,152):=by kernel_rfl
theorem Bk.one_cell{s:Bk.St}{L V H:Value}(hL:L.oneCell'=true)(hV:V.oneCell'=true)(hH:H.oneCell'=true):(Bk.cells s L V H).all (·.oneCell')=true:=by
 simp[Bk.cells,hL,hV,hH];simp[Value.oneCell']
theorem BkRd.one{w:World}{s:Bk.St}{L V H:Value}(h:BkRd w s L V H):(Bk.cells s L V H).all (·.oneCell')=true:=by
 obtain⟨⟨A1,c1,rfl,_⟩,⟨A2,c2,rfl,_⟩,⟨A3,c3,rfl,_⟩⟩:=h;exact Bk.one_cell rfl rfl rfl
def BkPost(W:World)(s:Bk.St)(e:Ending)(w':World):Prop:=∃L V H,e= .returned (.agg (Bk.cells s L V H))/\BkRd w' s L V H/\Below W.heap.size W w'
def i64P(n:Int):Prop:= -9223372036854775808<=n/\n<=9223372036854775807
def jfi(w:World)(a:Value)(b:Value)(e:Ending)(w':World):Prop:=e= .returned (.tuple #[a,b])/\Below w.heap.size w w'
def jba(w:World)(a:Value)(e:Ending)(w':World):Prop:=e= .returned a/\Below w.heap.size w w'
theorem zz1y{p:Prop}(h:p:=by
 have q1:(p==1)=false:=by rw[beq_eq_false_iff_ne];rintro rfl;revert hd;decide
 clear hd;go_in;go_wp2;go_ret2;exact⟨rfl,rfl⟩):p:=h
theorem zz1z{p:Prop}(h:p:=by
 have q2:(p==2)=false:=by rw[beq_eq_false_iff_ne];rintro rfl;revert hd;decide
 clear hd;go_in;go_wp2;go_ret2;exact⟨rfl,rfl⟩):p:=h
theorem jbd(p e:Int)(w:World):Calls Tryz.prog 42 #[.int .i64 p,.int .i64 e] w fun x w'=>x= .returned (.tuple #[.int .i64 (Ph.next p e),.bool (Ph.did p e)])/\w'=w:=by
 by_cases hd:Ph.to_ p e= -1
 ·rw[(Ph.next_no hd).1,(Ph.next_no hd).2]
  by_cases he:0<=e/\e<=8
  ·have hk:e=0\/e=1\/e=2\/e=3\/e=4\/e=5\/e=6\/e=7\/e=8:=by omega
   clear he;rcases hk with rfl|rfl|rfl|rfl|rfl|rfl|rfl|rfl|rfl
   ·have q0:(p==0)=false:=by rw[beq_eq_false_iff_ne];rintro rfl;revert hd;decide
    have q3:(p==3)=false:=by rw[beq_eq_false_iff_ne];rintro rfl;revert hd;decide
    have q5:(p==5)=false:=by rw[beq_eq_false_iff_ne];rintro rfl;revert hd;decide
    clear hd;go_in;go_wp2;go_ret2;exact⟨rfl,rfl⟩
   ·exact zz1y
   ·exact zz1z
   ·exact zz1y
   ·exact zz1y
   ·exact zz1y
   ·have q1:(p==1)=false:=by rw[beq_eq_false_iff_ne];rintro rfl;revert hd;decide
    exact zz1z
   ·exact zz1y
   ·have q4:(p==4)=false:=by rw[beq_eq_false_iff_ne];rintro rfl;revert hd;decide
    clear hd;go_in;go_wp2;go_ret2;exact⟨rfl,rfl⟩
  ·have r0:(e==0)=false:=by rw[beq_eq_false_iff_ne];omega
   have r1:(e==1)=false:=by rw[beq_eq_false_iff_ne];omega
   have r2:(e==2)=false:=by rw[beq_eq_false_iff_ne];omega
   have r3:(e==3)=false:=by rw[beq_eq_false_iff_ne];omega
   have r4:(e==4)=false:=by rw[beq_eq_false_iff_ne];omega
   have r5:(e==5)=false:=by rw[beq_eq_false_iff_ne];omega
   have r6:(e==6)=false:=by rw[beq_eq_false_iff_ne];omega
   have r7:(e==7)=false:=by rw[beq_eq_false_iff_ne];omega
   have r8:(e==8)=false:=by rw[beq_eq_false_iff_ne];omega
   clear hd he;go_in;go_wp2;go_ret2;exact⟨rfl,rfl⟩
 ·have hp:=Ph.pairs hd
  clear hd;rcases hp with⟨rfl,rfl⟩|⟨rfl,rfl⟩|⟨rfl,rfl⟩|⟨rfl,rfl⟩|⟨rfl,rfl⟩|⟨rfl,rfl⟩|⟨rfl,rfl⟩|⟨rfl,rfl⟩|⟨rfl,rfl⟩|⟨rfl,rfl⟩|⟨rfl,rfl⟩|⟨rfl,rfl⟩
  all_goals
   go_in;go_wp2;go_ret2;exact⟨rfl,rfl⟩
structure LeAt(w:World)(b o:Nat)(l:Le):Prop where
 c0:w.cell? ⟨b,o,none⟩=some (.string Bk.lead)
 c1:w.cell? ⟨b,o+1,none⟩=some (.int .i64 l.who)
 c2:w.cell? ⟨b,o+2,none⟩=some (.int .i64 l.ep)
 c3:w.cell? ⟨b,o+3,none⟩=some (.int .i64 l.till)
 c4:w.cell? ⟨b,o+4,none⟩=some (.bool false)
 lt:b<w.heap.size
theorem LeAt.of{w:World}{A:Option Addr}{c:Nat}{l:Le}(h:SlF Bk.leC w A 1 c [l]):∃b o,A=some ⟨b,o,none⟩/\1<=c/\LeAt w b o l:=by
 obtain⟨b,o,h1,h2,h3⟩:=h.rd (by simp);refine⟨b,o,h1,h.cap,h3 0 _ rfl,h3 1 _ rfl,h3 2 _ rfl,h3 3 _ rfl,h3 4 _ rfl,h2⟩
theorem LeAt.on{w w':World}{b o:Nat}{l:Le}(h:LeAt w b o l)(hb:Below w.heap.size w w'):LeAt w' b o l:=
 ⟨(hb.cell (p:=⟨b,o,none⟩) h.lt).trans h.c0,(hb.cell (p:=⟨b,o+1,none⟩) h.lt).trans h.c1,(hb.cell (p:=⟨b,o+2,none⟩) h.lt).trans h.c2,(hb.cell (p:=⟨b,o+3,none⟩) h.lt).trans h.c3,(hb.cell (p:=⟨b,o+4,none⟩) h.lt).trans h.c4,Nat.lt_of_lt_of_le h.lt hb.size⟩
abbrev rlT(m:Int)(A:Option Addr)(n c:Nat):Value:= .agg #[.int .i64 m,.slice A n c]
theorem jf8:(Bk.lead.toList==Bk.lead.toList)=true:=by rw[beq_iff_eq]
theorem zz31{p:Prop}(h:p:=by
 unfold rlT;go_in;go_wp2_with fail;go_rounds 1;go_ret;exact⟨rfl,B.out⟩):p:=h
theorem jdk(m:Int)(b o c:Nat)(l:Le)(w:World)(h:LeAt w b o l)(hc:1<=c):Calls Tryz.prog 183 #[rlT m (some ⟨b,o,none⟩) 1 c,.string Bk.lead] w (jba w (.int .i64 0)):=by
 have B:=zh ((Below.refl w.heap.size w).alloc (Nat.le_refl _) (.cells #[.int .i64 m,.slice (some ⟨b,o,none⟩) 1 c] 29));obtain⟨h0,h1,h2,h3,h4,hlt⟩:=h;have hs:=jf8;generalize Bk.lead=ld at*;exact zz31
theorem joj(m:Int)(A:Option Addr)(c:Nat)(w:World)(ld:ByteArray):Calls Tryz.prog 183 #[rlT m A 0 c,.string ld] w (jba w (.int .i64 (-1))):=by
 have B:=zh ((Below.refl w.heap.size w).alloc (Nat.le_refl _) (.cells #[.int .i64 m,.slice A 0 c] 29));exact zz31
theorem jdl(a b:Int)(ha:0<=a/\a<=1099511627776)(hb:0<=b/\b<=1099511627776)(w:World):Calls Tryz.prog 184 #[.int .i64 a,.int .i64 b] w fun e w'=>e= .returned (.int .i64 (Bk.late a b))/\w'=w:=by
 have E:Hid (Bk.late a b=min (a+b) 1099511627776):=rfl;have hw:IntKind.i64.wrap (a+b)=a+b:=IntWalk.i64_in _ zv;go_in;go_wp2;go_ret;rw[E.out];exact⟨rfl,rfl⟩
theorem jml(n:Int)(hn:0<=n/\n<=1099511627776)(w:World):Calls Tryz.prog 228 #[.int .i64 n] w fun e w'=>e= .returned (.bool true)/\w'=w:=by
 obtain⟨h1,h2⟩:=hn;go_in;go_wp2;go_ret;exact⟨rfl,rfl⟩
theorem jbx(h n t:Int)(hh:0<=h/\h<=63)(hn:0<=n/\n<=1099511627776)(ht:1<=t/\t<=1048576)(w:World):Calls Tryz.prog 182 #[.string Bk.lead,.int .i64 h,.int .i64 n,.int .i64 t] w fun e w'=>e= .returned (.bool true)/\w'=w:=by
 have CT:=zh (fun W=>jml n hn W);obtain⟨h1,h2⟩:=hh;obtain⟨t1,t2⟩:=ht;have hz:Bk.lead.size=4:=rfl;generalize Bk.lead=ld at*;clear hn;go_in;go_wp2_with(go_at_call 228;(with_reducible refine(CT.out _).mono ?_);rintro e w1 ⟨rfl,rfl⟩);go_ret;exact⟨rfl,rfl⟩
theorem jok(m now:Int)(A:Option Addr)(c:Nat)(w:World):Calls Tryz.prog 186 #[rlT m A 0 c,.string Bk.lead,.int .i64 now] w (jba w (.bool true)):=by
 have B:=zh ((Below.refl w.heap.size w).alloc (Nat.le_refl _) (.cells #[.int .i64 m,.slice A 0 c] 29));have CA:=zh (fun W=>joj m A c W Bk.lead);unfold rlT at*;generalize Bk.lead=ld at*;go_in;go_wp2_with(go_at_call 183;(with_reducible refine(CA.out _).mono ?_);rintro e w1 ⟨rfl,hb⟩;have B1:=zh (B.out.trans (hb.mono B.out.size));clear hb);go_quiet (fail);go_wp2;go_ret;exact⟨rfl,jcg B1.out _⟩
theorem jhg(m now:Int)(b o c:Nat)(l:Le)(hm:0<=m/\m<=1048576)(ht:0<=l.till/\l.till<=1099511627776)(w:World)(h:LeAt w b o l)(hc:1<=c):Calls Tryz.prog 186 #[rlT m (some ⟨b,o,none⟩) 1 c,.string Bk.lead,.int .i64 now] w (jba w (.bool (decide (Bk.late l.till m<=now)))):=by
 have hb1:=(Below.refl w.heap.size w).alloc (Nat.le_refl _) (.cells #[.int .i64 m,.slice (some ⟨b,o,none⟩) 1 c] 29);have B:=zh hb1;have HA:=zh (h.on hb1);have ha:=HA.out;have CA:=zh (jdk m b o c l (w.alloc (.cells #[.int .i64 m,.slice (some ⟨b,o,none⟩) 1 c] 29)) ha hc);have CL:=zh (fun W=>jdl l.till m ht zv W);have hrow:(w.alloc (.cells #[.int .i64 m,.slice (some ⟨b,o,none⟩) 1 c] 29)).heap[w.heap.size]? =some (.cells #[.int .i64 m,.slice (some ⟨b,o,none⟩) 1 c] 29 (0,0)):=heap_alloc_new w _;have HR:=zh hrow;clear h hb1 ha hrow;unfold rlT at*;generalize Bk.lead=ld at*;generalize Bk.late l.till m=lt at*;go_in;go_upto_region 1 with fail
 obtain⟨g,hg⟩:∃g,g=w.heap.size:=⟨_,rfl⟩;rw[<-hg]at HR⊢;clear hg;generalize w.alloc (.cells #[.int .i64 m,.slice (some ⟨b,o,none⟩) 1 c] 29)=w1 at*;obtain⟨x0,x1,x2⟩:w1.cell? ⟨g,0,none⟩=some (.int .i64 m)/\w1.cell? ⟨g,1,none⟩=some (.slice (some ⟨b,o,none⟩) 1 c)/\g<w1.heap.size:=⟨by rw[cell_of_row w1 g 0 _ _ _ HR.out];rfl,by rw[cell_of_row w1 g 1 _ _ _ HR.out];rfl,(Array.getElem?_eq_some_iff.1 HR.out).1⟩;go_upto_region 2 with(go_at_call 183;(with_reducible refine CA.out.mono ?_);rintro e w2 ⟨rfl,hb⟩;have B1:=zh (B.out.trans (hb.mono B.out.size));have q0:=(hb.cell (p:=⟨g,0,none⟩) x2).trans x0;have q1:=(hb.cell (p:=⟨g,1,none⟩) x2).trans x1;obtain⟨h0,h1,h2,h3,h4,hlt⟩:=HA.out.on hb;clear hb x0 x1 x2)
 clear HA HR CA B;go_quiet ((go_at_call 184;exact Calls.quiet_of_same (CL.out _)));go_wp2;go_ret;exact⟨rfl,jcg B1.out _⟩
end Go.Proofs.YtpehidgjfcfjoaaGreatDoor
namespace Go.Proofs.YtpehidgjfcfjoaaGreatDoor
section
variable{P:Program}{ops:Array Oper}{Q:Exit->Act->World->Prop}{S:World->Prop}{fuel:Nat}{listed:Array Bool}{a:Act}{w:World}
theorem jj9(i:Nat){oi:Oper}{v:Value}(hi:ops.toList[i]? =some oi)
  (hk:(Region.noSelect ops&&(Region.free .any ops listed i&&(Region.ready .any ops listed).contains i))=true)
  (hQ:∀c a w,Q (.panic c) (a.put oi.dst v) w->Q (.panic c) a w) (hw:Region.wanted oi (yielded ops a.tmps)=true)
  (hy:∀w,S w->(execOp a.eval oi).run P w= .ok (.value v) w) (hS:S w)
  (h:wpAnyH P .any ops Q S fuel (listed.setIfInBounds i true) (a.put oi.dst v) w):wpAnyH P .any ops Q S (fuel+1) listed a w:=by
 simp only[Bool.and_eq_true]at hk;exact wpAnyH_take (by simpa using hi) hk.1 hk.2.1 hk.2.2 hQ (.inl ⟨hw,hy⟩) hS h
theorem tkNo(i:Nat){oi:Oper}(hi:ops.toList[i]? =some oi)
  (hk:(Region.noSelect ops&&(Region.free .any ops listed i&&(Region.ready .any ops listed).contains i))=true)
  (hQ:∀c a w,Q (.panic c) (a.put oi.dst undef) w->Q (.panic c) a w) (hw:Region.wanted oi (yielded ops a.tmps)=false) (hS:S w)
  (h:wpAnyH P .any ops Q S fuel (listed.setIfInBounds i true) (a.put oi.dst undef) w):wpAnyH P .any ops Q S (fuel+1) listed a w:=by
 simp only[Bool.and_eq_true]at hk;exact wpAnyH_take (by simpa using hi) hk.1 hk.2.1 hk.2.2 hQ (.inr ⟨hw,rfl⟩) hS h
theorem rnOne(i:Nat){oi:Oper}(hi:ops.toList[i]? =some oi)(hr:Region.ready .any ops listed=[i])(hw:Region.wanted oi (yielded ops a.tmps)=true)
  (h:∀K:Act->World->Prop,Shut (∀a w,S w->(S w->wpAnyH P .any ops Q S fuel (listed.setIfInBounds i true) a w)->K a w)->Oper.wp P oi a w K Q):
  wpAnyH P .any ops Q S (fuel+1) listed a w:=
 wpAnyH_ready hr (by simp) (AllReadyH.cons (o:=oi) (by simpa using hi) (fun K hK=>by rw[if_pos hw];exact h K hK) AllReadyH.nil)
theorem jf9(i j:Nat){oi oj:Oper}(hi:ops.toList[i]? =some oi)(hj:ops.toList[j]? =some oj)(hr:Region.ready .any ops listed=[i,j])
  (hw:Region.wanted oi (yielded ops a.tmps)=true) (hwj:Region.wanted oj (yielded ops a.tmps)=true)
  (h:∀K:Act->World->Prop,Shut (∀a w,S w->(S w->wpAnyH P .any ops Q S fuel (listed.setIfInBounds i true) a w)->K a w)->Oper.wp P oi a w K Q)
  (h2:∀K:Act->World->Prop,Shut (∀a w,S w->(S w->wpAnyH P .any ops Q S fuel (listed.setIfInBounds j true) a w)->K a w)->Oper.wp P oj a w K Q):
  wpAnyH P .any ops Q S (fuel+1) listed a w:=
 wpAnyH_ready hr (by simp) (AllReadyH.cons (o:=oi) (by simpa using hi) (fun K hK=>by rw[if_pos hw];exact h K hK) (AllReadyH.cons (o:=oj) (by simpa using hj) (fun K hK=>by rw[if_pos hwj];exact h2 K hK) AllReadyH.nil))
theorem tZ(i:Nat){oi:Oper}{v:Value}(hi:ops.toList[i]? =some oi)(hy:∀w,S w->(execOp a.eval oi).run P w= .ok (.value v) w)(hS:S w)(h:wpAnyH P .any ops Q S fuel (listed.setIfInBounds i true) (a.put oi.dst v) w)(hk:(Region.noSelect ops&&(Region.free .any ops listed i&&(Region.ready .any ops listed).contains i))=true:=by kernel_rfl)(hQ:∀c a w,Q (.panic c) (a.put oi.dst v) w->Q (.panic c) a w:=by exact fun _ _ _ h=>h)(hw:Region.wanted oi (yielded ops a.tmps)=true:=by rfl):wpAnyH P .any ops Q S (fuel+1) listed a w:=jj9 i hi hk hQ hw hy hS h
theorem tY(i:Nat){oi:Oper}{v:Value}(hS:S w)(h:wpAnyH P .any ops Q S fuel (listed.setIfInBounds i true) (a.put oi.dst v) w)(hi:ops.toList[i]? =some oi:=by rfl)(hk:(Region.noSelect ops&&(Region.free .any ops listed i&&(Region.ready .any ops listed).contains i))=true:=by kernel_rfl)(hy:∀w,S w->(execOp a.eval oi).run P w= .ok (.value v) w:=by intro W hW;go_simp;(try with_reducible rfl))(hQ:∀c a w,Q (.panic c) (a.put oi.dst v) w->Q (.panic c) a w:=by exact fun _ _ _ h=>h)(hw:Region.wanted oi (yielded ops a.tmps)=true:=by rfl):wpAnyH P .any ops Q S (fuel+1) listed a w:=jj9 i hi hk hQ hw hy hS h
theorem tN(i:Nat){oi:Oper}(hS:S w)(h:wpAnyH P .any ops Q S fuel (listed.setIfInBounds i true) (a.put oi.dst undef) w)(hi:ops.toList[i]? =some oi:=by rfl)(hk:(Region.noSelect ops&&(Region.free .any ops listed i&&(Region.ready .any ops listed).contains i))=true:=by kernel_rfl)(hQ:∀c a w,Q (.panic c) (a.put oi.dst undef) w->Q (.panic c) a w:=by exact fun _ _ _ h=>h)(hw:Region.wanted oi (yielded ops a.tmps)=false:=by rfl):wpAnyH P .any ops Q S (fuel+1) listed a w:=tkNo i hi hk hQ hw hS h
theorem rO(i:Nat){oi:Oper}(h:∀K:Act->World->Prop,Shut (∀a w,S w->(S w->wpAnyH P .any ops Q S fuel (listed.setIfInBounds i true) a w)->K a w)->Oper.wp P oi a w K Q)(hi:ops.toList[i]? =some oi:=by rfl)(hr:Region.ready .any ops listed=[i]:=by kernel_rfl)(hw:Region.wanted oi (yielded ops a.tmps)=true:=by rfl):wpAnyH P .any ops Q S (fuel+1) listed a w:=rnOne i hi hr hw h
end
end Go.Proofs.YtpehidgjfcfjoaaGreatDoor
