import Derived.Test.YtkinlcfhojjalaaGreatDoorQz05
import Derived.Deep.Slices
import Derived.Handy
import Derived.BigRegion
import Derived.Deep.Cut
import Derived.Deep.DeepCutAuto
import Derived.Deep.RegionHeld3
import Derived.Laws.Cover1
set_option maxHeartbeats 6400000
set_option maxRecDepth 100000
set_option linter.all false
namespace Go.Proofs.YtkinlcfhojjalaaGreatDoor
open Go.RowKit
def Rc.cells(r:Rc.R):Array Value:=#[.int .i64 r.kind,.int .i64 r.epoch,.int .i64 r.who,.int .i64 r.n,.int .i64 r.seq,.string r.text,.int .i64 r.sp.v,.int .i64 r.sp.d,.int .i64 r.sp.u,.int .i64 r.sp.n,.int .i64 r.sp.g,.int .i64 r.sp.a,.int .i64 r.sp.b,.int .i64 r.sp.c,.int .i64 r.sp.e,.int .i64 r.sp.w,.int .i64 r.sp.x,.int .i64 r.sp.k]
def Rc.val(r:Rc.R):Value:= .agg (Rc.cells r)
structure RcAt(w:World)(g:Nat)(r:Rc.R):Prop where
 row:w.heap[g]? =some (.cells (Rc.cells r) 56 (0,0))
theorem RcAt.new(w:World)(r:Rc.R):RcAt (w.alloc (.cells (Rc.cells r) 56)) w.heap.size r:=⟨heap_alloc_new w _⟩
theorem RcAt.on{w w':World}{g:Nat}{r:Rc.R}(h:RcAt w g r)(hb:zF w w'):RcAt w' g r:=⟨(hb.block g (zg h.row).1).trans h.row⟩
structure RcCs(w:World)(g:Nat)(r:Rc.R):Prop where
 c0:w.cell? ⟨g,0,none⟩=some (.int .i64 r.kind)
 c1:w.cell? ⟨g,1,none⟩=some (.int .i64 r.epoch)
 c2:w.cell? ⟨g,2,none⟩=some (.int .i64 r.who)
 c3:w.cell? ⟨g,3,none⟩=some (.int .i64 r.n)
 c4:w.cell? ⟨g,4,none⟩=some (.int .i64 r.seq)
 c5:w.cell? ⟨g,5,none⟩=some (.string r.text)
 c6:w.cell? ⟨g,6,none⟩=some (.int .i64 r.sp.v)
 c7:w.cell? ⟨g,7,none⟩=some (.int .i64 r.sp.d)
 c8:w.cell? ⟨g,8,none⟩=some (.int .i64 r.sp.u)
 c9:w.cell? ⟨g,9,none⟩=some (.int .i64 r.sp.n)
 c10:w.cell? ⟨g,10,none⟩=some (.int .i64 r.sp.g)
 c11:w.cell? ⟨g,11,none⟩=some (.int .i64 r.sp.a)
 c12:w.cell? ⟨g,12,none⟩=some (.int .i64 r.sp.b)
 c13:w.cell? ⟨g,13,none⟩=some (.int .i64 r.sp.c)
 c14:w.cell? ⟨g,14,none⟩=some (.int .i64 r.sp.e)
 c15:w.cell? ⟨g,15,none⟩=some (.int .i64 r.sp.w)
 c16:w.cell? ⟨g,16,none⟩=some (.int .i64 r.sp.x)
 c17:w.cell? ⟨g,17,none⟩=some (.int .i64 r.sp.k)
 lt:g<w.heap.size
theorem RcAt.cs{w:World}{g:Nat}{r:Rc.R}(h:RcAt w g r):RcCs w g r:=
 ⟨by rw[cell_of_row w g 0 _ _ _ h.row];rfl,by rw[cell_of_row w g 1 _ _ _ h.row];rfl,by rw[cell_of_row w g 2 _ _ _ h.row];rfl,by rw[cell_of_row w g 3 _ _ _ h.row];rfl,by rw[cell_of_row w g 4 _ _ _ h.row];rfl,by rw[cell_of_row w g 5 _ _ _ h.row];rfl,
  by rw[cell_of_row w g 6 _ _ _ h.row];rfl,by rw[cell_of_row w g 7 _ _ _ h.row];rfl,by rw[cell_of_row w g 8 _ _ _ h.row];rfl,by rw[cell_of_row w g 9 _ _ _ h.row];rfl,by rw[cell_of_row w g 10 _ _ _ h.row];rfl,by rw[cell_of_row w g 11 _ _ _ h.row];rfl,
  by rw[cell_of_row w g 12 _ _ _ h.row];rfl,by rw[cell_of_row w g 13 _ _ _ h.row];rfl,by rw[cell_of_row w g 14 _ _ _ h.row];rfl,by rw[cell_of_row w g 15 _ _ _ h.row];rfl,by rw[cell_of_row w g 16 _ _ _ h.row];rfl,by rw[cell_of_row w g 17 _ _ _ h.row];rfl,(zg h.row).1⟩
def Rc.same(r s:Rc.R):Bool:=(r.kind==s.kind)&&((r.epoch==s.epoch)&&((r.who==s.who)&&((r.n==s.n)&&((r.seq==s.seq)&&((r.text.toList==s.text.toList)&&(Spc.same r.sp s.sp&&true))))))
theorem zz1n{p:Prop}(h:p:=by
 rw[beq_iff_eq];constructor
 ·intro h
  rw[ByteArray.toList_eq,ByteArray.toList_eq]at h;exact ByteArray.ext (Array.ext' h)
 ·rintro rfl;rfl):p:=h
theorem jev{a b:ByteArray}:(a.toList==b.toList)=true↔a=b:=by
 exact zz1n
theorem Rc.same_iff{r s:Rc.R}:Rc.same r s=true↔r=s:=by
 unfold Rc.same;simp only[Bool.and_eq_true,beq_iff_eq,and_true,Spc.same_iff];constructor
 ·rintro⟨h1,h2,h3,h4,h5,h6,h7⟩
  have ht:r.text=s.text:=jev.1 (beq_iff_eq.2 h6);clear h6;exact Rc.ext (by unfold Rc.nums;rw[h1,h2,h3,h4,h5]) ht h7
 ·rintro rfl
  simp
theorem jag:Tryz.prog.underlying 56=some (.struct (Tryz.prog.fieldsOf 56)):=by kernel_rfl
theorem jpy:Tryz.prog.stoodInHeld 56=false:=by kernel_rfl
theorem jpz:Tryz.prog.eqGuardType Tryz.prog.depth 56=false:=by kernel_rfl
theorem jub(r s:Rc.R)(W:World):(Op.equalIn 10000 56 (Rc.val r) (Rc.val s)).run Tryz.prog W= .ok (Rc.same r s) W:=by
 unfold Rc.val;rw[run_equalIn_agg W 9999 56 _ _ jag jpy];have hi:∀x y,(Op.equalIn 9999 3 (.int .i64 x) (.int .i64 y)).run Tryz.prog W= .ok (x==y) W:=fun x y=>run_equalIn_int W 9998 3 .i64 .i64 x y Tryz.underlying3;have ht:∀x y,(Op.equalIn 9999 9 (.string x) (.string y)).run Tryz.prog W= .ok (x.toList==y.toList) W:=fun x y=>run_equalIn_string W 9998 9 x y Tryz.underlying9;have hs:=jeu r.sp s.sp 9996 W;simp only[Program.fieldsOf,Tryz.underlying56,Rc.cells];unfold Rc.same;unfold Spc.val Spc.cells at hs;refine jai (by decide) ?_ ?_ (hi _ _) (jai (by decide) ?_ ?_ (hi _ _) (jai (by decide) ?_ ?_ (hi _ _) (jai (by decide) ?_ ?_ (hi _ _) (jai (by decide) ?_ ?_ (hi _ _) (jai (by decide) ?_ ?_ (ht _ _) (jai (by decide) ?_ ?_ hs jgk))))))
 all_goals simp[go_sem,Sem.run_bind,Result.andThen]
theorem rec_neq(r s:Rc.R)(W:World):(binOp .neq 56 (Rc.val r) (Rc.val s)).run Tryz.prog W= .ok (.bool (!Rc.same r s)) W:=by
 have h:=jub r s W;unfold Rc.val at*;rw[run_neq_struct,h];rfl
theorem zR{ops:Array Oper}{rest:List Oper}{op:Oper}{a:Act}{w:World}{Q:Exit->Act->World->Prop}{g:Nat}{r:Rc.R}(x:Operand)(hg:RcAt w g r)(h:wpList Tryz.prog ops Q rest (a.put op.dst (.agg (Rc.cells r))) w)(hgd:op.guard=none:=by rfl)(ho:op.op= .load 56 x:=by rfl)(hx:a.eval x= .pointer (some ⟨g,0,none⟩):=by rfl):wpList Tryz.prog ops Q (op::rest) a w:=wpList_load_row hgd 56 x ho g hx 56 _ (0,0) _ hg.row jag rfl zk h
open Go.Deep
structure SlR{T:Type}(K:Nat)(E:World->List Value->T->Prop)(w:World)(A:Option Addr)(n c:Nat)(ts:List T):Prop where
 rd:∀j t,ts[j]? =some t->∃b o cs,A=some ⟨b,o,none⟩/\b<w.heap.size/\cs.length=K/\(∀i,i<K->w.cell? ⟨b,o+j*K+i,none⟩=cs[i]?)/\E w cs t
 len:n=ts.length
 cap:n<=c
 max:c<=maxLen
 nil:A=none->c=0
section
variable{T:Type}{K:Nat}{E:World->List Value->T->Prop}
theorem SlR.none_(w:World):SlR K E w none 0 0 []:=⟨by simp,rfl,zl,Nat.zero_le _,fun _=>rfl⟩
theorem SlR.on(hE:∀w w' cs t,zF w w'->E w cs t->E w' cs t){w w':World}{A:Option Addr}{n c:Nat}{ts:List T}(h:SlR K E w A n c ts)(hb:zF w w'):SlR K E w' A n c ts:=
 ⟨fun j t hj=>by
  obtain⟨b,o,cs,h1,h2,h3,h4,h5⟩:=h.rd j t hj;exact⟨b,o,cs,h1,Nat.lt_of_lt_of_le h2 hb.size,h3,fun i hi=>(hb.cell (p:=⟨b,o+j*K+i,none⟩) h2).trans (h4 i hi),hE _ _ _ _ hb h5⟩,h.len,h.cap,h.max,h.nil⟩
theorem list_of{n:Nat}{p:Nat->T->Prop}(h:∀i,i<n->∃x,p i x):∃ts:List T,ts.length=n/\∀j t,ts[j]? =some t->p j t:=by
 induction n with
 |zero=>exact⟨[],rfl,by simp⟩
 |succ n ih=>
  obtain⟨ts,h1,h2⟩:=ih fun i hi=>h i zv;obtain⟨x,hx⟩:=h n zv;refine⟨ts++[x],by simp[h1],fun j t hj=> ?_⟩;rcases Nat.lt_or_ge j ts.length with hlt|hge
  ·rw[List.getElem?_append_left hlt]at hj;exact h2 j t hj
  ·have hjl:j<(ts++[x]).length:=(List.getElem?_eq_some_iff.1 hj).1
   rw[zA,List.length_singleton]at hjl;obtain rfl:j=n:=by omega
   rw[List.getElem?_append_right hge,show j -ts.length=0 from by omega]at hj;simp at hj;subst hj;exact hx
theorem slr_of{H:Type}{enc:TypeId×Value->H}{P:Program}{w:World}{held:Bool}{t e:TypeId}{fuel:Nat}{A:Option Addr}{n c:Nat}{x:DataW H×List MemPlace}(ht:P.underlying t=some (.slice e))(hK:P.cellsOf e=K)(hK0:0<K)
  (hE:∀f cs y,DataW.trod enc P w 0 (fun _=>true) held f e cs=some y->cs.length=K->∃t,E w cs t) (h:DataW.trod enc P w 0 (fun _=>true) held fuel t [.slice A n c]=some x):∃ts,SlR K E w A n c ts:=by
 rcases open_slice ht h with⟨h1,_⟩|⟨a,len,cap,m,f,D,Pl,h1,_,hl,hm,hmm,_,hi⟩
 ·simp only[List.cons.injEq,Value.slice.injEq,and_true]at h1
  obtain⟨rfl,rfl,rfl⟩:=h1;exact⟨[],SlR.none_ w⟩
 ·simp only[List.cons.injEq,Value.slice.injEq,and_true]at h1
  obtain⟨rfl,rfl,rfl⟩:=h1;simp only[if_true]at hmm;rw[hK]at hi;have each:∀i,i<n->∃y:List Value×T,y.1.length=K/\(∀k,k<K->w.cell? ((a.add (i*K)).add k)=y.1[k]?)/\E w y.1 y.2:=by
   intro i hin;obtain⟨cs,hc,ht'⟩:=hi i zv;obtain⟨_,hcl,hat⟩:=World.cells?_some hc;obtain⟨y,hy⟩:=hE _ _ _ ht' hcl;exact⟨(cs,y),hcl,hat,hy⟩
  obtain⟨ys,hyl,hys⟩:=list_of each;refine⟨ys.map (·.2),fun j t hj=> ?_,by simp[hyl],hl,hm,fun h=>by cases h⟩;rw[List.getElem?_map]at hj;obtain⟨y,hy,rfl⟩:=Option.map_eq_some_iff.1 hj;obtain⟨h2,h3,h4⟩:=hys j y hy;obtain⟨b,o,spot⟩:=a;have hk0:=h3 0 hK0;rw[List.getElem?_eq_getElem zv]at hk0;have hspot:spot=none:=by
   have hyj:j<ys.length:=(List.getElem?_eq_some_iff.1 hy).1;obtain⟨q2,q3,_⟩:=hys 0 _ (List.getElem?_eq_getElem (show 0<ys.length by omega));have q0:=q3 0 hK0;rw[List.getElem?_eq_getElem zv]at q0;simpa[Addr.add]using World.cell?_spot q0
  subst hspot;have hadd:∀k,((⟨b,o,none⟩:Addr).add (j*K)).add k=⟨b,o+j*K+k,none⟩:=by
   intro k;rw[add_add];unfold Addr.add;split
   ·rename_i h0
    congr 1
    omega
   ·simp[Nat.add_assoc]
  refine⟨b,o,y.1,rfl,?_,h2,fun k hk=>by rw[<-hadd];exact h3 k hk,h4⟩;have:=block_lt_of_cell hk0;rw[hadd]at this;exact this
def OwnR(K:Nat)(E:World->List Value->T->Prop)(e:TypeId)(w0 w:World)(B:Nat)(v:Value)(ts:List T):Prop:=
 ∃xs,w.ownsRow B e K v ts.length xs/\∀j t,ts[j]? =some t->∃cs,cs.length=K/\(∀i,i<K->xs[j*K+i]? =cs[i]?)/\E w0 cs t
theorem OwnR.none_(e:TypeId)(w0 w:World)(B:Nat):OwnR K E e w0 w B (.slice none 0 0) []:=⟨[],World.ownsRow_nil _ _ _ _,by simp⟩
theorem OwnR.below{e:TypeId}{w0 w w':World}{B:Nat}{v:Value}{ts:List T}(h:OwnR K E e w0 w B v ts)(hb:zF w w'):OwnR K E e w0 w' B v ts:=by
 obtain⟨xs,h1,h2⟩:=h;exact⟨xs,jb5 h1 hb,h2⟩
theorem OwnR.kept{e:TypeId}{w0 w w':World}{B g:Nat}{v:Value}{ts:List T}(h:OwnR K E e w0 w B v ts)(hg:w.grownBy w' (some g))(hv:v.ownBlock≠some g):OwnR K E e w0 w' B v ts:=by
 obtain⟨xs,h1,h2⟩:=h;exact⟨xs,h1.kept hg (.inr hv),h2⟩
theorem OwnR.lt{e:TypeId}{w0 w:World}{B:Nat}{v:Value}{ts:List T}(h:OwnR K E e w0 w B v ts):∀k,v.ownBlock=some k->B<=k/\k<w.heap.size:=by
 obtain⟨xs,h1,_⟩:=h;exact h1.lt
theorem OwnR.slr{e:TypeId}{w0 w:World}{B:Nat}{v:Value}{ts:List T}(hE:∀w w' cs t,zF w w'->E w cs t->E w' cs t)(h:OwnR K E e w0 w B v ts)(hb:zF w0 w):∃A c,v= .slice A ts.length c/\SlR K E w A ts.length c ts:=by
 obtain⟨xs,h1,h2⟩:=h;rcases h1.2 with⟨rfl,h0⟩|⟨g,cap,cur,rfl,_,hg,hl,hm,hs,_⟩
 ·obtain rfl:ts=[]:=List.eq_nil_of_length_eq_zero h0
  exact⟨none,0,rfl,SlR.none_ w⟩
 ·refine⟨_,cap,rfl,fun j t hj=> ?_,rfl,hl,hm,fun h=>by cases h⟩
  obtain⟨cs,h3,h4,h5⟩:=h2 j t hj;have hjl:j<ts.length:=(List.getElem?_eq_some_iff.1 hj).1;refine⟨g,0,cs,rfl,(zg hg).1,h3,fun i hi=> ?_,hE _ _ _ _ hb h5⟩;have:j*K+i<ts.length*K:=by
   have:=Nat.mul_le_mul_right K (show j+1<=ts.length by omega);rw[Nat.succ_mul]at this;omega
  rw[Nat.zero_add,h1.cellAt _ this,h4 i hi]
theorem jew{P:Program}{e sl:TypeId}{i0:TypeInfo}{z:Value}{by_:Nat}(hsl:P.underlying sl=some (.slice e))(hi0:P.info? e=some i0)(hz0:i0.zero=some z)(hz1:i0.size=K)(hz2:i0.bytes=by_)(hzs:z.cells.size=K)(hK0:0<K)
  {w0 w:World} {ops:Array Oper} {rest:List Oper} {op:Oper} {a:Act} {Q:Exit->Act->World->Prop} (hgd:op.guard=none) (s x:Operand)
  (ho:op.op= .call {callee:= .builtin .append,args:=#[s,x],argTypes:=#[sl,sl]})
  (base:Nat) (v:Value) (ts:List T) (hs:a.eval s=v) (hown:OwnR K E e w0 w base v ts) (cs:List Value) (t:T) (hcl:cs.length=K) (h1c:∀u∈cs,u.oneCell'=true) (hE:E w0 cs t) (hx:a.eval x= .slice (some ⟨w.heap.size,0,none⟩) 1 1)
  (hlen:ts.length+1<=maxLen) (hbytes:(ts.length+1)*by_<=140737488355328) (hB:base<=w.heap.size)
  (h:∀v' w',OwnR K E e w0 w' base v' (ts++[t])->Below base w w'->w.grownBy w' v.ownBlock->wpList P ops Q rest (a.put op.dst v') w'):wpList P ops Q (op::rest) a (w.alloc (.cells cs.toArray e)):=by
 obtain⟨xs,ho1,hf⟩:=hown;refine wpList_append_own _ hgd s x sl ho base e i0 z K by_ hsl hi0 hz0 hz1 hz2 hzs hK0 v ts.length xs hs (ho1.alloc _) ⟨w.heap.size,0,none⟩ 1 1 cs hx zv ?_ h1c hlen hbytes (by simp;omega) ?_
 ·intro j u hu
  have:((⟨w.heap.size,0,none⟩:Addr).add j)=⟨w.heap.size,j,none⟩:=by unfold Addr.add;split<;>simp_all
  rw[this,World.cell?_alloc_at _ _ _ _ rfl,List.getElem?_toArray];exact hu
 ·intro v' w' h1 h2 _
  have hg:w.grownBy w' v.ownBlock:=jam (World.grownBy_alloc w _ _) h2;refine h v' w' ⟨xs++cs,by rw[zA];exact h1,fun j t' hj=> ?_⟩ ((Below.refl base w).grown hg hB (ja2 ho1)) hg;have hxl:=ho1.1;rcases Nat.lt_or_ge j ts.length with hlt|hge
  ·rw[List.getElem?_append_left hlt]at hj
   obtain⟨cs',h3,h4,h5⟩:=hf j t' hj;refine⟨cs',h3,fun i hi=> ?_,h5⟩;have:j*K+i<ts.length*K:=by
    have:=Nat.mul_le_mul_right K (show j+1<=ts.length by omega);rw[Nat.succ_mul]at this;omega
   rw[List.getElem?_append_left zv];exact h4 i hi
  ·have hjl:j<(ts++[t]).length:=(List.getElem?_eq_some_iff.1 hj).1
   rw[zA,List.length_singleton]at hjl;obtain rfl:j=ts.length:=by omega
   rw[List.getElem?_append_right hge,Nat.sub_self]at hj;simp at hj;subst hj;refine⟨cs,hcl,fun i hi=> ?_,hE⟩;rw[List.getElem?_append_right zv,show ts.length*K+i -xs.length=i from by omega]
section
variable{G:List Value->Option Nat}{e:TypeId}{w0 w w':World}{B:Nat}{v:Value}{ts:List T}
end
end
open Go.RowKit
section
variable{T:Type}{enc:T->List Value}{K:Nat}
theorem jim(hK:∀t,(enc t).length=K)(ts:List T):(ts.flatMap enc).length=ts.length*K:=by
 induction ts with
 |nil=>simp
 |cons t ts ih=>rw[List.flatMap_cons,zA,ih,hK,List.length_cons,Nat.succ_mul];omega
theorem flat_take(hK:∀t,(enc t).length=K)(ts:List T)(k:Nat):(ts.take k).flatMap enc=(ts.flatMap enc).take (k*K):=by
 induction ts generalizing k with
 |nil=>simp
 |cons t ts ih=>
  cases k with
  |zero=>simp
  |succ k=>rw[List.take_succ_cons,List.flatMap_cons,List.flatMap_cons,ih,Nat.succ_mul,List.take_append,hK,show k*K+K -K=k*K by omega,List.take_of_length_le (l:=enc t) (by rw[hK];omega)]
theorem jjl(hK:∀t,(enc t).length=K)(ts:List T)(k:Nat):(ts.drop k).flatMap enc=(ts.flatMap enc).drop (k*K):=by
 induction ts generalizing k with
 |nil=>simp
 |cons t ts ih=>
  cases k with
  |zero=>simp
  |succ k=>rw[List.drop_succ_cons,List.flatMap_cons,ih,Nat.succ_mul,List.drop_append,hK,show k*K+K -K=k*K by omega,List.drop_eq_nil_of_le («as»:=enc t) (by rw[hK];omega),List.nil_append]
theorem jms(hK:∀t,(enc t).length=K){ts:List T}{q:Nat}{t:T}(hq:ts[q]? =some t){i:Nat}(hi:i<K):(ts.flatMap enc)[q*K+i]? =(enc t)[i]? :=by
 have h1:=jjl hK ts q;have hl:=(List.getElem?_eq_some_iff.1 hq).1;have h2:ts.drop q=t::ts.drop (q+1):=by
  rw[List.drop_eq_getElem_cons hl,(List.getElem?_eq_some_iff.1 hq).2]
 rw[h2,List.flatMap_cons]at h1;rw[<-List.getElem?_drop,<-h1,List.getElem?_append_left (by rw[hK];exact hi)]
structure SlF(enc:T->List Value)(w:World)(A:Option Addr)(n c:Nat)(ts:List T):Prop where
 rd:0<ts.length->∃b o,A=some ⟨b,o,none⟩/\b<w.heap.size/\∀j u,(ts.flatMap enc)[j]? =some u->w.cell? ⟨b,o+j,none⟩=some u
 len:n=ts.length
 cap:n<=c
 max:c<=maxLen
 nil:A=none->c=0
theorem SlF.none_(w:World):SlF enc w none 0 0 []:=⟨by simp,rfl,zl,Nat.zero_le _,fun _=>rfl⟩
theorem SlF.keep{w w':World}{A:Option Addr}{n c:Nat}{ts:List T}(h:SlF enc w A n c ts)(hs:w.heap.size<=w'.heap.size)(hk:∀b o,A=some ⟨b,o,none⟩->0<ts.length->w'.heap[b]? =w.heap[b]?):SlF enc w' A n c ts:=
 ⟨fun hl=>by
  obtain⟨b,o,h1,h2,h3⟩:=h.rd hl;exact⟨b,o,h1,zv,fun j u hj=>(World.cell?_of_block (hk b o h1 hl)).trans (h3 j u hj)⟩,h.len,h.cap,h.max,h.nil⟩
theorem SlF.on{w w':World}{A:Option Addr}{n c:Nat}{ts:List T}(h:SlF enc w A n c ts)(hb:zF w w'):SlF enc w' A n c ts:=
 h.keep hb.size fun b o he hl=>by
  obtain⟨b',o',h1,h2,_⟩:=h.rd hl;rw[he]at h1;injection h1 with h1;injection h1 with h1 _
  exact hb.block b zv
theorem SlF.at_(hK:∀t,(enc t).length=K){w:World}{A:Option Addr}{n c:Nat}{ts:List T}(h:SlF enc w A n c ts){q:Nat}{t:T}(hq:ts[q]? =some t):∃b o,A=some ⟨b,o,none⟩/\b<w.heap.size/\∀i u,(enc t)[i]? =some u->w.cell? ⟨b,o+q*K+i,none⟩=some u:=by
 obtain⟨b,o,h1,h2,h3⟩:=h.rd (by have:=(List.getElem?_eq_some_iff.1 hq).1;omega);refine⟨b,o,h1,h2,fun i u hi=> ?_⟩;have hlt:i<K:=by have:=(List.getElem?_eq_some_iff.1 hi).1;rw[hK]at this;exact this
 rw[Nat.add_assoc];exact h3 _ u (by rw[jms hK hq hlt];exact hi)
theorem SlF.drop(hK:∀t,(enc t).length=K){w:World}{A:Option Addr}{n c:Nat}{ts:List T}(h:SlF enc w A n c ts){k:Nat}(hk:k<=n){f:Addr->Addr}(hf:∀b o,f ⟨b,o,none⟩=⟨b,o+k*K,none⟩):SlF enc w (if c=k then A else A.map f) (n -k) (c -k) (ts.drop k):=by
 have hlen:=h.len;have hcap:=h.cap;have hmax:=h.max;refine⟨fun hl=> ?_,by rw[List.length_drop,<-h.len],zv,zv,fun e=> ?_⟩
 ·rw[List.length_drop]at hl
  obtain⟨b,o,rfl,h2,h3⟩:=h.rd zv;rw[if_neg zv];refine⟨b,o+k*K,by rw[Option.map_some,hf],h2,fun j u hj=> ?_⟩;rw[jjl hK,List.getElem?_drop]at hj;rw[Nat.add_assoc];exact h3 _ u hj
 ·by_cases hc:c=k
  ·omega
  ·rw[if_neg hc]at e
   have:A=none:=by cases A with
    |none=>rfl
    |some a=>cases e
   have:=h.nil this;omega
theorem sle_of{E:World->List Value->T->Prop}(hK:∀t,(enc t).length=K){w:World}{A:Option Addr}{n c:Nat}{ts:List T}(h:SlR K E w A n c ts)(hE:∀cs t,E w cs t->cs=enc t):SlF enc w A n c ts:=by
 refine⟨fun hl=> ?_,h.len,h.cap,h.max,h.nil⟩;obtain⟨b,o,cs,h1,h2,h3,h4,h5⟩:=h.rd 0 _ (List.getElem?_eq_getElem hl);refine⟨b,o,h1,h2,fun j u hj=> ?_⟩;have hjl:=(List.getElem?_eq_some_iff.1 hj).1;rw[jim hK]at hjl;have hK0:0<K:=by
  rcases Nat.eq_zero_or_pos K with h0|h0
  ·rw[h0]at hjl;omega
  ·exact h0
 have hq:j/K<ts.length:=(Nat.div_lt_iff_lt_mul hK0).2 hjl;obtain⟨b',o',cs',g1,g2,g3,g4,g5⟩:=h.rd (j/K) _ (List.getElem?_eq_getElem hq);rw[h1]at g1;injection g1 with g1;injection g1 with g1 g1'
 subst g1 g1';have hd:=Nat.div_add_mod j K;rw[Nat.mul_comm]at hd;have hm:=Nat.mod_lt j hK0;have h6:=g4 (j%K) hm;rw[Nat.add_assoc,hd]at h6;rw[h6,hE _ _ g5,<-hj]
 conv=>rhs;rw[<-hd]
 rw[jms hK (List.getElem?_eq_getElem hq) hm]
def OwF(enc:T->List Value)(K:Nat)(e:TypeId)(w:World)(B:Nat)(v:Value)(ts:List T):Prop:=w.ownsRow B e K v ts.length (ts.flatMap enc)
section
variable{e:TypeId}{w w':World}{B:Nat}{v:Value}{ts:List T}
theorem OwF.none_(e:TypeId)(w:World)(B:Nat):OwF enc K e w B (.slice none 0 0) []:=World.ownsRow_nil _ _ _ _
theorem OwF.below(h:OwF enc K e w B v ts)(hb:zF w w'):OwF enc K e w' B v ts:=jb5 h hb
theorem OwF.lower{B':Nat}(h:OwF enc K e w B v ts)(hB:B'<=B):OwF enc K e w B' v ts:=jcj h hB
theorem OwF.kept{g:Nat}(h:OwF enc K e w B v ts)(hg:w.grownBy w' (some g))(hv:v.ownBlock≠some g):OwF enc K e w' B v ts:=World.ownsRow.kept h hg (.inr hv)
theorem OwF.keep(h:OwF enc K e w B v ts)(hk:∀k,v.ownBlock=some k->w'.heap[k]? =w.heap[k]?):OwF enc K e w' B v ts:=by
 refine⟨h.1,?_⟩;rcases h.2 with h3|⟨g,cap,cur,rfl,hg,hh,r⟩
 ·exact .inl h3
 ·exact .inr ⟨g,cap,cur,rfl,hg,(hk g rfl).trans hh,r⟩
theorem OwF.lt(h:OwF enc K e w B v ts):∀k,v.ownBlock=some k->B<=k/\k<w.heap.size:=World.ownsRow.lt h
theorem OwF.form(h:OwF enc K e w B v ts):∃A c,v= .slice A ts.length c:=by
 rcases h.2 with⟨rfl,h0⟩|⟨g,cap,cur,rfl,_⟩
 ·exact⟨none,0,by rw[h0]⟩
 ·exact⟨_,cap,rfl⟩
theorem OwF.len{n c:Nat}{A:Option Addr}(h:OwF enc K e w B (.slice A n c) ts):n=ts.length/\n<=c/\c<=maxLen:=by
 rcases h.2 with⟨h2,h3⟩|⟨g,cap,cur,h2,_,_,h3,h4,_⟩
 ·injection h2 with _ h4 h5;subst h4 h5;exact⟨h3.symm,zl,Nat.zero_le _⟩
 ·injection h2 with _ h5 h6;subst h5 h6;exact⟨rfl,h3,h4⟩
theorem OwF.sl{n c:Nat}{A:Option Addr}(h:OwF enc K e w B (.slice A n c) ts):SlF enc w A n c ts:=by
 have hl:=h.len;rcases h.2 with⟨h2,h3⟩|⟨g,cap,cur,h2,_,hh,h3,h4,h5,h6⟩
 ·injection h2 with h7 h8 h9;subst h7 h8 h9
  obtain rfl:ts=[]:=List.eq_nil_of_length_eq_zero h3;exact SlF.none_ w
 ·injection h2 with h7 h8 h9;subst h7 h8 h9
  refine⟨fun _=>⟨g,0,rfl,(zg hh).1,fun j u hj=> ?_⟩,rfl,h3,h4,fun hn=>by cases hn⟩;rw[cell_of_row w g (0+j) _ _ _ hh,Nat.zero_add];rw[<-h6,List.getElem?_take]at hj;split at hj
  ·simpa using hj
  ·cases hj
end
theorem jaf{P:Program}{e sl:TypeId}{z:Value}{by_:Nat}(hK:∀t,(enc t).length=K)(h1c:∀t,∀u∈enc t,u.oneCell'=true)(hsl:P.underlying sl=some (.slice e))(hi0:(P.info? e).map (fun i=>(i.zero,i.size,i.bytes))=some (some z,K,by_))(hzs:z.cells.size=K)(hK0:0<K)
  {w:World} {ops:Array Oper} {rest:List Oper} {op:Oper} {a:Act} {Q:Exit->Act->World->Prop} (hgd:op.guard=none) (s x:Operand)
  (ho:op.op= .call {callee:= .builtin .append,args:=#[s,x],argTypes:=#[sl,sl]})
  (base:Nat) (v:Value) (ts:List T) (hs:a.eval s=v) (hown:OwF enc K e w base v ts) (t:T) (hx:a.eval x= .slice (some ⟨w.heap.size,0,none⟩) 1 1)
  (hlen:ts.length+1<=maxLen) (hbytes:(ts.length+1)*by_<=140737488355328) (hB:base<=w.heap.size)
  (h:∀v' w',OwF enc K e w' base v' (ts++[t])->Below base w w'->w.grownBy w' v.ownBlock->(v'.ownBlock=v.ownBlock\/∃k,v'.ownBlock=some k/\w.heap.size<=k)->wpList P ops Q rest (a.put op.dst v') w'):wpList P ops Q (op::rest) a (w.alloc (.cells (enc t).toArray e)):=by
 obtain⟨i0,hi,hz0,hz1,hz2⟩:=info_parts hi0;refine wpList_append_own_at (w.alloc (.cells (enc t).toArray e)) hgd s x sl ho base e i0 z K by_ hsl hi hz0 hz1 hz2 hzs hK0 v ts.length _ hs (World.ownsRow.alloc hown _) ⟨w.heap.size,0,none⟩ 1 1 (enc t) hx (by rw[hK];omega) ?_ (h1c t) hlen hbytes (by simp;omega) ?_
 ·intro j u hu
  have:((⟨w.heap.size,0,none⟩:Addr).add j)=⟨w.heap.size,j,none⟩:=by unfold Addr.add;split<;>simp_all
  rw[this,World.cell?_alloc_at _ _ _ _ rfl,List.getElem?_toArray];exact hu
 ·intro v' w' h1 h2 _ hvo
  have hg:w.grownBy w' v.ownBlock:=jam (World.grownBy_alloc w _ _) h2;refine h v' w' ?_ ((Below.refl base w).grown hg hB (ja2 hown)) hg (hvo.imp id fun e=>⟨_,e,by simp⟩);unfold OwF;rw[List.flatMap_append,zA,List.length_singleton,List.flatMap_singleton];exact h1
theorem jb0{P:Program}{e sl:TypeId}{z:Value}{by_:Nat}(hK:∀t,(enc t).length=K)(h1c:∀t,∀u∈enc t,u.oneCell'=true)(hsl:P.underlying sl=some (.slice e))(hi0:(P.info? e).map (fun i=>(i.zero,i.size,i.bytes))=some (some z,K,by_))(hzs:z.cells.size=K)(hK0:0<K)
  {w:World} {ops:Array Oper} {rest:List Oper} {op:Oper} {a:Act} {Q:Exit->Act->World->Prop} (hgd:op.guard=none) (s x:Operand)
  (ho:op.op= .call {callee:= .builtin .append,args:=#[s,x],argTypes:=#[sl,sl]})
  (base:Nat) (v:Value) (ts us:List T) (hs:a.eval s=v) (hown:OwF enc K e w base v ts) {A:Option Addr} {n c:Nat} (hx:a.eval x= .slice A n c) (hr:SlF enc w A n c us)
  (hlen:ts.length+us.length<=maxLen) (hbytes:(ts.length+us.length)*by_<=140737488355328) (hB:base<=w.heap.size)
  (h:∀v' w',OwF enc K e w' base v' (ts++us)->Below base w w'->w.grownBy w' v.ownBlock->(v'.ownBlock=v.ownBlock\/∃k,v'.ownBlock=some k/\w.heap.size<=k)->wpList P ops Q rest (a.put op.dst v') w'):wpList P ops Q (op::rest) a w:=by
 obtain⟨i0,hi,hz0,hz1,hz2⟩:=info_parts hi0;rcases A with _|ad
 ·obtain rfl:=hr.nil rfl
  have hn:us=[]:=by
   rcases us with _|⟨y,l⟩
   ·rfl
   ·obtain⟨_,_,h0,_⟩:=hr.rd (by simp);cases h0
  subst hn;obtain rfl:=hr.len;refine wpList_append_own_none hgd s x sl ho base e i0 K hsl hi v ts.length _ hs hown hx ?_;exact h v w (by rw[List.append_nil];exact hown) zD (jgd _ zD) (.inl rfl)
 ·have hcells:∀j u,(us.flatMap enc)[j]? =some u->w.cell? (ad.add j)=some u:=by
   intro j u hj;have hl:0<us.length:=by
    rcases us with _|⟨y,l⟩
    ·simp at hj
    ·simp
   obtain⟨b,o,e1,_,hc⟩:=hr.rd hl;injection e1 with e1
   subst e1;have:((⟨b,o,none⟩:Addr).add j)=⟨b,o+j,none⟩:=by unfold Addr.add;split<;>simp_all
   rw[this];exact hc j u hj
  have hn:=hr.len;subst hn;refine wpList_append_own_at w hgd s x sl ho base e i0 z K by_ hsl hi hz0 hz1 hz2 hzs hK0 v ts.length _ hs hown ad us.length c (us.flatMap enc) hx (jim hK us) hcells (fun u hu=> ?_) hlen hbytes hB ?_
  ·obtain⟨t,_,ht⟩:=List.mem_flatMap.1 hu
   exact h1c t u ht
  ·intro v' w' h1 h2 _ hvo
   refine h v' w' ?_ ((Below.refl base w).grown h2 hB (ja2 hown)) h2 (hvo.imp id fun e=>⟨_,e,zl⟩);unfold OwF;rw[List.flatMap_append,zA];exact h1
end
structure Le where
 who:Int
 ep:Int
 till:Int
namespace Bk
def lead:ByteArray:=⟨#[108,101,97,100]⟩
def leC(l:Le):List Value:=[.string lead,.int .i64 l.who,.int .i64 l.ep,.int .i64 l.till,.bool false]
def vnC(v:Vn):List Value:=[.int .i64 v.n,.string v.t]
def rcC(r:Rc.R):List Value:=(Rc.cells r).toList
theorem leC_len(l:Le):(leC l).length=5:=rfl
theorem vnC_len(v:Vn):(vnC v).length=2:=rfl
theorem rcC_len(r:Rc.R):(rcC r).length=18:=rfl
theorem leC_one(l:Le):∀u∈leC l,u.oneCell'=true:=by intro u hu;simp[leC]at hu;rcases hu with rfl|rfl|rfl|rfl|rfl<;>rfl
theorem vnC_one(v:Vn):∀u∈vnC v,u.oneCell'=true:=by intro u hu;simp[vnC]at hu;rcases hu with rfl|rfl<;>rfl
theorem rcC_one(r:Rc.R):∀u∈rcC r,u.oneCell'=true:=by
 intro u hu;simp[rcC,Rc.cells]at hu;rcases hu with rfl|rfl|rfl|rfl|rfl|rfl|rfl|rfl|rfl|rfl|rfl|rfl|rfl|rfl|rfl|rfl|rfl|rfl<;>rfl
def tl(s:St):List Le:=if s.ep=0 then[]else[⟨s.who,s.ep,s.till⟩]
def cells(s:St)(L V H:Value):Array Value:=#[.int .i64 s.m,L,V,.int .i64 s.ep,.int .i64 s.who,.int .i64 s.till,.int .i64 s.stable,.int .i64 s.from_,.int .i64 s.ph,.int .i64 s.step,.int .i64 s.since,.int .i64 s.begun,.int .i64 s.seq,.int .i64 s.sp.v,.int .i64 s.sp.d,.int .i64 s.sp.u,.int .i64 s.sp.n,.int .i64 s.sp.g,.int .i64 s.sp.a,.int .i64 s.sp.b,.int .i64 s.sp.c,.int .i64 s.sp.e,.int .i64 s.sp.w,.int .i64 s.sp.x,.int .i64 s.sp.k,.int .i64 (s.us 0).v,.int .i64 (s.us 0).q,.bool (s.us 0).d,.int .i64 (s.us 1).v,.int .i64 (s.us 1).q,.bool (s.us 1).d,.int .i64 (s.us 2).v,.int .i64 (s.us 2).q,.bool (s.us 2).d,.int .i64 (s.us 3).v,.int .i64 (s.us 3).q,.bool (s.us 3).d,.int .i64 (s.us 4).v,.int .i64 (s.us 4).q,.bool (s.us 4).d,.int .i64 (s.us 5).v,.int .i64 (s.us 5).q,.bool (s.us 5).d,.int .i64 (s.us 6).v,.int .i64 (s.us 6).q,.bool (s.us 6).d,.int .i64 (s.us 7).v,.int .i64 (s.us 7).q,.bool (s.us 7).d,.int .i64 (s.us 8).v,.int .i64 (s.us 8).q,.bool (s.us 8).d,.int .i64 (s.us 9).v,.int .i64 (s.us 9).q,.bool (s.us 9).d,.int .i64 (s.us 10).v,.int .i64 (s.us 10).q,.bool (s.us 10).d,.int .i64 (s.us 11).v,.int .i64 (s.us 11).q,.bool (s.us 11).d,.int .i64 (s.us 12).v,.int .i64 (s.us 12).q,.bool (s.us 12).d,.int .i64 (s.us 13).v,.int .i64 (s.us 13).q,.bool (s.us 13).d,.int .i64 (s.us 14).v,.int .i64 (s.us 14).q,.bool (s.us 14).d,.int .i64 (s.us 15).v,.int .i64 (s.us 15).q,.bool (s.us 15).d,H]
def zeros:Array Value:=#[zi,.slice none 0 0,.slice none 0 0,zi,zi,zi,zi,zi,zi,zi,zi,zi,zi,zi,zi,zi,zi,zi,zi,zi,zi,zi,zi,zi,zi,zi,zi,.bool false,zi,zi,.bool false,zi,zi,.bool false,zi,zi,.bool false,zi,zi,.bool false,zi,zi,.bool false,zi,zi,.bool false,zi,zi,.bool false,zi,zi,.bool false,zi,zi,.bool false,zi,zi,.bool false,zi,zi,.bool false,zi,zi,.bool false,zi,zi,.bool false,zi,zi,.bool false,zi,zi,.bool false,.slice none 0 0]
def none_:St:=⟨0,0,0,0,0,0,0,0,0,0,0,Spc.zero,fun _=>⟨0,0,false⟩,[],[]⟩
end Bk
structure BkAt(w:World)(g:Nat)(s:Bk.St)(L V H:Value):Prop where
 row:w.heap[g]? =some (.cells (Bk.cells s L V H) 38 (0,0))
structure BkRd(w:World)(s:Bk.St)(L V H:Value):Prop where
 l:∃A c,L= .slice A (Bk.tl s).length c/\SlF Bk.leC w A (Bk.tl s).length c (Bk.tl s)
 v:∃A c,V= .slice A s.vs.length c/\SlF Bk.vnC w A s.vs.length c s.vs
 h:∃A c,H= .slice A s.h.length c/\SlF Bk.rcC w A s.h.length c s.h
section
variable{w w':World}{g:Nat}{s:Bk.St}{L V H:Value}
theorem BkAt.new(w:World)(s:Bk.St)(L V H:Value):BkAt (w.alloc (.cells (Bk.cells s L V H) 38)) w.heap.size s L V H:=⟨heap_alloc_new w _⟩
theorem BkAt.on(h:BkAt w g s L V H)(hb:zF w w'):BkAt w' g s L V H:=⟨(hb.block g (zg h.row).1).trans h.row⟩
theorem BkAt.lt(h:BkAt w g s L V H):g<w.heap.size:=(zg h.row).1
theorem BkAt.keep(h:BkAt w g s L V H)(hk:w'.heap[g]? =w.heap[g]?):BkAt w' g s L V H:=⟨hk.trans h.row⟩
theorem BkRd.on(h:BkRd w s L V H)(hb:zF w w'):BkRd w' s L V H:=by
 obtain⟨⟨A1,c1,e1,h1⟩,⟨A2,c2,e2,h2⟩,⟨A3,c3,e3,h3⟩⟩:=h;exact⟨⟨A1,c1,e1,h1.on hb⟩,⟨A2,c2,e2,h2.on hb⟩,⟨A3,c3,e3,h3.on hb⟩⟩
structure BkCs(w:World)(g:Nat)(s:Bk.St)(L V H:Value):Prop where
 c0:w.cell? ⟨g,0,none⟩=some (.int .i64 s.m)
 c1:w.cell? ⟨g,1,none⟩=some (L)
 c2:w.cell? ⟨g,2,none⟩=some (V)
 c3:w.cell? ⟨g,3,none⟩=some (.int .i64 s.ep)
 c4:w.cell? ⟨g,4,none⟩=some (.int .i64 s.who)
 c5:w.cell? ⟨g,5,none⟩=some (.int .i64 s.till)
 c6:w.cell? ⟨g,6,none⟩=some (.int .i64 s.stable)
 c7:w.cell? ⟨g,7,none⟩=some (.int .i64 s.from_)
 c8:w.cell? ⟨g,8,none⟩=some (.int .i64 s.ph)
 c9:w.cell? ⟨g,9,none⟩=some (.int .i64 s.step)
 c10:w.cell? ⟨g,10,none⟩=some (.int .i64 s.since)
 c11:w.cell? ⟨g,11,none⟩=some (.int .i64 s.begun)
 c12:w.cell? ⟨g,12,none⟩=some (.int .i64 s.seq)
 c13:w.cell? ⟨g,13,none⟩=some (.int .i64 s.sp.v)
 c14:w.cell? ⟨g,14,none⟩=some (.int .i64 s.sp.d)
 c15:w.cell? ⟨g,15,none⟩=some (.int .i64 s.sp.u)
 c16:w.cell? ⟨g,16,none⟩=some (.int .i64 s.sp.n)
 c17:w.cell? ⟨g,17,none⟩=some (.int .i64 s.sp.g)
 c18:w.cell? ⟨g,18,none⟩=some (.int .i64 s.sp.a)
 c19:w.cell? ⟨g,19,none⟩=some (.int .i64 s.sp.b)
 c20:w.cell? ⟨g,20,none⟩=some (.int .i64 s.sp.c)
 c21:w.cell? ⟨g,21,none⟩=some (.int .i64 s.sp.e)
 c22:w.cell? ⟨g,22,none⟩=some (.int .i64 s.sp.w)
 c23:w.cell? ⟨g,23,none⟩=some (.int .i64 s.sp.x)
 c24:w.cell? ⟨g,24,none⟩=some (.int .i64 s.sp.k)
 c73:w.cell? ⟨g,73,none⟩=some (H)
 lt:g<w.heap.size
theorem zz2r{p:Prop}(h:p:=by
 constructor
 all_goals first|(rw[cell_of_row w g _ _ _ _ h.row];rfl)|exact h.lt):p:=h
theorem BkAt.cs(h:BkAt w g s L V H):BkCs w g s L V H:=by
 exact zz2r
theorem zz1b{p:Prop}(h:p:=by
 rw[cell_of_row w g _ _ _ _ h.row,cell_of_row w g _ _ _ _ h.row,cell_of_row w g _ _ _ _ h.row];rcases j with _|_|_|_|_|_|_|_|_|_|_|_|_|_|_|_|j
 all_goals first|exact⟨rfl,rfl,rfl⟩|omega):p:=h
theorem BkAt.unit(h:BkAt w g s L V H){j:Nat}(hj:j<16):w.cell? ⟨g,25+j*3,none⟩=some (.int .i64 (s.us j).v)/\w.cell? ⟨g,25+j*3+1,none⟩=some (.int .i64 (s.us j).q)/\w.cell? ⟨g,25+j*3+2,none⟩=some (.bool (s.us j).d):=by
 exact zz1b
theorem BkAt.fz(h:BkAt w g s L V H)(i:Nat):w.frozen? ⟨g,i,none⟩=false:=frozen_of_row _ _ _ _ _ h.row
theorem BkAt.set(h:BkAt w g s L V H)(k:Nat)(v:Value){s':Bk.St}{L' V' H':Value}(he:(Bk.cells s L V H).setIfInBounds k v=Bk.cells s' L' V' H'):BkAt (w.setCell ⟨g,k,none⟩ v) g s' L' V' H':=⟨by rw[<-he];exact heap_setCell_same w g k _ _ _ h.row⟩
theorem BkAt.ep(h:BkAt w g s L V H)(x:Int):BkAt (w.setCell ⟨g,3,none⟩ (.int .i64 x)) g {s with ep:=x} L V H:=h.set 3 _ rfl
theorem BkAt.who(h:BkAt w g s L V H)(x:Int):BkAt (w.setCell ⟨g,4,none⟩ (.int .i64 x)) g {s with who:=x} L V H:=h.set 4 _ rfl
theorem BkAt.till(h:BkAt w g s L V H)(x:Int):BkAt (w.setCell ⟨g,5,none⟩ (.int .i64 x)) g {s with till:=x} L V H:=h.set 5 _ rfl
theorem BkAt.stable(h:BkAt w g s L V H)(x:Int):BkAt (w.setCell ⟨g,6,none⟩ (.int .i64 x)) g {s with stable:=x} L V H:=h.set 6 _ rfl
theorem BkAt.frm(h:BkAt w g s L V H)(x:Int):BkAt (w.setCell ⟨g,7,none⟩ (.int .i64 x)) g {s with from_:=x} L V H:=h.set 7 _ rfl
theorem BkAt.ph(h:BkAt w g s L V H)(x:Int):BkAt (w.setCell ⟨g,8,none⟩ (.int .i64 x)) g {s with ph:=x} L V H:=h.set 8 _ rfl
theorem BkAt.step(h:BkAt w g s L V H)(x:Int):BkAt (w.setCell ⟨g,9,none⟩ (.int .i64 x)) g {s with step:=x} L V H:=h.set 9 _ rfl
theorem BkAt.since(h:BkAt w g s L V H)(x:Int):BkAt (w.setCell ⟨g,10,none⟩ (.int .i64 x)) g {s with since:=x} L V H:=h.set 10 _ rfl
theorem BkAt.begun(h:BkAt w g s L V H)(x:Int):BkAt (w.setCell ⟨g,11,none⟩ (.int .i64 x)) g {s with begun:=x} L V H:=h.set 11 _ rfl
theorem BkAt.seq(h:BkAt w g s L V H)(x:Int):BkAt (w.setCell ⟨g,12,none⟩ (.int .i64 x)) g {s with seq:=x} L V H:=h.set 12 _ rfl
theorem BkAt.ls(h:BkAt w g s L V H)(L':Value):BkAt (w.setCell ⟨g,1,none⟩ L') g s L' V H:=h.set 1 _ rfl
theorem BkAt.mg(h:BkAt w g s L V H)(x:Int):BkAt (w.setCell ⟨g,0,none⟩ (.int .i64 x)) g {s with m:=x} L V H:=h.set 0 _ rfl
theorem BkAt.sp_v(h:BkAt w g s L V H)(x:Int):BkAt (w.setCell ⟨g,13,none⟩ (.int .i64 x)) g {s with sp:={s.sp with v:=x}} L V H:=h.set 13 _ rfl
theorem BkAt.sp_d(h:BkAt w g s L V H)(x:Int):BkAt (w.setCell ⟨g,14,none⟩ (.int .i64 x)) g {s with sp:={s.sp with d:=x}} L V H:=h.set 14 _ rfl
theorem BkAt.sp_u(h:BkAt w g s L V H)(x:Int):BkAt (w.setCell ⟨g,15,none⟩ (.int .i64 x)) g {s with sp:={s.sp with u:=x}} L V H:=h.set 15 _ rfl
theorem BkAt.sp_n(h:BkAt w g s L V H)(x:Int):BkAt (w.setCell ⟨g,16,none⟩ (.int .i64 x)) g {s with sp:={s.sp with n:=x}} L V H:=h.set 16 _ rfl
theorem BkAt.sp_g(h:BkAt w g s L V H)(x:Int):BkAt (w.setCell ⟨g,17,none⟩ (.int .i64 x)) g {s with sp:={s.sp with g:=x}} L V H:=h.set 17 _ rfl
theorem BkAt.sp_a(h:BkAt w g s L V H)(x:Int):BkAt (w.setCell ⟨g,18,none⟩ (.int .i64 x)) g {s with sp:={s.sp with a:=x}} L V H:=h.set 18 _ rfl
theorem BkAt.sp_b(h:BkAt w g s L V H)(x:Int):BkAt (w.setCell ⟨g,19,none⟩ (.int .i64 x)) g {s with sp:={s.sp with b:=x}} L V H:=h.set 19 _ rfl
theorem BkAt.sp_c(h:BkAt w g s L V H)(x:Int):BkAt (w.setCell ⟨g,20,none⟩ (.int .i64 x)) g {s with sp:={s.sp with c:=x}} L V H:=h.set 20 _ rfl
theorem BkAt.sp_e(h:BkAt w g s L V H)(x:Int):BkAt (w.setCell ⟨g,21,none⟩ (.int .i64 x)) g {s with sp:={s.sp with e:=x}} L V H:=h.set 21 _ rfl
theorem BkAt.sp_w(h:BkAt w g s L V H)(x:Int):BkAt (w.setCell ⟨g,22,none⟩ (.int .i64 x)) g {s with sp:={s.sp with w:=x}} L V H:=h.set 22 _ rfl
theorem BkAt.sp_x(h:BkAt w g s L V H)(x:Int):BkAt (w.setCell ⟨g,23,none⟩ (.int .i64 x)) g {s with sp:={s.sp with x:=x}} L V H:=h.set 23 _ rfl
theorem BkAt.sp_k(h:BkAt w g s L V H)(x:Int):BkAt (w.setCell ⟨g,24,none⟩ (.int .i64 x)) g {s with sp:={s.sp with k:=x}} L V H:=h.set 24 _ rfl
def jd6(w:World)(g:Nat)(t:Spc.Sp):World:=((((((((((((w.setCell ⟨g,13,none⟩ (.int .i64 t.v)).setCell ⟨g,14,none⟩ (.int .i64 t.d)).setCell ⟨g,15,none⟩ (.int .i64 t.u)).setCell ⟨g,16,none⟩ (.int .i64 t.n)).setCell ⟨g,17,none⟩ (.int .i64 t.g)).setCell ⟨g,18,none⟩ (.int .i64 t.a)).setCell ⟨g,19,none⟩ (.int .i64 t.b)).setCell ⟨g,20,none⟩ (.int .i64 t.c)).setCell ⟨g,21,none⟩ (.int .i64 t.e)).setCell ⟨g,22,none⟩ (.int .i64 t.w)).setCell ⟨g,23,none⟩ (.int .i64 t.x)).setCell ⟨g,24,none⟩ (.int .i64 t.k))
theorem BkAt.spec(h:BkAt w g s L V H)(t:Spc.Sp):BkAt (jd6 w g t) g {s with sp:=t} L V H:=(((((((((((h.sp_v t.v).sp_d t.d).sp_u t.u).sp_n t.n).sp_g t.g).sp_a t.a).sp_b t.b).sp_c t.c).sp_e t.e).sp_w t.w).sp_x t.x).sp_k t.k
theorem zz2d{p:Prop}(h:p:=by
 refine h.set _ _ ?_;rcases j with _|_|_|_|_|_|_|_|_|_|_|_|_|_|_|_|j
 all_goals first|rfl|omega):p:=h
theorem BkAt.unitV(h:BkAt w g s L V H){j:Nat}(hj:j<16)(x:Int):BkAt (w.setCell ⟨g,25+j*3,none⟩ (.int .i64 x)) g {s with us:=Bk.setU s.us j {s.us j with v:=x}} L V H:=by
 exact zz2d
theorem BkAt.unitQ(h:BkAt w g s L V H){j:Nat}(hj:j<16)(x:Int):BkAt (w.setCell ⟨g,25+j*3+1,none⟩ (.int .i64 x)) g {s with us:=Bk.setU s.us j {s.us j with q:=x}} L V H:=by
 exact zz2d
theorem BkAt.unitD(h:BkAt w g s L V H){j:Nat}(hj:j<16)(x:Bool):BkAt (w.setCell ⟨g,25+j*3+2,none⟩ (.bool x)) g {s with us:=Bk.setU s.us j {s.us j with d:=x}} L V H:=by
 exact zz2d
end
theorem jex:Tryz.prog.underlying 38=some (.struct (Tryz.prog.fieldsOf 38)):=by kernel_rfl
theorem jfd(s:Bk.St)(L V H:Value):(Tryz.prog.info? 38).map (·.size)=some (Bk.cells s L V H).size:=by kernel_rfl
theorem jbt:∀w,(zeroValue 38).run Tryz.prog w= .ok (.agg Bk.zeros) w:=(zero_of_info (n:=74) zk).1
theorem jgl:(Tryz.prog.info? 96).map (fun i=>(i.zero,i.size,i.bytes))=some (some (.agg #[zi,.string ⟨#[]⟩]),2,24):=by kernel_rfl
theorem jp0:(Tryz.prog.info? 145).map (fun i=>(i.zero,i.size,i.bytes))=some (some (.agg #[.string ⟨#[]⟩,zi,zi,zi,.bool false]),5,48):=by kernel_rfl
theorem ja0:(Tryz.prog.info? 56).map (fun i=>(i.zero,i.size,i.bytes))=some (some (.agg #[zi,zi,zi,zi,zi,.string ⟨#[]⟩,zi,zi,zi,zi,zi,zi,zi,zi,zi,zi,zi,zi]),18,152):=by kernel_rfl
theorem Bk.one_cell{s:Bk.St}{L V H:Value}(hL:L.oneCell'=true)(hV:V.oneCell'=true)(hH:H.oneCell'=true):(Bk.cells s L V H).all (·.oneCell')=true:=by
 simp[Bk.cells,hL,hV,hH];simp[Value.oneCell']
theorem BkRd.one{w:World}{s:Bk.St}{L V H:Value}(h:BkRd w s L V H):(Bk.cells s L V H).all (·.oneCell')=true:=by
 obtain⟨⟨A1,c1,rfl,_⟩,⟨A2,c2,rfl,_⟩,⟨A3,c3,rfl,_⟩⟩:=h;exact Bk.one_cell rfl rfl rfl
def BkPost(W:World)(s:Bk.St)(e:Ending)(w':World):Prop:=∃L V H,e= .returned (.agg (Bk.cells s L V H))/\BkRd w' s L V H/\zF W w'
def i64P(n:Int):Prop:= -9223372036854775808<=n/\n<=9223372036854775807
def jfr(w:World)(a:Value)(b:Value)(e:Ending)(w':World):Prop:=e= .returned (.tuple #[a,b])/\zF w w'
def jbg(w:World)(a:Value)(e:Ending)(w':World):Prop:=e= .returned a/\zF w w'
theorem zz25{p:Prop}(h:p:=by
 have q1:(p==1)=false:=by rw[zq];rintro rfl;revert hd;decide
 clear hd;go_in;go_wp2;go_ret2;exact⟨rfl,rfl⟩):p:=h
theorem zz26{p:Prop}(h:p:=by
 have q2:(p==2)=false:=by rw[zq];rintro rfl;revert hd;decide
 clear hd;go_in;go_wp2;go_ret2;exact⟨rfl,rfl⟩):p:=h
theorem jbk(p e:Int)(w:World):Calls Tryz.prog 44 #[.int .i64 p,.int .i64 e] w fun x w'=>x= .returned (.tuple #[.int .i64 (Ph.next p e),.bool (Ph.did p e)])/\w'=w:=by
 by_cases hd:Ph.to_ p e= -1
 ·rw[(Ph.next_no hd).1,(Ph.next_no hd).2]
  by_cases he:0<=e/\e<=8
  ·have hk:e=0\/e=1\/e=2\/e=3\/e=4\/e=5\/e=6\/e=7\/e=8:=by omega
   clear he;rcases hk with rfl|rfl|rfl|rfl|rfl|rfl|rfl|rfl|rfl
   ·have q0:(p==0)=false:=by rw[zq];rintro rfl;revert hd;decide
    have q3:(p==3)=false:=by rw[zq];rintro rfl;revert hd;decide
    have q5:(p==5)=false:=by rw[zq];rintro rfl;revert hd;decide
    clear hd;go_in;go_wp2;go_ret2;exact⟨rfl,rfl⟩
   ·exact zz25
   ·exact zz26
   ·exact zz25
   ·exact zz25
   ·exact zz25
   ·have q1:(p==1)=false:=by rw[zq];rintro rfl;revert hd;decide
    exact zz26
   ·exact zz25
   ·have q4:(p==4)=false:=by rw[zq];rintro rfl;revert hd;decide
    clear hd;go_in;go_wp2;go_ret2;exact⟨rfl,rfl⟩
  ·have r0:(e==0)=false:=by rw[zq];omega
   have r1:(e==1)=false:=by rw[zq];omega
   have r2:(e==2)=false:=by rw[zq];omega
   have r3:(e==3)=false:=by rw[zq];omega
   have r4:(e==4)=false:=by rw[zq];omega
   have r5:(e==5)=false:=by rw[zq];omega
   have r6:(e==6)=false:=by rw[zq];omega
   have r7:(e==7)=false:=by rw[zq];omega
   have r8:(e==8)=false:=by rw[zq];omega
   clear hd he;go_in;go_wp2;go_ret2;exact⟨rfl,rfl⟩
 ·have hp:=Ph.pairs hd
  clear hd;rcases hp with⟨rfl,rfl⟩|⟨rfl,rfl⟩|⟨rfl,rfl⟩|⟨rfl,rfl⟩|⟨rfl,rfl⟩|⟨rfl,rfl⟩|⟨rfl,rfl⟩|⟨rfl,rfl⟩|⟨rfl,rfl⟩|⟨rfl,rfl⟩|⟨rfl,rfl⟩|⟨rfl,rfl⟩
  all_goals
   go_in;go_wp2;go_ret2;exact⟨rfl,rfl⟩
structure LeAt(w:World)(b o:Nat)(l:Le):Prop where
 c0:w.cell? ⟨b,o,none⟩=some (.string Bk.lead)
 c1:w.cell? ⟨b,o+1,none⟩=some (.int .i64 l.who)
 c2:w.cell? ⟨b,o+2,none⟩=some (.int .i64 l.ep)
 c3:w.cell? ⟨b,o+3,none⟩=some (.int .i64 l.till)
 c4:w.cell? ⟨b,o+4,none⟩=some (.bool false)
 lt:b<w.heap.size
theorem LeAt.of{w:World}{A:Option Addr}{c:Nat}{l:Le}(h:SlF Bk.leC w A 1 c [l]):∃b o,A=some ⟨b,o,none⟩/\1<=c/\LeAt w b o l:=by
 obtain⟨b,o,h1,h2,h3⟩:=h.rd (by simp);refine⟨b,o,h1,h.cap,h3 0 _ rfl,h3 1 _ rfl,h3 2 _ rfl,h3 3 _ rfl,h3 4 _ rfl,h2⟩
theorem LeAt.on{w w':World}{b o:Nat}{l:Le}(h:LeAt w b o l)(hb:zF w w'):LeAt w' b o l:=
 ⟨(hb.cell (p:=⟨b,o,none⟩) h.lt).trans h.c0,(hb.cell (p:=⟨b,o+1,none⟩) h.lt).trans h.c1,(hb.cell (p:=⟨b,o+2,none⟩) h.lt).trans h.c2,(hb.cell (p:=⟨b,o+3,none⟩) h.lt).trans h.c3,(hb.cell (p:=⟨b,o+4,none⟩) h.lt).trans h.c4,Nat.lt_of_lt_of_le h.lt hb.size⟩
abbrev rlT(m:Int)(A:Option Addr)(n c:Nat):Value:= .agg #[.int .i64 m,.slice A n c]
theorem jgm:(Bk.lead.toList==Bk.lead.toList)=true:=by rw[beq_iff_eq]
theorem zz2y{p:Prop}(h:p:=by
 unfold rlT;go_in;go_wp2_with fail;go_rounds 1;go_ret;exact⟨rfl,B.o⟩):p:=h
theorem jdq(m:Int)(b o c:Nat)(l:Le)(w:World)(h:LeAt w b o l)(hc:1<=c):Calls Tryz.prog 187 #[rlT m (some ⟨b,o,none⟩) 1 c,.string Bk.lead] w (jbg w (zi)):=by
 have B:=zh ((Below.refl w.heap.size w).alloc zl (.cells #[.int .i64 m,.slice (some ⟨b,o,none⟩) 1 c] 29));obtain⟨h0,h1,h2,h3,h4,hlt⟩:=h;have hs:=jgm;generalize Bk.lead=ld at*;exact zz2y
theorem jp1(m:Int)(A:Option Addr)(c:Nat)(w:World)(ld:ByteArray):Calls Tryz.prog 187 #[rlT m A 0 c,.string ld] w (jbg w (.int .i64 (-1))):=by
 have B:=zh ((Below.refl w.heap.size w).alloc zl (.cells #[.int .i64 m,.slice A 0 c] 29));exact zz2y
theorem jdr(a b:Int)(ha:0<=a/\a<=1099511627776)(hb:0<=b/\b<=1099511627776)(w:World):Calls Tryz.prog 188 #[.int .i64 a,.int .i64 b] w fun e w'=>e= .returned (.int .i64 (Bk.late a b))/\w'=w:=by
 have E:Hid (Bk.late a b=min (a+b) 1099511627776):=rfl;have hw:IntKind.i64.wrap (a+b)=a+b:=IntWalk.i64_in _ zv;go_in;go_wp2;go_ret;rw[E.o];exact⟨rfl,rfl⟩
theorem jni(n:Int)(hn:0<=n/\n<=1099511627776)(w:World):Calls Tryz.prog 237 #[.int .i64 n] w fun e w'=>e= .returned (.bool true)/\w'=w:=by
 obtain⟨h1,h2⟩:=hn;go_in;go_wp2;go_ret;exact⟨rfl,rfl⟩
theorem jb1(h n t:Int)(hh:0<=h/\h<=63)(hn:0<=n/\n<=1099511627776)(ht:1<=t/\t<=1048576)(w:World):Calls Tryz.prog 186 #[.string Bk.lead,.int .i64 h,.int .i64 n,.int .i64 t] w fun e w'=>e= .returned (.bool true)/\w'=w:=by
 have CT:=zh (fun W=>jni n hn W);obtain⟨h1,h2⟩:=hh;obtain⟨t1,t2⟩:=ht;have hz:Bk.lead.size=4:=rfl;generalize Bk.lead=ld at*;clear hn;go_in;go_wp2_with(go_at_call 237;refine(CT.o _).mono ?_;rintro e w1 ⟨rfl,rfl⟩);go_ret;exact⟨rfl,rfl⟩
theorem jp2(m now:Int)(A:Option Addr)(c:Nat)(w:World):Calls Tryz.prog 190 #[rlT m A 0 c,.string Bk.lead,.int .i64 now] w (jbg w (.bool true)):=by
 have B:=zh ((Below.refl w.heap.size w).alloc zl (.cells #[.int .i64 m,.slice A 0 c] 29));have CA:=zh (fun W=>jp1 m A c W Bk.lead);unfold rlT at*;generalize Bk.lead=ld at*;go_in;go_wp2_with(go_at_call 187;refine(CA.o _).mono ?_;rintro e w1 ⟨rfl,hb⟩;have B1:=zh (B.o.trans (hb.mono B.o.size));clear hb);go_quiet (fail);go_wp2;go_ret;exact⟨rfl,jci B1.o _⟩
theorem jhv(m now:Int)(b o c:Nat)(l:Le)(hm:0<=m/\m<=1048576)(ht:0<=l.till/\l.till<=1099511627776)(w:World)(h:LeAt w b o l)(hc:1<=c):Calls Tryz.prog 190 #[rlT m (some ⟨b,o,none⟩) 1 c,.string Bk.lead,.int .i64 now] w (jbg w (.bool (decide (Bk.late l.till m<=now)))):=by
 have hb1:=(Below.refl w.heap.size w).alloc zl (.cells #[.int .i64 m,.slice (some ⟨b,o,none⟩) 1 c] 29);have B:=zh hb1;have HA:=zh (h.on hb1);have ha:=HA.o;have CA:=zh (jdq m b o c l (w.alloc (.cells #[.int .i64 m,.slice (some ⟨b,o,none⟩) 1 c] 29)) ha hc);have CL:=zh (fun W=>jdr l.till m ht zv W);have hrow:(w.alloc (.cells #[.int .i64 m,.slice (some ⟨b,o,none⟩) 1 c] 29)).heap[w.heap.size]? =some (.cells #[.int .i64 m,.slice (some ⟨b,o,none⟩) 1 c] 29 (0,0)):=heap_alloc_new w _;have HR:=zh hrow;clear h hb1 ha hrow;unfold rlT at*;generalize Bk.lead=ld at*;generalize Bk.late l.till m=lt at*;go_in;go_upto_region 1 with fail
 obtain⟨g,hg⟩:∃g,g=w.heap.size:=zx;rw[<-hg]at HR⊢;clear hg;generalize w.alloc (.cells #[.int .i64 m,.slice (some ⟨b,o,none⟩) 1 c] 29)=w1 at*;obtain⟨x0,x1,x2⟩:w1.cell? ⟨g,0,none⟩=some (.int .i64 m)/\w1.cell? ⟨g,1,none⟩=some (.slice (some ⟨b,o,none⟩) 1 c)/\g<w1.heap.size:=⟨by rw[cell_of_row w1 g 0 _ _ _ HR.o];rfl,by rw[cell_of_row w1 g 1 _ _ _ HR.o];rfl,(zg HR.o).1⟩;go_upto_region 2 with(go_at_call 187;refine CA.o.mono ?_;rintro e w2 ⟨rfl,hb⟩;have B1:=zh (B.o.trans (hb.mono B.o.size));have q0:=(hb.cell (p:=⟨g,0,none⟩) x2).trans x0;have q1:=(hb.cell (p:=⟨g,1,none⟩) x2).trans x1;obtain⟨h0,h1,h2,h3,h4,hlt⟩:=HA.o.on hb;clear hb x0 x1 x2)
 clear HA HR CA B;go_quiet ((go_at_call 188;exact Calls.quiet_of_same (CL.o _)));go_wp2;go_ret;exact⟨rfl,jci B1.o _⟩
section
variable{P:Program}{ops:Array Oper}{Q:Exit->Act->World->Prop}{S:World->Prop}{fuel:Nat}{listed:Array Bool}{a:Act}{w:World}
theorem jk2(i:Nat){oi:Oper}{v:Value}(hi:ops.toList[i]? =some oi)
  (hk:(Region.noSelect ops&&(Region.free .any ops listed i&&(Region.ready .any ops listed).contains i))=true)
  (hQ:∀c a w,Q (.panic c) (a.put oi.dst v) w->Q (.panic c) a w) (hw:Region.wanted oi (yielded ops a.tmps)=true)
  (hy:∀w,S w->(execOp a.eval oi).run P w= .ok (.value v) w) (hS:S w)
  (h:wpAnyH P .any ops Q S fuel (listed.setIfInBounds i true) (a.put oi.dst v) w):wpAnyH P .any ops Q S (fuel+1) listed a w:=by
 simp only[Bool.and_eq_true]at hk;exact wpAnyH_take (by simpa using hi) hk.1 hk.2.1 hk.2.2 hQ (.inl ⟨hw,hy⟩) hS h
theorem tkNo(i:Nat){oi:Oper}(hi:ops.toList[i]? =some oi)
  (hk:(Region.noSelect ops&&(Region.free .any ops listed i&&(Region.ready .any ops listed).contains i))=true)
  (hQ:∀c a w,Q (.panic c) (a.put oi.dst undef) w->Q (.panic c) a w) (hw:Region.wanted oi (yielded ops a.tmps)=false) (hS:S w)
  (h:wpAnyH P .any ops Q S fuel (listed.setIfInBounds i true) (a.put oi.dst undef) w):wpAnyH P .any ops Q S (fuel+1) listed a w:=by
 simp only[Bool.and_eq_true]at hk;exact wpAnyH_take (by simpa using hi) hk.1 hk.2.1 hk.2.2 hQ (.inr ⟨hw,rfl⟩) hS h
theorem rnOne(i:Nat){oi:Oper}(hi:ops.toList[i]? =some oi)(hr:Region.ready .any ops listed=[i])(hw:Region.wanted oi (yielded ops a.tmps)=true)
  (h:∀K:Act->World->Prop,Shut (∀a w,S w->(S w->wpAnyH P .any ops Q S fuel (listed.setIfInBounds i true) a w)->K a w)->Oper.wp P oi a w K Q):
  wpAnyH P .any ops Q S (fuel+1) listed a w:=
 wpAnyH_ready hr (by simp) (AllReadyH.cons (o:=oi) (by simpa using hi) (fun K hK=>by rw[if_pos hw];exact h K hK) AllReadyH.nil)
theorem jgn(i j:Nat){oi oj:Oper}(hi:ops.toList[i]? =some oi)(hj:ops.toList[j]? =some oj)(hr:Region.ready .any ops listed=[i,j])
  (hw:Region.wanted oi (yielded ops a.tmps)=true) (hwj:Region.wanted oj (yielded ops a.tmps)=true)
  (h:∀K:Act->World->Prop,Shut (∀a w,S w->(S w->wpAnyH P .any ops Q S fuel (listed.setIfInBounds i true) a w)->K a w)->Oper.wp P oi a w K Q)
  (h2:∀K:Act->World->Prop,Shut (∀a w,S w->(S w->wpAnyH P .any ops Q S fuel (listed.setIfInBounds j true) a w)->K a w)->Oper.wp P oj a w K Q):
  wpAnyH P .any ops Q S (fuel+1) listed a w:=
 wpAnyH_ready hr (by simp) (AllReadyH.cons (o:=oi) (by simpa using hi) (fun K hK=>by rw[if_pos hw];exact h K hK) (AllReadyH.cons (o:=oj) (by simpa using hj) (fun K hK=>by rw[if_pos hwj];exact h2 K hK) AllReadyH.nil))
theorem tZ(i:Nat){oi:Oper}{v:Value}(hi:ops.toList[i]? =some oi)(hy:∀w,S w->(execOp a.eval oi).run P w= .ok (.value v) w)(hS:S w)(h:wpAnyH P .any ops Q S fuel (listed.setIfInBounds i true) (a.put oi.dst v) w)(hk:(Region.noSelect ops&&(Region.free .any ops listed i&&(Region.ready .any ops listed).contains i))=true:=by kernel_rfl)(hQ:∀c a w,Q (.panic c) (a.put oi.dst v) w->Q (.panic c) a w:=by exact fun _ _ _ h=>h)(hw:Region.wanted oi (yielded ops a.tmps)=true:=by rfl):wpAnyH P .any ops Q S (fuel+1) listed a w:=jk2 i hi hk hQ hw hy hS h
theorem tY(i:Nat){oi:Oper}{v:Value}(hS:S w)(h:wpAnyH P .any ops Q S fuel (listed.setIfInBounds i true) (a.put oi.dst v) w)(hi:ops.toList[i]? =some oi:=by rfl)(hk:(Region.noSelect ops&&(Region.free .any ops listed i&&(Region.ready .any ops listed).contains i))=true:=by kernel_rfl)(hy:∀w,S w->(execOp a.eval oi).run P w= .ok (.value v) w:=by intro W hW;go_simp;(try with_reducible rfl))(hQ:∀c a w,Q (.panic c) (a.put oi.dst v) w->Q (.panic c) a w:=by exact fun _ _ _ h=>h)(hw:Region.wanted oi (yielded ops a.tmps)=true:=by rfl):wpAnyH P .any ops Q S (fuel+1) listed a w:=jk2 i hi hk hQ hw hy hS h
theorem tN(i:Nat){oi:Oper}(hS:S w)(h:wpAnyH P .any ops Q S fuel (listed.setIfInBounds i true) (a.put oi.dst undef) w)(hi:ops.toList[i]? =some oi:=by rfl)(hk:(Region.noSelect ops&&(Region.free .any ops listed i&&(Region.ready .any ops listed).contains i))=true:=by kernel_rfl)(hQ:∀c a w,Q (.panic c) (a.put oi.dst undef) w->Q (.panic c) a w:=by exact fun _ _ _ h=>h)(hw:Region.wanted oi (yielded ops a.tmps)=false:=by rfl):wpAnyH P .any ops Q S (fuel+1) listed a w:=tkNo i hi hk hQ hw hS h
theorem rO(i:Nat){oi:Oper}(h:∀K:Act->World->Prop,Shut (∀a w,S w->(S w->wpAnyH P .any ops Q S fuel (listed.setIfInBounds i true) a w)->K a w)->Oper.wp P oi a w K Q)(hi:ops.toList[i]? =some oi:=by rfl)(hr:Region.ready .any ops listed=[i]:=by kernel_rfl)(hw:Region.wanted oi (yielded ops a.tmps)=true:=by rfl):wpAnyH P .any ops Q S (fuel+1) listed a w:=rnOne i hi hr hw h
end
open Go.RowKit
def jp3(w:World)(m:Int)(ll:List Le)(e:Ending)(w':World):Prop:=∃A c,e= .returned (rlT m A ll.length c)/\SlF Bk.leC w' A ll.length c ll/\zF w w'/\∀b o,A=some ⟨b,o,none⟩->w.heap.size<=b
def jc6(w:World)(m:Int)(ll:List Le)(n x:Int)(e:Ending)(w':World):Prop:=∃A c,e= .returned (.tuple #[rlT m A ll.length c,.int .i64 n,.int .i64 x])/\SlF Bk.leC w' A ll.length c ll/\zF w w'/\(x=0->∀b o,A=some ⟨b,o,none⟩->w.heap.size<=b)
abbrev bkLe(l:Le):Value:= .agg #[.string Bk.lead,.int .i64 l.who,.int .i64 l.ep,.int .i64 l.till,.bool false]
theorem jjm:Op.bytesLess Bk.lead.toList Bk.lead.toList=false:=by
 have:∀l:List UInt8,Op.bytesLess l l=false:=by
  intro l
  induction l<;>simp_all [Op.bytesLess]
 exact this _
theorem LeAt.low{w w':World}{b o B:Nat}{l:Le}(h:LeAt w b o l)(hb:Below B w w')(hB:b<B):LeAt w' b o l:=
 ⟨(hb.cell (p:=⟨b,o,none⟩) hB).trans h.c0,(hb.cell (p:=⟨b,o+1,none⟩) hB).trans h.c1,(hb.cell (p:=⟨b,o+2,none⟩) hB).trans h.c2,(hb.cell (p:=⟨b,o+3,none⟩) hB).trans h.c3,(hb.cell (p:=⟨b,o+4,none⟩) hB).trans h.c4,Nat.lt_of_lt_of_le h.lt hb.size⟩
theorem jbl{w W:World}{a b:Obj}(h:W=(w.alloc a).alloc b):W.heap[w.heap.size]? =some a/\W.heap[w.heap.size+1]? =some b/\zF w W/\W.heap.size=w.heap.size+1+1:=by
 subst h;have h1:(w.alloc a).heap.size=w.heap.size+1:=by simp
 have b1:=(Below.refl w.heap.size w).alloc zl a;have b2:=(Below.refl (w.alloc a).heap.size (w.alloc a)).alloc zl b;refine⟨jah (heap_alloc_new w a) b2,by rw[<-h1];exact heap_alloc_new _ b,b1.trans (b2.mono b1.size),by simp⟩
theorem jaq{w W:World}{a b c:Obj}(h:W=((w.alloc a).alloc b).alloc c):W.heap[w.heap.size]? =some a/\W.heap[w.heap.size+1]? =some b/\W.heap[w.heap.size+1+1]? =some c/\zF w W/\W.heap.size=w.heap.size+1+1+1:=by
 subst h;obtain⟨h1,h2,h3,h4⟩:=jbl (w:=w) (a:=a) (b:=b) rfl;have b2:=(Below.refl ((w.alloc a).alloc b).heap.size ((w.alloc a).alloc b)).alloc zl c;refine⟨jah h1 b2,jah h2 b2,by rw[<-h4];exact heap_alloc_new _ c,h3.trans (b2.mono h3.size),by rw[<-h4];simp⟩
theorem juc(m:Int)(A:Option Addr)(c:Nat)(l':Le)(w:World):Calls Tryz.prog 189 #[rlT m A 0 c,bkLe l'] w (jp3 w m [l']):=by
 have hz:=jgm;have hz2:=jjm;unfold rlT bkLe;go_in;go_upto_region 1 with fail
 obtain⟨W,hW⟩:∃W,W=((w.alloc (.cells #[.int .i64 m,.slice A 0 c] 29)).alloc (.cells #[.string Bk.lead,.int .i64 l'.who,.int .i64 l'.ep,.int .i64 l'.till,.bool false] 145)).alloc (.cells #[zi,.slice none 0 0] 29):=zx;rw[<-hW];obtain⟨r1,r2,r3,hb,hs⟩:=jaq hW;clear hW;have B:=zh hb;obtain⟨n,hn⟩:∃n,n=w.heap.size:=zx;rw[<-hn]at r1 r2 r3 hs⊢;have NB:=zh (Nat.le_of_eq hn.symm);clear hn hb;have PF:Hid (∀W:World,W.heap[n]? =some (.cells #[.int .i64 m,.slice A 0 c] 29 (0,0))->W.heap[n+1]? =some (.cells #[.string Bk.lead,.int .i64 l'.who,.int .i64 l'.ep,.int .i64 l'.till,.bool false] 145 (0,0))->W.heap[n+1+1]? =some (.cells #[zi,.slice none 0 0] 29 (0,0))->
   W.cell? ⟨n,0,none⟩=some (.int .i64 m)/\W.cell? ⟨n,1,none⟩=some (.slice A 0 c)/\W.cell? ⟨n+1,0,none⟩=some (.string Bk.lead)/\W.cell? ⟨n+1,1,none⟩=some (.int .i64 l'.who)/\W.cell? ⟨n+1,2,none⟩=some (.int .i64 l'.ep)/\W.cell? ⟨n+1,3,none⟩=some (.int .i64 l'.till)/\W.cell? ⟨n+1,4,none⟩=some (.bool false)/\
   W.cell? ⟨n+1+1,0,none⟩=some (zi)/\W.cell? ⟨n+1+1,1,none⟩=some (.slice none 0 0)/\(∀i,W.frozen? ⟨n,i,none⟩=false)/\(∀i,W.frozen? ⟨n+1+1,i,none⟩=false)):=
  fun W r1 r2 r3=>⟨cell_of_row W _ 0 _ _ _ r1,cell_of_row W _ 1 _ _ _ r1,cell_of_row W _ 0 _ _ _ r2,cell_of_row W _ 1 _ _ _ r2,cell_of_row W _ 2 _ _ _ r2,cell_of_row W _ 3 _ _ _ r2,cell_of_row W _ 4 _ _ _ r2,cell_of_row W _ 0 _ _ _ r3,cell_of_row W _ 1 _ _ _ r3,fun i=>frozen_of_row W _ i _ _ r1,fun i=>frozen_of_row W _ i _ _ r3⟩
 obtain⟨x0,x1,e0,e1,e2,e3,e4,y0,y1,f1,f3⟩:=PF.o W r1 r2 r3;have R1:=zh r1;have R2:=zh r2;have R3:=zh r3;have HS:=zh hs;clear hs;clear r1 r2 r3;go_upto_region 2 with fail
 have hov:OwF Bk.leC 5 145 W W.heap.size (.slice none 0 0) []:=OwF.none_ _ _ _;generalize Value.slice none 0 0=v0 at hov⊢;have OV:=zh hov;clear hov;go_wp2_with fail;refine wp_loop_rounds 2 ?_;rw[rounds_succ];go_wp2_with(at_builtin;refine jaf Bk.leC_len Bk.leC_one Tryz.underlying27 jp0 rfl zv rfl (.tmp 51) (.tmp 53) rfl W.heap.size v0 [] rfl OV.o l' rfl (by decide) (by decide) zl ?_;intro v3 w3 ho3 hb3 hg3 _;obtain⟨A3,k3,rfl⟩:∃A c,v3= .slice A 1 c:=ho3.form;have O3:=zh ho3;have B3:Hid (zF W w3):=zh hb3;clear ho3 hb3 hg3 x0 x1 e0 e1 e2 e3 e4 y0 y1 f1 f3;have r1:=jah R1.o B3.o;have r2:=jah R2.o B3.o;have r3:=jah R3.o B3.o;obtain⟨x0,x1,e0,e1,e2,e3,e4,y0,y1,f1,f3⟩:=PF.o w3 r1 r2 r3;clear r1 r2 r3);exact bodyPost_ret (v:=rlT m A3 1 k3) (by simp[results,Tryz.results189,go_sem,x0,x1,y0,y1,f1,f3]) rfl ⟨A3,k3,rfl,(O3.o.keep (fun k hk=>by
  have:=(O3.o.lt k hk).1;have:=HS.o;show(World.setCell _ _ _).heap[k]? =_;rw[Below.heap_setCell _ _ _ _ (by simp;omega),Below.heap_setCell _ _ _ _ (by simp;omega),Below.heap_setCell _ _ _ _ (by simp;omega)])).sl,(((B.o.trans (B3.o.mono B.o.size)).setCell NB.o _).setCell (by have:=NB.o;show w.heap.size<=n+1+1;omega) _).setCell (by have:=NB.o;show w.heap.size<=n+1+1;omega) _,fun b' o' e=>by
  have h1:=(O3.o.lt b' (by rw[e];rfl)).1;have h2:=NB.o;have h3:=HS.o;omega⟩
theorem jjn(m:Int)(b o c:Nat)(l:Le)(l':Le)(w:World)(h:LeAt w b o l)(hc:1<=c):Calls Tryz.prog 189 #[rlT m (some ⟨b,o,none⟩) 1 c,bkLe l'] w (jp3 w m [l']):=by
 have hz:=jgm;have hz2:=jjm;unfold rlT bkLe;go_in;go_upto_region 1 with fail
 obtain⟨W,hW⟩:∃W,W=((w.alloc (.cells #[.int .i64 m,.slice (some ⟨b,o,none⟩) 1 c] 29)).alloc (.cells #[.string Bk.lead,.int .i64 l'.who,.int .i64 l'.ep,.int .i64 l'.till,.bool false] 145)).alloc (.cells #[zi,.slice none 0 0] 29):=zx;rw[<-hW];obtain⟨r1,r2,r3,hb,hs⟩:=jaq hW;clear hW;have B:=zh hb;have LA:=zh (h.on hb);have LL:=zh h.lt;obtain⟨n,hn⟩:∃n,n=w.heap.size:=zx;rw[<-hn]at r1 r2 r3 hs⊢;have NB:=zh (Nat.le_of_eq hn.symm);clear hn hb;have PF:Hid (∀W:World,W.heap[n]? =some (.cells #[.int .i64 m,.slice (some ⟨b,o,none⟩) 1 c] 29 (0,0))->W.heap[n+1]? =some (.cells #[.string Bk.lead,.int .i64 l'.who,.int .i64 l'.ep,.int .i64 l'.till,.bool false] 145 (0,0))->W.heap[n+1+1]? =some (.cells #[zi,.slice none 0 0] 29 (0,0))->
   W.cell? ⟨n,0,none⟩=some (.int .i64 m)/\W.cell? ⟨n,1,none⟩=some (.slice (some ⟨b,o,none⟩) 1 c)/\W.cell? ⟨n+1,0,none⟩=some (.string Bk.lead)/\W.cell? ⟨n+1,1,none⟩=some (.int .i64 l'.who)/\W.cell? ⟨n+1,2,none⟩=some (.int .i64 l'.ep)/\W.cell? ⟨n+1,3,none⟩=some (.int .i64 l'.till)/\W.cell? ⟨n+1,4,none⟩=some (.bool false)/\
   W.cell? ⟨n+1+1,0,none⟩=some (zi)/\W.cell? ⟨n+1+1,1,none⟩=some (.slice none 0 0)/\(∀i,W.frozen? ⟨n,i,none⟩=false)/\(∀i,W.frozen? ⟨n+1+1,i,none⟩=false)):=
  fun W r1 r2 r3=>⟨cell_of_row W _ 0 _ _ _ r1,cell_of_row W _ 1 _ _ _ r1,cell_of_row W _ 0 _ _ _ r2,cell_of_row W _ 1 _ _ _ r2,cell_of_row W _ 2 _ _ _ r2,cell_of_row W _ 3 _ _ _ r2,cell_of_row W _ 4 _ _ _ r2,cell_of_row W _ 0 _ _ _ r3,cell_of_row W _ 1 _ _ _ r3,fun i=>frozen_of_row W _ i _ _ r1,fun i=>frozen_of_row W _ i _ _ r3⟩
 obtain⟨x0,x1,e0,e1,e2,e3,e4,y0,y1,f1,f3⟩:=PF.o W r1 r2 r3;obtain⟨h0,h1,h2,h3,h4,hlt⟩:=LA.o;have R1:=zh r1;have R2:=zh r2;have R3:=zh r3;have HS:=zh hs;clear hs;clear r1 r2 r3;go_upto_region 2 with fail
 have hov:OwF Bk.leC 5 145 W W.heap.size (.slice none 0 0) []:=OwF.none_ _ _ _;generalize Value.slice none 0 0=v0 at hov⊢;have OV:=zh hov;clear hov;go_wp2_with fail;refine wp_loop_rounds 2 ?_;rw[rounds_succ];go_wp2_with fail;go_region;obtain⟨W1,hW1⟩:∃W1,W1=W.drew:=zx;rw[<-hW1];have hb1:zF W W1:=by rw[hW1];exact zD.drew
 clear hW1 x0 x1 e0 e1 e2 e3 e4 y0 y1 f1 f3 h0 h1 h2 h3 h4 hlt;have R1:=zh (jah R1.o hb1);have R2:=zh (jah R2.o hb1);have R3:=zh (jah R3.o hb1);have LA:=zh (LA.o.on hb1);have OV:=zh ((OV.o.below hb1).lower (B':=n+1+1+1) (by have:=HS.o;omega));have B:=zh (B.o.trans (hb1.mono B.o.size));have HS:Hid (n+1+1+1<=W1.heap.size):=by show _<=_;have:=hb1.size;have:=HS.o;omega
 clear hb1;obtain⟨x0,x1,e0,e1,e2,e3,e4,y0,y1,f1,f3⟩:=PF.o W1 R1.o R2.o R3.o;obtain⟨h0,h1,h2,h3,h4,hlt⟩:=LA.o;go_wp2_with(at_builtin;refine jaf Bk.leC_len Bk.leC_one Tryz.underlying27 jp0 rfl zv rfl (.tmp 28) (.tmp 30) rfl (n+1+1+1) v0 [] rfl OV.o l' rfl (by decide) (by decide) HS.o ?_;intro v3 w3 ho3 hb3 hg3 _;obtain⟨A3,k3,rfl⟩:∃A c,v3= .slice A 1 c:=ho3.form;have O3:=zh ho3;have B3:=zh hb3;clear ho3 hb3 hg3 x0 x1 e0 e1 e2 e3 e4 y0 y1 f1 f3 h0 h1 h2 h3 h4 hlt;have r1:=(B3.o.block n zv).trans R1.o;have r2:=(B3.o.block (n+1) zv).trans R2.o;have r3:=(B3.o.block (n+1+1) zv).trans R3.o;obtain⟨x0,x1,e0,e1,e2,e3,e4,y0,y1,f1,f3⟩:=PF.o w3 r1 r2 r3;clear r1 r2 r3;obtain⟨h0,h1,h2,h3,h4,hlt⟩:=LA.o.low B3.o (by have:=LL.o;have:=NB.o;omega));go_region;go_wp2_with fail;rw[rounds_succ];go_wp2_with fail;exact bodyPost_ret (v:=rlT m A3 1 k3) (by simp[results,Tryz.results189,go_sem,x0,x1,y0,y1,f1,f3]) rfl ⟨A3,k3,rfl,(O3.o.keep (fun k hk=>by
  have:=(O3.o.lt k hk).1;have:=HS.o;show(World.setCell _ _ _).heap[k]? =_;rw[Below.heap_setCell _ _ _ _ (by simp;omega),Below.heap_setCell _ _ _ _ (by simp;omega),Below.heap_setCell _ _ _ _ (by simp;omega)])).sl,(((B.o.trans (B3.o.mono (by have:=NB.o;omega))).drew.setCell NB.o _).setCell (by have:=NB.o;show w.heap.size<=n+1+1;omega) _).setCell (by have:=NB.o;show w.heap.size<=n+1+1;omega) _,fun b' o' e=>by
  have h1:=(O3.o.lt b' (by rw[e];rfl)).1;have h2:=NB.o;have h3:=HS.o;omega⟩
