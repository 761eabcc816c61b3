import Derived.Carry
import Derived.Test.YtkinlcfhojjalaaGreatDoorQz21
set_option maxHeartbeats 6400000
set_option maxRecDepth 100000
set_option linter.all false
namespace Go.Proofs.YtkinlcfhojjalaaGreatDoor
open Go.RowKit Go.Maps
namespace Rc
def whoB(k n:Int):Bool:=if k=1 then Spc.inn n 0 63 else if k=5\/k=6 then Spc.inn n 0 15 else if k=7 then Spc.inn n 1 4 else decide (n=0)
def nB(k n:Int):Bool:=if k=1\/k=3\/k=7 then Spc.inn n 0 1099511627776 else if k=2 then Spc.inn n 1 1048576 else if k=4 then Spc.inn n 1 5 else if k=5 then Spc.inn n 0 1048576 else decide (n=0)
def seqB(k n:Int):Bool:=if k=1 then Spc.inn n 1 1048576 else if k=5\/k=6 then Spc.inn n 1 1099511627776 else decide (n=0)
def textB(k:Int)(t:ByteArray):Bool:=if k=2\/k=4\/k=7 then decide (1<=t.size)&&decide (t.size<=64)else decide (t.size=0)
def specB(k:Int)(s:Spc.Sp):Bool:=if k=3 then decide (Spc.chk s=0)else zsp s
def isKind(k:Int):Bool:=decide (1<=k)&&decide (k<=7)
theorem isKind_iff{k:Int}:isKind k=true↔1<=k/\k<=7:=by unfold isKind;simp
end Rc
abbrev kwho(n:Int):Value:= .int .i64 n
abbrev ktxt(t:ByteArray):Value:= .string t
structure jhm(B:Nat)(w:World)(k:Int)(v1 v2 v3 v4 v5:Value):Prop where
 who:FnV B w v1 kwho Spc.i64 (Rc.whoB k)
 n:FnV B w v2 kwho Spc.i64 (Rc.nB k)
 seq:FnV B w v3 kwho Spc.i64 (Rc.seqB k)
 text:FnV B w v4 ktxt (fun t=>t.size<=maxLen) (Rc.textB k)
 spec:FnV B w v5 Spc.val Spc.In (Rc.specB k)
abbrev ruleV(k:Int)(v1 v2 v3 v4 v5:Value):Value:= .agg #[.string (Rc.nameB k),v1,v2,v3,v4,v5]
structure jrw(B:Nat)(w:World)(m:Nat):Prop where
 map:∃f n,RM.At w m f n/\(∀k,Rc.isKind k=true->∃v1 v2 v3 v4 v5,f k=some (ruleV k v1 v2 v3 v4 v5)/\jhm B w k v1 v2 v3 v4 v5)/\∀k,Rc.isKind k=false->f k=none
theorem jhm.on{B:Nat}{w w':World}{k:Int}{v1 v2 v3 v4 v5:Value}(h:jhm B w k v1 v2 v3 v4 v5)(hb:ja3 B w w')(hs:w.heap.size<=w'.heap.size):jhm B w' k v1 v2 v3 v4 v5:=⟨h.who.on hb hs,h.n.on hb hs,h.seq.on hb hs,h.text.on hb hs,h.spec.on hb hs⟩
structure RSt(W w:World)(m:Nat)(f:Int->Option Value)(n:Nat)(L:List (Value×Int×Int)):Prop where
 below:zF W w
 base:W.heap.size<=m
 map:∃j,j<=n/\RM.At w m f j
 fns:∀v lo hi,(v,lo,hi)∈L->jdi w m v lo hi
namespace RSt
variable{W w:World}{m n:Nat}{f:Int->Option Value}{L:List (Value×Int×Int)}
theorem more(h:RSt W w m f n L){w':World}{v:Value}{lo hi:Int}(hs:jdi w' m v lo hi)(hb:zF w w'):RSt W w' m f n ((v,lo,hi)::L):=
 ⟨h.below.trans (hb.mono h.below.size),h.base,(by obtain⟨j,hj,hm⟩:=h.map;exact⟨j,hj,hm.on hb⟩),fun v' lo' hi' hm=>by
  rcases List.mem_cons.1 hm with e|hm
  ·injection e with e1 e2;injection e2 with e2 e3;subst e1 e2 e3;exact hs
  ·exact(h.fns _ _ _ hm).on hb⟩
theorem turned(h:RSt W w m f n L){w':World}{f':Int->Option Value}{n':Nat}(hm:∃j,j<=n'/\RM.At w' m f' j)(ht:w.mapTurned w' m):RSt W w' m f' n' L:=
 ⟨⟨ht.grown.os.trans h.below.os,ht.grown.tape.trans h.below.tape,ht.grown.output.trans h.below.output,Nat.le_trans h.below.size ht.grown.size,fun i hi=>(ht.grown.block i (Nat.lt_of_lt_of_le hi h.below.size) (fun e=>by injection e with e;have:=h.base;omega)).trans (h.below.block i hi)⟩,
  h.base,hm,fun v lo hi hv=>(h.fns v lo hi hv).turned ht⟩
theorem fn(h:RSt W w m f n L){v:Value}{lo hi:Int}(hm:(v,lo,hi)∈L):FnV W.heap.size w v kwho Spc.i64 (fun n=>Spc.inn n lo hi):=(h.fns v lo hi hm).fn h.base
theorem lt(h:RSt W w m f n L):m<w.heap.size:=by
 obtain⟨j,hj,hm⟩:=h.map;exact hm.lt
theorem ins(h:RSt W w m f n L){ops:Array Oper}{rest:List Oper}{o:Oper}{a:Act}{Q:Exit->Act->World->Prop}(hg:o.guard=none)(y x v:Operand)(hop:o.op=Op.insert 210 y x v)(hm:a.eval y= .map (some m))(k:Int)(u:Value)(hx:a.eval x= .int .i64 k)(hv:a.eval v=u)(hn:n<100)(hk:(Lit.int .i64 k).wf=true)
  (hK:∀w',RSt W w' m (MapV.set f k (some u)) (n+1) L->wpList Tryz.prog ops Q rest (a.put o.dst undef) w'):wpList Tryz.prog ops Q (o::rest) a w:=by
 obtain⟨j,hj,hmap⟩:=h.map;exact hmap.insert hg y x v hop hm k u hx hv (by unfold maxLen;omega) hk fun w' h1 h2=>hK w' (h.turned ⟨_,by split<;>omega,h1⟩ h2)
end RSt
theorem fnI{B:Nat}(w:World):FnV B w (.func (.func 199) #[] #[]) kwho Spc.i64 (fun n=>decide (n=0)):=⟨_,_,rfl,fun _ _=>rfl,fun W n _ _=>joa n W⟩
theorem fnT{B:Nat}(w:World):FnV B w (.func (.func 197) #[] #[]) ktxt (fun t=>t.size<=maxLen) (fun t=>decide (t.size=0)):=⟨_,_,rfl,fun _ _=>rfl,fun W n _ _=>job n W⟩
theorem fnT2{B:Nat}(w:World):FnV B w (.func (.func 200) #[] #[]) ktxt (fun t=>t.size<=maxLen) (fun t=>decide (1<=t.size)&&decide (t.size<=64)):=⟨_,_,rfl,fun _ _=>rfl,fun W n h _=>jlr n h W⟩
theorem fnS{B:Nat}(w:World):FnV B w (.func (.func 198) #[] #[]) Spc.val Spc.In Rc.zsp:=⟨_,_,rfl,fun _ _=>rfl,fun W n _ _=>joc n W⟩
theorem fnS2{B:Nat}(w:World):FnV B w (.func (.func 201) #[] #[]) Spc.val Spc.In (fun s=>decide (Spc.chk s=0)):=⟨_,_,rfl,fun _ _=>rfl,fun W n h _=>jls n h W⟩
theorem FnV.same{T:Type}{B:Nat}{w:World}{v:Value}{a:T->Value}{ok:T->Prop}{p q:T->Bool}(h:FnV B w v a ok p)(e:p=q):FnV B w v a ok q:=e▸h
theorem jkb(w:World):Calls Tryz.prog 154 #[] w fun e w'=>∃m,e= .returned (.map (some m))/\jrw w.heap.size w' m/\zF w w':=by
 have R:=zh (RSt.mk (W:=w) ((Below.refl w.heap.size w).alloc zl (.map #[] 0)) zl ⟨0,zl,MapV.At.made (M:=RM) w⟩ (L:=[]) (fun _ _ _ h=>by cases h));have HW:Hid (w.heap.size=w.heap.size):=rfl;have hmm:=@run_makeMap Tryz.prog;go_in
 go_wp2_with(first
  |(go_at_call 196;refine(jrv _ _ _ _ R.o.lt).mono ?_;rintro e w1 ⟨a,b,rfl,hs,hb⟩;have R:=zh (R.o.more hs hb);clear hs hb)
  |((with_reducible show wpList _ _ _ ({dst:=none,op:= .insert _ _ _ _,type:=_,pos:=_,after:=_,guard:=_}::_) _ _);refine R.o.ins rfl _ _ _ rfl rfl _ _ rfl rfl (by decide) (by decide) ?_;intro w2 hr2;have R:=zh hr2;clear hr2))
 go_ret;refine⟨_,rfl,?_,R.o.below⟩;obtain⟨j,hj,hm⟩:=R.o.map;refine⟨_,j,hm,fun k hk=> ?_,fun k hk=> ?_⟩
 ·rw[Rc.isKind_iff]at hk
  have hk:k=1\/k=2\/k=3\/k=4\/k=5\/k=6\/k=7:=by omega
  clear hm hj;rcases hk with rfl|rfl|rfl|rfl|rfl|rfl|rfl
  ·exact⟨_,_,_,_,_,(MapV.set_other _ _ (by decide)).trans ((MapV.set_other _ _ (by decide)).trans ((MapV.set_other _ _ (by decide)).trans ((MapV.set_other _ _ (by decide)).trans ((MapV.set_other _ _ (by decide)).trans ((MapV.set_other _ _ (by decide)).trans (MapV.set_same _ _ _)))))),⟨(R.o.fn (List.Mem.tail _ (List.Mem.tail _ (List.Mem.tail _ (List.Mem.tail _ (List.Mem.tail _ (List.Mem.tail _ (List.Mem.tail _ (List.Mem.tail _ (List.Mem.tail _ (List.Mem.tail _ (List.Mem.tail _ (List.Mem.tail _ (List.Mem.head _)))))))))))))).same (funext fun n=>by simp[Rc.whoB]),(R.o.fn (List.Mem.tail _ (List.Mem.tail _ (List.Mem.tail _ (List.Mem.tail _ (List.Mem.tail _ (List.Mem.tail _ (List.Mem.tail _ (List.Mem.tail _ (List.Mem.tail _ (List.Mem.tail _ (List.Mem.tail _ (List.Mem.head _))))))))))))).same (funext fun n=>by simp[Rc.nB]),(R.o.fn (List.Mem.tail _ (List.Mem.tail _ (List.Mem.tail _ (List.Mem.tail _ (List.Mem.tail _ (List.Mem.tail _ (List.Mem.tail _ (List.Mem.tail _ (List.Mem.tail _ (List.Mem.tail _ (List.Mem.head _)))))))))))).same (funext fun n=>by simp[Rc.seqB]),(fnT _).same (funext fun t=>by simp[Rc.textB]),(fnS _).same (funext fun t=>by simp[Rc.specB])⟩⟩
  ·exact⟨_,_,_,_,_,(MapV.set_other _ _ (by decide)).trans ((MapV.set_other _ _ (by decide)).trans ((MapV.set_other _ _ (by decide)).trans ((MapV.set_other _ _ (by decide)).trans ((MapV.set_other _ _ (by decide)).trans (MapV.set_same _ _ _))))),⟨(fnI _).same (funext fun n=>by simp[Rc.whoB]),(R.o.fn (List.Mem.tail _ (List.Mem.tail _ (List.Mem.tail _ (List.Mem.tail _ (List.Mem.tail _ (List.Mem.tail _ (List.Mem.tail _ (List.Mem.tail _ (List.Mem.tail _ (List.Mem.head _))))))))))).same (funext fun n=>by simp[Rc.nB]),(fnI _).same (funext fun n=>by simp[Rc.seqB]),(fnT2 _).same (funext fun t=>by simp[Rc.textB]),(fnS _).same (funext fun t=>by simp[Rc.specB])⟩⟩
  ·exact⟨_,_,_,_,_,(MapV.set_other _ _ (by decide)).trans ((MapV.set_other _ _ (by decide)).trans ((MapV.set_other _ _ (by decide)).trans ((MapV.set_other _ _ (by decide)).trans (MapV.set_same _ _ _)))),⟨(fnI _).same (funext fun n=>by simp[Rc.whoB]),(R.o.fn (List.Mem.tail _ (List.Mem.tail _ (List.Mem.tail _ (List.Mem.tail _ (List.Mem.tail _ (List.Mem.tail _ (List.Mem.tail _ (List.Mem.tail _ (List.Mem.head _)))))))))).same (funext fun n=>by simp[Rc.nB]),(fnI _).same (funext fun n=>by simp[Rc.seqB]),(fnT _).same (funext fun t=>by simp[Rc.textB]),(fnS2 _).same (funext fun t=>by simp[Rc.specB])⟩⟩
  ·exact⟨_,_,_,_,_,(MapV.set_other _ _ (by decide)).trans ((MapV.set_other _ _ (by decide)).trans ((MapV.set_other _ _ (by decide)).trans (MapV.set_same _ _ _))),⟨(fnI _).same (funext fun n=>by simp[Rc.whoB]),(R.o.fn (List.Mem.tail _ (List.Mem.tail _ (List.Mem.tail _ (List.Mem.tail _ (List.Mem.tail _ (List.Mem.tail _ (List.Mem.tail _ (List.Mem.head _))))))))).same (funext fun n=>by simp[Rc.nB]),(fnI _).same (funext fun n=>by simp[Rc.seqB]),(fnT2 _).same (funext fun t=>by simp[Rc.textB]),(fnS _).same (funext fun t=>by simp[Rc.specB])⟩⟩
  ·exact⟨_,_,_,_,_,(MapV.set_other _ _ (by decide)).trans ((MapV.set_other _ _ (by decide)).trans (MapV.set_same _ _ _)),⟨(R.o.fn (List.Mem.tail _ (List.Mem.tail _ (List.Mem.tail _ (List.Mem.tail _ (List.Mem.tail _ (List.Mem.tail _ (List.Mem.head _)))))))).same (funext fun n=>by simp[Rc.whoB]),(R.o.fn (List.Mem.tail _ (List.Mem.tail _ (List.Mem.tail _ (List.Mem.tail _ (List.Mem.tail _ (List.Mem.head _))))))).same (funext fun n=>by simp[Rc.nB]),(R.o.fn (List.Mem.tail _ (List.Mem.tail _ (List.Mem.tail _ (List.Mem.tail _ (List.Mem.head _)))))).same (funext fun n=>by simp[Rc.seqB]),(fnT _).same (funext fun t=>by simp[Rc.textB]),(fnS _).same (funext fun t=>by simp[Rc.specB])⟩⟩
  ·exact⟨_,_,_,_,_,(MapV.set_other _ _ (by decide)).trans (MapV.set_same _ _ _),⟨(R.o.fn (List.Mem.tail _ (List.Mem.tail _ (List.Mem.tail _ (List.Mem.head _))))).same (funext fun n=>by simp[Rc.whoB]),(fnI _).same (funext fun n=>by simp[Rc.nB]),(R.o.fn (List.Mem.tail _ (List.Mem.tail _ (List.Mem.head _)))).same (funext fun n=>by simp[Rc.seqB]),(fnT _).same (funext fun t=>by simp[Rc.textB]),(fnS _).same (funext fun t=>by simp[Rc.specB])⟩⟩
  ·exact⟨_,_,_,_,_,MapV.set_same _ _ _,⟨(R.o.fn (List.Mem.tail _ (List.Mem.head _))).same (funext fun n=>by simp[Rc.whoB]),(R.o.fn (List.Mem.head _)).same (funext fun n=>by simp[Rc.nB]),(fnI _).same (funext fun n=>by simp[Rc.seqB]),(fnT2 _).same (funext fun t=>by simp[Rc.textB]),(fnS _).same (funext fun t=>by simp[Rc.specB])⟩⟩
 ·have hk:¬(1<=k/\k<=7):=fun h=>by rw[Rc.isKind_iff.2 h]at hk;cases hk
  rw[MapV.set_other _ _ zv,MapV.set_other _ _ zv,MapV.set_other _ _ zv,MapV.set_other _ _ zv,MapV.set_other _ _ zv,MapV.set_other _ _ zv,MapV.set_other _ _ zv]
theorem i64_lit{k:Int}(h:Spc.i64 k):(Lit.int .i64 k).wf=true:=by
 unfold Spc.i64 at h;simp[Lit.wf,IntKind.min,IntKind.max,IntKind.signed,IntKind.bits];omega
theorem jod{k:Int}(h:Rc.isKind k=false):Rc.nameB k=⟨#[]⟩:=by
 have hk:¬(1<=k/\k<=7):=fun e=>by rw[Rc.isKind_iff.2 e]at h;cases h
 unfold Rc.nameB;rw[if_neg zv,if_neg zv,if_neg zv,if_neg zv,if_neg zv,if_neg zv,if_neg zv]
theorem FnV.cell{T:Type}{B:Nat}{w:World}{v:Value}{a:T->Value}{ok:T->Prop}{p:T->Bool}(h:FnV B w v a ok p):v.oneCell'=true:=by
 obtain⟨g,cap,rfl,_⟩:=h;rfl
theorem jrw.val{B:Nat}{w:World}{m:Nat}(h:jrw B w m)(k:Int):∃f n,RM.At w m f n/\(f k).isSome=Rc.isKind k/\∃v1 v2 v3 v4 v5,(f k).getD RM.zero=ruleV k v1 v2 v3 v4 v5/\(#[.string (Rc.nameB k),v1,v2,v3,v4,v5]:Array Value).all (·.oneCell')=true/\(Rc.isKind k=true->jhm B w k v1 v2 v3 v4 v5):=by
 obtain⟨f,n,h1,h2,h3⟩:=h.map;refine⟨f,n,h1,?_⟩
 cases hk:Rc.isKind k with
 |true=>
  obtain⟨v1,v2,v3,v4,v5,e,hr⟩:=h2 k hk;refine⟨by rw[e];rfl,v1,v2,v3,v4,v5,by rw[e];rfl,?_,fun _=>hr⟩;have h1:=hr.who.cell;have h2:=hr.n.cell;have h3:=hr.seq.cell;have h4:=hr.text.cell;have h5:=hr.spec.cell;have h0:(Value.string (Rc.nameB k)).oneCell'=true:=rfl;simp[h0,h1,h2,h3,h4,h5]
 |false=>
  have e:=h3 k hk;refine⟨by rw[e];rfl,.nilFunc,.nilFunc,.nilFunc,.nilFunc,.nilFunc,?_,by simp[Value.oneCell'],fun h=>by cases h⟩;rw[e];unfold ruleV;rw[jod hk];rfl
theorem jrw.look{B:Nat}{w:World}{m:Nat}(h:jrw B w m)(k:Int)(hk:Spc.i64 k):∃v1 v2 v3 v4 v5,(∀W,zF w W->(Instr.lookup 210 (.map (some m)) (.int .i64 k) true).run Tryz.prog W= .ok (.tuple #[.agg #[.string (Rc.nameB k),v1,v2,v3,v4,v5],.bool (Rc.isKind k)]) W)/\(#[.string (Rc.nameB k),v1,v2,v3,v4,v5]:Array Value).all (·.oneCell')=true/\(Rc.isKind k=true->jhm B w k v1 v2 v3 v4 v5):=by
 obtain⟨f,n,h1,h2,v1,v2,v3,v4,v5,e,ho,hr⟩:=h.val k;refine⟨v1,v2,v3,v4,v5,fun W hW=> ?_,ho,hr⟩;have:=(h1.on hW).look_ok k (i64_lit hk);rw[h2,e]at this;exact this
namespace Rc
theorem right_kind{r:R}(h:isKind r.kind=true):right r=(Spc.inn r.epoch 1 1099511627776&&(whoB r.kind r.who&&(nB r.kind r.n&&(seqB r.kind r.seq&&(textB r.kind r.text&&specB r.kind r.sp))))):=by
 rw[isKind_iff]at h;have hk:r.kind=1\/r.kind=2\/r.kind=3\/r.kind=4\/r.kind=5\/r.kind=6\/r.kind=7:=by omega
 have hp:plain r=zsp r.sp:=rfl;unfold right;rw[hp];unfold bare told whoB nB seqB textB specB;generalize Spc.inn r.epoch 1 1099511627776=x0;generalize zsp r.sp=x1;generalize decide (r.text.size=0)=x2;generalize(decide (1<=r.text.size)&&decide (r.text.size<=64))=x3;generalize decide (Spc.chk r.sp=0)=x4;generalize r.kind=k at*;rcases hk with rfl|rfl|rfl|rfl|rfl|rfl|rfl
 all_goals
  simp
  ac_rfl
theorem right_none{r:R}(h:isKind r.kind=false):right r=false:=by
 have hk:¬(1<=r.kind/\r.kind<=7):=fun e=>by rw[isKind_iff.2 e]at h;cases h
 unfold right;rw[if_neg zv,if_neg zv,if_neg zv,if_neg zv,if_neg zv,if_neg zv,if_neg zv,Bool.and_false]
end Rc
structure RuCs(w:World)(q:Nat)(v1 v2 v3 v4 v5:Value):Prop where
 d1:w.cell? ⟨q,1,none⟩=some v1
 d2:w.cell? ⟨q,2,none⟩=some v2
 d3:w.cell? ⟨q,3,none⟩=some v3
 d4:w.cell? ⟨q,4,none⟩=some v4
 d5:w.cell? ⟨q,5,none⟩=some v5
theorem rucs{w:World}{q:Nat}{v0 v1 v2 v3 v4 v5:Value}(h:w.heap[q]? =some (.cells #[v0,v1,v2,v3,v4,v5] 208 (0,0))):RuCs w q v1 v2 v3 v4 v5:=
 ⟨by rw[cell_of_row w q 1 _ _ _ h];rfl,by rw[cell_of_row w q 2 _ _ _ h];rfl,by rw[cell_of_row w q 3 _ _ _ h];rfl,by rw[cell_of_row w q 4 _ _ _ h];rfl,by rw[cell_of_row w q 5 _ _ _ h];rfl⟩
theorem jg5:(Tryz.prog.info? 208).map (·.size)=some 6:=by kernel_rfl
theorem joe{B:Nat}{a b c:World}(h:ja3 B a b)(hs:a.heap.size<=b.heap.size)(hb:zF b c):ja3 B a c:=fun i h1 h2=>(hb.block i zv).trans (h i h1 h2)
theorem zzb{p:Prop}(h:p:=by
 refine rO 8 (fun K hK=> ?_);refine wp_store_row 208 (.tmp 3) (.tmp 10) rfl q #[.string (Rc.nameB r.kind),v1,v2,v3,v4,v5] rfl rfl 208 _ QR.o jg5 rfl OC.o ?_;have RS:=zh (setRow_heap W2 q _ #[.string (Rc.nameB r.kind),v1,v2,v3,v4,v5] _ _ QR.o);have BB2:=zh (below_setRow BB.o QB.o #[.string (Rc.nameB r.kind),v1,v2,v3,v4,v5]);have hS2:RcAt (W2.setRow q #[.string (Rc.nameB r.kind),v1,v2,v3,v4,v5]) g r:=⟨(setRow_other W2 q g #[.string (Rc.nameB r.kind),v1,v2,v3,v4,v5] NE.o).trans hS.row⟩;have RV2:Hid (Rc.isKind r.kind=true->jhm W0.heap.size (W2.setRow q #[.string (Rc.nameB r.kind),v1,v2,v3,v4,v5]) r.kind v1 v2 v3 v4 v5):=fun h=>(RV.o h).on (ja3.set (ja3.of _ K2.o) QN.o _) (by rw[jba];exact K2.o.size);clear hS BB QR RV;have hS:=hS2;clear hS2;generalize W2.setRow q #[.string (Rc.nameB r.kind),v1,v2,v3,v4,v5]=W5 at*;refine hK.out _ _ hS (fun _=> ?_);clear hK K;refine tY 9 hS ?_;simp only[Act.put,zT,zO,zS];refine wpAnyH_done zk ?_ _;go_wp2;go_meet
 case rel=>exact⟨q,_,v1,v2,v3,v4,v5,rfl,rfl,RS.o,⟨_,RV2.o⟩,hS,BB2.o⟩):p:=h
theorem jfj(r:Rc.R)(hin:Rc.In r)(w:World):Calls Tryz.prog 98 #[.agg (Rc.cells r)] w (APos w (.bool (Rc.right r))):=by
 have HI:=zh hin;have RA:=zh (RcAt.new w r);have B1:=zh ((Below.refl w.heap.size w).alloc zl (.cells (Rc.cells r) 56));have I0:Hid (Spc.i64 r.kind):=hin.nums _ (by simp[Rc.nums]);have I2:Hid (Spc.i64 r.who):=hin.nums _ (by simp[Rc.nums]);have I3:Hid (Spc.i64 r.n):=hin.nums _ (by simp[Rc.nums]);have I4:Hid (Spc.i64 r.seq):=hin.nums _ (by simp[Rc.nums]);clear hin;obtain⟨ans,hans⟩:∃ans,ans=Rc.right r:=zx;rw[<-hans];have HA:=zh hans;clear hans;go_in;go_upto_region 1 with fail
 obtain⟨g,hg⟩:∃g,g=w.heap.size:=zx;rw[<-hg]at RA⊢;clear hg;generalize w.alloc (.cells (Rc.cells r) 56)=ws at*;go_cut [3,4] (fun s3 s4 wx=>∃q nm v1 v2 v3 v4 v5,s3= .pointer (some ⟨q,0,none⟩)/\s4= .bool (Rc.isKind r.kind)/\wx.heap[q]? =some (.cells #[.string nm,v1,v2,v3,v4,v5] 208 (0,0))/\(∃B,Rc.isKind r.kind=true->jhm B wx r.kind v1 v2 v3 v4 v5)/\RcAt wx g r/\zF w wx)
 case first=>
  have BB:=zh B1.o.drew;refine wp_region_held_drew (S:=fun W=>RcAt W g r) zk (RA.o.on (Below.refl ws.heap.size ws).drew) (fun hS=> ?_);clear RA B1;generalize ws.drew=W0 at*;refine tY 1 hS ?_;refine tZ 2 rfl (by intro W hW;obtain⟨c0,c1,c2,c3,c4,c5,c6,c7,c8,c9,c10,c11,c12,c13,c14,c15,c16,c17,clt⟩:=hW.cs;go_simp;(try with_reducible rfl)) hS ?_;simp only[Act.put,zT,zO,zS];refine jgn 0 7 rfl rfl zk rfl rfl (fun K hK=> ?_) (fun K hK=> ?_)
  ·go_simp
   refine(jkb _).mono ?_
   rintro e W1 ⟨m,rfl,hr,hb⟩;obtain⟨v1,v2,v3,v4,v5,hlk,hoc,hrv⟩:=hr.look r.kind I0.o;have LK:=zh hlk;have OC:=zh hoc;have RV:=zh hrv;have hS2:=hS.on hb;have BB2:=zh (BB.o.trans (hb.mono BB.o.size));clear hlk hoc hrv hr;clear hS BB hb;have hS:=hS2;have BB:=BB2;clear hS2 BB2;refine hK.out _ _ hS (fun _=> ?_);clear hK K;try simp only[Act.put,zT,zO,zS]
   refine jgn 3 7 rfl rfl zk rfl rfl (fun K hK=> ?_) (fun K hK=> ?_)
   ·have hl:=LK.o W1 zD
    go_simp;clear hl LK;refine hK.out _ _ hS (fun _=> ?_);clear hK K;refine tY 4 hS ?_;refine tY 5 hS ?_;refine tY 6 hS ?_;simp only[Act.put,zT,zO,zS];refine rO 7 (fun K hK=> ?_);go_simp;have hS2:=hS.on ((Below.refl W1.heap.size W1).alloc zl (.cells #[.string ⟨#[]⟩,.nilFunc,.nilFunc,.nilFunc,.nilFunc,.nilFunc] 208));have QR:=zh (heap_alloc_new W1 (.cells #[.string ⟨#[]⟩,.nilFunc,.nilFunc,.nilFunc,.nilFunc,.nilFunc] 208));have BB2:=zh (BB.o.alloc (by have:=BB.o.size;omega) (.cells #[.string ⟨#[]⟩,.nilFunc,.nilFunc,.nilFunc,.nilFunc,.nilFunc] 208));have K2:Hid (zF W1 (W1.alloc (.cells #[.string ⟨#[]⟩,.nilFunc,.nilFunc,.nilFunc,.nilFunc,.nilFunc] 208))):=zE;obtain⟨q,hq⟩:∃q,q=W1.heap.size:=zx;have QB:Hid (w.heap.size<=q):=by have:=BB.o.size;show _<=_;omega
    have NE:Hid (g≠q):=by have:=(zg hS.row).1;show _≠_;omega
    have QN:Hid (q<W0.heap.size\/W1.heap.size<=q):=Or.inr zv;rw[<-hq]at QR⊢;clear hq hS BB;have hS:=hS2;have BB:=BB2;clear hS2 BB2;generalize W1.alloc (.cells #[.string ⟨#[]⟩,.nilFunc,.nilFunc,.nilFunc,.nilFunc,.nilFunc] 208)=W2 at*;refine hK.out _ _ hS (fun _=> ?_);clear hK K;try simp only[Act.put,zT,zO,zS]
    exact zzb
   ·go_simp
    have hS2:=hS.on ((Below.refl W1.heap.size W1).alloc zl (.cells #[.string ⟨#[]⟩,.nilFunc,.nilFunc,.nilFunc,.nilFunc,.nilFunc] 208));have QR:=zh (heap_alloc_new W1 (.cells #[.string ⟨#[]⟩,.nilFunc,.nilFunc,.nilFunc,.nilFunc,.nilFunc] 208));have BB2:=zh (BB.o.alloc (by have:=BB.o.size;omega) (.cells #[.string ⟨#[]⟩,.nilFunc,.nilFunc,.nilFunc,.nilFunc,.nilFunc] 208));have K2:Hid (zF W1 (W1.alloc (.cells #[.string ⟨#[]⟩,.nilFunc,.nilFunc,.nilFunc,.nilFunc,.nilFunc] 208))):=zE;obtain⟨q,hq⟩:∃q,q=W1.heap.size:=zx;have QB:Hid (w.heap.size<=q):=by have:=BB.o.size;show _<=_;omega
    have NE:Hid (g≠q):=by have:=(zg hS.row).1;show _≠_;omega
    have QN:Hid (q<W0.heap.size\/W1.heap.size<=q):=Or.inr zv;rw[<-hq]at QR⊢;clear hq hS BB;have hS:=hS2;have BB:=BB2;clear hS2 BB2;generalize W1.alloc (.cells #[.string ⟨#[]⟩,.nilFunc,.nilFunc,.nilFunc,.nilFunc,.nilFunc] 208)=W2 at*;refine hK.out _ _ hS (fun _=> ?_);clear hK K;try simp only[Act.put,zT,zO,zS]
    refine rO 3 (fun K hK=> ?_);have hl:=LK.o W2 K2.o;go_simp;clear hl LK;refine hK.out _ _ hS (fun _=> ?_);clear hK K;refine tY 4 hS ?_;refine tY 5 hS ?_;refine tY 6 hS ?_;simp only[Act.put,zT,zO,zS];exact zzb
  ·go_simp
   have hS2:=hS.on ((Below.refl W0.heap.size W0).alloc zl (.cells #[.string ⟨#[]⟩,.nilFunc,.nilFunc,.nilFunc,.nilFunc,.nilFunc] 208));have QR:=zh (heap_alloc_new W0 (.cells #[.string ⟨#[]⟩,.nilFunc,.nilFunc,.nilFunc,.nilFunc,.nilFunc] 208));have BB2:=zh (BB.o.alloc (by have:=BB.o.size;omega) (.cells #[.string ⟨#[]⟩,.nilFunc,.nilFunc,.nilFunc,.nilFunc,.nilFunc] 208));obtain⟨q,hq⟩:∃q,q=W0.heap.size:=zx;have QB:Hid (w.heap.size<=q):=by have:=BB.o.size;show _<=_;omega
   have NE:Hid (g≠q):=by have:=(zg hS.row).1;show _≠_;omega
   rw[<-hq]at QR⊢;clear hq hS BB;have hS:=hS2;have BB:=BB2;clear hS2 BB2;generalize W0.alloc (.cells #[.string ⟨#[]⟩,.nilFunc,.nilFunc,.nilFunc,.nilFunc,.nilFunc] 208)=W2 at*;refine hK.out _ _ hS (fun _=> ?_);clear hK K;try simp only[Act.put,zT,zO,zS]
   refine rO 0 (fun K hK=> ?_);go_simp
   refine(jkb _).mono ?_
   rintro e W1 ⟨m,rfl,hr,hb⟩;obtain⟨v1,v2,v3,v4,v5,hlk,hoc,hrv⟩:=hr.look r.kind I0.o;have LK:=zh hlk;have OC:=zh hoc;have RV:=zh hrv;have hS2:=hS.on hb;have BB2:=zh (BB.o.trans (hb.mono BB.o.size));clear hlk hoc hrv hr;have QR2:=zh (jc7 QR.o hb);have QN:Hid (q<W2.heap.size\/W1.heap.size<=q):=Or.inl (zg QR.o).1;clear QR;have QR:=QR2;clear QR2;clear hS BB hb;have hS:=hS2;have BB:=BB2;clear hS2 BB2;refine hK.out _ _ hS (fun _=> ?_);clear hK K;try simp only[Act.put,zT,zO,zS]
   refine rO 3 (fun K hK=> ?_);have hl:=LK.o W1 zD;go_simp;clear hl LK;refine hK.out _ _ hS (fun _=> ?_);clear hK K;refine tY 4 hS ?_;refine tY 5 hS ?_;refine tY 6 hS ?_;simp only[Act.put,zT,zO,zS];refine rO 8 (fun K hK=> ?_);refine wp_store_row 208 (.tmp 3) (.tmp 10) rfl q #[.string (Rc.nameB r.kind),v1,v2,v3,v4,v5] rfl rfl 208 _ QR.o jg5 rfl OC.o ?_;have RS:=zh (setRow_heap W1 q _ #[.string (Rc.nameB r.kind),v1,v2,v3,v4,v5] _ _ QR.o);have BB2:=zh (below_setRow BB.o QB.o #[.string (Rc.nameB r.kind),v1,v2,v3,v4,v5]);have hS2:RcAt (W1.setRow q #[.string (Rc.nameB r.kind),v1,v2,v3,v4,v5]) g r:=⟨(setRow_other W1 q g #[.string (Rc.nameB r.kind),v1,v2,v3,v4,v5] NE.o).trans hS.row⟩;have RV2:Hid (Rc.isKind r.kind=true->jhm W2.heap.size (W1.setRow q #[.string (Rc.nameB r.kind),v1,v2,v3,v4,v5]) r.kind v1 v2 v3 v4 v5):=fun h=>(RV.o h).on (ja3.set (ja3.of _ zD) QN.o _) (by rw[jba];exact(zl));clear hS BB QR RV;have hS:=hS2;clear hS2;generalize W1.setRow q #[.string (Rc.nameB r.kind),v1,v2,v3,v4,v5]=W5 at*;refine hK.out _ _ hS (fun _=> ?_);clear hK K;refine tY 9 hS ?_;simp only[Act.put,zT,zO,zS];refine wpAnyH_done zk ?_ _;go_wp2;go_meet
   case rel=>exact⟨q,_,v1,v2,v3,v4,v5,rfl,rfl,RS.o,⟨_,RV2.o⟩,hS,BB2.o⟩
 case rest=>
  obtain⟨q,nm,v1,v2,v3,v4,v5,rfl,rfl,hq,⟨B,hrv⟩,hra,hbx⟩:=hcut;clear RA B1;have QR:=zh hq;have RA:=zh hra;have BB:=zh hbx;clear hq hra hbx
  cases hk:Rc.isKind r.kind with
  |false=>
   have HANS:=zh (Rc.right_none hk);clear hk hrv;go_wp2;go_ret;exact⟨by rw[HA.o,HANS.o];rfl,BB.o⟩
  |true=>
   have RV:=zh (hrv hk);have HANS:=zh (Rc.right_kind hk);clear hrv hk;obtain⟨g1,p1,rfl,e1,C1⟩:=RV.o.who;obtain⟨g2,p2,rfl,e2,C2⟩:=RV.o.n;obtain⟨g3,p3,rfl,e3,C3⟩:=RV.o.seq;obtain⟨g4,p4,rfl,e4,C4⟩:=RV.o.text;obtain⟨g5,p5,rfl,e5,C5⟩:=RV.o.spec;clear RV;have D1:=zh (fun W hW=>C1 W r.who I2.o hW);have D2:=zh (fun W hW=>C2 W r.n I3.o hW);have D3:=zh (fun W hW=>C3 W r.seq I4.o hW);have D4:=zh (fun W hW=>C4 W r.text HI.o.text hW);have D5:=zh (fun W hW=>C5 W r.sp HI.o.sp hW);have D0:=zh (fun W=>jka r.epoch W);clear C1 C2 C3 C4 C5;have K0:Hid (ja3 B wc wc/\wc.heap.size<=wc.heap.size):=⟨fun _ _ _=>rfl,zl⟩;generalize Spc.inn r.epoch 1 1099511627776=x0 at*;generalize Rc.whoB r.kind r.who=x1 at*;generalize Rc.nB r.kind r.n=x2 at*;generalize Rc.seqB r.kind r.seq=x3 at*;generalize Rc.textB r.kind r.text=x4 at*;generalize Rc.specB r.kind r.sp=x5 at*;unfold kwho at D1 D2 D3;unfold ktxt at D4;unfold Spc.val Spc.cells at D5;obtain⟨d1,d2,d3,d4,d5⟩:=rucs QR.o;obtain⟨c0,c1,c2,c3,c4,c5,c6,c7,c8,c9,c10,c11,c12,c13,c14,c15,c16,c17,clt⟩:=RA.o.cs
   go_wp2_with(first
    |(go_at_call 155;refine(D0.o _).mono ?_;rintro e w1 ⟨rfl,hb⟩;clear d1 d2 d3 d4 d5 c0 c1 c2 c3 c4 c5 c6 c7 c8 c9 c10 c11 c12 c13 c14 c15 c16 c17 clt;have QR:=zh (jc7 QR.o hb);have RA:=zh (RA.o.on hb);have K0:=zh (And.intro (joe K0.o.1 K0.o.2 hb) (Nat.le_trans K0.o.2 hb.size));have BB:=zh (BB.o.trans (hb.mono BB.o.size));clear hb;obtain⟨d1,d2,d3,d4,d5⟩:=rucs QR.o;obtain⟨c0,c1,c2,c3,c4,c5,c6,c7,c8,c9,c10,c11,c12,c13,c14,c15,c16,c17,clt⟩:=RA.o.cs;cases x0)
    |(go_at_fn g1;refine(D1.o _ K0.o.1).mono ?_;rintro e w1 ⟨rfl,hb⟩;clear d1 d2 d3 d4 d5 c0 c1 c2 c3 c4 c5 c6 c7 c8 c9 c10 c11 c12 c13 c14 c15 c16 c17 clt;have QR:=zh (jc7 QR.o hb);have RA:=zh (RA.o.on hb);have K0:=zh (And.intro (joe K0.o.1 K0.o.2 hb) (Nat.le_trans K0.o.2 hb.size));have BB:=zh (BB.o.trans (hb.mono BB.o.size));clear hb;obtain⟨d1,d2,d3,d4,d5⟩:=rucs QR.o;obtain⟨c0,c1,c2,c3,c4,c5,c6,c7,c8,c9,c10,c11,c12,c13,c14,c15,c16,c17,clt⟩:=RA.o.cs;cases x1)
    |(go_at_fn g2;refine(D2.o _ K0.o.1).mono ?_;rintro e w1 ⟨rfl,hb⟩;clear d1 d2 d3 d4 d5 c0 c1 c2 c3 c4 c5 c6 c7 c8 c9 c10 c11 c12 c13 c14 c15 c16 c17 clt;have QR:=zh (jc7 QR.o hb);have RA:=zh (RA.o.on hb);have K0:=zh (And.intro (joe K0.o.1 K0.o.2 hb) (Nat.le_trans K0.o.2 hb.size));have BB:=zh (BB.o.trans (hb.mono BB.o.size));clear hb;obtain⟨d1,d2,d3,d4,d5⟩:=rucs QR.o;obtain⟨c0,c1,c2,c3,c4,c5,c6,c7,c8,c9,c10,c11,c12,c13,c14,c15,c16,c17,clt⟩:=RA.o.cs;cases x2)
    |(go_at_fn g3;refine(D3.o _ K0.o.1).mono ?_;rintro e w1 ⟨rfl,hb⟩;clear d1 d2 d3 d4 d5 c0 c1 c2 c3 c4 c5 c6 c7 c8 c9 c10 c11 c12 c13 c14 c15 c16 c17 clt;have QR:=zh (jc7 QR.o hb);have RA:=zh (RA.o.on hb);have K0:=zh (And.intro (joe K0.o.1 K0.o.2 hb) (Nat.le_trans K0.o.2 hb.size));have BB:=zh (BB.o.trans (hb.mono BB.o.size));clear hb;obtain⟨d1,d2,d3,d4,d5⟩:=rucs QR.o;obtain⟨c0,c1,c2,c3,c4,c5,c6,c7,c8,c9,c10,c11,c12,c13,c14,c15,c16,c17,clt⟩:=RA.o.cs;cases x3)
    |(go_at_fn g4;refine(D4.o _ K0.o.1).mono ?_;rintro e w1 ⟨rfl,hb⟩;clear d1 d2 d3 d4 d5 c0 c1 c2 c3 c4 c5 c6 c7 c8 c9 c10 c11 c12 c13 c14 c15 c16 c17 clt;have QR:=zh (jc7 QR.o hb);have RA:=zh (RA.o.on hb);have K0:=zh (And.intro (joe K0.o.1 K0.o.2 hb) (Nat.le_trans K0.o.2 hb.size));have BB:=zh (BB.o.trans (hb.mono BB.o.size));clear hb;obtain⟨d1,d2,d3,d4,d5⟩:=rucs QR.o;obtain⟨c0,c1,c2,c3,c4,c5,c6,c7,c8,c9,c10,c11,c12,c13,c14,c15,c16,c17,clt⟩:=RA.o.cs;cases x4)
    |(go_at_fn g5;refine(D5.o _ K0.o.1).mono ?_;rintro e w1 ⟨rfl,hb⟩;clear d1 d2 d3 d4 d5 c0 c1 c2 c3 c4 c5 c6 c7 c8 c9 c10 c11 c12 c13 c14 c15 c16 c17 clt;have QR:=zh (jc7 QR.o hb);have RA:=zh (RA.o.on hb);have K0:=zh (And.intro (joe K0.o.1 K0.o.2 hb) (Nat.le_trans K0.o.2 hb.size));have BB:=zh (BB.o.trans (hb.mono BB.o.size));clear hb;obtain⟨d1,d2,d3,d4,d5⟩:=rucs QR.o;obtain⟨c0,c1,c2,c3,c4,c5,c6,c7,c8,c9,c10,c11,c12,c13,c14,c15,c16,c17,clt⟩:=RA.o.cs;cases x5))
   all_goals
    go_ret;exact⟨by rw[HA.o,HANS.o];rfl,BB.o⟩
open Go.Deep
theorem jof(w:World):(zeroValue 134).run Tryz.prog w= .ok (.agg #[.nilFunc,.nilFunc]) w:=by kernel_rfl
abbrev BM:=MapV.ofInt Tryz.underlying3 Tryz.underlying135 _ jof
structure BSt(W w:World)(m:Nat)(f:Int->Option Value)(n:Nat):Prop where
 below:zF W w
 base:W.heap.size<=m
 map:∃j,j<=n/\BM.At w m f j
theorem BSt.ins{W w:World}{m n:Nat}{f:Int->Option Value}(h:BSt W w m f n){ops:Array Oper}{rest:List Oper}{o:Oper}{a:Act}{Q:Exit->Act->World->Prop}(hg:o.guard=none)(y x v:Operand)(hop:o.op=Op.insert 135 y x v)(hm:a.eval y= .map (some m))(k:Int)(u:Value)(hx:a.eval x= .int .i64 k)(hv:a.eval v=u)(hn:n<100)(hk:(Lit.int .i64 k).wf=true)
  (hK:∀w',BSt W w' m (MapV.set f k (some u)) (n+1)->wpList Tryz.prog ops Q rest (a.put o.dst undef) w'):wpList Tryz.prog ops Q (o::rest) a w:=by
 obtain⟨j,hj,hmap⟩:=h.map;refine hmap.insert hg y x v hop hm k u hx hv (by unfold maxLen;omega) hk fun w' h1 ht=>hK w' ⟨?_,h.base,⟨_,by split<;>omega,h1⟩⟩;exact⟨ht.grown.os.trans h.below.os,ht.grown.tape.trans h.below.tape,ht.grown.output.trans h.below.output,Nat.le_trans h.below.size ht.grown.size,fun i hi=>(ht.grown.block i (Nat.lt_of_lt_of_le hi h.below.size) (fun e=>by injection e with e;have:=h.base;omega)).trans (h.below.block i hi)⟩
structure jcm(w:World)(m:Nat):Prop where
 map:∃f n,BM.At w m f n/\f 1=some (.agg #[.func (.func 115) #[] #[],.func (.func 116) #[] #[]])/\f 2=some (.agg #[.func (.func 117) #[] #[],.func (.func 118) #[] #[]])/\f 3=some (.agg #[.func (.func 119) #[] #[],.func (.func 120) #[] #[]])/\f 4=some (.agg #[.func (.func 121) #[] #[],.func (.func 122) #[] #[]])/\f 5=some (.agg #[.func (.func 123) #[] #[],.func (.func 124) #[] #[]])/\f 6=some (.agg #[.func (.func 125) #[] #[],.func (.func 126) #[] #[]])/\f 7=some (.agg #[.func (.func 127) #[] #[],.func (.func 128) #[] #[]])
theorem jcm.look1{w:World}{m:Nat}(h:jcm w m):(Instr.lookup 135 (.map (some m)) (.int .i64 1) false).run Tryz.prog w= .ok (.agg #[.func (.func 115) #[] #[],.func (.func 116) #[] #[]]) w:=by
 obtain⟨f,n,h1,h2⟩:=h.map;have:=h1.look 1 (show(Lit.int .i64 1).wf=true by decide);rw[h2.1]at this;exact this
theorem jcm.look2{w:World}{m:Nat}(h:jcm w m):(Instr.lookup 135 (.map (some m)) (.int .i64 2) false).run Tryz.prog w= .ok (.agg #[.func (.func 117) #[] #[],.func (.func 118) #[] #[]]) w:=by
 obtain⟨f,n,h1,h2⟩:=h.map;have:=h1.look 2 (show(Lit.int .i64 2).wf=true by decide);rw[h2.2.1]at this;exact this
theorem jcm.look3{w:World}{m:Nat}(h:jcm w m):(Instr.lookup 135 (.map (some m)) (.int .i64 3) false).run Tryz.prog w= .ok (.agg #[.func (.func 119) #[] #[],.func (.func 120) #[] #[]]) w:=by
 obtain⟨f,n,h1,h2⟩:=h.map;have:=h1.look 3 (show(Lit.int .i64 3).wf=true by decide);rw[h2.2.2.1]at this;exact this
theorem jcm.look4{w:World}{m:Nat}(h:jcm w m):(Instr.lookup 135 (.map (some m)) (.int .i64 4) false).run Tryz.prog w= .ok (.agg #[.func (.func 121) #[] #[],.func (.func 122) #[] #[]]) w:=by
 obtain⟨f,n,h1,h2⟩:=h.map;have:=h1.look 4 (show(Lit.int .i64 4).wf=true by decide);rw[h2.2.2.2.1]at this;exact this
theorem jcm.look5{w:World}{m:Nat}(h:jcm w m):(Instr.lookup 135 (.map (some m)) (.int .i64 5) false).run Tryz.prog w= .ok (.agg #[.func (.func 123) #[] #[],.func (.func 124) #[] #[]]) w:=by
 obtain⟨f,n,h1,h2⟩:=h.map;have:=h1.look 5 (show(Lit.int .i64 5).wf=true by decide);rw[h2.2.2.2.2.1]at this;exact this
theorem jcm.look6{w:World}{m:Nat}(h:jcm w m):(Instr.lookup 135 (.map (some m)) (.int .i64 6) false).run Tryz.prog w= .ok (.agg #[.func (.func 125) #[] #[],.func (.func 126) #[] #[]]) w:=by
 obtain⟨f,n,h1,h2⟩:=h.map;have:=h1.look 6 (show(Lit.int .i64 6).wf=true by decide);rw[h2.2.2.2.2.2.1]at this;exact this
theorem jcm.look7{w:World}{m:Nat}(h:jcm w m):(Instr.lookup 135 (.map (some m)) (.int .i64 7) false).run Tryz.prog w= .ok (.agg #[.func (.func 127) #[] #[],.func (.func 128) #[] #[]]) w:=by
 obtain⟨f,n,h1,h2⟩:=h.map;have:=h1.look 7 (show(Lit.int .i64 7).wf=true by decide);rw[h2.2.2.2.2.2.2]at this;exact this
theorem jeh(a b:Value)(w:World):(Instr.field 134 (.agg #[a,b]) 0).run Tryz.prog w= .ok a w:=by
 simp[Instr.field,run_underlying Tryz.underlying134,asAgg,part,isAgg,run_underlying Tryz.underlying131,go_sem]
theorem jei(a b:Value)(w:World):(Instr.field 134 (.agg #[a,b]) 1).run Tryz.prog w= .ok b w:=by
 simp[Instr.field,run_underlying Tryz.underlying134,asAgg,part,isAgg,run_underlying Tryz.underlying132,go_sem]
theorem jay(w:World):Calls Tryz.prog 69 #[] w fun e w'=>∃m,e= .returned (.map (some m))/\jcm w' m/\zF w w':=by
 have R:=zh (BSt.mk (W:=w) ((Below.refl w.heap.size w).alloc zl (.map #[] 0)) zl ⟨0,zl,MapV.At.made (M:=BM) w⟩);have hmm:=@run_makeMap Tryz.prog;go_in;go_wp2_with((with_reducible show wpList _ _ _ ({dst:=none,op:= .insert _ _ _ _,type:=_,pos:=_,after:=_,guard:=_}::_) _ _);refine R.o.ins rfl _ _ _ rfl rfl _ _ rfl rfl (by decide) (by decide) ?_;intro w2 hr2;have R:=zh hr2;clear hr2);go_ret;refine⟨_,rfl,?_,R.o.below⟩;obtain⟨j,hj,hm⟩:=R.o.map;refine⟨⟨_,j,hm,?_,?_,?_,?_,?_,?_,?_⟩⟩
 all_goals (repeat (first|exact MapV.set_same _ _ _|rw[MapV.set_other _ _ (by decide)]))
theorem zzt{p:Prop}(h:p:=by
 go_simp;refine hK.out _ _ hS (fun _=> ?_);clear hK K;refine tZ 4 rfl (by intro W hW;have hfd:=jeh;go_simp;(try with_reducible rfl)) hS ?_;simp only[Act.put,zT,zO,zS];refine rO 7 (fun K hK=> ?_);go_simp
 refine(CF.o _ hS).mono ?_
 rintro e w8 ⟨rfl,hb⟩;replace hS:=hS.on hb;clear hb;refine hK.out _ _ hS (fun _=> ?_);clear hK K;refine tY 8 hS ?_;simp only[Act.put,zT,zO,zS];refine wpAnyH_done zk ?_ _;have R9:=zh hS;clear hS;go_wp2;go_ret;exact⟨rfl,R9.o.b⟩):p:=h
theorem jh3(q:Nat)(s:Bk.St)(ru:Nat->Bk.Un)(rv:Int)(lo ko:Option Nat)(H:Value)(K:Kv.St)(w:World)(h:BdIs w q s ru rv lo ko H K)(ht:BT w)(r:Rc.R)(hin:Rc.In r):Calls Tryz.prog 66 #[.pointer (some ⟨q,0,none⟩),.agg (Rc.cells r)] w (BRet (.int .i64 (Bk.chk s r)) w):=by
 obtain⟨ans,hans⟩:∃ans,ans=Bk.chk s r:=zx;rw[<-hans];have AN:=zh hans;clear hans;have HI:=zh hin;clear hin;have HT:=zh ht;obtain⟨W,hW⟩:∃W,W=w.alloc (.cells (Rc.cells r) 56):=zx;obtain⟨g,hg⟩:∃g,g=w.heap.size:=zx;have R0:=zh (RdC.open_ h r);rw[<-hW,<-hg]at R0;have GE:Hid (w.heap.size<=g):=Nat.le_of_eq hg.symm;clear h ht;go_in;go_upto_region 1 with fail
 rw[<-hW,<-hg];clear hW hg;have CR:=zh (fun W=>jfj r HI.o W)
 cases hr:Rc.right r with
 |false=>
  rw[hr]at CR;have E:ans=1:=AN.o.trans (Bk.chk_wrong hr);subst E;clear hr
  go_wp2_with(first
   |((with_reducible show zL 9);refine jbs (by rfl) 56 (.tmp 3) rfl g rfl 56 _ (0,0) _ R0.o.rc.row jag rfl (jak r) ?_)
   |(go_at_call 98;refine(CR.o _).mono ?_;rintro e w1 ⟨rfl,hb⟩;have R1:=zh (R0.o.on hb);clear hb))
  go_ret;exact⟨rfl,R1.o.b⟩
 |true=>
  rw[hr]at CR;have HR:=zh hr;clear hr;have hkd:=(Rc.ok_of HR.o).kind;go_upto_region 3 with(first
   |((with_reducible show zL 9);refine jbs (by rfl) 56 (.tmp 3) rfl g rfl 56 _ (0,0) _ R0.o.rc.row jag rfl (jak r) ?_)
   |(go_at_call 98;refine(CR.o _).mono ?_;rintro e w1 ⟨rfl,hb⟩;have R1:=zh (R0.o.on hb);clear hb))
  have c0:=R1.o.rc.cs.c0;have c1:=R1.o.rc.cs.c1;have b4:=R1.o.bd.at_.cs.c4;have lq:=R1.o.bd.lt.1;have lg:=R1.o.rc.cs.lt;by_cases hk:r.kind=1
  ·rw[hk]at c0
   go_region;go_upto_region 5 with fail
   have R5:=zh (R1.o.on (Below.refl w1.heap.size w1).drew);clear c0 c1 b4 lq lg;generalize w1.drew=w5 at*;have HK:=zh hk;clear hk;have AE:=zh (AN.o.trans (Bk.chk_lead HR.o HK.o));have CF:Hid (∀W,RdC w q s ru rv lo ko H K g r W->Calls Tryz.prog 115 #[.pointer (some ⟨q,0,none⟩),.agg (Rc.cells r)] W (BRet (.int .i64 ans) W)):=fun W h=>by rw[AE.o];exact jrl q s ru rv lo ko H K W h.bd (HT.o.on h.b) r HI.o HR.o
   refine wp_region_held_drew (S:=RdC w q s ru rv lo ko H K g r) zk (R5.o.on zD.drew) (fun hS=> ?_);refine tY 1 hS ?_;refine tZ 2 rfl (by intro W hW;have c0:=hW.rc.cs.c0;rw[HK.o]at c0;have lg:=hW.rc.cs.lt;go_simp;(try with_reducible rfl)) hS ?_;refine tY 5 hS ?_;refine tZ 6 (v:= .agg (Rc.cells r)) rfl (fun W hW=>jax (.tmp 3) rfl g r rfl hW.rc) hS ?_;simp only[Act.put,zT,zO,zS];refine rO 0 (fun K hK=> ?_);go_simp
   refine(jay _).mono ?_
   rintro e w7 ⟨m,rfl,hm,hb⟩;have M7:=zh hm;clear hm;replace hS:=hS.on hb;clear hb;refine hK.out _ _ hS (fun _=> ?_);clear hK K;try simp only[Act.put,zT,zO,zS]
   refine rO 3 (fun K hK=> ?_);have hlk:=M7.o.look1;exact zzt
  ·have hk2:(r.kind !=1)=true:=by simpa using hk
   by_cases he:r.epoch=s.ep
   ·have he2:(r.epoch !=s.ep)=false:=by simpa using he
    have HE:=zh he;clear he;go_region;go_upto_region 5 with fail
    have R5:=zh (R1.o.on (Below.refl w1.heap.size w1).drew);clear c0 c1 b4 lq lg hk2 he2;generalize w1.drew=w5 at*;have hk7:r.kind=2\/r.kind=3\/r.kind=4\/r.kind=5\/r.kind=6\/r.kind=7:=by omega
    clear hk hkd;rcases hk7 with hk|hk|hk|hk|hk|hk
    ·have HK:=zh hk
     clear hk;have AE:=zh (AN.o.trans (Bk.chk_two HR.o HK.o HE.o));have CF:Hid (∀W,RdC w q s ru rv lo ko H K g r W->Calls Tryz.prog 117 #[.pointer (some ⟨q,0,none⟩),.agg (Rc.cells r)] W (BRet (.int .i64 ans) W)):=fun W h=>by rw[AE.o];exact jq7 q s ru rv lo ko H K W h.bd (HT.o.on h.b) r HI.o
     refine wp_region_held_drew (S:=RdC w q s ru rv lo ko H K g r) zk (R5.o.on zD.drew) (fun hS=> ?_);refine tY 1 hS ?_;refine tZ 2 rfl (by intro W hW;have c0:=hW.rc.cs.c0;rw[HK.o]at c0;have lg:=hW.rc.cs.lt;go_simp;(try with_reducible rfl)) hS ?_;refine tY 5 hS ?_;refine tZ 6 (v:= .agg (Rc.cells r)) rfl (fun W hW=>jax (.tmp 3) rfl g r rfl hW.rc) hS ?_;simp only[Act.put,zT,zO,zS];refine rO 0 (fun K hK=> ?_);go_simp
     refine(jay _).mono ?_
     rintro e w7 ⟨m,rfl,hm,hb⟩;have M7:=zh hm;clear hm;replace hS:=hS.on hb;clear hb;refine hK.out _ _ hS (fun _=> ?_);clear hK K;try simp only[Act.put,zT,zO,zS]
     refine rO 3 (fun K hK=> ?_);have hlk:=M7.o.look2;exact zzt
    ·have HK:=zh hk
     clear hk;have AE:=zh (AN.o.trans (Bk.chk_three HR.o HK.o HE.o));have CF:Hid (∀W,RdC w q s ru rv lo ko H K g r W->Calls Tryz.prog 119 #[.pointer (some ⟨q,0,none⟩),.agg (Rc.cells r)] W (BRet (.int .i64 ans) W)):=fun W h=>by rw[AE.o];exact jq8 q s ru rv lo ko H K W h.bd (HT.o.on h.b) r HI.o
     refine wp_region_held_drew (S:=RdC w q s ru rv lo ko H K g r) zk (R5.o.on zD.drew) (fun hS=> ?_);refine tY 1 hS ?_;refine tZ 2 rfl (by intro W hW;have c0:=hW.rc.cs.c0;rw[HK.o]at c0;have lg:=hW.rc.cs.lt;go_simp;(try with_reducible rfl)) hS ?_;refine tY 5 hS ?_;refine tZ 6 (v:= .agg (Rc.cells r)) rfl (fun W hW=>jax (.tmp 3) rfl g r rfl hW.rc) hS ?_;simp only[Act.put,zT,zO,zS];refine rO 0 (fun K hK=> ?_);go_simp
     refine(jay _).mono ?_
     rintro e w7 ⟨m,rfl,hm,hb⟩;have M7:=zh hm;clear hm;replace hS:=hS.on hb;clear hb;refine hK.out _ _ hS (fun _=> ?_);clear hK K;try simp only[Act.put,zT,zO,zS]
     refine rO 3 (fun K hK=> ?_);have hlk:=M7.o.look3;exact zzt
    ·have HK:=zh hk
     clear hk;have AE:=zh (AN.o.trans (Bk.chk_four HR.o HK.o HE.o));have CF:Hid (∀W,RdC w q s ru rv lo ko H K g r W->Calls Tryz.prog 121 #[.pointer (some ⟨q,0,none⟩),.agg (Rc.cells r)] W (BRet (.int .i64 ans) W)):=fun W h=>by rw[AE.o];exact jq9 q s ru rv lo ko H K W h.bd (HT.o.on h.b) r HI.o
     refine wp_region_held_drew (S:=RdC w q s ru rv lo ko H K g r) zk (R5.o.on zD.drew) (fun hS=> ?_);refine tY 1 hS ?_;refine tZ 2 rfl (by intro W hW;have c0:=hW.rc.cs.c0;rw[HK.o]at c0;have lg:=hW.rc.cs.lt;go_simp;(try with_reducible rfl)) hS ?_;refine tY 5 hS ?_;refine tZ 6 (v:= .agg (Rc.cells r)) rfl (fun W hW=>jax (.tmp 3) rfl g r rfl hW.rc) hS ?_;simp only[Act.put,zT,zO,zS];refine rO 0 (fun K hK=> ?_);go_simp
     refine(jay _).mono ?_
     rintro e w7 ⟨m,rfl,hm,hb⟩;have M7:=zh hm;clear hm;replace hS:=hS.on hb;clear hb;refine hK.out _ _ hS (fun _=> ?_);clear hK K;try simp only[Act.put,zT,zO,zS]
     refine rO 3 (fun K hK=> ?_);have hlk:=M7.o.look4;exact zzt
    ·have HK:=zh hk
     clear hk;have AE:=zh (AN.o.trans (Bk.chk_five HR.o HK.o HE.o));have CF:Hid (∀W,RdC w q s ru rv lo ko H K g r W->Calls Tryz.prog 123 #[.pointer (some ⟨q,0,none⟩),.agg (Rc.cells r)] W (BRet (.int .i64 ans) W)):=fun W h=>by rw[AE.o];exact jrj q s ru rv lo ko H K W h.bd (HT.o.on h.b) r HI.o
     refine wp_region_held_drew (S:=RdC w q s ru rv lo ko H K g r) zk (R5.o.on zD.drew) (fun hS=> ?_);refine tY 1 hS ?_;refine tZ 2 rfl (by intro W hW;have c0:=hW.rc.cs.c0;rw[HK.o]at c0;have lg:=hW.rc.cs.lt;go_simp;(try with_reducible rfl)) hS ?_;refine tY 5 hS ?_;refine tZ 6 (v:= .agg (Rc.cells r)) rfl (fun W hW=>jax (.tmp 3) rfl g r rfl hW.rc) hS ?_;simp only[Act.put,zT,zO,zS];refine rO 0 (fun K hK=> ?_);go_simp
     refine(jay _).mono ?_
     rintro e w7 ⟨m,rfl,hm,hb⟩;have M7:=zh hm;clear hm;replace hS:=hS.on hb;clear hb;refine hK.out _ _ hS (fun _=> ?_);clear hK K;try simp only[Act.put,zT,zO,zS]
     refine rO 3 (fun K hK=> ?_);have hlk:=M7.o.look5;exact zzt
    ·have HK:=zh hk
     clear hk;have AE:=zh (AN.o.trans (Bk.chk_six HR.o HK.o HE.o));have CF:Hid (∀W,RdC w q s ru rv lo ko H K g r W->Calls Tryz.prog 125 #[.pointer (some ⟨q,0,none⟩),.agg (Rc.cells r)] W (BRet (.int .i64 ans) W)):=fun W h=>by rw[AE.o];exact jrk q s ru rv lo ko H K W h.bd (HT.o.on h.b) r HI.o HR.o HK.o
     refine wp_region_held_drew (S:=RdC w q s ru rv lo ko H K g r) zk (R5.o.on zD.drew) (fun hS=> ?_);refine tY 1 hS ?_;refine tZ 2 rfl (by intro W hW;have c0:=hW.rc.cs.c0;rw[HK.o]at c0;have lg:=hW.rc.cs.lt;go_simp;(try with_reducible rfl)) hS ?_;refine tY 5 hS ?_;refine tZ 6 (v:= .agg (Rc.cells r)) rfl (fun W hW=>jax (.tmp 3) rfl g r rfl hW.rc) hS ?_;simp only[Act.put,zT,zO,zS];refine rO 0 (fun K hK=> ?_);go_simp
     refine(jay _).mono ?_
     rintro e w7 ⟨m,rfl,hm,hb⟩;have M7:=zh hm;clear hm;replace hS:=hS.on hb;clear hb;refine hK.out _ _ hS (fun _=> ?_);clear hK K;try simp only[Act.put,zT,zO,zS]
     refine rO 3 (fun K hK=> ?_);have hlk:=M7.o.look6;exact zzt
    ·have HK:=zh hk
     clear hk;have AE:=zh (AN.o.trans (Bk.chk_seven HR.o HK.o HE.o));have CF:Hid (∀W,RdC w q s ru rv lo ko H K g r W->Calls Tryz.prog 127 #[.pointer (some ⟨q,0,none⟩),.agg (Rc.cells r)] W (BRet (.int .i64 ans) W)):=fun W h=>by rw[AE.o];exact jrq q s ru rv lo ko H K W h.bd (HT.o.on h.b) r HI.o
     refine wp_region_held_drew (S:=RdC w q s ru rv lo ko H K g r) zk (R5.o.on zD.drew) (fun hS=> ?_);refine tY 1 hS ?_;refine tZ 2 rfl (by intro W hW;have c0:=hW.rc.cs.c0;rw[HK.o]at c0;have lg:=hW.rc.cs.lt;go_simp;(try with_reducible rfl)) hS ?_;refine tY 5 hS ?_;refine tZ 6 (v:= .agg (Rc.cells r)) rfl (fun W hW=>jax (.tmp 3) rfl g r rfl hW.rc) hS ?_;simp only[Act.put,zT,zO,zS];refine rO 0 (fun K hK=> ?_);go_simp
     refine(jay _).mono ?_
     rintro e w7 ⟨m,rfl,hm,hb⟩;have M7:=zh hm;clear hm;replace hS:=hS.on hb;clear hb;refine hK.out _ _ hS (fun _=> ?_);clear hK K;try simp only[Act.put,zT,zO,zS]
     refine rO 3 (fun K hK=> ?_);have hlk:=M7.o.look7;exact zzt
   ·have he2:(r.epoch !=s.ep)=true:=by simpa using he
    have E:ans=8:=AN.o.trans (Bk.chk_ep HR.o hk he);subst E;clear hk he;go_region;go_wp2;go_ret;exact⟨rfl,R1.o.b.drew⟩