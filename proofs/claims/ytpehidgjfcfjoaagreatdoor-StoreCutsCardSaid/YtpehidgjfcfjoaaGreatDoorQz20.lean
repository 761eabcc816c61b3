import Derived.Sort.OwnSorted
import Derived.Sort.KeysCollected
import Derived.Shelf.Small.Bits
import Derived.Shelf.Strconv.Atoi
import Derived.Shelf.Strconv.Itoa0
import Derived.Shelf.Strconv.Itoa1
import Derived.Shelf.LaysM
import Derived.Shelf.Strconv.Itoa2
import Derived.Shelf.Strconv.Itoa3
import Derived.Shelf.Sort.Plain
import Derived.Shelf.Slices.Equal
import Derived.Shelf.Slices.In.SortNone
import Derived.Shelf.Slices.Empties2
import Derived.Test.YtpehidgjfcfjoaaGreatDoorProg
import Derived.Shelf.Abstract
import Derived.Lib.SmallJoins
import Derived.Lib.LaidTab
import Derived.Lib.LaidU8
import Derived.Deep.DeepAppendRoom
import Derived.Laws.IdiomCopy
import Derived.Test.YtpehidgjfcfjoaaGreatDoorQz19
import Derived.RangeFuncNested
import Derived.RangeFuncCalls
import Derived.RangeFuncLeaves
import Derived.OwnWalkIn
import Derived.TacticsInMore
import Derived.LoopNIn
import Derived.LoopIn
import Derived.Maps.OwnIn
set_option maxHeartbeats 6400000
set_option maxRecDepth 100000
set_option linter.unusedSimpArgs false
set_option linter.unusedVariables false
namespace Go.Proofs.YtpehidgjfcfjoaaGreatDoor
open Go.RowKit Go.Deep Go.Maps
theorem jud{T:Type}(l:List T)(o:Nat)(v:T)(h:o<l.length):(l.set o v).take (o+1)=l.take o++[v]:=by
 rw[List.take_succ_eq_append_getElem (by rw[List.length_set];exact h),List.getElem_set_self,List.take_set_of_le (Nat.le_refl _)]
theorem jco(g:Nat)(t:TypeId):∀(vs:List Value) (o:Nat) (w:World) (l:List Value),w.heap[g]? =some (.cells l.toArray t (0,0))->o+vs.length<=l.length->
  (w.setCells g o vs).heap[g]? =some (.cells (l.take o++vs++l.drop (o+vs.length)).toArray t (0,0))
 |[],o,w,l,h,ho=>by
  show w.heap[g]? =_;rw[h,List.append_nil,List.length_nil,Nat.add_zero,List.take_append_drop]
 |v::vs,o,w,l,h,ho=>by
  rw[List.length_cons]at ho;have h1:=heap_setCell_same w g o _ t v h;rw[List.setIfInBounds_toArray]at h1;have h2:=jco g t vs (o+1) (w.setCell ⟨g,o,none⟩ v) (l.set o v) h1 (by rw[List.length_set];omega);rw[jud l o v zv,List.drop_set_of_lt zv]at h2;have e:l.take o++[v]++vs++l.drop (o+1+vs.length)=l.take o++v::vs++l.drop (o+(v::vs).length):=by
   rw[List.length_cons,show o+1+vs.length=o+(vs.length+1)from by omega];simp
  rw[e]at h2;exact h2
namespace Ss
def cs(m R:Int)(A B:ByteArray)(l:Value)(b:Array Value):List Value:=[Value.int .i64 m,.int .i64 R,.string A,.string B,l]++b.toList
end Ss
structure SsAt(w:World)(g:Nat)(m R:Int)(A B:ByteArray)(l:Value)(s:Bk.St)(L V H:Value):Prop where
 row:w.heap[g]? =some (.cells (Ss.cs m R A B l (Bk.cells s L V H)).toArray 40 (0,0))
theorem jda:Tryz.prog.underlying 40=some (.struct (Tryz.prog.fieldsOf 40)):=by kernel_rfl
theorem jd6(m R:Int)(A B:ByteArray)(l:Value)(s:Bk.St)(L V H:Value):(Tryz.prog.info? 40).map (·.size)=some (Ss.cs m R A B l (Bk.cells s L V H)).toArray.size:=by kernel_rfl
def Ss.zeros:Array Value:=(Ss.cs 0 0 ⟨#[]⟩ ⟨#[]⟩ (.slice none 0 0) Bk.zeros).toArray
theorem jfb:∀w,(zeroValue 40).run Tryz.prog w= .ok (.agg Ss.zeros) w:=(zero_of_info (n:=79) zk).1
theorem jue(s:Bk.St)(L V H:Value):(Tryz.prog.info? 38).map (·.size)=some (Bk.cells s L V H).toList.length:=by rw[Array.length_toList];exact je1 s L V H
section
variable{w w':World}{g:Nat}{m R:Int}{A B:ByteArray}{l:Value}{s:Bk.St}{L V H:Value}
theorem Ss.len:(Ss.cs m R A B l (Bk.cells s L V H)).length=79:=rfl
theorem SsAt.lt(h:SsAt w g m R A B l s L V H):g<w.heap.size:=(Array.getElem?_eq_some_iff.1 h.row).1
theorem SsAt.keep(h:SsAt w g m R A B l s L V H)(hk:w'.heap[g]? =w.heap[g]?):SsAt w' g m R A B l s L V H:=⟨hk.trans h.row⟩
theorem SsAt.on(h:SsAt w g m R A B l s L V H)(hb:Below w.heap.size w w'):SsAt w' g m R A B l s L V H:=h.keep (hb.block g h.lt)
theorem SsAt.cell(h:SsAt w g m R A B l s L V H)(k:Nat):w.cell? ⟨g,k,none⟩=(Ss.cs m R A B l (Bk.cells s L V H))[k]? :=by rw[cell_of_row w g k _ _ _ h.row,List.getElem?_toArray]
theorem SsAt.c4(h:SsAt w g m R A B l s L V H):w.cell? ⟨g,4,none⟩=some l:=h.cell 4
theorem SsAt.frz(h:SsAt w g m R A B l s L V H)(i:Nat):w.frozen? ⟨g,i,none⟩=false:=frozen_of_row w g i _ _ h.row
theorem SsAt.book(h:SsAt w g m R A B l s L V H):w.rangeAt g 5 (Bk.cells s L V H).toList:=fun j v hv=>by
 rw[h.cell];unfold Ss.cs;rw[List.getElem?_append_right (by simp)];simpa using hv
theorem SsAt.there(h:SsAt w g m R A B l s L V H){o n:Nat}(ho:o+n<=79):w.there g o n:=fun j hj=>by
 refine⟨?_,h.frz _⟩;rw[h.cell,List.getElem?_eq_getElem (by rw[Ss.len];omega)];rfl
theorem SsAt.new(w:World)(m R:Int)(A B:ByteArray)(l:Value)(s:Bk.St)(L V H:Value):SsAt (w.alloc (.cells (Ss.cs m R A B l (Bk.cells s L V H)).toArray 40)) w.heap.size m R A B l s L V H:=⟨heap_alloc_new w _⟩
theorem SsAt.setBook(h:SsAt w g m R A B l s L V H)(s2:Bk.St)(L2 V2 H2:Value):SsAt (w.setCells g 5 (Bk.cells s2 L2 V2 H2).toList) g m R A B l s2 L2 V2 H2:=⟨jco g _ _ 5 w _ h.row (by rw[Ss.len];exact Nat.le_refl 79)⟩
theorem SsAt.setDisk(h:SsAt w g m R A B l s L V H)(R2:Int)(A2 B2:ByteArray):SsAt (w.setCells g 1 [.int .i64 R2,.string A2,.string B2]) g m R2 A2 B2 l s L V H:=⟨jco g _ _ 1 w _ h.row (by rw[Ss.len];show 1+3<=79;omega)⟩
theorem SsAt.setRows(h:SsAt w g m R A B l s L V H)(l2:Value):SsAt (w.setCells g 4 [l2]) g m R A B l2 s L V H:=⟨jco g _ _ 4 w _ h.row (by rw[Ss.len];show 4+1<=79;omega)⟩
theorem Ss.one(hl:l.oneCell'=true)(hb:(Bk.cells s L V H).all (·.oneCell')=true):(Ss.cs m R A B l (Bk.cells s L V H)).toArray.all (·.oneCell')=true:=by
 rw[Array.all_eq_true_iff_forall_mem]at hb⊢;intro v hv;unfold Ss.cs at hv;rw[List.mem_toArray,List.mem_append]at hv;rcases hv with hv|hv
 ·simp only[List.mem_cons,List.not_mem_nil,or_false]at hv
  rcases hv with rfl|rfl|rfl|rfl|rfl
  ·rfl
  ·rfl
  ·rfl
  ·rfl
  ·exact hl
 ·exact hb v (by simpa using hv)
variable{ops:Array Oper}{rest:List Oper}{op:Oper}{a:Act}{Q:Exit->Act->World->Prop}
theorem jbj(hgd:op.guard=none)(x:Operand)(ho:op.op= .load 40 x)(hx:a.eval x= .pointer (some ⟨g,0,none⟩))(hg:SsAt w g m R A B l s L V H)
  (h:wpList Tryz.prog ops Q rest (a.put op.dst (.agg (Ss.cs m R A B l (Bk.cells s L V H)).toArray)) w):wpList Tryz.prog ops Q (op::rest) a w:=
 wpList_load_row hgd 40 x ho g hx 40 _ (0,0) _ hg.row jda rfl (jd6 ..) h
theorem jbt(hgd:op.guard=none)(x:Operand)(ho:op.op= .load 38 x)(hx:a.eval x= .pointer (some ⟨g,5,none⟩))(hg:SsAt w g m R A B l s L V H)
  (h:wpList Tryz.prog ops Q rest (a.put op.dst (.agg (Bk.cells s L V H))) w):wpList Tryz.prog ops Q (op::rest) a w:=
 wpList_load_mid hgd 38 x ho g 5 hx (Bk.cells s L V H).toList _ hg.book jej rfl (jue s L V H) h
theorem jfu{s2:Bk.St}{L2 V2 H2:Value}(hgd:op.guard=none)(x y:Operand)(ho:op.op= .store 38 x y)(hx:a.eval x= .pointer (some ⟨g,5,none⟩))(hy:a.eval y= .agg (Bk.cells s2 L2 V2 H2))(hg:SsAt w g m R A B l s L V H)(h1:(Bk.cells s2 L2 V2 H2).all (·.oneCell')=true)
  (h:wpList Tryz.prog ops Q rest (a.put op.dst undef) (w.setCells g 5 (Bk.cells s2 L2 V2 H2).toList)):wpList Tryz.prog ops Q (op::rest) a w:=
 wpList_store_mid hgd 38 x y ho g 5 _ hx hy (hg.there (by show 5+74<=79;omega)) (je1 ..) h1 h
theorem jas{cs0:Array Value}(hgd:op.guard=none)(x y:Operand)(ho:op.op= .store 40 x y)(hx:a.eval x= .pointer (some ⟨g,0,none⟩))(hy:a.eval y= .agg (Ss.cs m R A B l (Bk.cells s L V H)).toArray)(hg:w.heap[g]? =some (.cells cs0 40 (0,0)))(hz:cs0.size=79)(h1:(Ss.cs m R A B l (Bk.cells s L V H)).toArray.all (·.oneCell')=true)
  (h:wpList Tryz.prog ops Q rest (a.put op.dst undef) (w.setRow g (Ss.cs m R A B l (Bk.cells s L V H)).toArray)):wpList Tryz.prog ops Q (op::rest) a w:=
 wpList_plain hgd fun _ hK=>wp_store_row 40 x y ho g _ hx hy 40 _ hg (jd6 ..) (by rw[hz];rfl) h1 (hK _ _ h)
theorem jnn{fn:Func}{p:Tmp}(h:fn.results= #[.cell p 40])(tmps:Array Value)(hp:tmps.getD p undef= .pointer (some ⟨g,0,none⟩))(hg:SsAt w g m R A B l s L V H):
  (results fn tmps).run Tryz.prog w= .ok (.agg (Ss.cs m R A B l (Bk.cells s L V H)).toArray) w:=
 results_cell_row h tmps w g 40 _ (0,0) _ hp hg.row jda rfl (jd6 ..)
theorem jd7{fn:Func}{p u:Tmp}(h:fn.results= #[.cell p 40,.tmp u])(tmps:Array Value)(hp:tmps.getD p undef= .pointer (some ⟨g,0,none⟩))(hg:SsAt w g m R A B l s L V H):
  (results fn tmps).run Tryz.prog w= .ok (.tuple #[.agg (Ss.cs m R A B l (Bk.cells s L V H)).toArray,tmps.getD u undef]) w:=by
 rw[results_cell_tmp h,hp];have:=run_loadVar_row (P:=Tryz.prog) w g 40 40 _ (0,0) _ hg.row jda rfl (jd6 ..);simp[asAddr,this,Result.andThen]
end
structure DdAt(w:World)(g:Nat)(d:Dk.St):Prop where
 row:w.heap[g]? =some (.cells #[.int .i64 (d.room:Nat),.string (tA d),.string (tB d)] 26 (0,0))
theorem jjn:Tryz.prog.underlying 26=some (.struct (Tryz.prog.fieldsOf 26)):=by kernel_rfl
theorem jic(x y z:Value):(Tryz.prog.info? 26).map (·.size)=some (#[x,y,z]:Array Value).size:=by kernel_rfl
section
variable{w w':World}{g:Nat}{d:Dk.St}
theorem DdAt.new(w:World)(d:Dk.St):DdAt (w.alloc (.cells #[.int .i64 (d.room:Nat),.string (tA d),.string (tB d)] 26)) w.heap.size d:=⟨heap_alloc_new w _⟩
theorem DdAt.lt(h:DdAt w g d):g<w.heap.size:=(Array.getElem?_eq_some_iff.1 h.row).1
theorem DdAt.on(h:DdAt w g d)(hb:Below w.heap.size w w'):DdAt w' g d:=⟨(hb.block g h.lt).trans h.row⟩
variable{ops:Array Oper}{rest:List Oper}{op:Oper}{a:Act}{Q:Exit->Act->World->Prop}
theorem jd2(hgd:op.guard=none)(x:Operand)(ho:op.op= .load 26 x)(hx:a.eval x= .pointer (some ⟨g,0,none⟩))(hg:DdAt w g d)
  (h:wpList Tryz.prog ops Q rest (a.put op.dst (.agg #[.int .i64 (d.room:Nat),.string (tA d),.string (tB d)])) w):wpList Tryz.prog ops Q (op::rest) a w:=
 wpList_load_row hgd 26 x ho g hx 26 _ (0,0) _ hg.row jjn rfl (jic ..) h
theorem jck(hgd:op.guard=none)(x y:Operand)(ho:op.op= .store 26 x y)(hx:a.eval x= .pointer (some ⟨w.heap.size,0,none⟩))(hy:a.eval y= .agg #[.int .i64 (d.room:Nat),.string (tA d),.string (tB d)])
  (h:wpList Tryz.prog ops Q rest (a.put op.dst undef) (w.alloc (.cells #[.int .i64 (d.room:Nat),.string (tA d),.string (tB d)] 26))):wpList Tryz.prog ops Q (op::rest) a (w.alloc (.cells #[.int .i64 0,.string ⟨#[]⟩,.string ⟨#[]⟩] 26)):=
 wpList_plain hgd fun _ hK=>wp_store_row 26 x y ho w.heap.size #[.int .i64 (d.room:Nat),.string (tA d),.string (tB d)] hx hy 26 _ (heap_alloc_new w _) (jic ..) rfl (by simp[Value.oneCell']) (hK _ _ (by rw[World.setRow_alloc_new];exact h))
theorem jfv{m R:Int}{A B:ByteArray}{l:Value}{s:Bk.St}{L V H:Value}(hgd:op.guard=none)(x y:Operand)(ho:op.op= .store 26 x y)(hx:a.eval x= .pointer (some ⟨g,1,none⟩))(hy:a.eval y= .agg #[.int .i64 (d.room:Nat),.string (tA d),.string (tB d)])(hg:SsAt w g m R A B l s L V H)
  (h:wpList Tryz.prog ops Q rest (a.put op.dst undef) (w.setCells g 1 [.int .i64 (d.room:Nat),.string (tA d),.string (tB d)])):wpList Tryz.prog ops Q (op::rest) a w:=
 wpList_store_mid hgd 26 x y ho g 1 _ hx hy (hg.there (by show 1+3<=79;omega)) (jic ..) (by simp[Value.oneCell']) h
end
end Go.Proofs.YtpehidgjfcfjoaaGreatDoor
namespace Go.Proofs.YtpehidgjfcfjoaaGreatDoor
open Go.RowKit
theorem Kept.putObj(W:World)(r:Nat)(o:Obj):Kept (fun i=>i=r) W (W.putObj r o):=
 ⟨rfl,rfl,rfl,by rw[World.putObj_size];exact Nat.le_refl _,fun _ _ hi=>World.putObj_heap_other hi⟩
theorem zz23{p:Prop}(h:p:=by
 have hlt:=(Array.getElem?_eq_some_iff.1 hh).1
 exact .inr ⟨g,cap,cur,hv,hg,(hk.block g hlt (hF g hg hlt)).trans hh,r⟩):p:=h
theorem OwnB.kept{F:Nat->Prop}{w w':World}{B:Nat}{v:Value}{l:List Nat}(h:OwnB w B v l)(hk:Kept F w w')(hF:∀i,B<=i->i<w.heap.size->¬F i):OwnB w' B v l:=by
 refine⟨⟨h.1.1,?_⟩,h.2⟩;rcases h.1.2 with h2|⟨g,cap,cur,hv,hg,hh,r⟩
 ·exact .inl h2
 ·exact zz23
def jqm(P:Program)(g:Nat)(lb:Array Value)(Kp:World->World->Prop)(ps:List (List Nat))(w:World):Prop:=
 ∀(l:Nat) (J:Nat->World->Prop) (W:World),Below w.heap.size w W->(∀k A B,J k A->Below A.heap.size A B->J k B)->
  (∀k A c p W0 W1,ps[k]? =some p->J k W0->Below W0.heap.size W0 W1->OwnB W1 W0.heap.size (.slice A p.length c) p->
   YieldAt Fence.wide 1 P l #[.slice A p.length c] W1 fun e W'=>e= .returned (.bool true)/\J (k+1) W'/\Kp W1 W')->
  J 0 W->
  CallsIn Fence.wide 2 P g (#[.func (.yield l) #[] #[]]++lb) W fun e W'=>(∃v,e= .returned v)/\J ps.length W'
theorem jdb{P:Program}{g:Operand}{ps:Array Tmp}{assign body:Code}{Q:Exit->Act->World->Prop}{a:Act}{w:World}
  {gf:Nat} {lb:Array Value} (hg:a.eval g= .func (.func gf) #[] lb) (eg:∀args w,(callFunc gf args).run P w= .ok (.enter gf args) w)
  {Y:Nat->Prop} {rows:List (List Nat)} (hseq:jqm P gf lb (Kept (fun i=>Y i\/i=w.heap.size+1)) rows w) (hps:ps.size=1)
  (hY0:¬Y w.heap.size) (hY1:¬Y (w.heap.size+1))
  (I:Nat->World->Prop) (hI:∀k A B,I k A->w.heap.size+2<=A.heap.size->Kept (fun i=>i=w.heap.size\/i=w.heap.size+1) A B->I k B)
  (h0:∀W1,Below w.heap.size w W1->W1.heap.size=w.heap.size+2->I 0 W1) (a₁:Value->Act)
  (hassign:∀(l:Nat) (x:Value) (W:World) (K:Act->World->Prop),K (a₁ x) W->
   assign.wpIn (Fence.wide.inRound l) 1 P (Exit.then K (fun _ _ _=>False)) {tmps:=(ps.zip #[x]).foldl (fun t (p,v)=>t.setIfInBounds p v) a.tmps,defers:=[]} W)
  (hbody:∀(l k:Nat) (A:Option Addr) (c:Nat) (p:List Nat) (W0 W:World),rows[k]? =some p->I k W0->w.heap.size+2<=W0.heap.size->Kept (fun i=>i=w.heap.size+1) W0 W->OwnB W W0.heap.size (.slice A p.length c) p->
   body.wpIn (Fence.wide.inRound l) 1 P (fun e _ W'=>e= .normal/\Kept Y W W'/\I (k+1) W') (a₁ (.slice A p.length c)) W)
  (hdone:∀W,I rows.length W->w.heap.size+2<=W.heap.size->W.heap[w.heap.size]? =some (.deferred (some []))->Q .normal {a with defers:={target:= .collected w.heap.size,args:=#[]}::a.defers} W):
  (Code.rangeFunc g ps assign body).wpIn Fence.wide 3 P Q a w:=by
 refine wpIn_rangeFunc ?_;intro fn hfn;rw[show Fence.wide.round=none from rfl];obtain⟨rec,hrec⟩:∃rec:LoopState->Option Code->Loop,rec=fun st pe=>{state:=st,pending:=pe,fn,tmps:=a.tmps,params:=ps,assign,body,defers:=w.heap.size}:=⟨_,rfl⟩;obtain⟨W1,hW1⟩:∃W1,(w.alloc (.deferred (some []))).alloc (.loop (rec .ready none))=W1:=⟨_,rfl⟩;have hs1:W1.heap.size=w.heap.size+2:=by rw[<-hW1];simp
 have hb1:Below w.heap.size w W1:=by rw[<-hW1];exact((Below.refl _ w).alloc (Nat.le_refl _) _).alloc (by simp) _
 have hL1:W1.heap[w.heap.size+1]? =some (.loop (rec .ready none)):=by
  rw[<-hW1];have:=World.alloc_heap_new (w.alloc (.deferred (some []))) (.loop (rec .ready none));rwa [World.size_alloc]at this
 have hK1:W1.heap[w.heap.size]? =some (.deferred (some [])):=by
  rw[<-hW1];exact(Below.heap_alloc _ _ _ (by simp)).trans (World.alloc_heap_new w _)
 refine⟨w.heap.size+1,[{target:= .collected w.heap.size,args:=#[]}],W1,{target:= .fn (.func gf) lb,args:=#[.func (.yield (w.heap.size+1)) #[] #[]]},W1,gf,
  #[.func (.yield (w.heap.size+1)) #[] #[]]++lb,W1,?_,?_,fun _ _=>trivial,?_,fun _=>by omega,?_⟩
 ·rw[<-hW1,hrec];exact run_enterLoop_outer _ _ _ _ _
 ·simp only[resolve,hg]
  simp[go_sem]
 ·simp[invoke,go_sem,eg]
 ·refine(hseq (w.heap.size+1)
   (fun k W=>I k W/\w.heap.size+2<=W.heap.size/\W.heap[w.heap.size+1]? =some (.loop (rec .ready none))/\W.heap[w.heap.size]? =some (.deferred (some [])))
   W1 hb1
   (fun k A B hs hb=>⟨hI k A B hs.1 hs.2.1 (Kept.of_below hb),Nat.le_trans hs.2.1 hb.size,(hb.block _ (by have:=hs.2.1;omega)).trans hs.2.2.1,(hb.block _ (by have:=hs.2.1;omega)).trans hs.2.2.2⟩)
   ?_ ⟨h0 W1 hb1 hs1,zv,hL1,hK1⟩).mono ?_
  ·rintro k A c p W0 W hp ⟨hi0,hsz,hl0,hk0⟩ hb ho
   have hszW:=hb.size;have hl:W.heap[w.heap.size+1]? =some (.loop (rec .ready none)):=(hb.block _ zv).trans hl0;have hk:W.heap[w.heap.size]? =some (.deferred (some [])):=(hb.block _ zv).trans hk0;have hy:=run_yield (P:=P) (args:=#[.slice A p.length c]) hl (by rw[hrec];exact hps.symm);rw[hrec]at hy;obtain⟨Wb,hWb⟩:∃Wb,W.putObj (w.heap.size+1) (.loop {rec .ready none with state:= .busy})=Wb:=⟨_,rfl⟩
   have kb:Kept (fun i=>i=w.heap.size+1) W Wb:=by rw[<-hWb];exact Kept.putObj _ _ _
   have hszb:=kb.size;refine⟨fn,_,assign,body,hy,roundIn_of_wpIn hfn (hassign _ _ W _ ⟨Wb,by rw[<-hWb];exact run_beginRound hl (by rw[hrec]),?_⟩)⟩;have hl2:Wb.heap[w.heap.size+1]? =some (.loop {rec .ready none with state:= .busy}):=by rw[<-hWb];exact World.putObj_heap_same zv
   have hk2:Wb.heap[w.heap.size]? =some (.deferred (some [])):=(kb.block _ zv zv).trans hk;have k0b:Kept (fun i=>i=w.heap.size+1) W0 Wb:=(Kept.of_below (F:=fun i=>i=w.heap.size+1) hb).trans kb fun _ _ h=>h;refine wpIn_mono (hbody _ k A c p W0 Wb hp hi0 hsz k0b (ho.kept kb fun i h1 _ h2=>by omega)) ?_;rintro e a3 W3 ⟨rfl,k3,hi3⟩;have hsz3:=k3.size;have hl3:=(k3.block _ zv hY1).trans hl2;have hk3:=(k3.block _ zv hY0).trans hk2;have hr:(Instr.endRound (w.heap.size+1) none).run P W3= .ok (.bool true) (W3.putObj (w.heap.size+1) (.loop (rec .ready none))):=by
    have:=run_endRound (P:=P) none hl3;rw[hrec]at this⊢;exact this
   have k4:=Kept.putObj W3 (w.heap.size+1) (.loop (rec .ready none));refine⟨_,_,hr,?_⟩;refine⟨rfl,⟨hI _ _ _ hi3 zv (k4.more fun _ _ h=> .inr h),by rw[World.putObj_size];omega,World.putObj_heap_same zv,(World.putObj_heap_other zv).trans hk3⟩,?_⟩;exact(((kb.more fun _ _ h=> .inr h).trans k3 fun _ _ h=> .inl h).trans k4 fun _ _ h=> .inr h)
  ·rintro e W2 ⟨⟨v,rfl⟩,hi,hsz,hl,hk⟩
   refine⟨none,_,by have:=run_endLoop (P:=P) hl (by rw[hrec];simp);rw[hrec]at this;exact this,?_⟩;have k4:=Kept.putObj W2 (w.heap.size+1) (.loop {rec .ready none with state:= .exhausted})
   rw[hrec]at k4;exact hdone _ (hI _ _ _ hi hsz (k4.more fun _ _ h=> .inr h)) (by rw[World.putObj_size];exact hsz) ((World.putObj_heap_other zv).trans hk)
end Go.Proofs.YtpehidgjfcfjoaaGreatDoor
namespace Go.Proofs.YtpehidgjfcfjoaaGreatDoor
open Go.RowKit Go.Shelf Fr
attribute [local go_sem] Oper.semAt_some
theorem jjo{W W':World}{a:Addr}(h:W'.heap[a.block]? =W.heap[a.block]?):W'.cell? a=W.cell? a:=by unfold World.cell?;rw[h]
theorem Sl.held{w w':World}{A:Option Addr}{n c:Nat}{l:List Nat}(h:Sl w A n c l)(hs:w.heap.size<=w'.heap.size)(hb:∀a,A=some a->w'.heap[a.block]? =w.heap[a.block]?):Sl w' A n c l:=
 ⟨⟨h.rd.1,fun hl=>by
  obtain⟨b,o,e,hbb,hc⟩:=h.rd.2 hl;exact⟨b,o,e,Nat.lt_of_lt_of_le hbb hs,fun j hj=>(jjo (a:=⟨b,o+j,none⟩) (hb ⟨b,o,none⟩ e)).trans (hc j hj)⟩⟩,h.len,h.cap,h.max,h.nil⟩
theorem Far.prefix{l:List Nat}{k:Nat}{ps:List (List Nat)}(h:Far l k ps)(he:gE (l.drop k)=0):(scan l).1[ps.length]? =some (gP (l.drop k)):=by
 have h2:=h.yes he;unfold Far at h2;rw[h2];simp
def lenOf:Value->Nat
 | .slice _ n _=>n
 |_=>0
theorem jfn(n c:Nat)(A:Option Addr)(w:World):
  Calls Tryz.prog 51 #[.slice A n c] w fun e w'=>e= .returned (.func (.func 96) #[] #[.pointer (some ⟨w.heap.size,0,none⟩)])/\w'=w.alloc (.cells #[.slice A n c] 43):=by
 go_in;go_wp2;go_ret;exact⟨rfl,rfl⟩
theorem jex(n c:Nat)(A:Option Addr)(l:List Nat)(w:World)(g:Nat)(h:Sl w A n c l)(hbox:w.heap[g]? =some (.cells #[.slice A n c] 43 (0,0)))(hn:n<=1000000000)(Z:Nat->Prop)(hZ:0<l.length->∀a,A=some a->¬Z a.block):
  jqm Tryz.prog 96 #[.pointer (some ⟨g,0,none⟩)] (Kept Z) (scan l).1 w:=by
 intro y J W hW hJ hY h0;have hc0:W.cell? ⟨g,0,none⟩=some (.slice A n c):=by
  rw[cell_of_row W g 0 _ _ _ ((hW.block g (Array.getElem?_eq_some_iff.1 hbox).1).trans hbox)];rfl
 have HS:=zh (h.on hW);have HJ:=zh hJ;have HY:=zh hY;have HK:=zh hZ;have HB:Hid (0<l.length->∀a,A=some a->a.block<W.heap.size):=fun hl a ha=>Nat.lt_of_lt_of_le (h.block hl a ha) hW.size;have H0:=zh h0;clear h hbox hW hJ hY hZ h0;refine callsIn_of_wp Tryz.func96 rfl trivial ?_ rfl;simp only[Tryz.ntmps96,List.size_toArray,List.length_cons,List.length_nil,Nat.reduceAdd,Nat.reduceSub,Array.replicate_succ,Array.replicate_zero,List.push_toArray,List.append_toArray,List.nil_append,List.cons_append]
 gi_wp2_with fail
 gi_loopw [3] (fun p wr=>∃(k:Nat) (ps:List (List Nat)) (A':Option Addr) (n' c':Nat),p= .slice A' n' c'/\Sl wr A' n' c' (l.drop k)/\(∀a',A'=some a'->∃a,A=some a/\a'.block=a.block)/\Far l k ps/\J ps.length wr/\n'<=n/\k<=l.length/\W.heap.size<=wr.heap.size)
  (fun p _=>lenOf p)
 case atStart=>
  exact⟨0,[],A,n,c,rfl,HS.out,fun a' e=>⟨a',e,rfl⟩,Far.start l,H0.out,Nat.le_refl _,Nat.zero_le _,Nat.le_refl _⟩
 case round=>
  obtain⟨k,ps,A',n',c',rfl,hs,hA,hf,hj,hn',hkl,hWs⟩:=hrel;have H:=zh hs;clear hs;have HA:=zh hA;clear hA;have F:=zh hf;clear hf;have JJ:=zh hj;clear hj;by_cases hz:n'=0
  ·subst hz
   have hk:k=l.length:=by have:=H.out.len;rw[List.length_drop]at this;omega
   have HE:=zh (F.out.stop hk);clear hk
   gi_wp2_with fail
   go_end0;exact⟨⟨_,rfl⟩,by rw[HE.out];exact JJ.out⟩
  ·have hnz:(0:Int)<(n':Int):=by omega
   have hkl':Hid (k<l.length):=by have:=H.out.len;rw[List.length_drop]at this;show _<_;omega
   have HP:Hid (gE (l.drop k)≠0->scan l=(ps,k,gE (l.drop k))):=fun he=>F.out.no hkl'.out he;have HX:Hid (gE (l.drop k)=0->Far l (k+whole (l.drop k)) (ps++[gP (l.drop k)])/\(scan l).1[ps.length]? =some (gP (l.drop k))/\gN (l.drop k)=whole (l.drop k)/\7<=whole (l.drop k)/\whole (l.drop k)<=n'/\k+whole (l.drop k)<=l.length):=fun he=>by
    have h1:=gE_zero he;have h2:=h1.2.2.1;have h3:=H.out.len;have h4:=h2;rw[List.length_drop]at h4;exact⟨F.out.yes he,F.out.prefix he,(jk4 he).2,h1.1,zv,zv⟩
   have HD:Hid (∀m,l.drop (k+m)=(l.drop k).drop m):=fun m=>by rw[List.drop_drop]
   have C:=zh (jl3 _ _ _ (l.drop k) wr H.out zv);generalize l.drop k=d at*
   gi_wp2_with fail
   refine⟨trivial,callsIn_wide.2 ?_⟩
   (with_reducible refine C.out.mono ?_)
   rintro e w2 ⟨A2,c2,rfl,ho2,hb2⟩;by_cases he:gE d=0
   ·obtain⟨hf2,hat,hN,h7,hle,hkw⟩:=HX.out he
    have F2:=zh hf2;obtain⟨fn,tmps,assign,body,hy,hR⟩:=HY.out ps.length A2 c2 (gP d) wr w2 hat JJ.out hb2 ho2;have R:=zh hR;have H2:=zh (H.out.on hb2);have hWs2:=hb2.size;rw[hN,he];clear hR hf2 hat hN ho2 hb2 HP HX C he;generalize gP d=p at*;generalize whole d=m at*
    gi_wp2_with fail
    refine R.out.mono ?_;rintro e W3 ⟨rfl,hj3,hk3⟩;have hz3:W.heap.size<=W3.heap.size:=Nat.le_trans (Nat.le_trans hWs hWs2) hk3.size;have H3:=zh (H2.out.held hk3.size (fun a' ha'=>by
     obtain⟨a,e1,e2⟩:=HA.out a' ha';have h0:0<l.length:=by have:=hkl'.out;omega
     rw[e2];exact hk3.block _ (by have:=HB.out h0 a e1;omega) (HK.out h0 a e1)))
    have J3:=zh hj3;have hcap:=H3.out.cap;have hmax:=H3.out.max;unfold maxLen at hmax;clear hj3 hk3 R hy;by_cases hcm:c'=m
    ·have S4:=zh (H3.out.dropAll hle hcm)
     obtain rfl:n'=m:=by omega
     gi_wp2_with fail
     go_roundw
     case rel=>exact⟨k+n',ps++[p],A',n' -n',c' -n',by rw[hcm];simp,by rw[HD.out];exact S4.out,HA.out,F2.out,by rw[List.length_append];exact J3.out,zv,hkw,hz3⟩
     case measure=>simp[lenOf];omega
    ·have S4:=zh (H3.out.drop hle hcm)
     gi_wp2_with fail
     go_roundw
     case rel=>exact⟨k+m,ps++[p],_,_,_,rfl,by rw[HD.out];exact S4.out,fun a' ha'=>by
      obtain⟨x,hx,rfl⟩:=Option.map_eq_some_iff.1 ha';obtain⟨a,e1,e2⟩:=HA.out x hx;refine⟨a,e1,?_⟩;rw[<-e2];unfold Addr.add;split<;>rfl,F2.out,by rw[List.length_append];exact J3.out,zv,hkw,hz3⟩
     case measure=>simp[lenOf];omega
   ·have HS2:=zh (HP.out he)
    have hee:(((gE d:Nat):Int) !=0)=true:=by rw[bne_iff_ne];omega
    have J2:=zh (HJ.out _ _ _ JJ.out hb2);clear he HP HX C;generalize gE d=ee at*;generalize gN d=nn at*
    gi_wp2_with fail
    refine⟨fun _ h=>(by cases h),?_⟩
    gi_wp2_with fail
    refine bodyPost_ret (results_none rfl _ _ _) rfl ?_;exact⟨⟨_,rfl⟩,by rw[HS2.out];exact J2.out⟩
theorem jhr(n c:Nat)(A:Option Addr)(l:List Nat)(w:World)(h:Sl w A n c l)(hn:n<=1000000000):
  Calls Tryz.prog 72 #[.slice A n c] w (je9 w (.int .i64 (((scan l).1.length:Nat):Int))):=by
 refine(callsIn_wide (n:=3)).1 ?_;refine callsIn_of_wp_marks Tryz.func72 rfl trivial ?_ rfl;simp only[Tryz.ntmps72,List.size_toArray,List.length_cons,List.length_nil,Nat.reduceAdd,Nat.reduceSub,Array.replicate_succ,Array.replicate_zero,List.push_toArray,List.append_toArray,List.nil_append,List.cons_append];have hcount:(scan l).1.length<=1000000000:=Nat.le_trans (scan_count l) (by rw[<-h.len];exact hn)
 gi_wp2_with fail
 refine⟨trivial,callsIn_wide.2 ?_⟩;refine(jfn n c A _).mono ?_;rintro e w1 ⟨rfl,rfl⟩
 gi_wp2_with fail
 have hb1:=(Below.refl w.heap.size w).alloc (Nat.le_refl _) (.cells #[.int .i64 0] 3);have hb2:=hb1.alloc (by simp) (.cells #[.slice A n c] 43);have hsz:((w.alloc (.cells #[.int .i64 0] 3)).alloc (.cells #[.slice A n c] 43)).heap.size=w.heap.size+2:=by simp
 have hbox:=heap_alloc_new (w.alloc (.cells #[.int .i64 0] 3)) (.cells #[.slice A n c] 43);have hcell:=(Below.heap_alloc (w.alloc (.cells #[.int .i64 0] 3)) (.cells #[.slice A n c] 43) w.heap.size (by simp)).trans (heap_alloc_new w (.cells #[.int .i64 0] 3));rw[show(w.alloc (.cells #[.int .i64 0] 3)).heap.size=w.heap.size+1 from by simp]at hbox;have S:=zh (h.on hb2);have HB:Hid (0<l.length->∀a,A=some a->a.block<w.heap.size):=h.block;generalize(w.alloc (.cells #[.int .i64 0] 3)).alloc (.cells #[.slice A n c] 43)=W0 at*;refine jdb (gf:=96) (lb:=#[.pointer (some ⟨w.heap.size+1,0,none⟩)]) rfl (enters_of Tryz.func96 zk rfl) (Y:=fun i=>i=w.heap.size)
  (jex n c A l W0 _ S.out hbox hn _ (fun h0 a ha hz=>by have:=HB.out h0 a ha;omega)) rfl zv zv
  (fun k W=>W.heap[w.heap.size]? =some (.cells #[.int .i64 (k:Nat)] 3 (0,0))/\Below w.heap.size w W) ?inv ?start
  (fun v=>{tmps:=#[.slice A n c,undef,.int .i64 0,.pointer (some ⟨w.heap.size,0,none⟩),.slice A n c,.func (.func 96) #[] #[.pointer (some ⟨w.heap.size+1,0,none⟩)],v,undef,undef,undef],defers:=[]}) ?assign ?body ?done
 case inv=>
  rintro k X Y ⟨h1,h2⟩ hX hK;exact⟨(hK.block _ (Array.getElem?_eq_some_iff.1 h1).1 zv).trans h1,h2.trans (hK.below h2.size (fun i hi=>by omega))⟩
 case start=>
  intro W1 hb hz;exact⟨(hb.block _ zv).trans hcell,hb2.trans (hb.mono hb2.size)⟩
 case assign=>
  intro y x W K hK
  gi_wp2
  simpa using hK
 case body=>
  rintro y k A' c' p V0 V hp ⟨h1,h2⟩ hz0 hk ho;have hk1:(k:Int)<1000000000:=by have:=(List.getElem?_eq_some_iff.1 hp).1;omega
  have h3:=(hk.block w.heap.size (Array.getElem?_eq_some_iff.1 h1).1 zv).trans h1;have b3:=zh (h2.trans (hk.below h2.size (fun i hi=>by omega)));have hc:V.cell? ⟨w.heap.size,0,none⟩=some (.int .i64 (k:Nat)):=by rw[cell_of_row V w.heap.size 0 _ _ _ h3];rfl
  have hfz:=frozen_of_row V w.heap.size 0 _ _ h3;have H3:=zh h3;clear h1 h2 hp h3 ho hk
  gi_wp2_with fail
  exact⟨Kept.of_grown (jad _ _ _ _) (fun i hi=>by injection hi with hi;exact hi.symm),heap_setCell_same _ _ 0 _ _ _ H3.out,b3.out.setCell (p:=⟨w.heap.size,0,none⟩) (Nat.le_refl _) _⟩
 case done=>
  rintro V ⟨h1,h2⟩ hz hd;have hc:V.cell? ⟨w.heap.size,0,none⟩=some (.int .i64 ((scan l).1.length:Nat)):=by rw[cell_of_row V w.heap.size 0 _ _ _ h1];rfl
  generalize(scan l).1.length=m at*
  gi_wp2_with fail
  refine⟨by simp,.inl ⟨_,_,rfl,run_takeDeferred hd,?_⟩⟩;exact⟨_,results_tmp rfl _ _ _,rfl,h2.trans ((Kept.putObj V W0.heap.size _).below zv (fun i hi=>by omega))⟩
end Go.Proofs.YtpehidgjfcfjoaaGreatDoor
namespace Go.Proofs.YtpehidgjfcfjoaaGreatDoor
open Go.RowKit Go.Shelf Fr
attribute [local go_sem] Oper.semAt_some
def OwnF(w:World)(B:Nat)(v:Value)(ls:List (List Nat)):Prop:=
 ∃xs,w.ownsRow B 43 1 v ls.length xs/\∀j,j<ls.length->∃x,xs[j]? =some x/\Fits w v x (ls.getD j [])/\∀a n c,x= .slice (some a) n c->B<=a.block
theorem OwnF.none_(w:World)(B:Nat):OwnF w B (.slice none 0 0) []:=⟨[],World.ownsRow_nil _ _ _ _,fun j hj=>by simp at hj⟩
theorem OwnF.rows{w:World}{B:Nat}{v:Value}{ls:List (List Nat)}(h:OwnF w B v ls):OwnS w B v ls:=by
 obtain⟨xs,h1,h2⟩:=h;exact⟨xs,h1,fun j hj=>by obtain⟨x,h3,h4,_⟩:=h2 j hj;exact⟨x,h3,h4⟩⟩
theorem OwnF.lower{w:World}{B B':Nat}{v:Value}{ls:List (List Nat)}(h:OwnF w B v ls)(hB:B'<=B):OwnF w B' v ls:=by
 obtain⟨xs,h1,h2⟩:=h;exact⟨xs,jch h1 hB,fun j hj=>by obtain⟨x,h3,h4,h5⟩:=h2 j hj;exact⟨x,h3,h4,fun a n c e=>Nat.le_trans hB (h5 a n c e)⟩⟩
theorem OwnF.kept{F:Nat->Prop}{w w':World}{B:Nat}{v:Value}{ls:List (List Nat)}(h:OwnF w B v ls)(hk:Kept F w w')(hF:∀i,B<=i->i<w.heap.size->¬F i):OwnF w' B v ls:=by
 obtain⟨xs,ho,hf⟩:=h;refine⟨xs,⟨ho.1,?_⟩,fun j hj=> ?_⟩
 ·rcases ho.2 with h2|⟨g,cap,cur,hv,hg,hh,r⟩
  ·exact .inl h2
  ·exact zz23
 ·obtain⟨x,hx,⟨A,n,c,e,hs,hfar⟩,hb⟩:=hf j hj
  refine⟨x,hx,⟨A,n,c,e,⟨⟨hs.rd.1,fun hl=> ?_⟩,hs.len,hs.cap,hs.max,hs.nil⟩,hfar⟩,hb⟩;obtain⟨b,o,e2,hbb,hc⟩:=hs.rd.2 hl;exact⟨b,o,e2,Nat.lt_of_lt_of_le hbb hk.size,fun i hi=>(jjo (a:=⟨b,o+i,none⟩) (hk.block b hbb (hF b (hb ⟨b,o,none⟩ n c (by rw[e,e2])) hbb))).trans (hc i hi)⟩
theorem OwnF.below{w w':World}{B:Nat}{v:Value}{ls:List (List Nat)}(h:OwnF w B v ls)(hb:Below w.heap.size w w'):OwnF w' B v ls:=h.kept (Kept.of_below (F:=fun _=>False) hb) fun _ _ _ hf=>hf
theorem jdz{F:Fence}{nF:Nat}{w:World}{ops:Array Oper}{rest:List Oper}{op:Oper}{a:Act}{Q:Exit->Act->World->Prop}(hgd:op.guard=none)(s x:Operand)
  (ho:op.op= .call {callee:= .builtin .append,args:=#[s,x],argTypes:=#[78,78]})
  (base:Nat) (v:Value) (ls:List (List Nat)) (hs:a.eval s=v) (hown:OwnF w base v ls) (A:Option Addr) (n c:Nat) (l:List Nat) (hl:Sl w A n c l) (hA:∀a,A=some a->base<=a.block) (hx:a.eval x= .slice (some ⟨w.heap.size,0,none⟩) 1 1)
  (hfar:∀a,A=some a->v.ownBlock≠some a.block) (hlen:ls.length<=3000000000) (hbase:base<=w.heap.size)
  (h:∀v' w',OwnF w' base v' (ls++[l])->w.grownBy w' v.ownBlock->wpListIn F nF Tryz.prog ops Q rest (a.put op.dst v') w'):wpListIn F nF Tryz.prog ops Q (op::rest) a (w.alloc (.cells #[.slice A n c] 43)):=by
 obtain⟨i0,hi0,hz0,hz1,hz2⟩:=info_parts jp7;have hb:=(Below.refl w.heap.size w).alloc (Nat.le_refl _) (.cells #[.slice A n c] 43);have hvlt:=hown.rows.base;obtain⟨xs,ho1,hf⟩:=hown.below hb;have hxl:=ho1.1;rw[Nat.mul_one]at hxl;refine wpListIn_append_own_at (F:=F) (nF:=nF) (P:=Tryz.prog) (w.alloc (.cells #[.slice A n c] 43)) hgd s x 78 ho base 43 i0 _ 1 24 Tryz.underlying78 hi0 hz0 hz1 hz2 rfl zv v ls.length xs hs ho1 ⟨w.heap.size,0,none⟩ 1 1 [.slice A n c] hx rfl ?_ ?_ (by unfold maxLen;omega) zv (by simp;omega) ?_
 ·intro j u hu
  rcases j with _|j
  ·simp at hu
   subst hu;have:((⟨w.heap.size,0,none⟩:Addr).add 0)=⟨w.heap.size,0,none⟩:=by unfold Addr.add;split<;>simp_all
   rw[this,World.cell?_alloc_at _ _ _ _ rfl];rfl
  ·simp at hu
 ·intro u hu;simp at hu;subst hu;rfl
 ·intro v' w' h1 h2 _ h4
  have hg:w.grownBy w' v.ownBlock:=jam (World.grownBy_alloc w _ _) h2;have hsz:(w.alloc (.cells #[.slice A n c] 43)).heap.size=w.heap.size+1:=by simp
  refine h v' w' ⟨xs++[.slice A n c],by rw[List.length_append];exact h1,fun j hj=> ?_⟩ hg;rw[List.length_append,List.length_singleton]at hj;by_cases hjl:j<ls.length
  ·obtain⟨y,hy,hfy,hby⟩:=hf j hjl
   refine⟨y,?_,?_,hby⟩
   ·rw[List.getElem?_append_left zv];exact hy
   ·rw[jee _ _ _ _ hjl];exact hfy.grown h2 h4
  ·obtain rfl:j=ls.length:=by omega
   refine⟨.slice A n c,by rw[List.getElem?_append_right zv,hxl];simp,?_,fun a' n' c' e=>by injection e with e1;exact hA a' e1⟩
   rw[jef _ _ _ _ (Nat.le_refl _) (by simp),Nat.sub_self];exact(Fits.grown ⟨A,n,c,rfl,hl.on hb,fun _ a ha=>hfar a ha⟩ h2 h4)
def JAllF(ls:List (List Nat))(w:World)(e:Ending)(w':World):Prop:=∃A c,e= .returned (.slice A ls.length c)/\OwnF w' w.heap.size (.slice A ls.length c) ls/\Below w.heap.size w w'
theorem juf(p0 d0:Option Addr)(l:List Nat)(w:World)(hl:l.length<=1000000000)
  (hd:∀W,Below w.heap.size w W->Calls Tryz.prog 52 #[.pointer p0] W fun e w'=>e= .returned (.pointer d0)/\w'=W)
  (ha:∀W,Below w.heap.size w W->Calls Tryz.prog 21 #[.pointer d0] W (jes l W)):
  Calls Tryz.prog 26 #[.pointer p0] w (JAllF (scan l).1 w):=by
 have HD:=zh hd;have HA:=zh ha;clear hd ha;refine(callsIn_wide (n:=3)).1 ?_;refine callsIn_of_wp_marks Tryz.func26 rfl trivial ?_ rfl;simp only[Tryz.ntmps26,List.size_toArray,List.length_cons,List.length_nil,Nat.reduceAdd,Nat.reduceSub,Array.replicate_succ,Array.replicate_zero,List.push_toArray,List.append_toArray,List.nil_append,List.cons_append];have hcount:(scan l).1.length<=1000000000:=Nat.le_trans (scan_count l) hl;have hb1:=(Below.refl w.heap.size w).alloc (Nat.le_refl _) (.cells #[.slice none 0 0] 78);have hc1:=heap_alloc_new w (.cells #[.slice none 0 0] 78);have hs1:(w.alloc (.cells #[.slice none 0 0] 78)).heap.size=w.heap.size+1:=by simp
 gi_wp2_with fail
 generalize w.alloc (.cells #[.slice none 0 0] 78)=w1 at*;refine⟨trivial,callsIn_wide.2 ?_⟩;refine(HD.out w1 hb1).mono ?_;rintro e w1' ⟨rfl,rfl⟩
 gi_wp2_with fail
 refine⟨trivial,callsIn_wide.2 ?_⟩;refine(HA.out w1' hb1).mono ?_;rintro e w2 ⟨A2,c2,rfl,ho2,hb2⟩
 gi_wp2_with fail
 refine⟨trivial,callsIn_wide.2 ?_⟩;refine(jfn _ c2 A2 _).mono ?_;rintro e w3 ⟨rfl,rfl⟩
 gi_wp2_with fail
 have hb3:=(Below.refl w2.heap.size w2).alloc (Nat.le_refl _) (.cells #[.slice A2 l.length c2] 43);have hbox:=heap_alloc_new w2 (.cells #[.slice A2 l.length c2] 43);have hs3:(w2.alloc (.cells #[.slice A2 l.length c2] 43)).heap.size=w2.heap.size+1:=by simp
 have S:=zh (ho2.sls.on hb3);have hfrom:=ho2.from_;have hlt2:=ho2.sls.block;have hz2:=hb2.size;have hcell:=(hb3.block w.heap.size zv).trans ((hb2.block w.heap.size zv).trans hc1);have hbw:=(hb1.trans (hb2.mono hb1.size)).trans (hb3.mono (Nat.le_trans hb1.size hb2.size));generalize w2.alloc (.cells #[.slice A2 l.length c2] 43)=W0 at*;clear ho2 hc1 hb1 hb2 hb3;refine jdb (gf:=96) (lb:=#[.pointer (some ⟨w2.heap.size,0,none⟩)]) rfl (enters_of Tryz.func96 zk rfl) (Y:=fun i=>i=w.heap.size\/W0.heap.size+2<=i)
  (jex l.length c2 A2 l W0 _ S.out hbox hl _ (fun h0 a ha hz=>by have:=hfrom a ha;have:=hlt2 h0 a ha;omega)) rfl zv zv
  (fun k W=>(∃v,W.heap[w.heap.size]? =some (.cells #[v] 78 (0,0))/\OwnF W (W0.heap.size+2) v ((scan l).1.take k))/\Below w.heap.size w W) ?inv ?start
  (fun x=>{tmps:=#[.pointer p0,undef,.slice none 0 0,.pointer (some ⟨w.heap.size,0,none⟩),x,.pointer p0,.pointer d0,.slice A2 l.length c2,.func (.func 96) #[] #[.pointer (some ⟨w2.heap.size,0,none⟩)],x,undef,undef,undef,undef,undef],defers:=[]}) ?assign ?body ?done
 case inv=>
  rintro k X Y ⟨⟨v,h1,h3⟩,h2⟩ hX hK;exact⟨⟨v,(hK.block _ (Array.getElem?_eq_some_iff.1 h1).1 zv).trans h1,h3.kept hK (fun i hi _ hf=>by omega)⟩,h2.trans (hK.below h2.size (fun i hi=>by omega))⟩
 case start=>
  intro W1 hb hz;exact⟨⟨_,(hb.block _ zv).trans hcell,by rw[List.take_zero];exact OwnF.none_ _ _⟩,hbw.trans (hb.mono hbw.size)⟩
 case assign=>
  intro y x W K hK
  gi_wp2
  exact hK
 case body=>
  rintro y k A' c' p V0 V hp ⟨⟨v,h1,h3⟩,h2⟩ hz0 hk ho;have hkl:=(List.getElem?_eq_some_iff.1 hp).1;have HL:Hid (((scan l).1.take k).length<=3000000000):=by show _<=_;rw[List.length_take];omega
  have HT:Hid ((scan l).1.take (k+1)=(scan l).1.take k++[p]):=by
   show _=_;rw[List.take_succ_eq_append_getElem hkl,(List.getElem?_eq_some_iff.1 hp).2]
  obtain⟨q,hq⟩:∃q,q=(scan l).1.take k:=⟨_,rfl⟩;rw[<-hq]at h3 HL HT;have HQ:=zh hq;clear hq;have hzV:=hk.size;have hv0:=h3.rows.base;have h1V:=(hk.block w.heap.size (Array.getElem?_eq_some_iff.1 h1).1 zv).trans h1;have h3V:=h3.kept hk (fun i hi _ hf=>by omega);have b3:=zh (h2.trans (hk.below h2.size (fun i hi=>by omega)));have hc:V.cell? ⟨w.heap.size,0,none⟩=some v:=by rw[cell_of_row V w.heap.size 0 _ _ _ h1V];rfl
  have H1:=zh h1V;have H3:=zh h3V;have HO:=zh ho;have HF:Hid (∀a,A'=some a->v.ownBlock≠some a.block):=fun a ha e=>by
   have h5:=HO.out.from_ a ha;have h6:=(hv0 _ e).2;omega
  have HBl:Hid (∀a,A'=some a->W0.heap.size+2<=a.block):=fun a ha=>Nat.le_trans hz0 (HO.out.from_ a ha);have HV0:Hid (∀i,v.ownBlock=some i->W0.heap.size+2<=i):=fun i e=>(hv0 i e).1;have HV:Hid (v.ownBlock≠some w.heap.size):=fun e=>by have:=(hv0 _ e).1;omega
  have hbase:W0.heap.size+2<=V.heap.size:=by omega
  obtain⟨Av,cv,rfl,_⟩:=h3V.rows.sls;clear h1 h2 hp h3 ho hk h1V h3V hv0 hkl
  gi_wp2_with (gi_at_builtin;refine jdz rfl (.tmp 10) (.tmp 12) rfl (W0.heap.size+2) _ _ rfl H3.out A' p.length c' p HO.out.sls HBl.out rfl HF.out HL.out hbase ?_;intro v3 w3 ho3 hg3;have O3:=zh ho3;have G3:=zh hg3;have hb3':=(hg3.block w.heap.size (Array.getElem?_eq_some_iff.1 H1.out).1 (fun e=>HV.out e.symm)).trans H1.out;obtain⟨A3,c3,rfl,_⟩:=ho3.rows.sls;have hc3:=frozen_of_row w3 w.heap.size 0 _ _ hb3';have hc4:=cell_of_row w3 w.heap.size 0 _ _ _ hb3';have B3:=zh hb3';clear ho3 hg3 hb3')
  have k1:Kept (fun i=>i=w.heap.size\/w2.heap.size+1+2<=i) V w3:=Kept.of_grown G3.out (fun i e=> .inr (by have:=HV0.out i e;omega));have k2:Kept (fun i=>i=w.heap.size) w3 (w3.setCell ⟨w.heap.size,0,none⟩ (.slice A3 (q.length+1) c3)):=Kept.of_grown (jad _ _ _ _) (fun i hi=>by injection hi with hi;exact hi.symm)
  have k3:=k1.trans k2 fun _ _ h=> .inl h;have o3:=O3.out;rw[hs3,List.length_append,List.length_singleton]at o3;refine⟨k3,⟨_,heap_setCell_same _ _ 0 _ _ _ B3.out,?_⟩,b3.out.trans (k3.below b3.out.size (fun i hi=>by omega))⟩;rw[HT.out];exact o3.kept k2 fun i h1 _ h2=>by omega
 case done=>
  rintro V ⟨⟨v,h1,h3⟩,h2⟩ hz hdd;rw[List.take_length]at h3;obtain⟨Av,cv,rfl,_⟩:=h3.rows.sls;have hc:V.cell? ⟨w.heap.size,0,none⟩=some (.slice Av (scan l).1.length cv):=by rw[cell_of_row V w.heap.size 0 _ _ _ h1];rfl
  gi_wp2_with fail
  refine⟨by simp,.inl ⟨_,_,rfl,run_takeDeferred hdd,?_⟩⟩;have k4:=Kept.putObj V W0.heap.size (.deferred none);exact⟨_,results_tmp rfl _ _ _,Av,cv,rfl,(h3.kept k4 fun i h1 _ h2=>by omega).lower zv,h2.trans (k4.below zv (fun i hi=>by omega))⟩
end Go.Proofs.YtpehidgjfcfjoaaGreatDoor
namespace Go.Proofs.YtpehidgjfcfjoaaGreatDoor
open Go.RowKit
namespace Jn
open Fr
def Whole(d:Dk.St):Prop:=∃k ps,(∀p∈ps,ok p)/\k<=ps.length/\d=Js d.room k ps
theorem Whole.byt{d:Dk.St}(h:Whole d):Byt d:=by
 obtain⟨k,ps,h1,h2,h3⟩:=h;rw[h3];exact js_byt h1
theorem Whole.opened{d:Dk.St}(h:Byt d):Whole (opened d):=by
 obtain⟨h1,h2,h3,h4,h5⟩:=opened_l d h;refine⟨(ents d).length,ents d,h5,Nat.le_refl _,?_⟩;unfold Js;rw[List.take_length,<-h1];show(⟨(Jn.opened d).room,(Jn.opened d).safe,(Jn.opened d).l⟩:Dk.St)=_;rw[h2,h1]
theorem putE_zero{p:List Nat}(h:putE p=0)(hb:∀x∈p,x<256):ok p:=⟨by have:=(put_ok h).1;omega,(put_ok h).2,hb⟩
theorem Whole.app{d:Dk.St}(h:Whole d){p:List Nat}(hp:∀x∈p,x<256):Whole (app d p):=by
 obtain⟨k,ps,h1,h2,h3⟩:=h;unfold Jn.app;by_cases he:putE p=0
 ·rw[if_neg zv]
  unfold Dk.write;split
  ·rename_i hg
   have ho:=putE_zero he hp;refine⟨k,ps++[p],?_,by rw[List.length_append];omega,?_⟩
   ·intro x hx
    rcases List.mem_append.1 hx with hx|hx
    ·exact h1 x hx
    ·rw[List.mem_singleton.1 hx];exact ho
   ·unfold Js
    rw[List.take_append_of_le_length h2,all_append,all_one];have e1:=congrArg Dk.St.safe h3;have e2:=congrArg Dk.St.l h3;unfold Js at e1 e2;show(⟨d.room,d.safe,d.l++fr p⟩:Dk.St)=_;rw[e1,e2]
  ·exact⟨k,ps,h1,h2,h3⟩
 ·rw[if_pos he]
  exact⟨k,ps,h1,h2,h3⟩
theorem Whole.torn{d:Dk.St}(h:Whole d){p:List Nat}(hp:∀x∈p,x<256)(keep:Int):Whole (torn d p keep):=by
 unfold Jn.torn;split
 ·exact h
 ·exact Whole.opened (Byt.sync (h.byt.write fun x hx=>fr_byte hp x (List.mem_of_mem_take hx)))
theorem Whole.sync{d:Dk.St}(h:Whole d):Whole (Dk.sync d):=by
 obtain⟨k,ps,h1,h2,h3⟩:=h;refine⟨ps.length,ps,h1,Nat.le_refl _,?_⟩;have:=congrArg Dk.sync h3;rw[js_sync]at this;exact this
theorem bad_zero{ls:List (List Nat)}(h:bad ls=0):∀p∈ls,putE p=0:=by
 induction ls with
 |nil=>intro p hp;cases hp
 |cons q qs ih=>
  unfold bad at h;split at h
  ·omega
  ·intro p hp
   rcases List.mem_cons.1 hp with rfl|hp
   ·omega
   ·exact ih h p hp
theorem Whole.swap{d:Dk.St}(h:Whole d){ls:List (List Nat)}(hl:∀p∈ls,∀x∈p,x<256):Whole (swap d ls):=by
 unfold Jn.swap;by_cases hb:bad ls=0
 ·rw[if_neg zv]
  unfold Dk.swap;split
  ·refine⟨ls.length,ls,fun p hp=>putE_zero (bad_zero hb p hp) (hl p hp),Nat.le_refl _,?_⟩
   unfold Js;rw[List.take_length]
  ·exact h
 ·rw[if_pos hb]
  exact h
theorem Whole.syncN{d:Dk.St}(h:Whole d):(((scan (d.l.drop d.safe)).1.length:Nat):Int)=((ents d).length:Nat) -(safeN d:Nat):=by
 obtain⟨k,ps,h1,h2,h3⟩:=h;have e:ents d=ps:=by rw[h3];exact js_ents h1
 have s:safeN d=k:=by rw[h3];exact js_safe h1 h2
 have d1:d.l.drop d.safe=all (ps.drop k):=by
  rw[h3];unfold Js;show(all ps).drop (all (ps.take k)).length=_
  conv=>lhs;rw[<-List.take_append_drop k ps,all_append]
  rw[List.take_append_drop,List.drop_left'];rfl
 rw[e,s,d1,scan_whole (fun p hp=>h1 p (List.mem_of_mem_drop hp)),List.length_drop];omega
theorem crash_all(d:Dk.St)(h:Dk.Okay d):Dk.crash d (d.l.length:Nat)=Dk.sync d:=by
 have h1:=h.1;have:d.safe+Dk.kept d (d.l.length:Nat)=d.l.length:=by unfold Dk.kept Dk.opens;omega
 unfold Dk.crash Dk.leave Dk.sync;rw[this,List.take_length]
end Jn
def DskX(w:World)(X:Nat->Prop)(r:Nat)(d:Dk.St):Prop:=∃v,Dsk w r v d/\∀i,foot r v i->X i
theorem DskX.okay{w:World}{X:Nat->Prop}{r:Nat}{d:Dk.St}(h:DskX w X r d):Dk.Okay d:=by
 obtain⟨v,h1,h2⟩:=h;exact h1.okay
theorem DskX.keep{w w':World}{X:Nat->Prop}{r:Nat}{d:Dk.St}(h:DskX w X r d)(hk:∀i,X i->i<w.heap.size->w'.heap[i]? =w.heap[i]?):DskX w' X r d:=by
 obtain⟨v,h1,h2⟩:=h;exact⟨v,h1.keep fun i hi=>hk i (h2 i hi) (h1.lt i hi),h2⟩
theorem DskX.below{w w':World}{X:Nat->Prop}{r:Nat}{d:Dk.St}(h:DskX w X r d)(hb:Below w.heap.size w w'):DskX w' X r d:=h.keep fun i _ hi=>hb.block i hi
theorem DskB.toX{w:World}{B r:Nat}{d:Dk.St}{X:Nat->Prop}(h:DskB w B r d)(hX:∀i,B<=i->i<w.heap.size->X i):DskX w X r d:=by
 obtain⟨v,h1,h2⟩:=h;exact⟨v,h1,fun i hi=>hX i (h2 i hi) (h1.lt i hi)⟩
def jdc(W:World)(X:Nat->Prop)(r:Nat)(d:Dk.St)(x:Value)(e:Ending)(w':World):Prop:=e= .returned x/\DskX w' X r d/\Kept X W w'
theorem jdc.mk{W:World}{X:Nat->Prop}{r:Nat}{v:Value}{d:Dk.St}{x:Value}{e:Ending}{w':World}(h:jc3 W r v d x e w')(hv:∀i,foot r v i->X i)(hX:∀i,W.heap.size<=i->X i):jdc W X r d x e w':=by
 obtain⟨rfl,v',h1,h2,h3⟩:=h;refine⟨rfl,⟨v',h1,?_⟩,h3.more fun i _ hi=>hv i hi⟩;rintro i (rfl|hi)
 ·exact hv _ (.inl rfl)
 ·rcases h2 i hi with h4|h4
  ·exact hv i (.inr h4)
  ·exact hX i h4
section
variable(W:World){X:Nat->Prop}{r:Nat}{d:Dk.St}(hd:DskX W X r d)(hX:∀i,W.heap.size<=i->X i)
include hd hX
theorem jma{n c:Nat}{A:Option Addr}{b:List Nat}(hs:Sl W A n c b):Calls Tryz.prog 71 #[.pointer (some ⟨r,0,none⟩),.slice A n c] W (jdc W X r (Dk.write d b) (.int .i64 (Dk.writeE d b))):=by
 obtain⟨v,h1,h2⟩:=hd;exact(jne W r n c A b v d h1 hs).mono fun _ _ h=>jdc.mk h h2 hX
theorem dSwap_x{n c:Nat}{A:Option Addr}{b:List Nat}(hs:Sl W A n c b):Calls Tryz.prog 23 #[.pointer (some ⟨r,0,none⟩),.slice A n c] W (jdc W X r (Dk.swap d b) (.int .i64 (Dk.swapE d b))):=by
 obtain⟨v,h1,h2⟩:=hd;exact(jje W r n c A b v d h1 hs).mono fun _ _ h=>jdc.mk h h2 hX
theorem dSync_x:Calls Tryz.prog 74 #[.pointer (some ⟨r,0,none⟩)] W (jdc W X r (Dk.sync d) (.int .i64 (Dk.opens d:Nat))):=by
 obtain⟨v,h1,h2⟩:=hd;exact(jpw W r v d h1).mono fun _ _ h=>jdc.mk h h2 hX
theorem jug{keep:Int}(hk: -9223372036854775808<=keep/\keep<=9223372036854775807):Calls Tryz.prog 75 #[.pointer (some ⟨r,0,none⟩),.int .i64 keep] W (jdc W X r (Dk.crash d keep) (.int .i64 (Dk.lost d keep:Nat))):=by
 obtain⟨v,h1,h2⟩:=hd;exact(jnd W r keep v d h1 hk).mono fun _ _ h=>jdc.mk h h2 hX
theorem dCut_x{n:Int}(hk: -9223372036854775808<=n/\n<=9223372036854775807):Calls Tryz.prog 94 #[.pointer (some ⟨r,0,none⟩),.int .i64 n] W (jdc W X r (Dk.cut d n) (.int .i64 (Dk.cutE d n))):=by
 obtain⟨v,h1,h2⟩:=hd;exact(jtm W r n v d h1 hk).mono fun _ _ h=>jdc.mk h h2 hX
omit hX in
theorem jmb:Calls Tryz.prog 21 #[.pointer (some ⟨r,0,none⟩)] W (jes d.l W):=by
 obtain⟨v,h1,_⟩:=hd;exact jtj W r v d h1
omit hX in
theorem dLen_x:Calls Tryz.prog 76 #[.pointer (some ⟨r,0,none⟩)] W (je9 W (.int .i64 (d.l.length:Nat))):=by
 obtain⟨v,h1,_⟩:=hd;exact jti W r v d h1
omit hX in
theorem jqn:Calls Tryz.prog 73 #[.pointer (some ⟨r,0,none⟩)] W (je9 W (.int .i64 (d.safe:Nat))):=by
 obtain⟨v,h1,_⟩:=hd;exact jpv W r v d h1
omit hX in
theorem dRoom_x:Calls Tryz.prog 132 #[.pointer (some ⟨r,0,none⟩)] W (je9 W (.int .i64 (d.room -d.l.length:Nat))):=by
 obtain⟨v,h1,_⟩:=hd;exact jjd W r v d h1
end
open Fr
structure JAsk(p0 d0:Option Addr)(l:List Nat)(s R:Nat)(w:World):Prop where
 disk:∀W,Below w.heap.size w W->Calls Tryz.prog 52 #[.pointer p0] W fun e w'=>e= .returned (.pointer d0)/\w'=W
 all:∀W,Below w.heap.size w W->Calls Tryz.prog 21 #[.pointer d0] W (jes l W)
 safe:∀W,Below w.heap.size w W->Calls Tryz.prog 73 #[.pointer d0] W (je9 W (.int .i64 (s:Nat)))
 room:∀W,Below w.heap.size w W->Calls Tryz.prog 132 #[.pointer d0] W (je9 W (.int .i64 (R:Nat)))
 le:s<=l.length
 few:l.length<=1048576
theorem jdd(w:World)(q:Nat)(d0:Option Addr)(h:w.heap[q]? =some (.cells #[.pointer d0] 115 (0,0))):
  Calls Tryz.prog 52 #[.pointer (some ⟨q,0,none⟩)] w fun e w'=>e= .returned (.pointer d0)/\w'=w:=by
 have hc:w.cell? ⟨q,0,none⟩=some (.pointer d0):=by rw[cell_of_row w q 0 _ _ _ h];rfl
 clear h;go_in;go_wp2;go_ret;exact⟨rfl,rfl⟩
section
variable{p0 d0:Option Addr}{l:List Nat}{s R:Nat}{w:World}(h:JAsk p0 d0 l s R w)
include h
theorem jmc:Calls Tryz.prog 26 #[.pointer p0] w (JAllF (scan l).1 w):=juf p0 d0 l w (by have:=h.few;omega) h.disk h.all
theorem juh:Calls Tryz.prog 37 #[.pointer p0] w (je9 w (.int .i64 ((scan l).1.length:Nat))):=by
 have H:=zh h;clear h;go_in;go_wp2_with fail;refine(H.out.disk w (Below.refl _ _)).mono ?_;rintro e w1 ⟨rfl,rfl⟩;go_wp2_with fail;refine(H.out.all w1 (Below.refl _ _)).mono ?_;rintro e w2 ⟨A2,c2,rfl,ho2,hb2⟩;have S2:=zh ho2.sls;have B2:=zh hb2;clear ho2 hb2;go_wp2_with fail
 (with_reducible refine(jhr l.length c2 A2 l w2 S2.out (by have:=H.out.few;omega)).mono ?_)
 rintro e w3 ⟨rfl,hb3⟩;have B3:=zh (B2.out.trans (hb3.mono B2.out.size));clear hb3;go_wp2;go_ret;exact⟨rfl,B3.out⟩
theorem jmd{d:Dk.St}(hR:d.room -d.l.length=R)(hok:Dk.Okay d){a:Addr}(hd:d0=some a)(n c:Nat)(A:Option Addr)(p:List Nat)(hs:Sl w A n c p)(hn:n<=900000000):
  Calls Tryz.prog 70 #[.pointer p0,.slice A n c] w fun e w'=>∃A' c' f,e= .returned (.tuple #[.slice A' f.length c',.int .i64 (Jn.appE d p)])/\OwnB w' w.heap.size (.slice A' f.length c') f/\(Jn.appE d p=0->f=fr p)/\Below w.heap.size w w':=by
 have H:=zh h;have HS:=zh hs;subst hd;clear h hs;unfold Dk.Okay at hok;by_cases h0:putE p=0
 ·have hp:=Jn.put_ok h0
  have h2:=jh6 (b:=[]) hp.1 hp.2;have HL:Hid (putL [] p=fr p):=by show putL [] p=fr p;rw[h2.2];rfl
  have HE:Hid (Jn.appE d p=Dk.writeE d (fr p)):=by show Jn.appE d p=_;unfold Jn.appE;rw[if_neg zv]
  have HF:Hid ((fr p).length=p.length+6):=fr_length p;have hfl:(fr p).length<=1006:=by rw[HF.out];omega
  clear h2;go_in;go_wp2_with fail;refine(H.out.disk w (Below.refl _ _)).mono ?_;rintro e w1 ⟨rfl,rfl⟩;go_wp2_with fail
  (with_reducible refine(jh7 0 0 n c none A [] p w1 (Sl.none_ _) HS.out zv hn).mono ?_)
  rintro e w2 ⟨A2,c2,rfl,ho2,hb2⟩;rw[HL.out,h0]at*;have O2:=zh ho2;have B2:=zh hb2;clear ho2 hb2;obtain⟨m,hm⟩:∃m,m=(fr p).length:=⟨_,rfl⟩;rw[<-hm];have HM:=zh hm;rw[<-hm]at hfl;clear hm;go_wp2_with fail;refine(H.out.room w2 B2.out).mono ?_;rintro e w3 ⟨rfl,hb3⟩;have O3:=zh (O2.out.below hb3);have B3:=zh (B2.out.trans (hb3.mono B2.out.size));clear hb3;by_cases hg:R<m
  ·have HG:Hid (Dk.writeE d (fr p)=4):=by show Dk.writeE d (fr p)=4;unfold Dk.writeE;rw[if_neg];unfold Dk.goes;rw[<-HM.out];omega
   go_wp2;go_ret2;refine⟨none,0,[],?_,OwnB.none_ _ _,fun e=> ?_,B3.out⟩
   ·rw[HE.out,HG.out];rfl
   ·rw[HE.out,HG.out]at e;omega
  ·have HG:Hid (Dk.writeE d (fr p)=0):=by show Dk.writeE d (fr p)=0;unfold Dk.writeE;rw[if_pos];unfold Dk.goes;rw[<-HM.out];omega
   go_wp2;go_ret2;refine⟨A2,c2,fr p,?_,O3.out,fun _=>rfl,B3.out⟩;rw[HE.out,HG.out,HM.out];rfl
 ·have HE:Hid (Jn.appE d p=(putE p:Nat)):=by show Jn.appE d p=_;unfold Jn.appE;rw[if_pos h0]
  have h1:((putE p:Nat):Int)≠0:=by omega
  have HB:Hid (((putE p:Nat):Int) !=0):=by show(_ !=_)=true;rw[bne_iff_ne];exact h1
  have hbool:=HB.out;go_in;go_wp2_with fail;refine(H.out.disk w (Below.refl _ _)).mono ?_;rintro e w1 ⟨rfl,rfl⟩;go_wp2_with fail
  (with_reducible refine(jh7 0 0 n c none A [] p w1 (Sl.none_ _) HS.out zv hn).mono ?_)
  rintro e w2 ⟨A2,c2,rfl,ho2,hb2⟩;have B2:=zh hb2;clear ho2 hb2;generalize putE p=ee at*;go_wp2;go_ret2;refine⟨none,0,[],?_,OwnB.none_ _ _,fun e=> ?_,B2.out⟩
  ·rw[HE.out];rfl
  ·rw[HE.out]at e;exact absurd e h1
end
end Go.Proofs.YtpehidgjfcfjoaaGreatDoor
namespace Go.Proofs.YtpehidgjfcfjoaaGreatDoor
open Go.RowKit
def Jn.syncN(d:Dk.St):Int:=((Jn.ents d).length:Nat) -(Jn.safeN d:Nat)
open Fr
structure Jrn(w:World)(X:Nat->Prop)(q r:Nat)(d:Dk.St):Prop where
 blk:w.heap[q]? =some (.cells #[.pointer (some ⟨r,0,none⟩)] 115 (0,0))
 inX:X q
 dsk:DskX w (fun i=>X i/\i≠q) r d
 whole:Jn.Whole d
theorem DskX.lt{w:World}{X:Nat->Prop}{r:Nat}{d:Dk.St}(h:DskX w X r d):DskX w (fun i=>X i/\i<w.heap.size) r d:=by
 obtain⟨v,h1,h2⟩:=h;exact⟨v,h1,fun i hi=>⟨h2 i hi,h1.lt i hi⟩⟩
theorem DskX.more{w:World}{X Y:Nat->Prop}{r:Nat}{d:Dk.St}(h:DskX w X r d)(hY:∀i,X i->i<w.heap.size->Y i):DskX w Y r d:=by
 obtain⟨v,h1,h2⟩:=h;exact⟨v,h1,fun i hi=>hY i (h2 i hi) (h1.lt i hi)⟩
section
variable{w w':World}{X:Nat->Prop}{q r:Nat}{d:Dk.St}
theorem Jrn.lt(h:Jrn w X q r d):q<w.heap.size:=(Array.getElem?_eq_some_iff.1 h.blk).1
theorem Jrn.keep(h:Jrn w X q r d)(hk:∀i,X i->i<w.heap.size->w'.heap[i]? =w.heap[i]?):Jrn w' X q r d:=
 ⟨(hk q h.inX h.lt).trans h.blk,h.inX,h.dsk.keep fun i hi hl=>hk i hi.1 hl,h.whole⟩
theorem Jrn.below(h:Jrn w X q r d)(hb:Below w.heap.size w w'):Jrn w' X q r d:=h.keep fun i _ hi=>hb.block i hi
theorem Jrn.ask(h:Jrn w X q r d):JAsk (some ⟨q,0,none⟩) (some ⟨r,0,none⟩) d.l d.safe (d.room -d.l.length) w:=by
 have hok:=h.dsk.okay;unfold Dk.Okay at hok;exact⟨fun W hW=>jdd W q _ (h.below hW).blk,fun W hW=>jmb W (h.dsk.below hW),fun W hW=>jqn W (h.dsk.below hW),fun W hW=>dRoom_x W (h.dsk.below hW),hok.1,zv⟩
theorem Jrn.step{d':Dk.St}{x:Value}{e:Ending}(h:Jrn w X q r d)(hp:jdc w (fun i=>X i/\i≠q) r d' x e w')(hw:Jn.Whole d'):e= .returned x/\Jrn w' X q r d'/\Kept X w w':=by
 obtain⟨rfl,h1,h2⟩:=hp;exact⟨rfl,⟨(h2.block q h.lt (fun hf=>hf.2 rfl)).trans h.blk,h.inX,h1,hw⟩,h2.more fun i _ hi=>hi.1⟩
theorem Jrn.fresh(h:Jrn w X q r d)(hX:∀i,w.heap.size<=i->X i):∀i,w.heap.size<=i->X i/\i≠q:=fun i hi=>⟨hX i hi,fun e=>by have:=h.lt;omega⟩
end
theorem jdc.before{W W1 w':World}{X:Nat->Prop}{r:Nat}{d:Dk.St}{x:Value}{e:Ending}(h:jdc W1 X r d x e w')(hb:Kept X W W1):jdc W X r d x e w':=⟨h.1,h.2.1,hb.trans h.2.2 fun _ _ hi=>hi⟩
theorem jme(W:World){X:Nat->Prop}{r:Nat}{d:Dk.St}(hd:DskX W X r d)(hX:∀i,W.heap.size<=i->X i)(hy:Jn.Byt d):
  Calls Tryz.prog 49 #[.pointer (some ⟨r,0,none⟩)] W (jdc W X r (Jn.opened d) (.int .i64 ((d.l.length:Nat) -(Jn.cutN d:Nat)))):=by
 have HD:=zh hd;have hok:=hd.okay;have hcl:=Jn.cutN_le d hy;have HC:=zh (Jn.cut_opened d hy);have HN:Hid (Jn.cutN d=(scan d.l).2.1):=rfl;have HX:=zh hX;unfold Dk.Okay at hok;have hlen:d.l.length<=1048576:=by omega
 clear hd hok hy hX;go_in;go_wp2_with fail;refine(jmb W HD.out).mono ?_;rintro e w1 ⟨A1,c1,rfl,ho1,hb1⟩;have S1:=zh ho1.sls;have B1:=zh hb1;clear ho1 hb1;go_wp2_with fail
 (with_reducible refine(jqb d.l.length c1 A1 d.l w1 S1.out zv).mono ?_)
 rintro e w2 ⟨A2,c2,rfl,_,hb2⟩;have B2:=zh (B1.out.trans (hb2.mono B1.out.size));rw[<-HN.out];clear hb2;generalize Jn.cutN d=m at*;go_wp2_with fail;refine(dCut_x w2 (HD.out.below B2.out) (fun i hi=>HX.out i (Nat.le_trans B2.out.size hi)) (n:=(m:Int)) zv).mono ?_;rw[HC.out.1,HC.out.2];rintro e w3 hp;obtain rfl:=hp.1;have P:=zh (hp.before (Kept.of_below B2.out));clear hp;go_wp2;go_ret;exact⟨rfl,P.out.2⟩
theorem jOpen_x(W:World){X:Nat->Prop}{r:Nat}{d:Dk.St}(hd:DskX W X r d)(hX:∀i,W.heap.size<=i->X i)(hy:Jn.Byt d):
  Calls Tryz.prog 24 #[.pointer (some ⟨r,0,none⟩)] W fun e w'=>e= .returned (.tuple #[.pointer (some ⟨W.heap.size,0,none⟩),.int .i64 ((d.l.length:Nat) -(Jn.cutN d:Nat))])/\Jrn w' X W.heap.size r (Jn.opened d)/\Kept X W w':=by
 have HD:=zh hd;have HX:=zh hX;have HY:=zh hy;clear hd hX hy;go_in;go_wp2_with fail;have hb:=(Below.refl W.heap.size W).alloc (Nat.le_refl _) (.cells #[.pointer (some ⟨r,0,none⟩)] 115);have hbk:=heap_alloc_new W (.cells #[.pointer (some ⟨r,0,none⟩)] 115);have hsz:(W.alloc (.cells #[.pointer (some ⟨r,0,none⟩)] 115)).heap.size=W.heap.size+1:=by simp
 have D1:=zh ((HD.out.lt.below hb).more (Y:=fun i=>X i/\i≠W.heap.size) fun i hi _=>⟨hi.1,by have:=hi.2;omega⟩);have B1:=zh hb;have K1:=zh hbk;have Z1:=zh hsz;clear hb hbk hsz;generalize W.alloc (.cells #[.pointer (some ⟨r,0,none⟩)] 115)=w1 at*
 (with_reducible refine(jme w1 D1.out (fun i hi=>⟨HX.out i (by have:=Z1.out;omega),by have:=Z1.out;omega⟩) HY.out).mono ?_)
 rintro e w2 ⟨rfl,hd2,hk2⟩;have D2:=zh hd2;have KK:=zh hk2;clear hd2 hk2;obtain⟨z,hz⟩:∃z:Int,z=((d.l.length:Nat):Int) -(Jn.cutN d:Nat):=⟨_,rfl⟩;rw[<-hz];have HZ:=zh hz;clear hz;go_wp2;go_ret2;refine⟨by rw[<-HZ.out];rfl,⟨(KK.out.block W.heap.size (by have:=Z1.out;omega) (fun hf=>hf.2 rfl)).trans K1.out,HX.out _ (Nat.le_refl _),D2.out,Jn.Whole.opened HY.out⟩,?_⟩;exact(Kept.of_below (F:=X) B1.out).trans KK.out fun i _ hi=>hi.1
section
variable{W:World}{X:Nat->Prop}{q r:Nat}{d:Dk.St}(h:Jrn W X q r d)(hX:∀i,W.heap.size<=i->X i)
include h hX
theorem jjp{n c:Nat}{A:Option Addr}{p:List Nat}(hs:Sl W A n c p)(hn:n<=900000000):
  Calls Tryz.prog 34 #[.pointer (some ⟨q,0,none⟩),.slice A n c] W fun e w'=>e= .returned (.int .i64 (Jn.appE d p))/\Jrn w' X q r (Jn.app d p)/\Kept X W w':=by
 have H:=zh h;have HX:=zh hX;have C1:=zh (jmd h.ask rfl h.dsk.okay rfl n c A p hs hn);have HP:Hid (∀x∈p,x<256):=hs.rd.1;clear h hX hs;by_cases h0:Jn.appE d p=0
 ·have E0:Hid (Jn.app d p=Dk.write d (fr p)/\Dk.writeE d (fr p)=0):=by
   show _/\_;unfold Jn.appE at h0;by_cases hp:putE p=0
   ·rw[if_neg zv]at h0
    unfold Jn.app;rw[if_neg zv];exact⟨rfl,h0⟩
   ·rw[if_pos hp]at h0;omega
  have Z0:=zh h0;rw[h0]at C1;go_in;go_wp2_with fail;refine C1.out.mono ?_;rintro e w1 ⟨A1,c1,f,rfl,ho1,hf,hb1⟩;have S1:=zh ho1.sls;have B1:=zh hb1;have HF:Hid (f=fr p):=hf (by trivial);have H1:=zh (H.out.below hb1);clear ho1 hb1 hf C1 h0;go_wp2_with fail;refine(jdd w1 q _ H1.out.blk).mono ?_;rintro e w1' ⟨rfl,rfl⟩;go_wp2_with fail
  (with_reducible refine(jma w1' H1.out.dsk (H1.out.fresh fun i hi=>HX.out i (Nat.le_trans B1.out.size hi)) S1.out).mono ?_)
  rw[HF.out,<-E0.out.1,E0.out.2];rintro e w2 hp;obtain⟨rfl,hj,hk⟩:=H1.out.step hp (H.out.whole.app HP.out);have J2:=zh hj;have K2:=zh hk;clear hp hj hk;go_wp2;go_ret;exact⟨by rw[Z0.out];rfl,J2.out,(Kept.of_below (F:=X) B1.out).trans K2.out fun i _ hi=>hi⟩
 ·have E0:Hid (Jn.app d p=d):=by
   show _=d;unfold Jn.appE at h0;unfold Jn.app;by_cases hp:putE p=0
   ·rw[if_neg zv]at h0⊢
    unfold Dk.writeE at h0;unfold Dk.write;split at h0
    ·omega
    ·rename_i hg;rw[if_neg hg]
   ·rw[if_pos hp]
  have hne:(Jn.appE d p !=0)=true:=by rw[bne_iff_ne];exact h0
  obtain⟨y,hy⟩:∃y,y=Jn.appE d p:=⟨_,rfl⟩;rw[<-hy]at C1 hne⊢;clear h0 hy;go_in;go_wp2_with fail;refine C1.out.mono ?_;rintro e w1 ⟨A1,c1,f,rfl,ho1,hf,hb1⟩;have B1:=zh hb1;clear ho1 hb1 hf C1;go_wp2;go_ret;exact⟨rfl,by rw[E0.out];exact H.out.below B1.out,Kept.of_below B1.out⟩
omit h hX in
theorem zz10{p:Prop}(h:p:=by
 go_wp2_with fail
 (with_reducible refine(CN.out w2 _ _ S3.out).mono ?_)
 rintro e w3 ⟨rfl,hb3⟩;have F3:=zh (FIN.out w3 hb3);clear hb3 FIN;go_wp2_with fail;refine F3.out.mono ?_;rintro e w4 ⟨⟨z,rfl⟩,hj,hk⟩;have J4:=zh hj;have K4:=zh hk;clear hj hk;go_wp2;go_ret;exact⟨rfl,J4.out,K4.out⟩):p:=h
theorem jSync_x:Calls Tryz.prog 35 #[.pointer (some ⟨q,0,none⟩)] W fun e w'=>e= .returned (.int .i64 (Jn.syncN d))/\Jrn w' X q r (Dk.sync d)/\Kept X W w':=by
 have H:=zh h;have HX:=zh hX;have hok:=h.dsk.okay;unfold Dk.Okay at hok;have hle:=hok.1;have hlen:d.l.length<=1048576:=by omega
 have HN:Hid (((scan (d.l.drop d.safe)).1.length:Nat)=Jn.syncN d):=h.whole.syncN;clear h hX hok;go_in;go_wp2_with fail;refine(jdd W q _ H.out.blk).mono ?_;rintro e W' ⟨rfl,rfl⟩;go_wp2_with fail;refine(jmb W' H.out.dsk).mono ?_;rintro e w1 ⟨A1,c1,rfl,ho1,hb1⟩;have S1:=zh ho1.sls;have B1:=zh hb1;have hcap:=ho1.sls.cap;have hmax:=ho1.sls.max;unfold maxLen at hmax;clear ho1 hb1;go_wp2_with fail;refine(jqn w1 (H.out.dsk.below B1.out)).mono ?_;rintro e w2 ⟨rfl,hb2⟩;have S2:=zh (S1.out.on hb2);have B2:=zh (B1.out.trans (hb2.mono B1.out.size));clear hb2 S1;have CN:Hid (∀w A c,Sl w A (d.l.length -d.safe) c (d.l.drop d.safe)->Calls Tryz.prog 72 #[.slice A (d.l.length -d.safe) c] w (je9 w (.int .i64 (Jn.syncN d)))):=fun w A c hs=>by
  rw[<-HN.out];exact jhr _ c A _ w hs zv
 have fin:∀w3,Below w2.heap.size w2 w3->Calls Tryz.prog 74 #[.pointer (some ⟨r,0,none⟩)] w3 fun e w'=>(∃z:Int,e= .returned (.int .i64 z))/\Jrn w' X q r (Dk.sync d)/\Kept X W' w':=fun w3 hb3=>by
  have B3:=B2.out.trans (hb3.mono B2.out.size);have H3:=H.out.below B3;refine(dSync_x w3 H3.dsk (H3.fresh fun i hi=>HX.out i (Nat.le_trans B3.size hi))).mono ?_;intro e w4 hp;obtain⟨he,hj,hk⟩:=H3.step hp H.out.whole.sync;exact⟨⟨_,he⟩,hj,(Kept.of_below B3).trans hk fun i _ hi=>hi⟩
 have FIN:=zh fin;clear fin;by_cases hcs:c1=d.safe
 ·have S3:=zh (S2.out.dropAll hle hcs)
  rw[show c1 -d.safe=0 by omega]at S3;exact zz10
 ·have S3:=zh (S2.out.drop hle hcs)
  exact zz10
end
end Go.Proofs.YtpehidgjfcfjoaaGreatDoor
