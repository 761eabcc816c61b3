import Derived.WalkKit
import Derived.Below
import Derived.Deep.Draws
import Derived.Laws.Rows
import Derived.Lib.Hide
import Derived.ProofKit
import Derived.OpenShut
import Derived.Outline
import Derived.OwnWalk
import Derived.Laws.OwnMore
import Derived.Laws.AppendOwnNone
import Derived.Deep.QuietTactic
import Derived.BigQuiet
import Derived.Deep.DeepFit
import Derived.ScopeJumps
import Derived.WalkMore
import Derived.Laws.BytesArg
import Derived.Laws.Concat
import Derived.Test.YtkinlcfhojjalaaGreatDoorRows
import Derived.Maps.AppendAt
import Derived.Lib.SliceRun
import Derived.WalkSpells
import Derived.ArgAppend
import Derived.Lib.MinMax
import Derived.Laws.BitsAllLaws
import Derived.Deep.WholeRow
import Derived.Deep.OwnRows
import Derived.Laws.CopyOwn
set_option maxHeartbeats 6400000
set_option maxRecDepth 100000
set_option linter.all false
namespace Go.Proofs.YtkinlcfhojjalaaGreatDoor
open Go.RowKit in
theorem zD{k:Nat}{w:World}:Below k w w:=Below.refl k w
open Go.RowKit in
theorem zE{w:World}{x:Obj}:Below w.heap.size w (w.alloc x):=(Below.refl _ w).alloc (Nat.le_refl _) x
open Go.RowKit in
theorem zl{n:Nat}:n<=n:=Nat.le_refl n
open Go.RowKit in
theorem zg{T:Type _}{a:Array T}{i:Nat}{b:T}(h:a[i]? =some b):∃h:i<a.size,a[i]=b:=Array.getElem?_eq_some_iff.1 h
open Go.RowKit in
theorem zx{T:Sort _}{a:T}:∃x,x=a:=⟨a,rfl⟩
open Go.RowKit in
theorem zA{T:Type _}{a b:List T}:(a++b).length=a.length+b.length:=List.length_append
open Go.RowKit in
theorem zq{T:Type _}[BEq T][LawfulBEq T]{a b:T}:(a==b)=false<->a≠b:=beq_eq_false_iff_ne
open Go.RowKit in
abbrev zF(w w':World):Prop:=Below w.heap.size w w'
open Go.RowKit in
theorem _root_.Go.RowKit.Hid.o{p:Prop}(h:Go.RowKit.Hid p):p:=h.out
open Go.RowKit in
abbrev zi:Value:= .int .i64 0
theorem zv{p:Prop}(h:p:=by omega):p:=h
theorem zk{p:Prop}(h:p:=by kernel_rfl):p:=h
open Go.RowKit in
theorem zh{p:Prop}(h:p):Hid p:=h
abbrev zL(d:Nat){P:Program}{ops:Array Oper}{Q:Exit->Act->World->Prop}{t:TypeId}{x:Operand}{y:TypeId}{p:String}{e:Array Edge}{g:Option (Nat×Bool)}{r:List Oper}{a:Act}{w:World}:Prop:=wpList P ops Q ({dst:=some d,op:= .load t x,type:=y,pos:=p,after:=e,guard:=g}::r) a w
abbrev zB(d:Nat){P:Program}{ops:Array Oper}{Q:Exit->Act->World->Prop}{t:TypeId}{x:Nat}{f:Array (Nat×Operand)}{y:TypeId}{p:String}{e:Array Edge}{g:Option (Nat×Bool)}{r:List Oper}{a:Act}{w:World}:Prop:=wpList P ops Q ({dst:=some d,op:= .buildSlice t x f,type:=y,pos:=p,after:=e,guard:=g}::r) a w
abbrev zW{P:Program}{ops:Array Oper}{Q:Exit->Act->World->Prop}{t:TypeId}{x z:Operand}{y:TypeId}{p:String}{e:Array Edge}{g:Option (Nat×Bool)}{r:List Oper}{a:Act}{w:World}:Prop:=wpList P ops Q ({dst:=none,op:= .store t x z,type:=y,pos:=p,after:=e,guard:=g}::r) a w
theorem zT{T:Type}(l:List T)(i:Nat)(a:T):l.toArray.setIfInBounds i a=(l.set i a).toArray:=List.setIfInBounds_toArray ..
theorem zO{T:Type}(a b:T)(l:List T):(a::l).set 0 b=b::l:=rfl
theorem zS{T:Type}(a b:T)(l:List T)(i:Nat):(a::l).set (i+1) b=a::l.set i b:=rfl
open Go.RowKit
theorem jal{T:Type}{l:List T}{j:Nat}{d:T}(h:j<l.length):l.getD j d=l[j]:=by
 rw[List.getD_eq_getElem?_getD,List.getElem?_eq_getElem h,Option.getD_some]
theorem jtf{T:Type}{l:List T}{j:Nat}{d:T}(h:l.length<=j):l.getD j d=d:=by
 rw[List.getD_eq_getElem?_getD,List.getElem?_eq_none h,Option.getD_none]
def Rd(w:World)(B:Nat)(A:Option Addr)(l:List Nat):Prop:=
 (∀x∈l,x<256)/\(0<l.length->∃b o,A=some ⟨b,o,none⟩/\b<B/\∀j,j<l.length->w.cell? ⟨b,o+j,none⟩=some (.int .u8 ((l.getD j 0:Nat):Int)))
section
variable{w w':World}{B B':Nat}{A:Option Addr}{l:List Nat}
theorem Rd.empty(w:World)(B:Nat)(A:Option Addr):Rd w B A []:=⟨by simp,by simp⟩
theorem Rd.byte(h:Rd w B A l)(j:Nat):l.getD j 0<256:=by
 by_cases hj:j<l.length
 ·rw[jal hj];exact h.1 _ (List.getElem_mem hj)
 ·rw[jtf zv];omega
theorem Rd.keep(h:Rd w B A l)(hk:∀p:Addr,p.block<B->w'.cell? p=w.cell? p):Rd w' B A l:=
 ⟨h.1,fun hl=>by
  obtain⟨b,o,e,hb,hc⟩:=h.2 hl;exact⟨b,o,e,hb,fun j hj=>(hk _ hb).trans (hc j hj)⟩⟩
theorem Rd.more(h:Rd w B A l)(hB:B<=B'):Rd w B' A l:=
 ⟨h.1,fun hl=>by
  obtain⟨b,o,e,hb,hc⟩:=h.2 hl;exact⟨b,o,e,zv,hc⟩⟩
theorem Rd.below(h:Rd w B A l)(hb:Below B w w'):Rd w' B A l:=h.keep fun _ hp=>hb.cell hp
theorem Rd.on(h:Rd w w.heap.size A l)(hb:zF w w'):Rd w' w'.heap.size A l:=(h.below hb).more hb.size
theorem Rd.take(h:Rd w B A l)(k:Nat):Rd w B A (l.take k):=
 ⟨fun x hx=>h.1 x (List.mem_of_mem_take hx),fun hl=>by
  rw[List.length_take]at hl;obtain⟨b,o,e,hb,hc⟩:=h.2 zv;refine⟨b,o,e,hb,fun j hj=> ?_⟩;rw[List.length_take]at hj;rw[hc j zv,jal zv,jal (by rw[List.length_take];omega),List.getElem_take]⟩
theorem Rd.drop(h:Rd w B A l){k c:Nat}(hc:l.length<=c)(f:Addr->Addr)(hf:∀b o,f ⟨b,o,none⟩=⟨b,o+k,none⟩):Rd w B (if c=k then A else A.map f) (l.drop k):=
 ⟨fun x hx=>h.1 x (List.mem_of_mem_drop hx),fun hl=>by
  rw[List.length_drop]at hl;obtain⟨b,o,rfl,hb,hcl⟩:=h.2 zv;rw[if_neg zv];refine⟨b,o+k,by rw[Option.map_some,hf],hb,fun j hj=> ?_⟩;rw[List.length_drop]at hj;rw[show o+k+j=o+(k+j)from by omega,hcl (k+j) zv,jal zv,jal (by rw[List.length_drop];omega),List.getElem_drop]⟩
end
theorem ji7(l:List Nat)(k:Nat)(h:k<l.length):l.take (k+1)=l.take k++[l.getD k 0]:=by
 rw[List.take_succ_eq_append_getElem h,jal h]
theorem jch{k:IntKind}{a b:Int}(h:a=b):Ending.returned (.int k a)= .returned (.int k b):=by rw[h]
theorem jcb{a b:Bool}(h:a=b):Ending.returned (.bool a)= .returned (.bool b):=by rw[h]
theorem jgc{k:IntKind}{a b:Int}(h:a=b):Value.int k a= .int k b:=by rw[h]
theorem jci{B:Nat}{a w:World}(h:Below B a w)(n:Nat):Below B a (w.drewN n):=⟨h.os,h.tape,h.output,h.size,h.block⟩
theorem Below.drewN{B:Nat}{a w:World}(h:Below B a w)(n:Nat):Below B a (w.drewN n):=⟨h.os,h.tape,h.output,h.size,h.block⟩
theorem jb5{w w':World}{base n:Nat}{e:TypeId}{size:Nat}{v:Value}{xs:List Value}(h:w.ownsRow base e size v n xs)(hb:zF w w'):w'.ownsRow base e size v n xs:=by
 refine⟨h.1,?_⟩;rcases h.2 with h2|⟨g,cap,cur,hv,hg,hh,r⟩
 ·exact .inl h2
 ·refine .inr ⟨g,cap,cur,hv,hg,?_,r⟩
  rw[hb.block g ?_];exact hh;rcases Nat.lt_or_ge g w.heap.size with hlt|hge
  ·exact hlt
  ·rw[Array.getElem?_eq_none hge]at hh;cases hh
theorem jmb{w:World}{base n:Nat}{e:TypeId}{v:Value}{xs:List Value}(h:w.ownsRow base e 1 v n xs)(hn:0<n):∃g c,v= .slice (some ⟨g,0,none⟩) n c:=by
 rcases h.2 with⟨_,h2⟩|⟨g',cap,cur,hv,_⟩
 ·omega
 ·exact⟨g',cap,hv⟩
theorem ja2{w:World}{B n size:Nat}{e:TypeId}{v:Value}{xs:List Value}(h:w.ownsRow B e size v n xs):∀k,v.ownBlock=some k->B<=k:=fun k hk=>(h.lt k hk).1
theorem jcj{w:World}{B B' n size:Nat}{e:TypeId}{v:Value}{xs:List Value}(h:w.ownsRow B e size v n xs)(hB:B'<=B):w.ownsRow B' e size v n xs:=by
 refine⟨h.1,?_⟩;rcases h.2 with h2|⟨g,cap,cur,hv,hg,r⟩
 ·exact .inl h2
 ·exact .inr ⟨g,cap,cur,hv,Nat.le_trans hB hg,r⟩
theorem jam{w a b:World}{row:Option Nat}(h:w.grownBy a row)(k:a.grownBy b row):w.grownBy b row:=
 ⟨k.os.trans h.os,k.tape.trans h.tape,k.output.trans h.output,Nat.le_trans h.size k.size,fun i hi hne=>(k.block i (Nat.lt_of_lt_of_le hi h.size) hne).trans (h.block i hi hne)⟩
theorem jgd{w a:World}(row:Option Nat)(h:zF w a):w.grownBy a row:=⟨h.os,h.tape,h.output,h.size,fun i hi _=>h.block i hi⟩
theorem jad(w:World)(r o:Nat)(v:Value):w.grownBy (w.setCell ⟨r,o,none⟩ v) (some r):=
 ⟨rfl,rfl,rfl,by simp[World.setCell],fun k _ hk=>Below.heap_setCell _ _ _ _ (fun e=>hk (by simp[e]))⟩
theorem same_of{P:Program}{f:FuncId}{args:Array Value}{w:World}{v:Value}(h:Calls P f args w fun e w'=>e= .returned v/\w=w'):Calls P f args w fun e w'=>e= .returned v/\w'=w:=
 h.mono fun _ _ ⟨he,hw⟩=>⟨he,hw.symm⟩
theorem jd5{P:Program}{a:Act}{w:World}{Q:Exit->Act->World->Prop}{c body:Code}(l:Nat)(J:Act->World->Prop)(μ:Act->World->Nat)(hf:findLabel c l=some (Code.skip.seq body))
  (first:(∀a w,J a w->body.wp P (Exit.jump l J Q) a w)->c.wp P (Exit.jump l J Q) a w)
  (pass:∀a w,J a w->body.wp P (Exit.jump l (fun a' w'=>J a' w'/\μ a' w'<μ a w) Q) a w):(Code.scope c).wp P Q a w:=
 wp_scope_jumps l J μ hf (first fun a w h=>wp_mono (pass a w h) (by intro e a w q;cases e<;>first|exact q|exact⟨q.1,q.2.1⟩))
  fun a w h=>wp_seq (wp_skip (pass a w h))
theorem jen{T:Type}(a b:List T)(j:Nat)(d:T)(h:j<a.length):(a++b).getD j d=a.getD j d:=by
 rw[jal h,jal (by simp;omega),List.getElem_append_left h]
theorem jeo{T:Type}(a b:List T)(j:Nat)(d:T)(h:a.length<=j)(h2:j<a.length+b.length):(a++b).getD j d=b.getD (j -a.length) d:=by
 rw[jal (by simp;omega),jal zv,List.getElem_append_right h]
theorem mod_at(at_:Int)(m:Nat)(hm:m<=100000)(h0:0<m):∃k:Nat,wrap64 ((IntKind.u64.wrap at_).tmod (m:Int))=(k:Int)/\k<m:=by
 rw[IntKind.wrap_u64];have h0:0<=at_%18446744073709551616:=Int.emod_nonneg _ zv;generalize at_%18446744073709551616=x at h0;rw[Int.tmod_eq_emod_of_nonneg h0];have h1:=Int.emod_nonneg x (b:=(m:Int)) zv;have h2:=Int.emod_lt_of_pos x (b:=(m:Int)) zv;generalize x%(m:Int)=y at h1 h2;refine⟨y.toNat,?_,zv⟩;unfold wrap64;omega
def txt(l:List Nat):ByteArray:=strOfNums (l.map fun x=>((x:Nat):Int))
theorem jcc(l:List Nat):(txt l).data.toList=l.map fun x=>UInt8.ofNat x:=by
 unfold txt;rw[strOfNums_data,List.map_map];rfl
theorem txt_inj{a b:List Nat}(ha:∀x∈a,x<256)(hb:∀x∈b,x<256)(h:(txt a).data.toList=(txt b).data.toList):a=b:=by
 rw[jcc,jcc]at h;have h2:(a.map fun x=>UInt8.ofNat x).map UInt8.toNat=(b.map fun x=>UInt8.ofNat x).map UInt8.toNat:=by rw[h]
 rw[List.map_map,List.map_map]at h2;have e:∀l:List Nat,(∀x∈l,x<256)->l.map (UInt8.toNat∘fun x=>UInt8.ofNat x)=l:=by
  intro l hl
  conv=>rhs;rw[<-List.map_id l]
  apply List.map_congr_left;intro x hx;have:=hl x hx;simp;omega
 rwa [e a ha,e b hb]at h2
theorem jfn(s:ByteArray):s.toList=s.data.toList:=ByteArray.toList_eq s
theorem txt_eq{a b:List Nat}(ha:∀x∈a,x<256)(hb:∀x∈b,x<256):((txt a).toList==(txt b).toList)=decide (a=b):=by
 by_cases h:a=b
 ·subst h;simp
 ·rw[decide_eq_false h,zq]
  intro e;rw[jfn,jfn]at e;exact h (txt_inj ha hb e)
theorem jbr(l:List Nat):(txt l).size=l.length:=by unfold txt;rw[strOfNums_size,List.length_map]
theorem jkq{s t:ByteArray}(h:s.data.toList=t.data.toList):s=t:=ByteArray.ext (Array.toList_inj.1 h)
theorem jfb(a b:List Nat):txt a++txt b=txt (a++b):=by
 apply jkq;rw[ByteArray.data_append,Array.toList_append,jcc,jcc,jcc,List.map_append]
theorem txt_cut(l:List Nat)(k:Nat):(txt l).extract 0 k=txt (l.take k):=by
 apply jkq;rw[ByteArray.data_extract,Array.toList_extract,jcc,jcc];simp[List.extract,List.map_take]
def vals(l:List Nat):List Value:=l.map fun x=> .int .u8 ((x:Nat):Int)
theorem jaz(l:List Nat):(vals l).length=l.length:=by simp[vals]
theorem jbj(a b:List Nat):vals (a++b)=vals a++vals b:=by simp[vals]
theorem jge{l:List Nat}{j:Nat}(h:j<l.length):(vals l)[j]? =some (.int .u8 ((l.getD j 0:Nat):Int)):=by
 rw[jal h];simp[vals,h]
theorem jmc(l:List Nat):∀u∈vals l,u.oneCell'=true:=by
 intro u hu;simp only[vals,List.mem_map]at hu;obtain⟨x,_,rfl⟩:=hu;rfl
theorem Rd.cells{w:World}{B b o:Nat}{l:List Nat}(h:Rd w B (some ⟨b,o,none⟩) l):∀j u,(vals l)[j]? =some u->w.cell? ((⟨b,o,none⟩:Addr).add j)=some u:=by
 intro j u hu;have hj:j<l.length:=by
  rcases Nat.lt_or_ge j l.length with h|h
  ·exact h
  ·rw[List.getElem?_eq_none (by rw[jaz];omega)]at hu;cases hu
 obtain⟨b',o',e,_,hc⟩:=h.2 zv;injection e with e
 injection e with e1 e2
 subst e1 e2;rw[jge hj]at hu;rw[<-hu,<-hc j hj]
 congr 1
 unfold Addr.add;split<;>simp_all
theorem Rd.of_own{w:World}{base n c g:Nat}{e:TypeId}{l:List Nat}(h:w.ownsRow base e 1 (.slice (some ⟨g,0,none⟩) n c) n (vals l))(hl:∀x∈l,x<256):Rd w w.heap.size (some ⟨g,0,none⟩) l:=by
 have hn:n=l.length:=by have:=h.1;rw[jaz]at this;omega
 refine⟨hl,fun h0=>⟨g,0,rfl,?_,fun j hj=> ?_⟩⟩
 ·have hc:=h.cellAt 0 zv
  rw[jge h0]at hc;exact block_lt_of_cell hc
 ·rw[Nat.zero_add,h.cellAt j zv,jge hj]
theorem jao{P:Program}{w:World}{ops:Array Oper}{rest:List Oper}{op:Oper}{a:Act}{Q:Exit->Act->World->Prop}(hgd:op.guard=none)(s x:Operand)(t:TypeId)
  (ho:op.op= .call {callee:= .builtin .append,args:=#[s,x],argTypes:=#[t,t]})
  (base:Nat) (e:TypeId) (i:TypeInfo) (z:Value) (ht:P.underlying t=some (.slice e)) (hi:P.info? e=some i) (hz:i.zero=some z)
  (hsize:i.size=1) (hby:i.bytes=1) (hzs:z.cells.size=1)
  (v:Value) (n:Nat) (xs:List Value) (hs:a.eval s=v) (hown:w.ownsRow base e 1 v n xs)
  (B m c:Nat) (A:Option Addr) (l:List Nat) (hx:a.eval x= .slice A m c) (hr:Rd w B A l) (hm:m=l.length) (hA:A=none->c=0)
  (hnm:n+m<=140737488355328) (hbase:base<=w.heap.size)
  (h:∀v' w',w'.ownsRow base e 1 v' (n+m) (xs++vals l)->w.grownBy w' v.ownBlock->wpList P ops Q rest (a.put op.dst v') w'):wpList P ops Q (op::rest) a w:=by
 rcases A with _|ad
 ·obtain rfl:=hA rfl
  have hl:l=[]:=by
   rcases l with _|⟨x,l⟩
   ·rfl
   ·obtain⟨_,_,h0,_⟩:=hr.2 (by simp);cases h0
  subst hl;subst hm;refine wpList_append_own_none hgd s x t ho base e i 1 ht hi v n xs hs hown hx ?_;exact h v w (by simpa[vals]using hown) (World.grownBy.refl w _)
 ·have hcells:∀j u,(vals l)[j]? =some u->w.cell? (ad.add j)=some u:=by
   rcases l with _|⟨y,l⟩
   ·intro j u hu;simp[vals]at hu
   ·obtain⟨b,o,h0,_⟩:=hr.2 (by simp)
    injection h0 with h0
    subst h0;exact hr.cells
  exact wpList_append_own w hgd s x t ho base e i z 1 1 ht hi hz hsize hby hzs zv v n xs hs hown ad m c (vals l) hx (by rw[jaz];omega) hcells (jmc l) (by unfold maxLen;omega) zv hbase
   fun v' w' h2 h3 _=>h v' w' h2 h3
theorem jb3:(Tryz.prog.info? 5).map (fun i=>(i.zero,i.size,i.bytes))=some (some (.int .u8 0),1,1):=by kernel_rfl
structure Sl(w:World)(A:Option Addr)(n c:Nat)(l:List Nat):Prop where
 rd:Rd w w.heap.size A l
 len:n=l.length
 cap:n<=c
 max:c<=maxLen
 nil:A=none->c=0
section
variable{w:World}{A:Option Addr}{n c:Nat}{l:List Nat}
theorem Sl.on{w':World}(h:Sl w A n c l)(hb:zF w w'):Sl w' A n c l:=⟨h.rd.on hb,h.len,h.cap,h.max,h.nil⟩
theorem Sl.take(h:Sl w A n c l){k:Nat}(hk:k<=n):Sl w A k c (l.take k):=
 ⟨h.rd.take _,by rw[List.length_take,<-h.len];omega,by have:=h.cap;omega,h.max,h.nil⟩
theorem Sl.drop(h:Sl w A n c l){k:Nat}(hk:k<=n)(hc:¬c=k):Sl w (A.map (fun x=>x.add k)) (n -k) (c -k) (l.drop k):=by
 refine⟨?_,by rw[List.length_drop,<-h.len],by have:=h.cap;omega,by have:=h.max;omega,fun e=> ?_⟩
 ·have:=h.rd.drop (k:=k) (c:=c) (by rw[<-h.len];exact h.cap) (fun x=>x.add k) (fun b o=>by unfold Addr.add;split<;>simp_all)
  rwa [if_neg hc]at this
 ·rw[Option.map_eq_none_iff]at e;have:=h.nil e;omega
theorem Sl.dropAll(h:Sl w A n c l){k:Nat}(hk:k<=n)(hc:c=k):Sl w A (n -k) (c -k) (l.drop k):=by
 have hcap:=h.cap;refine⟨?_,by rw[List.length_drop,<-h.len],zv,by have:=h.max;omega,fun e=>by have:=h.nil e;omega⟩;rw[List.drop_of_length_le (by rw[<-h.len];omega)];exact Rd.empty _ _ _
theorem Sl.none_(w:World):Sl w none 0 0 []:=⟨Rd.empty _ _ _,rfl,zl,Nat.zero_le _,fun _=>rfl⟩
end
theorem Sl.off{w w':World}{A:Option Addr}{n c:Nat}{row:Option Nat}{l:List Nat}(h:Sl w A n c l)(hg:w.grownBy w' row)(hr:0<l.length->∀a,A=some a->row≠some a.block):Sl w' A n c l:=
 ⟨⟨h.rd.1,fun hl=>by
  obtain⟨b,o,e,hb,hc⟩:=h.rd.2 hl;exact⟨b,o,e,Nat.lt_of_lt_of_le hb hg.size,fun j hj=>hg.cell (hc j hj) (fun e2=>hr hl _ e e2.symm)⟩⟩,h.len,h.cap,h.max,h.nil⟩
theorem Sl.block{w:World}{A:Option Addr}{n c:Nat}{l:List Nat}(h:Sl w A n c l)(hl:0<l.length):∀a,A=some a->a.block<w.heap.size:=by
 intro a ha;obtain⟨b,o,e,hb,_⟩:=h.rd.2 hl;rw[ha]at e;injection e with e;subst e;exact hb
theorem Rd.made{w:World}{t:TypeId}{cs:Array Value}{fr:Nat×Nat}(l:List Nat)(hcs:cs=(vals l).toArray)(hl:∀x∈l,x<256):Rd (w.alloc (.cells cs t fr)) (w.alloc (.cells cs t fr)).heap.size (some ⟨w.heap.size,0,none⟩) l:=by
 subst hcs;exact⟨hl,fun _=>⟨_,0,rfl,by simp,fun j hj=>by rw[cell_of_row _ _ _ _ t fr (heap_alloc_new w _),Nat.zero_add,List.getElem?_toArray,jge hj]⟩⟩
theorem jo4{w:World}{B n c:Nat}{A:Option Addr}{l:List Nat}(h:Rd w B A l)(hn:n=l.length):
  (convert 50 9 (.slice A n c)).run Tryz.prog w= .ok (.string (txt l)) w:=by
 by_cases h0:l=[]
 ·subst h0
  subst hn;rcases A with _|ad
  ·rw[run_convert_bytes_nil w 50 5 Tryz.underlying50 Tryz.underlying5 _ _ _ Tryz.underlying9];rfl
  ·rw[run_convert_bytes_string w 50 9 5 _ _ _ Tryz.underlying50 Tryz.underlying5 Tryz.underlying9,run_bytesToString w ad _ c [] (by simp[loadCells,loadCellsFrom])];rfl
 ·obtain⟨b,o,rfl,_,hc⟩:=h.2 (List.length_pos_iff.2 h0)
  refine run_convert_bytes_arg w 50 5 Tryz.underlying50 Tryz.underlying5 b o n c _ (by simp[hn]) (fun i hi=> ?_) _ Tryz.underlying9;rw[hc i zv,jal zv,jal (by simp;omega)];simp
def OwnB(w:World)(B:Nat)(v:Value)(l:List Nat):Prop:=w.ownsRow B 5 1 v l.length (vals l)/\∀x∈l,x<256
theorem OwnB.sl{w:World}{B:Nat}{v:Value}{l:List Nat}(h:OwnB w B v l):∃A c,v= .slice A l.length c/\Sl w A l.length c l:=by
 rcases h.1.2 with⟨rfl,h0⟩|⟨g,cap,cur,rfl,_,_,h1,h2,_⟩
 ·have hl:l=[]:=by simpa using h0
  subst hl;exact⟨none,0,rfl,Sl.none_ w⟩
 ·exact⟨_,cap,rfl,Rd.of_own h.1 h.2,rfl,h1,h2,fun h=>by cases h⟩
theorem OwnB.sls{w:World}{B n c:Nat}{A:Option Addr}{l:List Nat}(h:OwnB w B (.slice A n c) l):Sl w A n c l:=by
 obtain⟨A',c',e,hs⟩:=h.sl;injection e with e1 e2 e3
 subst e1 e2 e3;exact hs
theorem zz1s{p:Prop}(h:p:=by
 rcases h.1.2 with⟨h0,_⟩|⟨g,cap,cur,h0,hb,_⟩
 ·cases h0
 ·injection h0 with h0;injection h0 with h0;subst h0;exact hb):p:=h
theorem OwnB.far{w:World}{B n c:Nat}{A:Option Addr}{v:Value}{l:List Nat}(h:OwnB w B v l)(hv:v= .slice A n c):∀a,A=some a->B<=a.block:=by
 intro a ha;subst ha;subst hv;exact zz1s
theorem OwnB.from_{w:World}{B n c:Nat}{A:Option Addr}{l:List Nat}(h:OwnB w B (.slice A n c) l):∀a,A=some a->B<=a.block:=by
 intro a ha;subst ha;exact zz1s
theorem OwnB.below{w w':World}{B:Nat}{v:Value}{l:List Nat}(h:OwnB w B v l)(hb:zF w w'):OwnB w' B v l:=⟨jb5 h.1 hb,h.2⟩
theorem OwnB.lower{w:World}{B B':Nat}{v:Value}{l:List Nat}(h:OwnB w B v l)(hB:B'<=B):OwnB w B' v l:=⟨jcj h.1 hB,h.2⟩
theorem OwnB.none_(w:World)(B:Nat):OwnB w B (.slice none 0 0) []:=⟨World.ownsRow_nil _ _ _ _,by simp⟩
theorem OwnB.snoc{w:World}{B:Nat}{v:Value}{l:List Nat}{x:Nat}(h:w.ownsRow B 5 1 v (l.length+1) (vals l++[.int .u8 ((x:Nat):Int)]))(hl:∀y∈l,y<256)(hx:x<256):OwnB w B v (l++[x]):=by
 refine⟨?_,?_⟩
 ·rw[jbj,zA];exact h
 ·intro y hy
  rcases List.mem_append.1 hy with hy|hy
  ·exact hl y hy
  ·simp at hy;omega
theorem jbi{w:World}{ops:Array Oper}{rest:List Oper}{op:Oper}{a:Act}{Q:Exit->Act->World->Prop}(hgd:op.guard=none)(s x:Operand)
  (ho:op.op= .call {callee:= .builtin .append,args:=#[s,x],argTypes:=#[50,50]})
  (base:Nat) (v:Value) (l:List Nat) (hs:a.eval s=v) (hown:OwnB w base v l) (X:Int) (y:Nat) (hX:X=(y:Int)) (hy:y<256) (hx:a.eval x= .slice (some ⟨w.heap.size,0,none⟩) 1 1)
  (hl:l.length<=3000000) (hB:base<=w.heap.size)
  (h:∀v' w',OwnB w' base v' (l++[y])->Below base w w'->wpList Tryz.prog ops Q rest (a.put op.dst v') w'):wpList Tryz.prog ops Q (op::rest) a (w.alloc (.cells #[.int .u8 X] 5)):=by
 obtain⟨i0,hi0,hz0,hz1,hz2⟩:=info_parts jb3;subst hX;refine wpList_append_own _ hgd s x 50 ho base 5 i0 (.int .u8 0) 1 1 Tryz.underlying50 hi0 hz0 hz1 hz2 rfl (by decide) v l.length (vals l) hs (hown.1.alloc _) ⟨w.heap.size,0,none⟩ 1 1 [.int .u8 (y:Int)] hx rfl ?_ ?_ (by unfold maxLen;omega) zv (by simp;omega) ?_
 ·intro j u hu
  rcases j with _|j
  ·simp at hu;subst hu
   have:((⟨w.heap.size,0,none⟩:Addr).add 0)=⟨w.heap.size,0,none⟩:=by unfold Addr.add;split<;>simp_all
   rw[this,World.cell?_alloc_at _ _ _ _ rfl];rfl
  ·simp at hu
 ·intro u hu;simp at hu;subst hu;rfl
 ·intro v' w' h1 h2 _
  exact h v' w' (OwnB.snoc h1 hown.2 hy) (((Below.refl base w).alloc hB _).grown h2 (by simp;omega) (ja2 hown.1))
def jep(l:List Nat)(w:World)(e:Ending)(w':World):Prop:=
 ∃A c,e= .returned (.slice A l.length c)/\OwnB w' w.heap.size (.slice A l.length c) l/\zF w w'
theorem jep.mk{l:List Nat}{w w':World}{v:Value}(h:OwnB w' w.heap.size v l)(hb:zF w w'):jep l w (.returned v) w':=by
 obtain⟨A,c,rfl,_⟩:=h.sl;exact⟨A,c,rfl,h,hb⟩
theorem jan{w:World}{ops:Array Oper}{rest:List Oper}{op:Oper}{a:Act}{Q:Exit->Act->World->Prop}(hgd:op.guard=none)(s x:Operand)
  (ho:op.op= .call {callee:= .builtin .append,args:=#[s,x],argTypes:=#[50,50]})
  (base:Nat) (v:Value) (l1:List Nat) (hs:a.eval s=v) (hown:OwnB w base v l1) (m c:Nat) (A:Option Addr) (l:List Nat) (hx:a.eval x= .slice A m c) (hr:Sl w A m c l)
  (hlen:l1.length+l.length<=140737488355328) (hbase:base<=w.heap.size)
  (h:∀v' w',OwnB w' base v' (l1++l)->Below base w w'->wpList Tryz.prog ops Q rest (a.put op.dst v') w'):wpList Tryz.prog ops Q (op::rest) a w:=by
 obtain⟨i0,hi0,hz0,hz1,hz2⟩:=info_parts jb3;refine jao hgd s x 50 ho base 5 i0 _ Tryz.underlying50 hi0 hz0 hz1 hz2 rfl v l1.length (vals l1) hs hown.1 w.heap.size m c A l hx hr.rd hr.len hr.nil (by rw[hr.len];exact hlen) hbase ?_;intro v' w' h1 h2;refine h v' w' ⟨?_,?_⟩ ((Below.refl base w).grown h2 hbase (ja2 hown.1))
 ·rw[jbj,zA,<-hr.len];exact h1
 ·intro y hy
  rcases List.mem_append.1 hy with hy|hy
  ·exact hown.2 y hy
  ·exact hr.rd.1 y hy
theorem sl_two(w:World)(x y:Nat)(hx:x<256)(hy:y<256)(X Y:Int)(e1:X=(x:Int))(e2:Y=(y:Int)):Sl (w.alloc (.cells #[.int .u8 X,.int .u8 Y] 5)) (some ⟨w.heap.size,0,none⟩) 2 2 [x,y]:=by
 subst e1 e2;exact⟨Rd.made [x,y] rfl (by intro z hz;simp at hz;omega),rfl,zl,by unfold maxLen;omega,fun h=>by cases h⟩
theorem jda(n c:Nat)(A:Option Addr)(l:List Nat)(w:World)(h:Sl w A n c l)(hl:n<=1000000000):
  Calls Tryz.prog 64 #[.slice A n c] w (jep l w):=by
 have H:=zh h;have hnil:=fun(w:World) (a:Option Addr) (n c:Nat)=>Lib.run_eql_slice_nil (P:=Tryz.prog) w 50 5 a n c 0 0 Tryz.underlying50;rcases A with _|ad
 ·obtain rfl:=h.nil rfl
  have hn:n=0:=by have:=h.cap;omega
  subst hn;have hl0:l=[]:=by have:=h.len;exact List.eq_nil_of_length_eq_zero this.symm
  subst hl0;clear h;go_in;go_wp2;go_ret;exact jep.mk (OwnB.none_ _ _) zD
 ·have O1:Hid (OwnB (w.alloc (.cells #[] 5)) w.heap.size (.slice (some ⟨w.heap.size,0,none⟩) 0 0) []):=⟨World.ownsRow_made w #[] 0 zl (Nat.zero_le _) rfl,by simp⟩
  have HB:=zh ((Below.refl w.heap.size w).alloc zl (.cells #[] 5));have HL:Hid (([]:List Nat).length+l.length<=140737488355328):=by show _<=_;rw[<-h.len];simp;omega
  have hs0:(w.alloc (.cells #[] 5)).heap.size=w.heap.size+1:=by simp
  have HS:=zh hs0;clear h hs0 hl;go_in;go_wp2_with(at_builtin;refine jan rfl (.tmp 5) (.tmp 6) rfl w.heap.size _ [] rfl O1.o n c _ l rfl (H.o.on HB.o) HL.o (by rw[HS.o];omega) ?_;intro v2 w2 hown2 hb2;have O2:=zh hown2;have B2:=zh hb2;clear hown2 hb2);go_ret;exact jep.mk O2.o (HB.o.trans B2.o)
structure Kept(F:Nat->Prop)(w w':World):Prop where
 os:w'.os=w.os
 tape:w'.tape=w.tape
 output:w'.output=w.output
 size:w.heap.size<=w'.heap.size
 block:∀i,i<w.heap.size->¬F i->w'.heap[i]? =w.heap[i]?
theorem Kept.refl(F:Nat->Prop)(w:World):Kept F w w:=⟨rfl,rfl,rfl,zl,fun _ _ _=>rfl⟩
theorem Kept.trans{F G:Nat->Prop}{a b c:World}(h:Kept F a b)(k:Kept G b c)(hG:∀i,i<a.heap.size->G i->F i):Kept F a c:=
 ⟨k.os.trans h.os,k.tape.trans h.tape,k.output.trans h.output,Nat.le_trans h.size k.size,fun i hi hF=>(k.block i (Nat.lt_of_lt_of_le hi h.size) (fun hg=>hF (hG i hi hg))).trans (h.block i hi hF)⟩
theorem Kept.more{F G:Nat->Prop}{a b:World}(h:Kept F a b)(hG:∀i,i<a.heap.size->F i->G i):Kept G a b:=⟨h.os,h.tape,h.output,h.size,fun i hi hg=>h.block i hi (fun hf=>hg (hG i hi hf))⟩
theorem Kept.of_grown{F:Nat->Prop}{w w':World}{row:Option Nat}(h:w.grownBy w' row)(hr:∀k,row=some k->F k):Kept F w w':=
 ⟨h.os,h.tape,h.output,h.size,fun i hi hF=>h.block i hi (fun e=>hF (hr i e.symm))⟩
theorem Kept.of_below{F:Nat->Prop}{w w':World}(h:zF w w'):Kept F w w':=⟨h.os,h.tape,h.output,h.size,fun i hi _=>h.block i hi⟩
theorem Kept.below{F:Nat->Prop}{w w':World}{B:Nat}(h:Kept F w w')(hB:B<=w.heap.size)(hF:∀i,F i->B<=i):Below B w w':=
 ⟨h.os,h.tape,h.output,h.size,fun i hi=>h.block i zv (fun hf=>by have:=hF i hf;omega)⟩
theorem jah{W W':World}{g:Nat}{o:Obj}(h:W.heap[g]? =some o)(hb:zF W W'):W'.heap[g]? =some o:=(hb.block g (zg h).1).trans h
def OwnC(w:World)(v:Value)(l:List Nat):Prop:=
 (∀x∈l,x<256)/\((v= .slice none 0 0/\l=[])\/
  ∃g cap cur,v= .slice (some ⟨g,0,none⟩) l.length cap/\w.heap[g]? =some (.cells cur 5 (0,0))/\l.length<=cap/\cap<=maxLen/\cap<=cur.size/\cur.toList.take l.length=vals l)
theorem OwnC.none_(w:World):OwnC w (.slice none 0 0) []:=⟨by simp,.inl ⟨rfl,rfl⟩⟩
theorem OwnC.of_own{w:World}{B:Nat}{v:Value}{l:List Nat}(h:OwnB w B v l):OwnC w v l:=by
 refine⟨h.2,?_⟩;rcases h.1.2 with⟨h1,h2⟩|⟨g,cap,cur,h1,_,h2,h3,h4,h5,h6⟩
 ·exact .inl ⟨h1,List.eq_nil_of_length_eq_zero h2⟩
 ·rw[Nat.mul_one]at h5 h6
  exact .inr ⟨g,cap,cur,h1,h2,h3,h4,zv,h6⟩
theorem OwnC.lt{w:World}{v:Value}{l:List Nat}(h:OwnC w v l):∀k,v.ownBlock=some k->k<w.heap.size:=by
 intro k hk;rcases h.2 with⟨rfl,_⟩|⟨g,cap,cur,rfl,h2,_⟩
 ·cases hk
 ·injection hk with hk;subst hk;exact(zg h2).1
theorem OwnC.keep{w w':World}{v:Value}{l:List Nat}(h:OwnC w v l)(hk:∀k,v.ownBlock=some k->w'.heap[k]? =w.heap[k]?):OwnC w' v l:=by
 refine⟨h.1,?_⟩;rcases h.2 with h2|⟨g,cap,cur,rfl,h2,h3⟩
 ·exact .inl h2
 ·exact .inr ⟨g,cap,cur,rfl,(hk g rfl).trans h2,h3⟩
theorem OwnC.sl{w:World}{v:Value}{l:List Nat}(h:OwnC w v l):∃A c,v= .slice A l.length c/\Sl w A l.length c l:=by
 rcases h.2 with⟨rfl,rfl⟩|⟨g,cap,cur,rfl,h2,h3,h4,h5,h6⟩
 ·exact⟨none,0,rfl,Sl.none_ w⟩
 ·refine⟨_,cap,rfl,⟨⟨h.1,fun h0=>⟨g,0,rfl,(zg h2).1,fun j hj=> ?_⟩⟩,rfl,h3,h4,fun h=>by cases h⟩⟩
  rw[cell_of_row w g (0+j) _ _ _ h2,Nat.zero_add,<-jge hj,<-h6,List.getElem?_take,if_pos hj];simp
theorem OwnC.cut{w:World}{A:Option Addr}{n c:Nat}{l:List Nat}(h:OwnC w (.slice A n c) l)(k:Nat)(hk:k<=n):OwnC w (.slice A k k) (l.take k):=by
 refine⟨fun x hx=>h.1 x (List.mem_of_mem_take hx),?_⟩;rcases h.2 with⟨h1,rfl⟩|⟨g,cap,cur,h1,h2,h3,h4,h5,h6⟩
 ·injection h1 with h1 h2 h3
  obtain rfl:k=0:=by omega
  exact .inl ⟨by rw[h1],rfl⟩
 ·injection h1 with h1 h7 h8
  subst h1 h7 h8;have e:(l.take k).length=k:=by rw[List.length_take];omega
  refine .inr ⟨g,k,cur,by rw[e],h2,zv,zv,zv,?_⟩;rw[e];have:=congrArg (List.take k) h6;rw[List.take_take,Nat.min_eq_left hk]at this;rw[this];simp[vals,List.map_take]
theorem jfc{w:World}{ops:Array Oper}{rest:List Oper}{op:Oper}{a:Act}{Q:Exit->Act->World->Prop}(hgd:op.guard=none)(s x:Operand)
  (ho:op.op= .call {callee:= .builtin .append,args:=#[s,x],argTypes:=#[50,50]})
  (v:Value) (l1:List Nat) (hs:a.eval s=v) (hown:OwnC w v l1) (m c:Nat) (A:Option Addr) (l:List Nat) (hx:a.eval x= .slice A m c) (hr:Sl w A m c l)
  (hlen:l1.length+l.length<=140737488355328)
  (h:∀v' w',OwnC w' v' (l1++l)->(v'.ownBlock=v.ownBlock\/∃k,v'.ownBlock=some k/\w.heap.size<=k)->w.grownBy w' v.ownBlock->wpList Tryz.prog ops Q rest (a.put op.dst v') w'):wpList Tryz.prog ops Q (op::rest) a w:=by
 obtain⟨i0,hi0,hz0,hz1,hz2⟩:=info_parts jb3;have hby:∀y∈l1++l,y<256:=by
  intro y hy;rcases List.mem_append.1 hy with hy|hy
  ·exact hown.1 y hy
  ·exact hr.rd.1 y hy
 rcases hown.2 with⟨rfl,rfl⟩|⟨g,cap,cur,rfl,h2,h3,h4,h5,h6⟩
 ·refine jan hgd s x ho w.heap.size _ [] hs (OwnB.none_ _ _) m c A l hx hr hlen zl ?_
  intro v' w' h1 h2;refine h v' w' (OwnC.of_own h1) ?_ (jgd _ h2);rcases h1.1.2 with⟨rfl,_⟩|⟨g,cap,cur,rfl,hg,_⟩
  ·exact .inl rfl
  ·exact .inr ⟨g,rfl,hg⟩
 ·obtain rfl:=hr.len
  rcases A with _|ad
  ·obtain rfl:=hr.nil rfl
   have hl:l=[]:=List.eq_nil_of_length_eq_zero (by have:=hr.cap;omega);subst hl;refine wpList_plain hgd fun K hK=> ?_;have hrun:(Builtin.append_ #[50,50] op.type #[.slice (some ⟨g,0,none⟩) l1.length cap,.slice none 0 0]).run Tryz.prog w= .ok (.slice (some ⟨g,0,none⟩) l1.length cap) w:=by
    simp[Builtin.append_,run_underlying Tryz.underlying50,sizeOf,typeInfo,hi0,Builtin.lenOf,Builtin.firstCells,h3,storeCells]
   unfold Oper.wp;simp only[List.length_nil]at hx;simp[execOp,ho,resolve,invoke,builtin,hs,hx,hrun,Result.andThen];exact hK _ _ (h _ w (by rw[List.append_nil];exact hown) (.inl rfl) (World.grownBy.refl _ _))
  ·have hcells:∀j u,(vals l)[j]? =some u->w.cell? (ad.add j)=some u:=by
    rcases l with _|⟨y,l⟩
    ·intro j u hu;simp[vals]at hu
    ·obtain⟨b,o,h0,_⟩:=hr.rd.2 (by simp)
     injection h0 with h0
     subst h0;exact hr.rd.cells
   by_cases hroom:l1.length+l.length<=cap
   ·refine wpList_plain hgd fun K hK=> ?_
    have hrun:=run_append_room (P:=Tryz.prog) w 50 op.type 5 i0 Tryz.underlying50 hi0 g l1.length cap cur h2 ad l.length c (vals l) (by rw[jaz,hz1,Nat.mul_one]) hcells (jmc l) hroom (by rw[hz1,jaz];omega);unfold Oper.wp;simp[execOp,ho,resolve,invoke,builtin,hs,hx,hrun,Result.andThen];refine hK _ _ (h _ _ ⟨hby,.inr ⟨g,cap,_,by rw[zA],setRow_heap w g cur _ _ _ h2,by rw[zA];omega,h4,?_,?_⟩⟩ (.inl rfl) ⟨rfl,rfl,rfl,by simp[World.setRow],fun k _ hk=>setRow_other w g k _ (fun e=>hk (by simp[e,Value.ownBlock]))⟩)
    ·simp only[List.size_toArray,zA,List.length_take,List.length_drop,Array.length_toList,hz1,Nat.mul_one,jaz]
     omega
    ·rw[hz1,Nat.mul_one,h6,zA,show l1.length+l.length=(vals l1++vals l).length from by rw[zA,jaz,jaz],jbj]
     show List.take _ (vals l1++(vals l++_))=_;rw[<-List.append_assoc];exact List.take_left
   ·refine wpList_plain hgd fun K hK=> ?_
    obtain⟨v',w',hrun,r1,r2⟩:=run_append_arg_grows (P:=Tryz.prog) w 50 op.type 5 i0 _ 1 1 Tryz.underlying50 hi0 hz0 hz1 hz2 rfl zv ⟨g,0,none⟩ l1.length cap (vals l1) (by rw[jaz];omega)
     (fun j u hj=>by
      have hjl:j<l1.length:=by
       rcases Nat.lt_or_ge j l1.length with h|h
       ·exact h
       ·rw[List.getElem?_eq_none (by rw[jaz];omega)]at hj;cases hj
      rw[Addr.add_lit,cell_of_row w g (0+j) _ _ _ h2,Nat.zero_add,<-hj,<-h6,List.getElem?_take,if_pos hjl];simp)
     ad l.length c (vals l) (by rw[jaz];omega) hcells zv (by unfold maxLen;omega) zv
    unfold Oper.wp;simp[execOp,ho,resolve,invoke,builtin,hs,hx,hrun,Result.andThen];have r3:OwnB w' w.heap.size v' (l1++l):=⟨by rw[jbj,zA];exact r1,hby⟩;refine hK _ _ (h v' w' (OwnC.of_own r3) ?_ ⟨r2.os,r2.tape,r2.output,r2.size,fun k hk _=>r2.block k hk (by simp)⟩);rcases r1.2 with⟨rfl,h0⟩|⟨g',cap',cur',rfl,hg,_⟩
    ·omega
    ·exact .inr ⟨g',rfl,hg⟩
namespace Dk
structure St where
 room:Nat
 safe:Nat
 l:List Nat
def fits(n:Int):Nat:=(max 0 (min n 1048576)).toNat
def new(n:Int):St:=⟨fits n,0,[]⟩
def Okay(d:St):Prop:=d.safe<=d.l.length/\d.l.length<=d.room/\d.room<=1048576
def goes(d:St)(b:List Nat):Prop:=d.l.length+b.length<=d.room
instance (d:St) (b:List Nat):Decidable (goes d b):=by unfold goes;infer_instance
def write(d:St)(b:List Nat):St:=if goes d b then⟨d.room,d.safe,d.l++b⟩else d
def writeE(d:St)(b:List Nat):Int:=if goes d b then 0 else 4
def opens(d:St):Nat:=d.l.length -d.safe
def sync(d:St):St:=⟨d.room,d.l.length,d.l⟩
def leave(d:St)(n:Nat):St:=⟨d.room,n,d.l.take n⟩
def kept(d:St)(keep:Int):Nat:=(max 0 (min keep (opens d:Nat))).toNat
def crash(d:St)(keep:Int):St:=leave d (d.safe+kept d keep)
def lost(d:St)(keep:Int):Nat:=opens d -kept d keep
def within(d:St)(n:Int):Prop:=0<=n/\n<=(d.l.length:Nat)
instance (d:St) (n:Int):Decidable (within d n):=by unfold within;infer_instance
def cut(d:St)(n:Int):St:=if within d n then leave d n.toNat else d
def cutE(d:St)(n:Int):Int:=if within d n then 0 else 1
def swap(d:St)(b:List Nat):St:=if b.length<=d.room then⟨d.room,b.length,b⟩else d
def swapE(d:St)(b:List Nat):Int:=if b.length<=d.room then 0 else 4
theorem fits_le(n:Int):fits n<=1048576:=by unfold fits;omega
theorem Okay.new(n:Int):Okay (new n):=⟨zl,Nat.zero_le _,fits_le n⟩
theorem Okay.write{d:St}(h:Okay d)(b:List Nat):Okay (write d b):=by
 unfold Dk.write;split
 ·rename_i h1
  unfold goes at h1;exact⟨by simp;have:=h.1;omega,by simp;omega,h.2.2⟩
 ·exact h
theorem Okay.sync{d:St}(h:Okay d):Okay (sync d):=⟨zl,h.2⟩
theorem Okay.leave{d:St}(h:Okay d){n:Nat}(hn:n<=d.l.length):Okay (leave d n):=by
 have h1:=h.2.1;refine⟨?_,?_,h.2.2⟩
 ·show n<=(d.l.take n).length;rw[List.length_take];omega
 ·show(d.l.take n).length<=d.room;rw[List.length_take];omega
theorem kept_le(d:St)(keep:Int):kept d keep<=opens d:=by unfold kept;omega
theorem Okay.swap{d:St}(h:Okay d)(b:List Nat):Okay (swap d b):=by
 unfold Dk.swap;split
 ·rename_i h1;exact⟨zl,h1,h.2.2⟩
 ·exact h
end Dk
structure Dsk(w:World)(r:Nat)(v:Value)(d:Dk.St):Prop where
 blk:w.heap[r]? =some (.cells #[.int .i64 (d.room:Nat),.int .i64 (d.safe:Nat),v] 125 (0,0))
 own:OwnC w v d.l
 off:v.ownBlock≠some r
 okay:Dk.Okay d
def foot(r:Nat)(v:Value)(i:Nat):Prop:=i=r\/v.ownBlock=some i
theorem Dsk.lt{w:World}{r:Nat}{v:Value}{d:Dk.St}(h:Dsk w r v d):∀i,foot r v i->i<w.heap.size:=by
 rintro i (rfl|hi)
 ·exact(zg h.blk).1
 ·exact h.own.lt _ hi
theorem Dsk.keep{w w':World}{r:Nat}{v:Value}{d:Dk.St}(h:Dsk w r v d)(hk:∀i,foot r v i->w'.heap[i]? =w.heap[i]?):Dsk w' r v d:=
 ⟨(hk r (.inl rfl)).trans h.blk,h.own.keep fun k hk2=>hk k (.inr hk2),h.off,h.okay⟩
theorem Dsk.below{w w':World}{r:Nat}{v:Value}{d:Dk.St}(h:Dsk w r v d)(hb:zF w w'):Dsk w' r v d:=h.keep fun i hi=>hb.block i (h.lt i hi)
theorem Dsk.facts{w:World}{r:Nat}{v:Value}{d:Dk.St}(h:Dsk w r v d):
  w.cell? ⟨r,0,none⟩=some (.int .i64 (d.room:Nat))/\w.cell? ⟨r,1,none⟩=some (.int .i64 (d.safe:Nat))/\w.cell? ⟨r,2,none⟩=some v/\w.frozen? ⟨r,1,none⟩=false/\w.frozen? ⟨r,2,none⟩=false:=
 ⟨by rw[cell_of_row w r 0 _ _ _ h.blk];rfl,by rw[cell_of_row w r 1 _ _ _ h.blk];rfl,by rw[cell_of_row w r 2 _ _ _ h.blk];rfl,frozen_of_row w r 1 _ _ h.blk,frozen_of_row w r 2 _ _ h.blk⟩
def jc9(w:World)(r:Nat)(v:Value)(d:Dk.St)(x:Value)(e:Ending)(w':World):Prop:=
 e= .returned x/\∃v',Dsk w' r v' d/\(∀i,v'.ownBlock=some i->v.ownBlock=some i\/w.heap.size<=i)/\Kept (foot r v) w w'
def jd8(w:World)(x:Value)(e:Ending)(w':World):Prop:=e= .returned x/\zF w w'
theorem ji8(w:World)(r:Nat)(v:Value)(d:Dk.St)(h:Dsk w r v d):
  Calls Tryz.prog 129 #[.pointer (some ⟨r,0,none⟩)] w (jd8 w (.int .i64 (Dk.opens d:Nat))):=by
 obtain⟨c0,c1,c2,f1,f2⟩:=h.facts;obtain⟨A,c,rfl,hs⟩:=h.own.sl;have hok:=h.okay;have HO:Hid (Dk.opens d=d.l.length -d.safe):=rfl;unfold Dk.Okay at hok;clear h hs c0 f1 f2;generalize d.l.length=n at*;generalize d.safe=s at*;go_in;go_wp2_with fail;go_quiet (fail);go_wp2;go_ret;exact⟨jch (by rw[HO.o];omega),Below.drewN zD _⟩
theorem ji9(w:World)(r:Nat)(v:Value)(d:Dk.St)(h:Dsk w r v d):
  Calls Tryz.prog 54 #[.pointer (some ⟨r,0,none⟩)] w (jd8 w (.int .i64 (d.room -d.l.length:Nat))):=by
 obtain⟨c0,c1,c2,f1,f2⟩:=h.facts;obtain⟨A,c,rfl,hs⟩:=h.own.sl;have hok:=h.okay;unfold Dk.Okay at hok;clear h hs c1 f1 f2;generalize d.l.length=n at*;generalize d.room=s at*;go_in;go_wp2_with fail;go_quiet (fail);go_wp2;go_ret;exact⟨jch zv,Below.drewN zD _⟩
theorem jtg(w:World)(r:Nat)(v:Value)(d:Dk.St)(h:Dsk w r v d):
  Calls Tryz.prog 73 #[.pointer (some ⟨r,0,none⟩)] w (jd8 w (.int .i64 (d.l.length:Nat))):=by
 obtain⟨c0,c1,c2,f1,f2⟩:=h.facts;obtain⟨A,c,rfl,hs⟩:=h.own.sl;clear h hs c1 c0 f1 f2;generalize d.l.length=n at*;go_in;go_wp2;go_ret;exact⟨rfl,zD⟩
theorem jo5(w:World)(r:Nat)(v:Value)(d:Dk.St)(h:Dsk w r v d):
  Calls Tryz.prog 70 #[.pointer (some ⟨r,0,none⟩)] w (jd8 w (.int .i64 (d.safe:Nat))):=by
 obtain⟨c0,c1,c2,f1,f2⟩:=h.facts;clear h c2 c0 f1 f2;generalize d.safe=n at*;go_in;go_wp2;go_ret;exact⟨rfl,zD⟩
theorem jth(w:World)(r:Nat)(v:Value)(d:Dk.St)(h:Dsk w r v d):
  Calls Tryz.prog 34 #[.pointer (some ⟨r,0,none⟩)] w (jep d.l w):=by
 obtain⟨c0,c1,c2,f1,f2⟩:=h.facts;obtain⟨A,c,rfl,hs⟩:=h.own.sl;have hok:=h.okay;unfold Dk.Okay at hok;have HC:=zh (jda d.l.length c A d.l w hs zv);clear h hs c1 c0 f1 f2 hok;go_in;go_wp2_with fail
 refine HC.o.mono ?_
 rintro e w1 ⟨A1,c1,rfl,ho,hb⟩;have O:=zh ho;clear ho;have B:=zh hb;clear hb;go_wp2;go_ret;exact⟨A1,c1,rfl,O.o,B.o⟩
def NPost(n:Int)(w:World)(e:Ending)(w':World):Prop:=∃r,e= .returned (.pointer (some ⟨r,0,none⟩))/\w.heap.size<=r/\Dsk w' r (.slice none 0 0) (Dk.new n)/\zF w w'
theorem jkr(n lo hi:Int)(w:World):
  Calls Tryz.prog 112 #[.int .i64 n,.int .i64 lo,.int .i64 hi] w fun e w'=>e= .returned (.int .i64 (max lo (min n hi)))/\w=w':=by
 go_in;go_wp2_with fail
 all_goals (go_ret;exact⟨jch zv,rfl⟩)
theorem jti(n:Int)(w:World):
  Calls Tryz.prog 63 #[.int .i64 n] w fun e w'=>e= .returned (.int .i64 (Dk.fits n:Nat))/\w=w':=by
 have HF:Hid ((Dk.fits n:Nat)=max 0 (min n 1048576)):=by show _=_;unfold Dk.fits;omega
 go_in;go_wp2_with fail;refine(jkr n 0 1048576 w).mono ?_;rintro e w' ⟨rfl,rfl⟩;go_wp2;go_ret;exact⟨jch HF.o.symm,rfl⟩
theorem jtj(n:Int)(w:World):Calls Tryz.prog 30 #[.int .i64 n] w (NPost n w):=by
 have HO:=zh (Dk.Okay.new n);have HC:=zh (jti n w);have HF:Hid (Dk.new n=⟨Dk.fits n,0,[]⟩):=rfl;generalize Dk.fits n=m at*;go_in;go_wp2_with fail;refine HC.o.mono ?_;rintro e w' ⟨rfl,rfl⟩;go_wp2;go_ret;refine⟨w.heap.size,rfl,zl,⟨?_,?_,by simp[Value.ownBlock],HO.o⟩,zE⟩
 ·rw[HF.o];exact heap_alloc_new w _
 ·rw[HF.o];exact OwnC.none_ _
theorem jhh(w:World)(r o:Nat)(u:Value)(k:Nat)(h:k≠r):(w.setCell ⟨r,o,none⟩ u).heap[k]? =w.heap[k]? :=Below.heap_setCell _ _ _ _ (by simpa using h)
theorem OwnC.set{w:World}{v:Value}{l:List Nat}{r o:Nat}{u:Value}(h:OwnC w v l)(hr:v.ownBlock≠some r):OwnC (w.setCell ⟨r,o,none⟩ u) v l:=
 h.keep fun k hk=>jhh _ _ _ _ _ (fun e=>hr (by rw[hk,e]))
theorem jho(w:World)(r n:Nat)(v:Value)(d:Dk.St)(h:Dsk w r v d)(hn:n<=d.l.length):
  Calls Tryz.prog 130 #[.pointer (some ⟨r,0,none⟩),.int .i64 (n:Nat)] w (jc9 w r v (Dk.leave d n) (.tuple #[])):=by
 obtain⟨c0,c1,c2,f1,f2⟩:=h.facts;obtain⟨A,c,rfl,hs⟩:=h.own.sl;have hok:=h.okay;have hcap:=hs.cap;have hmax:=hs.max;unfold maxLen at hmax;have HOC:=h.own.cut n hn;have HR:Hid ((Value.slice A n n).ownBlock≠some r):=by
  have:=h.off
  cases A<;>exact this
 have D1:=heap_setCell_same w r 2 _ _ (.slice A n n) h.blk;have D2:=heap_setCell_same (w.setCell ⟨r,2,none⟩ (.slice A n n)) r 1 _ _ (.int .i64 (n:Nat)) D1;have HD:Hid (Dsk ((w.setCell ⟨r,2,none⟩ (.slice A n n)).setCell ⟨r,1,none⟩ (.int .i64 (n:Nat))) r (.slice A n n) (Dk.leave d n)):=
  ⟨by rw[D2];rfl,(HOC.set HR.o).set HR.o,HR.o,hok.leave hn⟩
 clear D1 D2 HOC h hs;generalize d.l.length=m at*;go_in;go_wp2;go_end0;refine⟨rfl,_,HD.o,fun i hi=> .inl ?_,Kept.of_grown (row:=some r) (jam (jad _ _ _ _) (jad _ _ _ _)) (fun k hk=> .inl (by injection hk with hk;exact hk.symm))⟩
 cases A<;>exact hi
theorem jc9.of_safe{w:World}{r:Nat}{v:Value}{d d':Dk.St}(h:Dsk w r v d)(x:Value)(n:Nat)(e:d'=⟨d.room,n,d.l⟩)(hok:Dk.Okay d'):jc9 w r v d' x (.returned x) (w.setCell ⟨r,1,none⟩ (.int .i64 (n:Nat))):=by
 subst e;have D1:=heap_setCell_same w r 1 _ _ (.int .i64 (n:Nat)) h.blk;exact⟨rfl,v,⟨by rw[D1];rfl,h.own.set h.off,h.off,hok⟩,fun i hi=> .inl hi,Kept.of_grown (row:=some r) (jad _ _ _ _) (fun k hk=> .inl (by injection hk with hk;exact hk.symm))⟩
theorem jc9.before{w w1:World}{r:Nat}{v:Value}{d:Dk.St}{x:Value}{e:Ending}{w':World}(h:jc9 w1 r v d x e w')(hb:zF w w1):jc9 w r v d x e w':=by
 obtain⟨rfl,v',h1,h2,h3⟩:=h;refine⟨rfl,v',h1,fun i hi=> ?_,(Kept.of_below hb).trans h3 fun i _ h=>h⟩;rcases h2 i hi with h4|h4
 ·exact .inl h4
 ·exact .inr (Nat.le_trans hb.size h4)
theorem jc9.behind{w w1 w':World}{r:Nat}{v:Value}{d:Dk.St}{x y:Value}{e:Ending}(h:jc9 w r v d x e w1)(hb:zF w1 w'):jc9 w r v d y (.returned y) w':=by
 obtain⟨rfl,v',h1,h2,h3⟩:=h;exact⟨rfl,v',h1.below hb,h2,h3.trans (Kept.of_below hb) fun i _ h=>h⟩
theorem jo6(w:World)(r:Nat)(v:Value)(d:Dk.St)(h:Dsk w r v d):
  Calls Tryz.prog 71 #[.pointer (some ⟨r,0,none⟩)] w (jc9 w r v (Dk.sync d) (.int .i64 (Dk.opens d:Nat))):=by
 have HD:=zh h;have HC:=zh (ji8 w r v d h);have HS:Hid (Dk.sync d=⟨d.room,d.l.length,d.l⟩):=rfl;have HK:=zh h.okay.sync;clear h;generalize Dk.opens d=m at*;go_in;go_wp2_with fail;refine HC.o.mono ?_;rintro e w1 ⟨rfl,hb⟩;have B:=zh hb;have D1:=HD.o.below hb;have HD1:=zh D1;obtain⟨c0,c1,c2,f1,f2⟩:=D1.facts;obtain⟨A,c,rfl,hs⟩:=D1.own.sl;clear hb D1 hs;go_wp2;go_ret;exact(jc9.of_safe HD1.o (.int .i64 (m:Nat)) d.l.length HS.o HK.o).before B.o
theorem jm9(w:World)(r:Nat)(keep:Int)(v:Value)(d:Dk.St)(h:Dsk w r v d)(hk: -9223372036854775808<=keep/\keep<=9223372036854775807):
  Calls Tryz.prog 72 #[.pointer (some ⟨r,0,none⟩),.int .i64 keep] w (jc9 w r v (Dk.crash d keep) (.int .i64 (Dk.lost d keep:Nat))):=by
 have HD:=zh h;have HC:=zh (fun W h=>ji8 W r v d h);have HS:Hid (Dk.crash d keep=Dk.leave d (d.safe+Dk.kept d keep)):=rfl;have HL:Hid (Dk.lost d keep=Dk.opens d -Dk.kept d keep):=rfl;have hok:=h.okay;have hm:max 0 (min keep (Dk.opens d:Nat))=(Dk.kept d keep:Nat):=by unfold Dk.kept;omega
 have hle:=Dk.kept_le d keep;have hop:Dk.opens d=d.l.length -d.safe:=rfl;unfold Dk.Okay at hok;have HV:=zh (fun W h (hn:d.safe+Dk.kept d keep<=d.l.length)=>jho W r (d.safe+Dk.kept d keep) v d h hn);have HN:Hid (d.safe+Dk.kept d keep<=d.l.length):=by show _<=_;omega
 have hb1:Dk.opens d<=1048576/\d.safe+Dk.kept d keep<=1048576:=by omega
 clear h hop hok;generalize Dk.opens d=m at*;generalize Dk.kept d keep=k at*;go_in;go_wp2_with fail;refine(HC.o _ HD.o).mono ?_;rintro e w1 ⟨rfl,hb⟩;have B:=zh hb;have HD1:=zh (HD.o.below hb);clear hb;go_wp2_with fail;refine(HC.o _ HD1.o).mono ?_;rintro e w2 ⟨rfl,hb⟩;have B2:=zh (B.o.trans (hb.mono B.o.size));have HD2:=zh (HD1.o.below hb);obtain⟨c0,c1,c2,f1,f2⟩:=HD2.o.facts;clear hb c0 c2 f1 f2;go_wp2_with fail;have e1:(d.safe:Int)+(k:Int)=((d.safe+k:Nat):Int):=by omega
 rw[e1]
 refine(HV.o _ HD2.o HN.o).mono ?_
 rintro e w3 hp;obtain rfl:=hp.1;have P:=zh (hp.before B2.o);clear hp e1;go_wp2;go_ret;rw[HS.o,HL.o];have e2:(m:Int) -(k:Int)=((m -k:Nat):Int):=by omega
 rw[e2];exact P.o.behind zD
theorem jtk(w:World)(r:Nat)(n:Int)(v:Value)(d:Dk.St)(h:Dsk w r v d)(hn: -9223372036854775808<=n/\n<=9223372036854775807):
  Calls Tryz.prog 114 #[.pointer (some ⟨r,0,none⟩),.int .i64 n] w (jc9 w r v (Dk.cut d n) (.int .i64 (Dk.cutE d n))):=by
 have HD:=zh h;obtain⟨c0,c1,c2,f1,f2⟩:=h.facts;obtain⟨A,c,rfl,hs⟩:=h.own.sl;have HQ:Hid (Dk.cut d n=if Dk.within d n then Dk.leave d n.toNat else d):=rfl;have HE:Hid (Dk.cutE d n=if Dk.within d n then 0 else 1):=rfl;by_cases hw:Dk.within d n
 ·rw[if_pos hw]at HQ HE
  unfold Dk.within at hw;obtain⟨k,rfl⟩:∃k:Nat,n=(k:Int):=⟨n.toNat,zv⟩;have HV:=zh (jho w r k (.slice A d.l.length c) d h zv);rw[Int.toNat_natCast]at HQ;clear h hs c0 c1 f1 f2;generalize d.l.length=m at*;have t1:¬(m:Int)<k:=by omega
  go_in;go_wp2_with fail;refine HV.o.mono ?_;rintro e w1 hp;obtain rfl:=hp.1;have P:=zh hp;clear hp;go_wp2;go_ret;rw[HQ.o,HE.o];exact P.o.behind zD
 ·rw[if_neg hw]at HQ HE
  unfold Dk.within at hw;clear h hs c0 c1 f1 f2;generalize d.l.length=m at*;have hor:n<0\/(m:Int)<n:=by omega
  rcases hor with hor|hor
  all_goals
   go_in;go_wp2;go_ret;rw[HQ.o,HE.o];exact⟨rfl,_,HD.o,fun i hi=> .inl hi,Kept.refl _ _⟩
theorem jna(w:World)(r n c:Nat)(A:Option Addr)(b:List Nat)(v:Value)(d:Dk.St)(h:Dsk w r v d)(hs:Sl w A n c b):
  Calls Tryz.prog 68 #[.pointer (some ⟨r,0,none⟩),.slice A n c] w (jc9 w r v (Dk.write d b) (.int .i64 (Dk.writeE d b))):=by
 have HD:=zh h;have HS:=zh hs;have HC:=zh (ji9 w r v d h);have HQ:Hid (Dk.write d b=if Dk.goes d b then⟨d.room,d.safe,d.l++b⟩else d):=rfl;have HE:Hid (Dk.writeE d b=if Dk.goes d b then 0 else 4):=rfl;have hlen:=hs.len;have hok:=h.okay;unfold Dk.Okay at hok;by_cases hw:Dk.goes d b
 ·have HW:=zh (h.okay.write b)
  rw[if_pos hw]at HQ HE;unfold Dk.goes at hw;have t1:n<=d.room -d.l.length:=by omega
  have HL:Hid (d.l.length+b.length<=140737488355328):=by show _<=_;omega
  clear h hs hlen hok hw;generalize d.room -d.l.length=q at*;go_in;go_wp2_with fail;refine HC.o.mono ?_;rintro e w1 ⟨rfl,hb⟩;have B:=zh hb;have D1:=HD.o.below hb;have HD1:=zh D1;have S1:=zh (HS.o.on hb);obtain⟨c0,c1,c2,f1,f2⟩:=D1.facts;clear hb D1 c0 c1 f1;go_wp2_with(at_builtin;refine jfc rfl (.tmp 16) (.tmp 17) rfl v d.l rfl HD1.o.own n c A b rfl S1.o HL.o ?_;intro v2 w2 hown2 hor2 hg2;obtain⟨A2,cc2,rfl,_⟩:=hown2.sl;have hown3:OwnC w2 (.slice A2 (d.l.length+b.length) cc2) (d.l++b):=(by rw[<-zA];exact hown2);have O2:=zh hown3;have R2:=zh hor2;have G2:=zh hg2;have hb2:w2.heap[r]? =w1.heap[r]? :=hg2.block r (HD1.o.lt r (.inl rfl)) (fun e=>HD1.o.off e.symm);have X2:=zh (hb2.trans HD1.o.blk);have f22:w2.frozen? ⟨r,2,none⟩=false:=frozen_of_row w2 r 2 _ _ X2.o;have c22:w2.cell? ⟨r,2,none⟩=some v:=by{rw[cell_of_row w2 r 2 _ _ _ X2.o];rfl};clear hown2 hown3 hor2 hg2 hb2);go_ret;have D3:=heap_setCell_same w2 r 2 _ _ (.slice A2 (d.l.length+b.length) cc2) X2.o;have hoff:(Value.slice A2 (d.l.length+b.length) cc2).ownBlock≠some r:=by
   have e0:(Value.slice A2 (d.l.length+b.length) cc2).ownBlock=(Value.slice A2 (d.l++b).length cc2).ownBlock:=by rw[zA]
   rw[e0];rcases R2.o with e|⟨k,e,hk⟩
   ·rw[e];exact HD1.o.off
   ·rw[e];intro e2;injection e2 with e2;have:=HD1.o.lt r (.inl rfl);omega
  rw[HQ.o,HE.o];rw[HQ.o]at HW;refine jc9.before ⟨rfl,_,⟨by rw[D3];rfl,O2.o.set hoff,hoff,HW.o⟩,fun i hi=> ?_,?_⟩ B.o
  ·rw[<-zA]at hi
   rcases R2.o with e|⟨k,e,hk⟩
   ·exact .inl (by rw[<-e];exact hi)
   ·rw[e]at hi;injection hi with hi;exact .inr zv
  ·refine(Kept.of_grown (F:=foot r v) G2.o fun k hk=> .inr hk).trans (G:=foot r v) (Kept.of_grown (row:=some r) (jad _ _ _ _) fun k hk=> .inl (by injection hk with hk;exact hk.symm)) fun i _ h=>h
 ·rw[if_neg hw]at HQ HE
  unfold Dk.goes at hw;have t1:d.room -d.l.length<n:=by omega
  clear h hs hlen hok hw;generalize d.room -d.l.length=q at*;go_in;go_wp2_with fail;refine HC.o.mono ?_;rintro e w1 ⟨rfl,hb⟩;have B:=zh hb;have HD1:=zh (HD.o.below hb);clear hb;go_wp2;go_ret;rw[HQ.o,HE.o];exact⟨rfl,v,HD1.o,fun i hi=> .inl hi,Kept.of_below B.o⟩
theorem jja(w:World)(r n c:Nat)(A:Option Addr)(b:List Nat)(v:Value)(d:Dk.St)(h:Dsk w r v d)(hs:Sl w A n c b):
  Calls Tryz.prog 31 #[.pointer (some ⟨r,0,none⟩),.slice A n c] w (jc9 w r v (Dk.swap d b) (.int .i64 (Dk.swapE d b))):=by
 have HD:=zh h;obtain⟨c0,c1,c2,f1,f2⟩:=h.facts;have HQ:Hid (Dk.swap d b=if b.length<=d.room then⟨d.room,b.length,b⟩else d):=rfl;have HE:Hid (Dk.swapE d b=if b.length<=d.room then 0 else 4):=rfl;have hlen:=hs.len;by_cases hw:b.length<=d.room
 ·have HW:=zh (h.okay.swap b)
  have hok:=h.okay;unfold Dk.Okay at hok;have HC:=zh (jda n c A b w hs zv);clear hok;rw[if_pos hw]at HQ HE;have t1:n<=d.room:=by omega
  have HL:=zh hlen;clear h hs hlen hw c1 c2 f1 f2;generalize hrm:d.room=q at*;have RM:=zh hrm;clear hrm;go_in;go_wp2_with fail
  refine HC.o.mono ?_
  rintro e w1 ⟨A1,cc,rfl,ho,hb⟩;have B:=zh hb;have O:=zh ho;have D1:=zh (HD.o.below hb);obtain⟨c0,c1,c2,f1,f2⟩:=D1.o.facts;have X2:=heap_setCell_same w1 r 2 _ _ (.slice A1 b.length cc) D1.o.blk;have HX2:=zh X2;have c12:(w1.setCell ⟨r,2,none⟩ (.slice A1 b.length cc)).cell? ⟨r,1,none⟩=some (.int .i64 (d.safe:Nat)):=by rw[cell_of_row _ r 1 _ _ _ X2];rfl
  have f12:(w1.setCell ⟨r,2,none⟩ (.slice A1 b.length cc)).frozen? ⟨r,1,none⟩=false:=frozen_of_row _ r 1 _ _ X2;clear hb ho X2 c0 c1 f1;go_wp2;go_ret;have D3:=heap_setCell_same (w1.setCell ⟨r,2,none⟩ (.slice A1 b.length cc)) r 1 _ _ (.int .i64 (b.length:Nat)) HX2.o;have hfr:∀k,(Value.slice A1 b.length cc).ownBlock=some k->w.heap.size<=k:=by
   intro k hk;rcases A1 with _|a
   ·cases hk
   ·injection hk with hk;subst hk;exact O.o.from_ a rfl
  have hoff:(Value.slice A1 b.length cc).ownBlock≠some r:=fun e=>by have:=hfr r e;have:=HD.o.lt r (.inl rfl);omega
  rw[HQ.o,HE.o];rw[HQ.o]at HW;rw[HL.o];refine⟨rfl,_,⟨by rw[D3,<-RM.o];rfl,((OwnC.of_own O.o).set hoff).set hoff,hoff,HW.o⟩,fun i hi=> .inr (hfr i hi),?_⟩;refine(Kept.of_below (F:=foot r v) B.o).trans (G:=foot r v) (Kept.of_grown (row:=some r) (jam (jad _ _ _ _) (jad _ _ _ _)) fun k hk=> .inl (by injection hk with hk;exact hk.symm)) fun i _ h=>h
 ·rw[if_neg hw]at HQ HE
  have t1:d.room<n:=by omega
  clear h hs hlen hw c1 c2 f1 f2;generalize d.room=q at*;go_in;go_wp2;go_ret;rw[HQ.o,HE.o];exact⟨rfl,v,HD.o,fun i hi=> .inl hi,Kept.refl _ _⟩
namespace Crc
def mv1(w:Nat):Nat:=if w%2=1 then(w/2)^^^3988292384 else w/2
def mvN:Nat->Nat->Nat
 |0,w=>w
 |k+1,w=>mv1 (mvN k w)
def mv8(w:Nat):Nat:=mvN 8 w
def step(w x:Nat):Nat:=mv8 (w^^^x)
def crc(w:Nat)(l:List Nat):Nat:=l.foldl step w
def more(s:Nat)(l:List Nat):Nat:=4294967295 -crc (4294967295 -s) l
def sum(l:List Nat):Nat:=more 0 l
theorem xor_lt{a b:Nat}(ha:a<4294967296)(hb:b<4294967296):a^^^b<4294967296:=
 Nat.xor_lt_two_pow (n:=32) ha hb
theorem mv1_lt{w:Nat}(h:w<4294967296):mv1 w<4294967296:=by
 unfold mv1;split
 ·exact xor_lt zv zv
 ·omega
theorem mvN_lt{w:Nat}(h:w<4294967296)(k:Nat):mvN k w<4294967296:=by
 induction k with
 |zero=>exact h
 |succ k ih=>exact mv1_lt ih
theorem mv8_lt{w:Nat}(h:w<4294967296):mv8 w<4294967296:=mvN_lt h 8
theorem xor_mod_two(a b:Nat):(a^^^b)%2=(a%2+b%2)%2:=by
 have h:(a^^^b).testBit 0=(a.testBit 0^^b.testBit 0):=Nat.testBit_xor ..;simp only[Nat.testBit_zero]at h;have ha:=Nat.mod_two_eq_zero_or_one a;have hb:=Nat.mod_two_eq_zero_or_one b;have hc:=Nat.mod_two_eq_zero_or_one (a^^^b);rcases ha with ha|ha<;>rcases hb with hb|hb<;>rcases hc with hc|hc<;>simp_all
theorem xor_div_two(a b:Nat):(a^^^b)/2=(a/2)^^^(b/2):=by
 apply Nat.eq_of_testBit_eq;intro i;rw[Nat.testBit_xor,<-Nat.testBit_succ,<-Nat.testBit_succ,<-Nat.testBit_succ,Nat.testBit_xor]
theorem mv1_xor(a b:Nat):mv1 (a^^^b)=mv1 a^^^mv1 b:=by
 unfold mv1;rw[xor_mod_two,xor_div_two];rcases Nat.mod_two_eq_zero_or_one a with ha|ha<;>rcases Nat.mod_two_eq_zero_or_one b with hb|hb<;>rw[ha,hb]<;>simp
 ·rw[Nat.xor_assoc]
 ·rw[Nat.xor_assoc,Nat.xor_assoc,Nat.xor_comm (b/2)]
 ·rw[Nat.xor_comm (b/2),Nat.xor_assoc,<-Nat.xor_assoc 3988292384,Nat.xor_self,Nat.zero_xor]
theorem mvN_xor(k a b:Nat):mvN k (a^^^b)=mvN k a^^^mvN k b:=by
 induction k with
 |zero=>rfl
 |succ k ih=>show mv1 (mvN k (a^^^b))=_;rw[ih,mv1_xor];rfl
theorem mv8_xor(a b:Nat):mv8 (a^^^b)=mv8 a^^^mv8 b:=mvN_xor 8 a b
theorem mvN_up(k h:Nat):mvN k (2^k*h)=h:=by
 induction k generalizing h with
 |zero=>simp[mvN]
 |succ k ih=>
  show mv1 (mvN k (2^(k+1)*h))=h;rw[Nat.pow_succ,Nat.mul_assoc,ih];unfold mv1;rw[if_neg zv];omega
theorem split256(w:Nat):w=(256*(w/256))^^^(w%256):=by
 apply Nat.eq_of_testBit_eq;intro i;rw[Nat.testBit_xor,show(256:Nat)=2^8 from rfl,Nat.testBit_two_pow_mul,Nat.testBit_mod_two_pow,Nat.testBit_div_two_pow];by_cases h:8<=i
 ·simp[h,Nat.not_lt.2 h]
 ·simp[h,Nat.lt_of_not_le h]
theorem step_eq(w x:Nat):step w x=(w/256)^^^mv8 ((w%256)^^^x):=by
 unfold step
 conv=>lhs;rw[split256 w]
 rw[Nat.xor_assoc,mv8_xor]
 congr 1
 exact mvN_up 8 (w/256)
theorem step_lt{w x:Nat}(hw:w<4294967296)(hx:x<256):step w x<4294967296:=mv8_lt (xor_lt hw zv)
theorem crc_lt{w:Nat}{l:List Nat}(hw:w<4294967296)(hl:∀x∈l,x<256):crc w l<4294967296:=by
 induction l generalizing w with
 |nil=>exact hw
 |cons x l ih=>exact ih (step_lt hw (hl x (by simp))) (fun y hy=>hl y (by simp[hy]))
theorem crc_append(w:Nat)(a b:List Nat):crc w (a++b)=crc (crc w a) b:=List.foldl_append ..
theorem more_lt(s:Nat)(l:List Nat):more s l<4294967296:=by unfold more;omega
theorem sum_lt(l:List Nat):sum l<4294967296:=more_lt 0 l
theorem more_nil{s:Nat}(hs:s<4294967296):more s []=s:=by show 4294967295 -(4294967295 -s)=s;omega
theorem eff_put:∀j,j<8->∀r,r<2^j->mv8 (2^j+r)=mv8 (2^j)^^^mv8 r:=by
 have h:∀j,j<8->∀r,r<2^j->2^j+r=2^j^^^r:=by decide+kernel
 intro j hj r hr;rw[h j hj r hr,mv8_xor]
theorem not_xor{a:Nat}(ha:a<4294967296):4294967295 -a=4294967295^^^a:=by
 have h:2^32 -(a+1)=(2^32 -1)^^^a:=by
  apply Nat.eq_of_testBit_eq;intro i;rw[Nat.testBit_two_pow_sub_succ zv,Nat.testBit_xor,Nat.testBit_two_pow_sub_one];by_cases hi:i<32
  ·simp[hi]
  ·have:a.testBit i=false:=Nat.testBit_lt_two_pow (Nat.lt_of_lt_of_le ha (Nat.pow_le_pow_right zv (Nat.le_of_not_lt hi):2^32<=2^i))
   simp[hi,this]
 rw[show(4294967295:Nat)=2^32 -1 from rfl,<-h];omega
end Crc
open Go.RowKit
theorem odd_of(m:Nat)(hm:m<4294967296):bits .and .u32 (m:Int) 1=((m%2:Nat):Int):=by
 rw[show(1:Int)=((1:Nat):Int)from rfl,u32_and_nat m 1 hm zv,nat_mask1]
theorem mv1_odd(m:Nat)(hm:m<4294967296)(h:(bits .and .u32 (m:Int) 1==1)=true):bits .xor .u32 ((m:Int)/2) 3988292384=((Crc.mv1 m:Nat):Int):=by
 rw[odd_of m hm,beq_iff_eq]at h;unfold Crc.mv1;rw[if_pos zv,show(m:Int)/2=((m/2:Nat):Int)from rfl,show(3988292384:Int)=((3988292384:Nat):Int)from rfl,u32_xor_nat _ _ zv zv]
theorem jtl(m:Nat)(hm:m<4294967296)(h:(bits .and .u32 (m:Int) 1==1)=false):(m:Int)/2=((Crc.mv1 m:Nat):Int):=by
 rw[odd_of m hm,zq]at h;unfold Crc.mv1;rw[if_neg zv];rfl
theorem jjb(n:Nat)(w:World)(hn:n<4294967296):
  Calls Tryz.prog 266 #[.int .u32 n] w fun e w'=>e= .returned (.int .u32 (Crc.mv8 n))/\w=w':=by
 go_in;go_wp2;go_loop [0,4] (fun v i=>∃k:Nat,k<=8/\i= .int .i64 k/\v= .int .u32 (Crc.mvN k n)) (fun _ i=>8 -(intOf i).toNat)
 case atStart=>exact⟨0,zv,rfl,rfl⟩
 case round=>
  obtain⟨k,hk,rfl,rfl⟩:=hrel;have hm:=Crc.mvN_lt hn k;go_wp2
  ·have h1:(k:Int)<8:=by assumption
   have h2:(bits BinOp.and IntKind.u32 (↑(Crc.mvN k n)) 1==1)=true:=by assumption
   refine⟨⟨k+1,zv,rfl,jgc ?_⟩,by simp[intOf];omega⟩;exact mv1_odd _ hm h2
  ·have h1:(k:Int)<8:=by assumption
   have h2:(bits BinOp.and IntKind.u32 (↑(Crc.mvN k n)) 1==1)=false:=by assumption
   refine⟨⟨k+1,zv,rfl,jgc ?_⟩,by simp[intOf];omega⟩;exact jtl _ hm h2
  ·have h1:8<=(k:Int):=by assumption
   obtain rfl:k=8:=by omega
   go_ret;exact⟨rfl,rfl⟩
def zrow:Array Value:=Array.replicate 256 (.int .u32 0)
theorem jo7(i:Nat)(h:i<256):zrow[i]? =some (.int .u32 0):=by simp[zrow,h]
theorem jeq:zrow.size=256:=by simp[zrow]
def jhi(m i:Nat):Value:= .int .u32 (((if i<m then Crc.mv8 i else 0:Nat):Nat):Int)
def Pow(p:Nat):Prop:=∃j,j<=8/\p=2^j
theorem Pow.le{p:Nat}(h:Pow p):1<=p/\p<=256:=by
 obtain⟨j,hj,rfl⟩:=h;exact⟨Nat.pos_of_ne_zero (by simp),(Nat.pow_le_pow_right zv hj:2^j<=2^8)⟩
theorem Pow.twice{p:Nat}(h:Pow p)(hp:p<256):Pow (p*2):=by
 obtain⟨j,hj,rfl⟩:=h;have:j≠8:=by rintro rfl;omega
 exact⟨j+1,zv,by rw[Nat.pow_succ]⟩
theorem Pow.half{p:Nat}(h:Pow p)(hp:p<256):p<=128:=by have:=(h.twice hp).le;omega
theorem Pow.put{p r:Nat}(h:Pow p)(hp:p<256)(hr:r<p):Crc.mv8 (p+r)=Crc.mv8 p^^^Crc.mv8 r:=by
 obtain⟨j,hj,rfl⟩:=h;have:j≠8:=by rintro rfl;omega
 exact Crc.eff_put j zv r hr
theorem Pow.one:Pow 1:=⟨0,zv,rfl⟩
def jtm(c:Array Value):Prop:=c.size=256/\∀i,i<256->c[i]? =some (.int .u32 ((Crc.mv8 i:Nat):Int))
def EffPost(w:World)(e:Ending)(w':World):Prop:=∃c,e= .returned (.agg c)/\jtm c/\zF w w'
theorem jib{m i:Nat}(h:i<m):jhi m i= .int .u32 ((Crc.mv8 i:Nat):Int):=by unfold jhi;rw[if_pos h]
theorem jtn{w:World}{g m:Nat}{t:TypeId}{v:Value}(h:w.rowIs g t 256 (jhi m))(hv:v= .int .u32 ((Crc.mv8 m:Nat):Int)):(w.setCell ⟨g,m,none⟩ v).rowIs g t 256 (jhi (m+1)):=by
 refine(h.set m v).congr fun i _=> ?_;by_cases e:i=m
 ·subst e;rw[if_pos rfl,hv,jib zv]
 ·rw[if_neg e];unfold jhi
  by_cases h1:i<m
  ·rw[if_pos h1,if_pos zv]
  ·rw[if_neg h1,if_neg zv]
theorem eff_val{p r:Nat}(h:Pow p)(hp:p<256)(hr:r<p):Value.int .u32 (bits .xor .u32 ((Crc.mv8 p:Nat):Int) ((Crc.mv8 r:Nat):Int))= .int .u32 ((Crc.mv8 (p+r):Nat):Int):=by
 rw[u32_xor_nat _ _ (Crc.mv8_lt zv) (Crc.mv8_lt zv),h.put hp hr]
theorem jto{w:World}{g:Nat}{t:TypeId}(h:w.rowIs g t 256 (jhi 256)):∃c,w.heap[g]? =some (.cells c t (0,0))/\jtm c:=by
 obtain⟨c,hc,hs,hi⟩:=h;exact⟨c,hc,hs,fun i h=>by rw[hi i h,jib h]⟩
theorem jtm.one{c:Array Value}(h:jtm c):c.all (·.oneCell')=true:=by
 rw[Array.all_eq_true];intro i hi;have:=h.2 i (by have:=h.1;omega);rw[Array.getElem?_eq_getElem hi]at this;injection this with this
 rw[this];rfl
theorem jo8(w:World):(zeroValue 276).run Tryz.prog w= .ok (.agg zrow) w:=by kernel_rfl
theorem jgf(w:World):
  Calls Tryz.prog 245 #[] w (EffPost w):=by
 have hz:=jo8;go_in;go_wp2_with fail;go_loopw [2] (fun b wr=>∃p:Nat,p<=256/\b= .int .i64 p/\Pow p/\wr.rowIs (w.heap.size+1) 276 256 (jhi p)/\wr.rowIs w.heap.size 276 256 (fun _=> .int .u32 0)/\zF w wr) (fun b _=>512 -(intOf b).toNat)
 case atStart=>
  have g0:=World.rowIs_alloc w zrow 276 (fun _=> .int .u32 0) (fun i hi=>jo7 i (by rw[jeq]at hi;exact hi));have g1:=World.rowIs_alloc (w.alloc (.cells zrow 276)) zrow 276 (jhi 1) (fun i hi=>by
   rw[jo7 i (by rw[jeq]at hi;exact hi)];unfold jhi;split
   ·rename_i h;obtain rfl:i=0:=by omega
    rfl
   ·rfl)
  rw[jeq]at g0 g1;exact⟨1,zv,rfl,Pow.one,by simpa using g1,g0.alloc _,(zE).alloc (by simp) _⟩
 case round=>
  obtain⟨p,hp,rfl,hpow,hr1,hr0,hb⟩:=hrel;have hp1:=hpow.le.1;have H1:=zh hr1;clear hr1;have H0:=zh hr0;clear hr0;have HB:=zh hb;clear hb;have HP:=zh hpow;clear hpow hz;by_cases hlt:p<256
  ·have hh:p<=128:=HP.o.half hlt
   go_wp2_with fail;refine(jjb p _ zv).mono ?_;rintro e w1 ⟨rfl,rfl⟩;go_wp2_with fail;obtain⟨wo,rfl⟩:∃wo:World,wo=wr:=zx;go_loopw [13] (fun k wr'=>∃r:Nat,r<=p/\k= .int .i64 r/\wr'.rowIs (w.heap.size+1) 276 256 (jhi (p+r))/\wr'.rowIs w.heap.size 276 256 (fun _=> .int .u32 0)/\zF w wr') (fun k _=>p -(intOf k).toNat)
   case atStart=>exact⟨0,zv,rfl,H1.o,H0.o,HB.o⟩
   case round=>
    obtain⟨r,hr,rfl,hr1,hr0,hb⟩:=hrel;clear H1 H0 HB;by_cases hlt2:r<p
    ·have hc1:=hr1.cell (i:=r) zv
     have hc2:=hr1.cell (i:=p+r) zv;have hf2:=hr1.frozen (p+r);rw[jib zv]at hc1;have H1:=zh hr1;clear hr1;have H0:=zh hr0;clear hr0;have HB:=zh hb;clear hb;go_wp2_with fail;refine⟨⟨r+1,zv,rfl,jtn H1.o (eff_val HP.o hlt hlt2),H0.o.setOther (by simp) _,HB.o.setCell (by simp) _⟩,by simp[intOf];omega⟩
    ·obtain rfl:r=p:=by omega
     have H1:=zh hr1;clear hr1;have H0:=zh hr0;clear hr0;have HB:=zh hb;clear hb;go_wp2_with fail;refine⟨⟨r*2,zv,by go_num,HP.o.twice hlt,by rw[Nat.mul_two];exact H1.o,H0.o,HB.o⟩,by simp[intOf];omega⟩
  ·obtain rfl:p=256:=by omega
   obtain⟨c,hc,he⟩:=jto H1.o;obtain⟨z,hz,hzs,_⟩:=H0.o;have hcs:(Tryz.prog.info? 276).map (·.size)=some c.size:=by rw[he.1];kernel_rfl
   have hu:Tryz.prog.underlying 276=some (.array 256 215):=by kernel_rfl
   have HC:=zh hc;clear hc;have HZ:=zh hz;clear hz;have HS:=zh hzs;clear hzs;have HE:=zh he;clear he;have HI:=zh hcs;clear hcs;have HU:=zh hu;clear hu;clear hlt hp hp1
   go_wp2_with(first
    |(refine wpList_load_row rfl 276 (.tmp 1) rfl (w.heap.size+1) rfl 276 c (0,0) _ HC.o HU.o rfl HI.o ?_)
    |(refine wpList_store_row rfl 276 (.tmp 0) (.tmp 26) rfl w.heap.size c rfl rfl 276 z HZ.o HI.o (HS.o.trans HE.o.1.symm) HE.o.one ?_))
   exact bodyPost_ret (results_cell_row rfl _ _ w.heap.size 276 c (0,0) _ rfl (setRow_heap wr _ z c 276 _ HZ.o) HU.o rfl HI.o) rfl ⟨c,rfl,HE.o,below_setRow HB.o zl c⟩
