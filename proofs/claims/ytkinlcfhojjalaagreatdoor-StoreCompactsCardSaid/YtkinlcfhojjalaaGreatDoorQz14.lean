import Derived.Test.YtkinlcfhojjalaaGreatDoorQz13
import Derived.Lib.Atoi
import Derived.Lib.ItoaNum
import Derived.Lib.Split
import Derived.Lib.Join
import Derived.Lib.Strings
import Derived.Laws.Tables
set_option maxHeartbeats 6400000
set_option maxRecDepth 100000
set_option linter.all false
namespace Go.Proofs.YtkinlcfhojjalaaGreatDoor
open Go.RowKit Go.Maps Go.WideMaps
def kl(k:ByteArray):Lit:= .string k.data.toList
def eD(v:ByteArray)(r:Int):DataW Unit:= .agg [.lit (.string v.data.toList),.lit (.int .i64 r)]
def eR:Value->Option (DataW Unit×List MemPlace)
 | .agg ⟨[.string s,.int .i64 r]⟩=>some (eD s r,[])
 |_=>none
theorem jqj(v:ByteArray)(r:Int):eR (.agg #[.string v,.int .i64 r])=some (eD v r,[]):=rfl
theorem jqk{v:Value}{z:DataW Unit×List MemPlace}(h:eR v=some z):∃s r,v= .agg #[.string s,.int .i64 r]/\z=(eD s r,[]):=by
 unfold eR at h;split at h
 ·rename_i s r
  exact⟨s,r,rfl,(Option.some.inj h).symm⟩
 ·cases h
theorem jgv{a b:ByteArray}(h:kl a=kl b):a=b:=by
 unfold kl at h;injection h with h
 exact ByteArray.ext (Array.ext' h)
theorem jql{v v':ByteArray}{r r':Int}(h:eD v r=eD v' r'):v=v'/\r=r':=by
 unfold eD at h;injection h with h
 simp only[List.cons.injEq,and_true]at h;obtain⟨h1,h2⟩:=h;injection h1 with h1
 injection h2 with h2
 injection h2 with _ h2
 exact⟨jgv h1,h2⟩
theorem jdu(k:ByteArray):WideAt.IsKeyLit (kl k):=trivial
structure DIs(D:DataW Unit)(l:List Kv.En):Prop where
 has:∀k:ByteArray,Maps.has D (kl k)=(Kv.find l k).isSome
 at_:∀(k:ByteArray) (e:Kv.En),Kv.find l k=some e->∀z,D.atKey (kl k) z=eD e.val e.rev
 size:Maps.size D=l.length
 tidy:Tidy D
theorem DIs.look{D:DataW Unit}{l:List Kv.En}(h:DIs D l)(k:ByteArray):D.atKey (kl k) (eD ⟨#[]⟩ 0)=eD (Kv.valOf l k) (Kv.revOf l k):=by
 unfold Kv.valOf Kv.revOf
 cases hf:Kv.find l k with
 |none=>
  have:=h.has k;rw[hf]at this;exact Maps.atKey_of_not_has this _
 |some e=>exact h.at_ k e hf _
theorem DIs.nil:DIs (.map []) []:=⟨fun _=>rfl,fun k e h=>(by cases h),rfl,tidy_empty⟩
theorem dropK_length{l:List Kv.En}(h:Kv.Rise l)(k:ByteArray):(Kv.dropK l k).length+(if(Kv.find l k).isSome then 1 else 0)=l.length:=by
 induction l with
 |nil=>rfl
 |cons e l ih=>
  have hr:=List.pairwise_cons.1 h;rw[Kv.dropK_cons,Kv.find_cons];by_cases hk:e.key=k
  ·have:Kv.find l k=none:=Kv.find_none.2 fun x hx hxk=>Kv.lt_ne (hr.1 x hx) (hk.trans hxk.symm)
   exact zz2t
  ·exact zz2m
theorem DIs.del{D:DataW Unit}{l:List Kv.En}(h:DIs D l)(hr:Kv.Rise l)(k:ByteArray):DIs (D.del (kl k)) (Kv.dropK l k):=by
 refine⟨fun k'=> ?_,fun k' e he z=> ?_,?_,h.tidy.del _⟩
 ·rw[Kv.find_dropK]
  by_cases hk:k'=k
  ·subst hk;rw[if_pos rfl];exact has_del_same
  ·rw[if_neg hk,has_del_other (fun e=>hk (jgv e))];exact h.has k'
 ·rw[Kv.find_dropK]at he
  by_cases hk:k'=k
  ·rw[if_pos hk]at he;cases he
  ·rw[if_neg hk]at he
   rw[atKey_del_other (fun e=>hk (jgv e))];exact h.at_ k' e he z
 ·have h1:=size_del (k:=kl k) h.tidy
  have h2:=dropK_length hr k;rw[h.has k,h.size]at h1;omega
theorem DIs.put{D:DataW Unit}{l:List Kv.En}(h:DIs D l)(hr:Kv.Rise l)(k v:ByteArray)(r:Int):DIs (D.put (kl k) (eD v r)) (Kv.putK (Kv.dropK l k) ⟨k,v,r⟩):=by
 have hne:∀x∈Kv.dropK l k,x.key≠(⟨k,v,r⟩:Kv.En).key:=fun x hx=>(Kv.mem_dropK.1 hx).2;refine⟨fun k'=> ?_,fun k' e he z=> ?_,?_,h.tidy.put (jdu k) _⟩
 ·rw[Kv.find_putK hne,Kv.find_dropK]
  by_cases hk:k=k'
  ·subst hk;rw[if_pos rfl];exact has_put_same h.tidy.isMap (jdu k) _
  ·rw[if_neg hk,if_neg (fun e=>hk e.symm),has_put_other (fun e=>hk (jgv e).symm)];exact h.has k'
 ·rw[Kv.find_putK hne,Kv.find_dropK]at he
  by_cases hk:k=k'
  ·subst hk
   rw[if_pos rfl]at he;obtain rfl:=Option.some.inj he;exact atKey_put_same h.tidy.isMap (jdu k) _ _
  ·rw[if_neg hk,if_neg (fun e=>hk e.symm)]at he
   rw[atKey_put_other (fun e=>hk (jgv e).symm)];exact h.at_ k' e he z
 ·have h1:=size_put (k:=kl k) h.tidy (eD v r)
  have h2:=dropK_length hr k;rw[h.has k,h.size]at h1;rw[h1,Kv.putK_length];split at h2<;>simp_all<;>omega
def jbv(P:Program)(kt:TypeId)(w:World)(b:Nat)(l:List Kv.En):Prop:=∃D,w.ownsMap P kt eR b l.length D/\DIs D l
section
variable{P:Program}{kt et t:TypeId}{w w':World}{b:Nat}{l:List Kv.En}
theorem owns_tight{n:Nat}{D:DataW Unit}(h:w.ownsMap P kt eR b n D):w.ownsMap P kt eR b (Maps.size D) D:=by
 exact zz2a
theorem jbv.of{n:Nat}{D:DataW Unit}(h:w.ownsMap P kt eR b n D)(hd:DIs D l):jbv P kt w b l:=⟨D,by rw[<-hd.size];exact owns_tight h,hd⟩
theorem jbv.made(w:World):jbv P kt (w.alloc (.map #[] 0)) w.heap.size []:=⟨_,World.ownsMap_made w P kt eR,DIs.nil⟩
theorem jbv.lt(h:jbv P kt w b l):b<w.heap.size:=by
 obtain⟨D,h1,_⟩:=h;exact h1.lt
theorem jbv.keep(h:jbv P kt w b l)(hb:w'.heap[b]? =w.heap[b]?):jbv P kt w' b l:=by
 exact zz2j
theorem jur(hk:P.underlying kt=some .string)(ht:P.underlying t=some (.map kt et))(hz:(zeroValue et).run P w= .ok (.agg #[.string ⟨#[]⟩,zi]) w)(h:jbv P kt w b l)(k:ByteArray)(hs:k.size<=maxLen):
  (Instr.lookup t (.map (some b)) (.string k) false).run P w= .ok (.agg #[.string (Kv.valOf l k),.int .i64 (Kv.revOf l k)]) w:=by
 obtain⟨D,h1,hd⟩:=h;obtain⟨v,ps,hrun,hv⟩:=h1.lookup (string_keyed hk) ht hz (jqj ⟨#[]⟩ 0) (keyOf_string_mk hk hs);obtain⟨s,r,rfl,_⟩:=jqk hv;have h2:=hd.look k;obtain⟨e1,e2⟩:=jql ((show D.atKey (kl k) (eD ⟨#[]⟩ 0)=eD s r by have:=jqj s r;exact Option.some.inj (hv.symm.trans this)|>congrArg Prod.fst).symm.trans h2);subst e1 e2;exact hrun
theorem jli(hk:P.underlying kt=some .string)(ht:P.underlying t=some (.map kt et))(hz:(zeroValue et).run P w= .ok (.agg #[.string ⟨#[]⟩,zi]) w)(h:jbv P kt w b l)(k:ByteArray)(hs:k.size<=maxLen):
  (Instr.lookup t (.map (some b)) (.string k) true).run P w= .ok (.tuple #[.agg #[.string (Kv.valOf l k),.int .i64 (Kv.revOf l k)],.bool (Kv.find l k).isSome]) w:=by
 obtain⟨D,h1,hd⟩:=h;obtain⟨v,ps,hrun,hv⟩:=h1.look_ok (string_keyed hk) ht hz (jqj ⟨#[]⟩ 0) (keyOf_string_mk hk hs);obtain⟨s,r,rfl,_⟩:=jqk hv;have h2:=hd.look k;obtain⟨e1,e2⟩:=jql ((show D.atKey (kl k) (eD ⟨#[]⟩ 0)=eD s r by have:=jqj s r;exact Option.some.inj (hv.symm.trans this)|>congrArg Prod.fst).symm.trans h2);subst e1 e2;have h3:Maps.has D (.string k.data.toList)=(Kv.find l k).isSome:=hd.has k;rw[h3]at hrun;exact hrun
theorem put_run(hk:P.underlying kt=some .string)(ht:P.underlying t=some (.map kt et))(h:jbv P kt w b l)(hr:Kv.Rise l)(hl:l.length<=1000000)(k u:ByteArray)(r:Int)(hs:k.size<=maxLen):
  ∃w',(Instr.mapUpdate t (.map (some b)) (.string k) (.agg #[.string u,.int .i64 r])).run P w= .ok () w'/\jbv P kt w' b (Kv.putK (Kv.dropK l k) ⟨k,u,r⟩)/\w.mapTurned w' b:=by
 obtain⟨D,h1,hd⟩:=h;obtain⟨w',hrun,h2,h3⟩:=h1.store (string_keyed hk) ht (by unfold maxLen;omega) (keyOf_string_mk hk hs) (jqj u r);exact⟨w',hrun,jbv.of h2 (hd.put hr k u r),h3⟩
theorem jus(hk:P.underlying kt=some .string)(ht:P.underlying t=some (.map kt et))(h:jbv P kt w b l)(hr:Kv.Rise l)(k:ByteArray)(hs:k.size<=maxLen)(ty:TypeId):
  ∃w',(Builtin.delete_ #[t,kt] ty #[.map (some b),.string k]).run P w= .ok (.tuple #[]) w'/\jbv P kt w' b (Kv.dropK l k)/\w.mapTurned w' b:=by
 obtain⟨D,h1,hd⟩:=h;obtain⟨w',hrun,h2,h3⟩:=h1.drop (string_keyed hk) ht (keyOf_string_mk hk hs) ty;exact⟨w',hrun,jbv.of h2 (hd.del hr k),h3⟩
theorem len_run(ht:P.underlying t=some (.map kt et))(h:jbv P kt w b l)(ty:TypeId):(Builtin.len_ #[t] ty #[.map (some b)]).run P w= .ok (.int .i64 (l.length:Nat)) w:=by
 obtain⟨D,h1,hd⟩:=h;rw[<-hd.size];exact h1.len ht ty
variable{ops:Array Oper}{rest:List Oper}{o:Oper}{a:Act}{Q:Exit->Act->World->Prop}
end
open Go.RowKit Go.Deep
abbrev jnz(x:Int):Prop:= -9223372036854775808<=x/\x<=9223372036854775807
def EPo(_:World)(cs:List Value)(o:Kv.Po):Prop:=cs=[.string o.key,.string o.val,.int .i64 o.rev,.bool o.drop]/\o.key.size<=maxLen/\o.val.size<=maxLen/\jnz o.rev
def ETx(_:World)(cs:List Value)(s:ByteArray):Prop:=cs=[.string s]
abbrev SlP(w:World)(A:Option Addr)(n c:Nat)(l:List Kv.Po):Prop:=SlR 4 EPo w A n c l
theorem ETx.on:∀w w' cs t,zF w w'->ETx w cs t->ETx w' cs t:=fun _ _ _ _ _ h=>h
theorem jmx:(Tryz.prog.info? 236).map (fun i=>(i.zero,i.size,i.bytes))=some (some (.agg #[.string ⟨#[]⟩,.string ⟨#[]⟩,zi,.bool false]),4,48):=by kernel_rfl
theorem tx_info:(Tryz.prog.info? 9).map (fun i=>(i.zero,i.size,i.bytes))=some (some (.string ⟨#[]⟩),1,16):=by kernel_rfl
abbrev jlj(w:World)(B:Nat)(v:Value)(l:List ByteArray):Prop:=OwnR 1 ETx 9 w w B v l
theorem jlj.any{w0 w1 w:World}{e:TypeId}{B:Nat}{v:Value}{l:List ByteArray}(h:OwnR 1 ETx e w0 w B v l):OwnR 1 ETx e w1 w B v l:=h
theorem OwnR.lower{T:Type}{K:Nat}{E:World->List Value->T->Prop}{e:TypeId}{w0 w:World}{B B':Nat}{v:Value}{ts:List T}(h:OwnR K E e w0 w B v ts)(hB:B'<=B):OwnR K E e w0 w B' v ts:=by
 obtain⟨xs,h1,h2⟩:=h;exact⟨xs,jcj h1 hB,h2⟩
def KTx(l:List ByteArray)(w:World)(e:Ending)(w':World):Prop:=∃v,e= .returned v/\jlj w' w.heap.size v l/\zF w w'
def KInt(x:Int)(w:World)(e:Ending)(w':World):Prop:=e= .returned (.int .i64 x)/\zF w w'
def KBool(p:Prop)(w:World)(e:Ending)(w':World):Prop:=(∃x:Bool,e= .returned (.bool x)/\(x=true↔p))/\zF w w'
def KGet(s:Kv.St)(k:ByteArray)(w:World)(e:Ending)(w':World):Prop:=e= .returned (.tuple #[.string (Kv.valOf s.l k),.int .i64 (Kv.revOf s.l k)])/\zF w w'
theorem SlR.cell{T:Type}{K:Nat}{E:World->List Value->T->Prop}{w:World}{b o n c:Nat}{ts:List T}(h:SlR K E w (some ⟨b,o,none⟩) n c ts){j:Nat}(hj:j<ts.length):
  b<w.heap.size/\∃cs,cs.length=K/\(∀i,i<K->w.cell? ⟨b,o+j*K+i,none⟩=cs[i]?)/\E w cs ts[j]:=by
 obtain⟨b',o',cs,e,h1,h2,h3,h4⟩:=h.rd j ts[j] (List.getElem?_eq_getElem hj);injection e with e;injection e with e1 e2;subst e1 e2
 exact⟨h1,cs,h2,h3,h4⟩
theorem SlR.addr{T:Type}{K:Nat}{E:World->List Value->T->Prop}{w:World}{A:Option Addr}{n c:Nat}{ts:List T}(h:SlR K E w A n c ts)(hj:0<ts.length):∃b o,A=some ⟨b,o,none⟩:=by
 obtain⟨b,o,cs,e,_⟩:=h.rd 0 ts[0] (List.getElem?_eq_getElem hj);exact⟨b,o,e⟩
theorem jfy{w:World}{ops:Array Oper}{rest:List Oper}{op:Oper}{a:Act}{Q:Exit->Act->World->Prop}(hgd:op.guard=none)(s x:Operand)
  (ho:op.op= .call {callee:= .builtin .append,args:=#[s,x],argTypes:=#[98,98]})
  (base:Nat) (v:Value) (ts:List ByteArray) (hs:a.eval s=v) (hown:OwnR 1 ETx 9 w w base v ts) (t:ByteArray) (hx:a.eval x= .slice (some ⟨w.heap.size,0,none⟩) 1 1)
  (hlen:ts.length<=1000000) (hB:base<=w.heap.size)
  (h:∀v' w',OwnR 1 ETx 9 w' w' base v' (ts++[t])->Below base w w'->w.grownBy w' v.ownBlock->wpList Tryz.prog ops Q rest (a.put op.dst v') w'):wpList Tryz.prog ops Q (op::rest) a (w.alloc (.cells #[.string t] 9)):=by
 obtain⟨i0,hi0,hz0,hz1,hz2⟩:=info_parts tx_info;exact jew (K:=1) (E:=ETx) (w0:=w) Tryz.underlying98 hi0 hz0 hz1 hz2 rfl (by decide) hgd s x ho base v ts hs hown [.string t] t rfl (by intro u hu;simp at hu;rcases hu with rfl<;>rfl) rfl hx (by unfold maxLen;omega) zv hB fun v' w' h1 h2 h3=>h v' w' h1 h2 h3
theorem SlR.po{w:World}{b o n c:Nat}{l:List Kv.Po}(h:SlP w (some ⟨b,o,none⟩) n c l){j:Nat}{x:Kv.Po}(hx:l[j]? =some x){w':World}(hb:zF w w'):
  w'.cell? ⟨b,o+j*4,none⟩=some (.string x.key)/\w'.cell? ⟨b,o+j*4+1,none⟩=some (.string x.val)/\w'.cell? ⟨b,o+j*4+2,none⟩=some (.int .i64 x.rev)/\w'.cell? ⟨b,o+j*4+3,none⟩=some (.bool x.drop):=by
 obtain⟨hj,rfl⟩:=List.getElem?_eq_some_iff.1 hx;obtain⟨hl,cs,_,hc,he⟩:=h.cell hj;unfold EPo at he;rw[he.1]at hc;exact⟨(hb.cell (p:=⟨b,o+j*4,none⟩) hl).trans (hc 0 zv),(hb.cell (p:=⟨b,o+j*4+1,none⟩) hl).trans (hc 1 zv),(hb.cell (p:=⟨b,o+j*4+2,none⟩) hl).trans (hc 2 zv),(hb.cell (p:=⟨b,o+j*4+3,none⟩) hl).trans (hc 3 zv)⟩
theorem SlR.poOk{w:World}{A:Option Addr}{n c:Nat}{l:List Kv.Po}(h:SlP w A n c l){x:Kv.Po}(hx:x∈l):x.key.size<=maxLen/\x.val.size<=maxLen/\jnz x.rev:=by
 obtain⟨j,hj⟩:=List.getElem?_of_mem hx;obtain⟨_,_,_,_,_,_,_,h5⟩:=h.rd j x hj;exact h5.2
namespace Kv
theorem step_length(r:Int)(l:List En)(o:Po):(step r l o).length<=l.length+1:=by
 have h1:(dropK l o.key).length<=l.length:=List.length_filter_le ..;unfold step;split
 ·omega
 ·rw[putK_length];omega
theorem steps_length(r:Int)(ops:List Po)(l:List En):(ops.foldl (step r) l).length<=l.length+ops.length:=by
 induction ops generalizing l with
 |nil=>simp
 |cons o ops ih=>
  have h1:=ih (step r l o);have h2:=step_length r l o;rw[List.foldl_cons,List.length_cons];omega
theorem steps_snoc(r:Int){ops:List Po}{j:Nat}{o:Po}(h:ops[j]? =some o)(l:List En):(ops.take (j+1)).foldl (step r) l=step r ((ops.take j).foldl (step r) l) o:=by
 rw[List.take_add_one,h,List.foldl_append];rfl
end Kv
open Go.Maps Go.WideMaps
theorem jdv(w:World):(zeroValue 224).run Tryz.prog w= .ok (.agg #[.string ⟨#[]⟩,zi]) w:=by kernel_rfl
def MapO(w:World)(mo:Option Nat)(l:List Kv.En):Prop:=
 match mo with
 |none=>l=[]
 |some m=>jbv Tryz.prog 9 w m l
theorem MapO.look{w:World}{mo:Option Nat}{l:List Kv.En}(h:MapO w mo l)(k:ByteArray)(hs:k.size<=maxLen):
  (Instr.lookup 79 (.map mo) (.string k) false).run Tryz.prog w= .ok (.agg #[.string (Kv.valOf l k),.int .i64 (Kv.revOf l k)]) w:=by
 cases mo with
 |some m=>exact jur Tryz.underlying9 Tryz.underlying79 (jdv w) h k hs
 |none=>
  obtain rfl:l=[]:=h;exact Maps.look_nil false (string_keyed Tryz.underlying9) Tryz.underlying79 (jdv w) (keyOf_string_mk Tryz.underlying9 hs)
theorem MapO.look_ok{w:World}{mo:Option Nat}{l:List Kv.En}(h:MapO w mo l)(k:ByteArray)(hs:k.size<=maxLen):
  (Instr.lookup 79 (.map mo) (.string k) true).run Tryz.prog w= .ok (.tuple #[.agg #[.string (Kv.valOf l k),.int .i64 (Kv.revOf l k)],.bool (Kv.find l k).isSome]) w:=by
 cases mo with
 |some m=>exact jli Tryz.underlying9 Tryz.underlying79 (jdv w) h k hs
 |none=>
  obtain rfl:l=[]:=h;exact Maps.look_nil true (string_keyed Tryz.underlying9) Tryz.underlying79 (jdv w) (keyOf_string_mk Tryz.underlying9 hs)
theorem MapO.len{w:World}{mo:Option Nat}{l:List Kv.En}(h:MapO w mo l)(ty:TypeId):
  (Builtin.len_ #[79] ty #[.map mo]).run Tryz.prog w= .ok (.int .i64 (l.length:Nat)) w:=by
 cases mo with
 |some m=>exact len_run Tryz.underlying79 h ty
 |none=>
  obtain rfl:l=[]:=h;exact Maps.len_nil Tryz.underlying79 ty
theorem MapO.keep{w w':World}{mo:Option Nat}{l:List Kv.En}(h:MapO w mo l)(hk:∀m,mo=some m->w'.heap[m]? =w.heap[m]?):MapO w' mo l:=by
 cases mo with
 |some m=>exact jbv.keep h (hk m rfl)
 |none=>exact h
theorem MapO.lt{w:World}{m:Nat}{l:List Kv.En}(h:MapO w (some m) l):m<w.heap.size:=jbv.lt (P:=Tryz.prog) (kt:=9) (l:=l) h
theorem MapO.on{w w':World}{mo:Option Nat}{l:List Kv.En}(h:MapO w mo l)(hb:zF w w'):MapO w' mo l:=
 h.keep fun m e=>by subst e;exact hb.block m h.lt
theorem jgw{cs:Array Value}{k:Nat}{v:Value}(h:cs[k]? =some v):cs.setIfInBounds k v=cs:=by
 exact zz1e
theorem jlk{cs:Array Value}{k:Nat}{v u:Value}(h:cs[k]? =some v):(cs.setIfInBounds k u)[k]? =some u:=by
 rw[Array.getElem?_setIfInBounds_self,if_pos];exact(zg h).1
theorem jip{cs:Array Value}{k i:Nat}{v u:Value}(h:cs[i]? =some v)(hk:k≠i):(cs.setIfInBounds k u)[i]? =some v:=by
 rw[Array.getElem?_setIfInBounds_ne hk];exact h
def jn0(cs:Array Value):Prop:=∀(i:Nat) (t:ByteArray),cs[i]?≠some (Value.string t)
theorem jn0.set{cs:Array Value}(h:jn0 cs)(k:Nat){u:Value}(hu:∀t,u≠ .string t):jn0 (cs.setIfInBounds k u):=by
 intro i t;rw[Array.getElem?_setIfInBounds];split
 ·split
  ·intro e;exact hu t (Option.some.inj e)
  ·intro e;cases e
 ·exact h i t
structure KvIs(w:World)(q oq:Nat)(cs:Array Value)(ty:TypeId)(mo:Option Nat)(s:Kv.St):Prop where
 row:w.heap[q]? =some (.cells cs ty (0,0))
 k0:cs[oq]? =some (.int .i64 s.rev)
 k1:cs[oq+1]? =some (.map mo)
 nos:jn0 cs
 map:MapO w mo s.l
 good:Kv.Good s
theorem KvIs.ne{w:World}{q oq m:Nat}{cs:Array Value}{ty:TypeId}{s:Kv.St}(h:KvIs w q oq cs ty (some m) s):q≠m:=fun e=>by
 obtain⟨D,⟨es,clock,hb,_⟩,_⟩:=show jbv Tryz.prog 9 w m s.l from h.map
 have:=h.row;rw[e,hb]at this;injection this with this
 cases this
theorem KvIs.cells{w:World}{q oq:Nat}{cs:Array Value}{ty:TypeId}{mo:Option Nat}{s:Kv.St}(h:KvIs w q oq cs ty mo s):w.cell? ⟨q,oq,none⟩=some (.int .i64 s.rev)/\w.cell? ⟨q,oq+1,none⟩=some (.map mo)/\w.frozen? ⟨q,oq,none⟩=false/\q<w.heap.size:=
 ⟨by rw[cell_of_row w q oq _ _ _ h.row];exact h.k0,by rw[cell_of_row w q (oq+1) _ _ _ h.row];exact h.k1,frozen_of_row _ _ _ _ _ h.row,(zg h.row).1⟩
theorem KvIs.on{w w':World}{q oq:Nat}{cs:Array Value}{ty:TypeId}{mo:Option Nat}{s:Kv.St}(h:KvIs w q oq cs ty mo s)(hb:zF w w'):KvIs w' q oq cs ty mo s:=⟨(hb.block q h.cells.2.2.2).trans h.row,h.k0,h.k1,h.nos,h.map.on hb,h.good⟩
def EAt(w:World)(p:Value)(mo:Option Nat)(s:Kv.St):Prop:=(p= .pointer none/\mo=none/\s=Kv.St.none)\/∃q oq cs ty,p= .pointer (some ⟨q,oq,none⟩)/\KvIs w q oq cs ty mo s
theorem KvIs.ask{w:World}{q oq:Nat}{cs:Array Value}{ty:TypeId}{mo:Option Nat}{s:Kv.St}(h:KvIs w q oq cs ty mo s):EAt w (.pointer (some ⟨q,oq,none⟩)) mo s:= .inr ⟨q,oq,cs,ty,rfl,h⟩
theorem EAt.on{w w':World}{p:Value}{mo:Option Nat}{s:Kv.St}(h:EAt w p mo s)(hb:zF w w'):EAt w' p mo s:=by
 rcases h with h|⟨q,oq,cs,ty,h1,h2⟩
 ·exact .inl h
 ·exact .inr ⟨q,oq,cs,ty,h1,h2.on hb⟩
theorem EAt.map{w:World}{p:Value}{mo:Option Nat}{s:Kv.St}(h:EAt w p mo s):MapO w mo s.l:=by
 rcases h with⟨_,rfl,rfl⟩|⟨q,oq,cs,ty,h1,h2⟩
 ·rfl
 ·exact h2.map
theorem EAt.good{w:World}{p:Value}{mo:Option Nat}{s:Kv.St}(h:EAt w p mo s):Kv.Good s:=by
 rcases h with⟨_,rfl,rfl⟩|⟨q,oq,cs,ty,h1,h2⟩
 ·exact Kv.Good.none_
 ·exact h2.good
theorem jbw(W:World)(p:Value)(mo:Option Nat)(s:Kv.St)(h:EAt W p mo s):Calls Tryz.prog 170 #[p] W (fun e w'=>e= .returned (.map mo)/\w'=W):=by
 rcases h with⟨rfl,rfl,rfl⟩|⟨q,oq,cs,ty,rfl,h2⟩
 ·go_in
  go_wp2;go_ret;exact⟨rfl,rfl⟩
 ·obtain⟨c0,c1,f0,hq⟩:=h2.cells
  clear h2;go_in;go_wp2;go_ret;exact⟨rfl,rfl⟩
theorem jjx(W:World)(p:Value)(mo:Option Nat)(s:Kv.St)(h:EAt W p mo s)(k:ByteArray)(hk:k.size<=maxLen):
  Calls Tryz.prog 284 #[p,.string k] W (fun e w'=>e= .returned (.bool (Kv.find s.l k).isSome)/\zF W w'):=by
 have C:=zh (jbw W p mo s h);have hlk:=h.map.look_ok k hk;generalize hv:Kv.valOf s.l k=v at hlk;generalize hr:Kv.revOf s.l k=r at hlk;generalize(Kv.find s.l k).isSome=b at hlk⊢;have B2:=zh ((Below.refl W.heap.size W).alloc zl (.cells #[.string v,.int .i64 r] 224));clear h hv hr;go_in;go_wp2_with(go_at_call 170;refine C.o.mono ?_;rintro e w1 ⟨rfl,rfl⟩);go_ret;exact⟨rfl,B2.o⟩
theorem jjy(W:World)(p:Value)(mo:Option Nat)(s:Kv.St)(h:EAt W p mo s):Calls Tryz.prog 178 #[p] W (fun e w'=>e= .returned (.int .i64 (s.l.length:Nat))/\w'=W):=by
 have C:=zh (jbw W p mo s h);have hln:=fun ty=>h.map.len ty;clear h;go_in;go_wp2_with(go_at_call 170;refine C.o.mono ?_;rintro e w1 ⟨rfl,rfl⟩);go_ret;exact⟨rfl,rfl⟩
theorem jut(W:World)(p:Value)(mo:Option Nat)(k v:ByteArray)(r:Int)(C:Calls Tryz.prog 170 #[p] W (fun e w'=>e= .returned (.map mo)/\w'=W))
  (hlk:(Instr.lookup 79 (.map mo) (.string k) false).run Tryz.prog W= .ok (.agg #[.string v,.int .i64 r]) W):
  Calls Tryz.prog 109 #[p,.string k] W (fun e w'=>e= .returned (.tuple #[.string v,.int .i64 r])/\zF W w'):=by
 have C:=zh C;have B2:=zh ((Below.refl W.heap.size W).alloc zl (.cells #[.string v,.int .i64 r] 224));go_in;go_upto_region 2 with(go_at_call 170;refine C.o.mono ?_;rintro e w1 ⟨rfl,rfl⟩)
 go_region;go_wp2_with fail;exact bodyPost_ret (v:= .tuple #[.string v,.int .i64 r]) (by simp[results,Tryz.results109,go_sem]) rfl ⟨rfl,B2.o.drew⟩
theorem jgx(W:World)(p:Value)(mo:Option Nat)(s:Kv.St)(h:EAt W p mo s)(k:ByteArray)(hk:k.size<=maxLen):Calls Tryz.prog 109 #[p,.string k] W (KGet s k W):=
 jut W p mo k _ _ (jbw W p mo s h) (h.map.look k hk)
theorem jqm(W:World):Calls Tryz.prog 203 #[] W (fun e w'=>e= .returned (.pointer (some ⟨W.heap.size,0,none⟩))/\KvIs w' W.heap.size 0 #[zi,.map none] 81 none Kv.St.none/\zF W w'):=by
 have B1:=zh ((Below.refl W.heap.size W).alloc zl (.cells #[zi,.map none] 81));have R1:=zh (heap_alloc_new W (.cells #[zi,.map none] 81));go_in;go_wp2;go_ret;refine⟨rfl,⟨R1.o,rfl,rfl,fun i t=> ?_,rfl,Kv.Good.none_⟩,B1.o⟩;rcases i with _|_|i
 ·exact fun e=>(by cases e)
 ·exact fun e=>(by cases e)
 ·simp
open Go.RowKit
namespace Bd
def cells(s:Bk.St)(ru:Nat->Bk.Un)(rv:Int)(lm km H:Value):Array Value:=#[.int .i64 s.m,lm,.int .i64 rv,km,.int .i64 s.ep,.int .i64 s.who,.int .i64 s.till,.int .i64 s.stable,.int .i64 s.from_,.int .i64 s.ph,.int .i64 s.step,.int .i64 s.since,.int .i64 s.begun,.int .i64 s.seq,.int .i64 s.sp.v,.int .i64 s.sp.d,.int .i64 s.sp.u,.int .i64 s.sp.n,.int .i64 s.sp.g,.int .i64 s.sp.a,.int .i64 s.sp.b,.int .i64 s.sp.c,.int .i64 s.sp.e,.int .i64 s.sp.w,.int .i64 s.sp.x,.int .i64 s.sp.k,.int .i64 (ru 0).v,.int .i64 (ru 0).q,.bool (ru 0).d,.int .i64 (ru 1).v,.int .i64 (ru 1).q,.bool (ru 1).d,.int .i64 (ru 2).v,.int .i64 (ru 2).q,.bool (ru 2).d,.int .i64 (ru 3).v,.int .i64 (ru 3).q,.bool (ru 3).d,.int .i64 (ru 4).v,.int .i64 (ru 4).q,.bool (ru 4).d,.int .i64 (ru 5).v,.int .i64 (ru 5).q,.bool (ru 5).d,.int .i64 (ru 6).v,.int .i64 (ru 6).q,.bool (ru 6).d,.int .i64 (ru 7).v,.int .i64 (ru 7).q,.bool (ru 7).d,.int .i64 (ru 8).v,.int .i64 (ru 8).q,.bool (ru 8).d,.int .i64 (ru 9).v,.int .i64 (ru 9).q,.bool (ru 9).d,.int .i64 (ru 10).v,.int .i64 (ru 10).q,.bool (ru 10).d,.int .i64 (ru 11).v,.int .i64 (ru 11).q,.bool (ru 11).d,.int .i64 (ru 12).v,.int .i64 (ru 12).q,.bool (ru 12).d,.int .i64 (ru 13).v,.int .i64 (ru 13).q,.bool (ru 13).d,.int .i64 (ru 14).v,.int .i64 (ru 14).q,.bool (ru 14).d,.int .i64 (ru 15).v,.int .i64 (ru 15).q,.bool (ru 15).d,H]
def zeros:Array Value:=#[zi,.map none,zi,.map none,zi,zi,zi,zi,zi,zi,zi,zi,zi,zi,zi,zi,zi,zi,zi,zi,zi,zi,zi,zi,zi,zi,zi,zi,.bool false,zi,zi,.bool false,zi,zi,.bool false,zi,zi,.bool false,zi,zi,.bool false,zi,zi,.bool false,zi,zi,.bool false,zi,zi,.bool false,zi,zi,.bool false,zi,zi,.bool false,zi,zi,.bool false,zi,zi,.bool false,zi,zi,.bool false,zi,zi,.bool false,zi,zi,.bool false,zi,zi,.bool false,.slice none 0 0]
end Bd
structure BdAt(w:World)(g:Nat)(s:Bk.St)(ru:Nat->Bk.Un)(rv:Int)(lm km H:Value):Prop where
 row:w.heap[g]? =some (.cells (Bd.cells s ru rv lm km H) 83 (0,0))
section
variable{w w':World}{g:Nat}{s:Bk.St}{ru:Nat->Bk.Un}{rv:Int}{lm km H:Value}
theorem BdAt.on(h:BdAt w g s ru rv lm km H)(hb:zF w w'):BdAt w' g s ru rv lm km H:=⟨(hb.block g (zg h.row).1).trans h.row⟩
theorem BdAt.lt(h:BdAt w g s ru rv lm km H):g<w.heap.size:=(zg h.row).1
theorem BdAt.keep(h:BdAt w g s ru rv lm km H)(hk:w'.heap[g]? =w.heap[g]?):BdAt w' g s ru rv lm km H:=⟨hk.trans h.row⟩
structure BdCs(w:World)(g:Nat)(s:Bk.St)(ru:Nat->Bk.Un)(rv:Int)(lm km H:Value):Prop where
 c0:w.cell? ⟨g,0,none⟩=some (.int .i64 s.m)
 c1:w.cell? ⟨g,1,none⟩=some (lm)
 c2:w.cell? ⟨g,2,none⟩=some (.int .i64 rv)
 c3:w.cell? ⟨g,3,none⟩=some (km)
 c4:w.cell? ⟨g,4,none⟩=some (.int .i64 s.ep)
 c5:w.cell? ⟨g,5,none⟩=some (.int .i64 s.who)
 c6:w.cell? ⟨g,6,none⟩=some (.int .i64 s.till)
 c7:w.cell? ⟨g,7,none⟩=some (.int .i64 s.stable)
 c8:w.cell? ⟨g,8,none⟩=some (.int .i64 s.from_)
 c9:w.cell? ⟨g,9,none⟩=some (.int .i64 s.ph)
 c10:w.cell? ⟨g,10,none⟩=some (.int .i64 s.step)
 c11:w.cell? ⟨g,11,none⟩=some (.int .i64 s.since)
 c12:w.cell? ⟨g,12,none⟩=some (.int .i64 s.begun)
 c13:w.cell? ⟨g,13,none⟩=some (.int .i64 s.seq)
 c14:w.cell? ⟨g,14,none⟩=some (.int .i64 s.sp.v)
 c15:w.cell? ⟨g,15,none⟩=some (.int .i64 s.sp.d)
 c16:w.cell? ⟨g,16,none⟩=some (.int .i64 s.sp.u)
 c17:w.cell? ⟨g,17,none⟩=some (.int .i64 s.sp.n)
 c18:w.cell? ⟨g,18,none⟩=some (.int .i64 s.sp.g)
 c19:w.cell? ⟨g,19,none⟩=some (.int .i64 s.sp.a)
 c20:w.cell? ⟨g,20,none⟩=some (.int .i64 s.sp.b)
 c21:w.cell? ⟨g,21,none⟩=some (.int .i64 s.sp.c)
 c22:w.cell? ⟨g,22,none⟩=some (.int .i64 s.sp.e)
 c23:w.cell? ⟨g,23,none⟩=some (.int .i64 s.sp.w)
 c24:w.cell? ⟨g,24,none⟩=some (.int .i64 s.sp.x)
 c25:w.cell? ⟨g,25,none⟩=some (.int .i64 s.sp.k)
 c74:w.cell? ⟨g,74,none⟩=some (H)
 lt:g<w.heap.size
theorem BdAt.cs(h:BdAt w g s ru rv lm km H):BdCs w g s ru rv lm km H:=by
 exact zz2r
theorem BdAt.unit(h:BdAt w g s ru rv lm km H){j:Nat}(hj:j<16):w.cell? ⟨g,26+j*3,none⟩=some (.int .i64 (ru j).v)/\w.cell? ⟨g,26+j*3+1,none⟩=some (.int .i64 (ru j).q)/\w.cell? ⟨g,26+j*3+2,none⟩=some (.bool (ru j).d):=by
 exact zz1b
theorem BdAt.fz(h:BdAt w g s ru rv lm km H)(i:Nat):w.frozen? ⟨g,i,none⟩=false:=frozen_of_row _ _ _ _ _ h.row
theorem BdAt.set(h:BdAt w g s ru rv lm km H)(k:Nat)(v:Value){s':Bk.St}{ru':Nat->Bk.Un}{rv':Int}{lm' km' H':Value}(he:(Bd.cells s ru rv lm km H).setIfInBounds k v=Bd.cells s' ru' rv' lm' km' H'):BdAt (w.setCell ⟨g,k,none⟩ v) g s' ru' rv' lm' km' H':=⟨by rw[<-he];exact heap_setCell_same w g k _ _ _ h.row⟩
theorem BdAt.ep(h:BdAt w g s ru rv lm km H)(x:Int):BdAt (w.setCell ⟨g,4,none⟩ (.int .i64 x)) g {s with ep:=x} ru rv lm km H:=h.set 4 _ rfl
theorem BdAt.who(h:BdAt w g s ru rv lm km H)(x:Int):BdAt (w.setCell ⟨g,5,none⟩ (.int .i64 x)) g {s with who:=x} ru rv lm km H:=h.set 5 _ rfl
theorem BdAt.till(h:BdAt w g s ru rv lm km H)(x:Int):BdAt (w.setCell ⟨g,6,none⟩ (.int .i64 x)) g {s with till:=x} ru rv lm km H:=h.set 6 _ rfl
theorem BdAt.stable(h:BdAt w g s ru rv lm km H)(x:Int):BdAt (w.setCell ⟨g,7,none⟩ (.int .i64 x)) g {s with stable:=x} ru rv lm km H:=h.set 7 _ rfl
theorem BdAt.frm(h:BdAt w g s ru rv lm km H)(x:Int):BdAt (w.setCell ⟨g,8,none⟩ (.int .i64 x)) g {s with from_:=x} ru rv lm km H:=h.set 8 _ rfl
theorem BdAt.ph(h:BdAt w g s ru rv lm km H)(x:Int):BdAt (w.setCell ⟨g,9,none⟩ (.int .i64 x)) g {s with ph:=x} ru rv lm km H:=h.set 9 _ rfl
theorem BdAt.step(h:BdAt w g s ru rv lm km H)(x:Int):BdAt (w.setCell ⟨g,10,none⟩ (.int .i64 x)) g {s with step:=x} ru rv lm km H:=h.set 10 _ rfl
theorem BdAt.since(h:BdAt w g s ru rv lm km H)(x:Int):BdAt (w.setCell ⟨g,11,none⟩ (.int .i64 x)) g {s with since:=x} ru rv lm km H:=h.set 11 _ rfl
theorem BdAt.begun(h:BdAt w g s ru rv lm km H)(x:Int):BdAt (w.setCell ⟨g,12,none⟩ (.int .i64 x)) g {s with begun:=x} ru rv lm km H:=h.set 12 _ rfl
theorem BdAt.seq(h:BdAt w g s ru rv lm km H)(x:Int):BdAt (w.setCell ⟨g,13,none⟩ (.int .i64 x)) g {s with seq:=x} ru rv lm km H:=h.set 13 _ rfl
theorem BdAt.hs(h:BdAt w g s ru rv lm km H)(H':Value)(l:List Rc.R):BdAt (w.setCell ⟨g,74,none⟩ H') g {s with h:=l} ru rv lm km H':=h.set 74 _ rfl
theorem BdAt.us(h:BdAt w g s ru rv lm km H)(us:Nat->Bk.Un):BdAt w g {s with us:=us} ru rv lm km H:=⟨h.row⟩
theorem BdAt.sp_v(h:BdAt w g s ru rv lm km H)(x:Int):BdAt (w.setCell ⟨g,14,none⟩ (.int .i64 x)) g {s with sp:={s.sp with v:=x}} ru rv lm km H:=h.set 14 _ rfl
theorem BdAt.sp_d(h:BdAt w g s ru rv lm km H)(x:Int):BdAt (w.setCell ⟨g,15,none⟩ (.int .i64 x)) g {s with sp:={s.sp with d:=x}} ru rv lm km H:=h.set 15 _ rfl
theorem BdAt.sp_u(h:BdAt w g s ru rv lm km H)(x:Int):BdAt (w.setCell ⟨g,16,none⟩ (.int .i64 x)) g {s with sp:={s.sp with u:=x}} ru rv lm km H:=h.set 16 _ rfl
theorem BdAt.sp_n(h:BdAt w g s ru rv lm km H)(x:Int):BdAt (w.setCell ⟨g,17,none⟩ (.int .i64 x)) g {s with sp:={s.sp with n:=x}} ru rv lm km H:=h.set 17 _ rfl
theorem BdAt.sp_g(h:BdAt w g s ru rv lm km H)(x:Int):BdAt (w.setCell ⟨g,18,none⟩ (.int .i64 x)) g {s with sp:={s.sp with g:=x}} ru rv lm km H:=h.set 18 _ rfl
theorem BdAt.sp_a(h:BdAt w g s ru rv lm km H)(x:Int):BdAt (w.setCell ⟨g,19,none⟩ (.int .i64 x)) g {s with sp:={s.sp with a:=x}} ru rv lm km H:=h.set 19 _ rfl
theorem BdAt.sp_b(h:BdAt w g s ru rv lm km H)(x:Int):BdAt (w.setCell ⟨g,20,none⟩ (.int .i64 x)) g {s with sp:={s.sp with b:=x}} ru rv lm km H:=h.set 20 _ rfl
theorem BdAt.sp_c(h:BdAt w g s ru rv lm km H)(x:Int):BdAt (w.setCell ⟨g,21,none⟩ (.int .i64 x)) g {s with sp:={s.sp with c:=x}} ru rv lm km H:=h.set 21 _ rfl
theorem BdAt.sp_e(h:BdAt w g s ru rv lm km H)(x:Int):BdAt (w.setCell ⟨g,22,none⟩ (.int .i64 x)) g {s with sp:={s.sp with e:=x}} ru rv lm km H:=h.set 22 _ rfl
theorem BdAt.sp_w(h:BdAt w g s ru rv lm km H)(x:Int):BdAt (w.setCell ⟨g,23,none⟩ (.int .i64 x)) g {s with sp:={s.sp with w:=x}} ru rv lm km H:=h.set 23 _ rfl
theorem BdAt.sp_x(h:BdAt w g s ru rv lm km H)(x:Int):BdAt (w.setCell ⟨g,24,none⟩ (.int .i64 x)) g {s with sp:={s.sp with x:=x}} ru rv lm km H:=h.set 24 _ rfl
theorem BdAt.sp_k(h:BdAt w g s ru rv lm km H)(x:Int):BdAt (w.setCell ⟨g,25,none⟩ (.int .i64 x)) g {s with sp:={s.sp with k:=x}} ru rv lm km H:=h.set 25 _ rfl
def bdPuts(w:World)(g:Nat)(t:Spc.Sp):World:=((((((((((((w.setCell ⟨g,14,none⟩ (.int .i64 t.v)).setCell ⟨g,15,none⟩ (.int .i64 t.d)).setCell ⟨g,16,none⟩ (.int .i64 t.u)).setCell ⟨g,17,none⟩ (.int .i64 t.n)).setCell ⟨g,18,none⟩ (.int .i64 t.g)).setCell ⟨g,19,none⟩ (.int .i64 t.a)).setCell ⟨g,20,none⟩ (.int .i64 t.b)).setCell ⟨g,21,none⟩ (.int .i64 t.c)).setCell ⟨g,22,none⟩ (.int .i64 t.e)).setCell ⟨g,23,none⟩ (.int .i64 t.w)).setCell ⟨g,24,none⟩ (.int .i64 t.x)).setCell ⟨g,25,none⟩ (.int .i64 t.k))
theorem BdAt.spec(h:BdAt w g s ru rv lm km H)(t:Spc.Sp):BdAt (bdPuts w g t) g {s with sp:=t} ru rv lm km H:=((((((((((((h.sp_v t.v).sp_d t.d).sp_u t.u).sp_n t.n).sp_g t.g).sp_a t.a).sp_b t.b).sp_c t.c).sp_e t.e).sp_w t.w).sp_x t.x).sp_k t.k)
theorem BdAt.unitV(h:BdAt w g s ru rv lm km H){j:Nat}(hj:j<16)(x:Int):BdAt (w.setCell ⟨g,26+j*3,none⟩ (.int .i64 x)) g s (Bk.setU ru j {ru j with v:=x}) rv lm km H:=by
 exact zz2d
theorem BdAt.unitQ(h:BdAt w g s ru rv lm km H){j:Nat}(hj:j<16)(x:Int):BdAt (w.setCell ⟨g,26+j*3+1,none⟩ (.int .i64 x)) g s (Bk.setU ru j {ru j with q:=x}) rv lm km H:=by
 exact zz2d
theorem BdAt.unitD(h:BdAt w g s ru rv lm km H){j:Nat}(hj:j<16)(x:Bool):BdAt (w.setCell ⟨g,26+j*3+2,none⟩ (.bool x)) g s (Bk.setU ru j {ru j with d:=x}) rv lm km H:=by
 exact zz2d
end
theorem Bd.nostr{s:Bk.St}{ru:Nat->Bk.Un}{rv:Int}{lm km H:Value}(h1:∀t,lm≠ .string t)(h2:∀t,km≠ .string t)(h3:∀t,H≠ .string t):jn0 (Bd.cells s ru rv lm km H):=by
 intro i t;rcases i with _|_|_|_|_|_|_|_|_|_|_|_|_|_|_|_|_|_|_|_|_|_|_|_|_|_|_|_|_|_|_|_|_|_|_|_|_|_|_|_|_|_|_|_|_|_|_|_|_|_|_|_|_|_|_|_|_|_|_|_|_|_|_|_|_|_|_|_|_|_|_|_|_|_|_|i
 all_goals first
  |(intro e;injection e with e;exact absurd e (by first|exact h1 t|exact h2 t|exact h3 t))
  |(intro e;cases e)
  |(rw[Array.getElem?_eq_none (by show 75<=_;omega)];intro e;cases e)
namespace Bk
open Rc (R right)
section
variable{s:St}{r:R}
theorem kinds(h:chk s r=0):r.kind=1\/r.kind=2\/r.kind=3\/r.kind=4\/r.kind=5\/r.kind=6\/r.kind=7:=by
 have:=(Rc.ok_of (chk_right h)).kind;omega
end
def taken(s:St):List R->List R
 |[]=>[]
 |r::l=>if chk s r=0 then r::taken (app s r) l else taken (app s r) l
def told(s:St):List R->List R
 |[]=>[]
 |r::l=>if chk s r=0/\(r.kind=3\/r.kind=4\/r.kind=7)then r::told (app s r) l else told (app s r) l
end Bk
end Go.Proofs.YtkinlcfhojjalaaGreatDoor
namespace Go.Proofs.YtkinlcfhojjalaaGreatDoor
namespace Bk
open Rc (R right)
theorem Like.trans{a b c:St}(h:Like a b)(g:Like b c):Like a c:=⟨h.ep.trans g.ep,h.who.trans g.who,h.till.trans g.till,h.stable.trans g.stable,h.from_.trans g.from_,h.ph.trans g.ph,h.step.trans g.step,h.since.trans g.since,h.begun.trans g.begun,h.seq.trans g.seq,h.sp.trans g.sp,fun i hi=>(h.us i hi).trans (g.us i hi),h.vs.trans g.vs,h.h.trans g.h⟩
section
variable{a b:St}{r:R}
theorem Like.chk(h:Like a b)(hm:a.m=b.m)(r:R):chk a r=chk b r:=by
 have hl:leadE a r=leadE b r:=by unfold leadE leadOk;rw[h.ep,h.who,h.till,hm]
 have h2:chk2 a r=chk2 b r:=by unfold chk2;rw[h.vs]
 have h3:chk3 a r=chk3 b r:=by unfold chk3;rw[h.vs,h.ph,h.stable]
 have h4:chk4 a r=chk4 b r:=by unfold chk4;rw[h.ph]
 have h5:chk5 a r=chk5 b r:=by unfold chk5;rw[h.ph,h.seq,h.sp,h.from_]
 have h7:chk7 a r=chk7 b r:=by unfold chk7;rw[h.ph,h.step,h.sp]
 unfold Bk.chk;rw[hl,h2,h3,h4,h5,h7,h.ep];by_cases hr:right r=false
 ·rw[if_pos hr,if_pos hr]
 ·have hr:right r=true:=by cases e:right r<;>simp_all
  by_cases hk:r.kind=6
  ·have h6:chk6 a r=chk6 b r:=by
    have:=Rc.right6 hk hr;unfold chk6;rw[h.us r.who.toNat zv]
   rw[h6]
  ·simp only[if_neg hk]
theorem Like.app(h:Like a b)(hm:a.m=b.m)(r:R):Like (app a r) (app b r):=by
 unfold Bk.app;rw[h.chk hm r];by_cases hc:Bk.chk b r=0
 case neg=>rw[if_neg hc,if_neg hc];exact h
 rw[if_pos hc,if_pos hc];rcases kinds hc with hk|hk|hk|hk|hk|hk|hk
 ·rw[act1 hk,act1 hk]
  have ht:leadT a r=leadT b r:=by unfold leadT;rw[h.ep,h.till]
  exact{h with ep:=rfl,who:=rfl,till:=ht}
 ·rw[act2 hk,act2 hk]
  exact{h with vs:=by show pub a.vs _=pub b.vs _;rw[h.vs]}
 ·rw[act3 hk,act3 hk]
  exact{h with sp:=rfl,ph:=rfl,step:=rfl,since:=rfl,begun:=rfl,from_:=h.stable,h:=by show last24 (a.h++[r])=last24 (b.h++[r]);rw[h.h]}
 ·rw[act4 hk,act4 hk]
  exact{h with ph:=rfl,stable:=(by show(if r.n=3 then a.sp.v else a.stable)=(if r.n=3 then b.sp.v else b.stable);rw[h.sp,h.stable]),h:=by show last24 (a.h++[r])=last24 (b.h++[r]);rw[h.h]}
 ·rw[act5 hk,act5 hk]
  refine{h with us:=fun i hi=> ?_,seq:=rfl}
  show setU a.us _ _ i=setU b.us _ _ i;unfold setU;rw[h.us i hi]
 ·rw[act6 hk,act6 hk]
  have:=Rc.right6 hk (chk_right hc);refine{h with us:=fun i hi=> ?_}
  show setU a.us _ _ i=setU b.us _ _ i;unfold setU;rw[h.us i hi,h.us r.who.toNat zv]
 ·rw[act7 hk,act7 hk]
  exact{h with step:=rfl,since:=rfl,h:=by show last24 (a.h++[r])=last24 (b.h++[r]);rw[h.h]}
end
def refs(s:St)(l:List R):Int:=(l.length:Int) -(cnt s l:Nat)
theorem refs_nil(s:St):refs s []=0:=rfl
theorem refs_cons(s:St)(r:R)(l:List R):refs s (r::l)=(if chk s r=0 then 0 else 1)+refs (app s r) l:=by
 unfold refs;rw[List.length_cons,cnt];split<;>omega
theorem refs_append(s:St)(a b:List R):refs s (a++b)=refs s a+refs (run s a) b:=by
 unfold refs;rw[zA,cnt_append];omega
theorem refs_nonneg(s:St)(l:List R):0<=refs s l:=by have:=cnt_le s l;unfold refs;omega
theorem refs_take(s:St)(l:List R){j:Nat}(h:j<l.length):refs s (l.take (j+1))=refs s (l.take j)+if chk (run s (l.take j)) l[j]=0 then 0 else 1:=by
 rw[List.take_succ_eq_append_getElem h,refs_append,refs_cons,refs_nil];omega
theorem refs_split(s:St)(l:List R)(j:Nat):refs s l=refs s (l.take j)+refs (run s (l.take j)) (l.drop j):=by
 rw[<-refs_append,List.take_append_drop]
theorem run_split(s:St)(l:List R)(j:Nat):run s l=run (run s (l.take j)) (l.drop j):=by
 rw[<-run_append,List.take_append_drop]
theorem like_run(l:List R):∀{a b:St},Like a b->a.m=b.m->Like (run a l) (run b l)/\refs a l=refs b l:=by
 induction l with
 |nil=>exact fun h _=>⟨h,rfl⟩
 |cons r l ih=>
  intro a b h hm;obtain⟨h1,h2⟩:=ih (h.app hm r) (by rw[app_m,app_m,hm]);refine⟨h1,?_⟩;rw[refs_cons,refs_cons,h2,h.chk hm r]
def Lack(b:St)(r:R)(l:List R):Prop:=chk b r=0/\Like (run (app b r) l) (run b l)/\refs b l=refs (app b r) l
theorem lack_end{b:St}{r:R}{l:List R}(hc:chk b r=0):Lack b r l↔(refs b (l.take l.length) -refs (app b r) (l.take l.length)=0/\Like (run (app b r) (l.take l.length)) (run b (l.take l.length))):=by
 rw[List.take_length];unfold Lack;constructor
 ·rintro⟨_,h1,h2⟩;exact⟨zv,h1⟩
 ·rintro⟨h1,h2⟩;exact⟨hc,h2,zv⟩
theorem lack_more{b:St}{r:R}{l:List R}(j:Nat)(h:refs (app b r) l -refs (app b r) (l.take j)<refs b (l.take j) -refs (app b r) (l.take j)):¬Lack b r l/\refs b (l.take j) -refs (app b r) (l.take j)≠0:=by
 have h1:=refs_split b l j;have h2:=refs_split (app b r) l j;have h3:=refs_nonneg (run b (l.take j)) (l.drop j);have h4:=refs_nonneg (run (app b r) (l.take j)) (l.drop j);refine⟨fun hl=> ?_,zv⟩;have:=hl.2.2;omega
theorem lack_like{b:St}{r:R}{l:List R}(hc:chk b r=0)(j:Nat)(h:Like (run (app b r) (l.take j)) (run b (l.take j))):Lack b r l↔refs b (l.take j) -refs (app b r) (l.take j)=0:=by
 have h1:=refs_split b l j;have h2:=refs_split (app b r) l j;obtain⟨h3,h4⟩:=like_run (l.drop j) h (by rw[run_m,run_m,app_m]);rw[<-run_split,<-run_split]at h3;unfold Lack;constructor
 ·rintro⟨_,_,h5⟩;omega
 ·intro h5;exact⟨hc,h3,zv⟩
open Classical in
noncomputable def dgo(b:St):List R->List R
 |[]=>[]
 |r::l=>if r.kind=1/\Lack b r l then dgo b l else r::dgo (app b r) l
end Bk
end Go.Proofs.YtkinlcfhojjalaaGreatDoor
namespace Go.Proofs.YtkinlcfhojjalaaGreatDoor
namespace Spc
def bts(l:List Nat):List UInt8:=l.map fun x=>UInt8.ofNat x
theorem txt_bts(l:List Nat):(txt l).data.toList=bts l:=jcc l
theorem bts_append(a b:List Nat):bts (a++b)=bts a++bts b:=by unfold bts;simp
theorem of_bts(l:List Nat):(⟨(bts l).toArray⟩:ByteArray)=txt l:=jkq (by rw[txt_bts])
theorem decDigits_is(u:Nat):Lib.decDigits u=bts (dg u):=by
 induction u using Nat.strongRecOn with
 |ind u ih=>
  by_cases h:u<10
  ·rw[Lib.decDigits,dif_pos h,dg_one h];rfl
  ·rw[Lib.decDigits,dif_neg h,ih _ zv,dg_more h,bts_append];rfl
theorem itoa_is(n:Int):Lib.itoa n=bts (digs n):=by
 unfold Lib.itoa digs;by_cases h:n<0
 ·rw[if_pos h,if_pos h,decDigits_is];rfl
 ·rw[if_neg h,if_neg h,decDigits_is,show n.toNat=n.natAbs by omega]
theorem itoa_txt(n:Int):(⟨(Lib.itoa n).toArray⟩:ByteArray)=txt (digs n):=by rw[itoa_is,of_bts]
theorem decFrom_cons(x:UInt8)(r:List UInt8)(acc:Nat):Lib.decFrom acc (x::r)=match Lib.digitVal x with
 |some d=>Lib.decFrom (acc*10+d) r
 |none=>none:=by rw[Lib.decFrom];cases Lib.digitVal x<;>rfl
theorem decFrom_append(a b:List UInt8)(acc:Nat):Lib.decFrom acc (a++b)=(Lib.decFrom acc a).bind fun m=>Lib.decFrom m b:=by
 induction a generalizing acc with
 |nil=>rfl
 |cons x a ih=>
  rw[List.cons_append,decFrom_cons,decFrom_cons]
  cases Lib.digitVal x with
  |none=>rfl
  |some d=>exact ih _
theorem digit_is{k:Nat}(h:k<10):Lib.digitVal (UInt8.ofNat (48+k))=some k:=by
 unfold Lib.digitVal;have:(UInt8.ofNat (48+k)).toNat=48+k:=by simp;omega
 rw[this,if_pos zv]
 congr 1;omega
theorem decFrom_digits(u:Nat):Lib.decFrom 0 (Lib.decDigits u)=some u:=by
 induction u using Nat.strongRecOn with
 |ind u ih=>
  by_cases h:u<10
  ·rw[Lib.decDigits,dif_pos h]
   unfold Lib.decFrom;rw[digit_is h];show Lib.decFrom (0*10+u) []=_;unfold Lib.decFrom
   congr 1;omega
  ·rw[Lib.decDigits,dif_neg h,decFrom_append,ih _ zv]
   show Lib.decFrom (u/10) [UInt8.ofNat (48+u%10)]=_;unfold Lib.decFrom;rw[digit_is zv];show Lib.decFrom (u/10*10+u%10) []=_;unfold Lib.decFrom
   congr 1;omega
theorem decDigits_ne(u:Nat):Lib.decDigits u≠[]:=by
 unfold Lib.decDigits;split<;>simp
theorem decNat_digits(u:Nat):Lib.decNat (Lib.decDigits u)=some u:=by
 unfold Lib.decNat;rw[if_neg (by simpa using decDigits_ne u),decFrom_digits]
theorem atoi_itoa(n:Int):Lib.atoi (Lib.itoa n)=some n:=by
 unfold Lib.itoa;by_cases h:n<0
 ·rw[if_pos h]
  unfold Lib.atoi;simp only[beq_self_eq_true,if_true,decNat_digits,Option.map_some]
  congr 1;omega
 ·rw[if_neg h]
  have hd:=decFrom_digits n.toNat;have hn:=decNat_digits n.toNat;generalize Lib.decDigits n.toNat=q at hd hn;rcases q with _|⟨b,r⟩
  ·simp[Lib.decNat]at hn
  ·have hb:48<=b.toNat:=by
    unfold Lib.decFrom at hd;unfold Lib.digitVal at hd;by_cases hc:48<=b.toNat/\b.toNat<=57
    ·exact hc.1
    ·rw[if_neg hc]at hd;cases hd
   have h1:(b==45)=false:=by rw[zq];intro e;rw[e]at hb;simp at hb
   have h2:(b==43)=false:=by rw[zq];intro e;rw[e]at hb;simp at hb
   unfold Lib.atoi;simp only[h1,h2,hn];simp;omega
theorem from_digs(n:Int):from_ (digs n)=if n<0 then 1 else 0:=by
 unfold from_ digs;by_cases h:n<0
 ·rw[if_pos h,if_pos h,if_pos (by simp)]
 ·rw[if_neg h,if_neg h,if_neg]
  rintro⟨h1,h2⟩;exact zz2b
end Spc
namespace Bd
open Bk (St Un Vn)
def leader:ByteArray:=⟨#[108,101,97,100,101,114]⟩
def tab(s:St):Ls.St:=⟨s.m,if s.ep=0 then[]else[⟨leader,s.who,s.ep,s.till,false⟩]⟩
theorem tab_some{s:St}(he:s.ep≠0):tab s=⟨s.m,[⟨leader,s.who,s.ep,s.till,false⟩]⟩:=by unfold tab;rw[if_neg he]
theorem find_tab(s:St):Ls.find (tab s).l leader=if s.ep=0 then none else some ⟨leader,s.who,s.ep,s.till,false⟩:=by
 unfold tab;split
 ·rfl
 ·show Ls.find [_] leader=_
  rw[Ls.find_cons,if_pos rfl]
theorem tab_free(s:St)(now:Int):Bk.free s now=true↔Ls.Free (tab s) leader now:=by
 unfold Bk.free Ls.Free;rw[find_tab];by_cases h:s.ep=0
 ·rw[if_pos h];simp[h]
 ·rw[if_neg h]
  simp[h];rfl
theorem tab_holds(s:St)(who ep now:Int)(he:s.ep≠0):Ls.Holds (tab s) leader who ep now↔s.who=who/\s.ep=ep/\now<s.till:=by
 unfold Ls.Holds;rw[find_tab,if_neg he];constructor
 ·rintro⟨e,he,_,h2⟩
  obtain rfl:=Option.some.inj he;exact h2
 ·rintro⟨rfl,rfl,h⟩
  exact⟨_,rfl,rfl,rfl,rfl,h⟩
structure Lok(s:St):Prop where
 ok:Bk.Ok s
 t1:s.ep≠0->1<=s.till
theorem tab_good{s:St}(h:Lok s):Ls.Good (tab s):=by
 refine⟨?_,h.ok.m.1,h.ok.m.2,?_⟩
 ·unfold tab Ls.Rise
  split
  ·exact List.Pairwise.nil
  ·exact List.pairwise_singleton _ _
 ·intro e he
  unfold tab at he;by_cases h0:s.ep=0
  ·simp[h0]at he
  ·simp only[if_neg h0,List.mem_singleton]at he
   subst he;have h1:=h.ok.ep;have h2:=h.ok.who;have h3:=h.ok.till;have h4:=h.t1 h0;refine⟨(by show 1<=leader.size;decide),(by show leader.size<=16;decide),h2.1,h2.2,?_,h3,fun h=>(by cases h),fun _=>h4⟩;show 1<=s.ep;omega
theorem epoch_tab(s:St):Ls.epochOf (tab s).l leader=s.ep:=by
 unfold Ls.epochOf;rw[find_tab];by_cases h:s.ep=0
 ·rw[if_pos h];exact h.symm
 ·rw[if_neg h]
theorem put_tab(s:St)(who ep till:Int)(d:Bool):Ls.put (tab s).l ⟨leader,who,ep,till,d⟩=[⟨leader,who,ep,till,d⟩]:=by
 unfold Ls.put tab;split
 ·rfl
 ·show Ls.putK (Ls.dropK [_] leader) _=_
  rw[Ls.dropK_cons,if_pos rfl];rfl
theorem tab_take{s:St}{who now ttl:Int}(hr:Ls.Right leader who now ttl)(hf:Bk.free s now=true)(he:s.ep+1≠0):
  Ls.takeS (tab s) leader who now ttl=tab {s with ep:=s.ep+1,who:=who,till:=Bk.late now ttl}/\Ls.takeE (tab s) leader who now ttl=0:=by
 have e:Ls.takeE (tab s) leader who now ttl=0:=by
  unfold Ls.takeE;rw[if_neg (fun h=>h hr),if_neg (fun h=>h ((tab_free s now).1 hf))]
 refine⟨?_,e⟩;unfold Ls.takeS Ls.taken;rw[if_pos e,put_tab,epoch_tab];unfold tab;rw[if_neg he];rfl
open Classical in
theorem tab_renew{s:St}{who ep now ttl:Int}(hr:Ls.Right leader who now ttl)(he:s.ep≠0)(h1:s.who=who)(h2:s.ep=ep)(h3:now<s.till):
  Ls.renewS (tab s) leader who ep now ttl=tab {s with till:=max s.till (Bk.late now ttl)}/\Ls.renewE (tab s) leader who ep now ttl=0:=by
 have e:Ls.renewE (tab s) leader who ep now ttl=0:=by
  unfold Ls.renewE;rw[if_neg (fun h=>h hr),find_tab,if_neg he];show(if Ls.Other ⟨leader,s.who,s.ep,s.till,false⟩ who ep then 8 else if false=true\/s.till<=now then 9 else 0)=0;rw[if_neg (by unfold Ls.Other;simp[h1,h2]),if_neg (by rintro(h|h);cases h;omega)]
 refine⟨?_,e⟩;unfold Ls.renewS Ls.renewed;rw[if_pos e,find_tab,if_neg he];show(⟨(tab s).margin,Ls.put (tab s).l ⟨leader,s.who,s.ep,max s.till (Ls.late now ttl),false⟩⟩:Ls.St)=_;rw[put_tab,tab_some (s:={s with till:=max s.till (Bk.late now ttl)}) he]
 rfl
theorem get_tab{s:St}(he:s.ep≠0):Ls.holderOf (tab s).l leader=s.who/\Ls.epochOf (tab s).l leader=s.ep/\Ls.tillOf (tab s).l leader=s.till:=by
 unfold Ls.holderOf Ls.epochOf Ls.tillOf;rw[find_tab,if_neg he];exact⟨rfl,rfl,rfl⟩
theorem digs_len{n:Int}(h:Spc.i64 n):(Spc.digs n).length<=20:=by
 unfold Spc.i64 at h;unfold Spc.digs;have:=Spc.dg_len n.natAbs 18 zv;split
 ·rw[List.length_cons];omega
 ·omega
def key(n:Int):ByteArray:=txt (Spc.digs n)
theorem key_inj{a b:Int}(h:key a=key b):a=b:=by
 have h1:=congrArg (fun t:ByteArray=>t.data.toList) h;simp only[key,Spc.txt_bts,<-Spc.itoa_is]at h1;have h2:=Spc.atoi_itoa a;rw[h1,Spc.atoi_itoa b]at h2;exact(Option.some.inj h2).symm
theorem key_one(n:Int):1<=(key n).size:=by
 unfold key;rw[jbr];rcases Nat.eq_zero_or_pos (Spc.digs n).length with h|h
 ·have h1:=Spc.atoi_itoa n
  rw[Spc.itoa_is,List.eq_nil_of_length_eq_zero h]at h1
  cases h1
 ·omega
theorem key_ten{n:Int}(h0:0<=n)(h9:n<1000000000):(Spc.digs n).length<=9:=by
 have h1:=(Spc.num_digs n h0 h9);have h2:Spc.numB (Spc.digs n)=true:=h1.2;unfold Spc.numB at h2;rw[Bool.and_eq_true,decide_eq_true_eq,Spc.from_digs,if_neg zv]at h2;omega
def Digs(K:Kv.St)(vs:List Vn):Prop:=(K.l.map fun e=>(e.key,e.val)).Perm (vs.map fun v=>(key v.n,v.t))
section
variable{K:Kv.St}{vs:List Vn}
theorem Digs.len(h:Digs K vs):K.l.length=vs.length:=by have:=h.length_eq;simpa using this
theorem dig_mem{vs:List Vn}(hr:vs.Pairwise fun a b=>a.n<b.n){v:Vn}(hv:v∈vs):Bk.dig vs v.n=some v.t:=by
 induction vs with
 |nil=>cases hv
 |cons x vs ih=>
  have hp:=List.pairwise_cons.1 hr;unfold Bk.dig;rcases List.mem_cons.1 hv with rfl|hv
  ·rw[if_pos rfl]
  ·have:=hp.1 v hv
   rw[if_neg zv,ih hp.2 hv]
theorem Digs.find(h:Digs K vs)(hg:Kv.Good K)(hr:vs.Pairwise fun a b=>a.n<b.n)(n:Int):(Kv.find K.l (key n)).map (·.val)=Bk.dig vs n:=by
 cases hf:Kv.find K.l (key n)with
 |some e=>
  obtain⟨h1,h2⟩:=Kv.find_some hf;have h3:(e.key,e.val)∈vs.map fun v=>(key v.n,v.t):=h.mem_iff.1 (List.mem_map.2 ⟨e,h1,rfl⟩);obtain⟨v,hv,he⟩:=List.mem_map.1 h3;have e1:key v.n=e.key:=congrArg Prod.fst he;have e2:v.t=e.val:=congrArg Prod.snd he;have:=key_inj (e1.trans h2);rw[<-this,dig_mem hr hv,e2];rfl
 |none=>
  show none=_
  symm
  refine Bk.dig_none fun v hv hn=> ?_;have h3:(key v.n,v.t)∈K.l.map fun e=>(e.key,e.val):=h.mem_iff.2 (List.mem_map.2 ⟨v,hv,rfl⟩);obtain⟨e,he,hq⟩:=List.mem_map.1 h3;have e1:e.key=key v.n:=congrArg Prod.fst hq;rw[hn]at e1;exact Kv.find_none.1 hf e he e1
theorem Digs.val(h:Digs K vs)(hg:Kv.Good K)(hr:vs.Pairwise fun a b=>a.n<b.n)(n:Int):Kv.valOf K.l (key n)=Bk.text vs n/\(Kv.revOf K.l (key n)≠0↔Bk.has vs n=true):=by
 have h1:=h.find hg hr n;unfold Kv.valOf Kv.revOf Bk.text Bk.has;rw[<-h1]
 cases hf:Kv.find K.l (key n)with
 |none=>simp
 |some e=>
  have:=(hg.revs e (Kv.find_some hf).1).1;simp;omega
theorem none_digs:Digs Kv.St.none []:=List.Perm.refl _
theorem Digs.keys(h:Digs K vs):(Kv.keysOf K.l).Perm (vs.map fun v=>key v.n):=by
 have:=h.map Prod.fst;simp only[List.map_map]at this;exact this
end
def told(u:Un):Un:=⟨u.v,u.q,u.d|| decide (u.q=0)⟩
def Raw(ru us:Nat->Un):Prop:=∀i,i<16->us i=told (ru i)/\((ru i).q=0->(ru i).d=false)
theorem Raw.same{ru us ru' us':Nat->Un}(h:Raw ru us)(h':Raw ru' us'):(∀i,i<16->us i=us' i)↔∀i,i<16->ru i=ru' i:=by
 constructor
 ·intro e i hi
  have h1:=e i hi;rw[(h i hi).1,(h' i hi).1]at h1;have h2:=(h i hi).2;have h3:=(h' i hi).2;generalize ru i=a at*;generalize ru' i=b at*;obtain⟨a1,a2,a3⟩:=a;obtain⟨b1,b2,b3⟩:=b;unfold told at h1;injection h1 with e1 e2 e3
  simp only at e1 e2 e3 h2 h3;subst e1 e2;by_cases h0:a2=0
  ·rw[h2 h0,h3 h0]
  ·simp[h0]at e3
   rw[e3]
 ·intro e i hi
  rw[(h i hi).1,(h' i hi).1,e i hi]
theorem new_raw:Raw (fun _=>⟨0,0,false⟩) (fun _=>⟨0,0,true⟩):=fun _ _=>⟨rfl,fun _=>rfl⟩
theorem Raw.intent{ru us:Nat->Un}(h:Raw ru us)(k:Nat)(v q:Int)(hq:q≠0):Raw (Bk.setU ru k ⟨v,q,false⟩) (Bk.setU us k ⟨v,q,false⟩):=by
 intro i hi;unfold Bk.setU;by_cases hk:i=k
 ·rw[if_pos hk,if_pos hk]
  refine⟨?_,fun _=>rfl⟩;unfold told;simp[hq]
 ·rw[if_neg hk,if_neg hk]
  exact h i hi
theorem Raw.ack{ru us:Nat->Un}(h:Raw ru us)(k:Nat)(hk:k<16)(hq:(ru k).q≠0):Raw (Bk.setU ru k {ru k with d:=true}) (Bk.setU us k {us k with d:=true}):=by
 intro i hi;unfold Bk.setU;by_cases hk2:i=k
 ·rw[if_pos hk2,if_pos hk2,(h k hk).1]
  refine⟨?_,fun h0=>absurd h0 hq⟩;unfold told;simp
 ·rw[if_neg hk2,if_neg hk2]
  exact h i hi
end Bd
namespace Bd
open Bk (St Un Vn)
theorem _root_.Go.Proofs.YtkinlcfhojjalaaGreatDoor.zz2g{p:Prop}(h:p:=by
 split
 ·exact List.Perm.refl _
 ·exact(List.Perm.cons x ih).trans (List.Perm.swap _ _ _)):p:=h
theorem putK_perm(l:List Kv.En)(e:Kv.En):(Kv.putK l e).Perm (e::l):=by
 induction l with
 |nil=>exact List.Perm.refl _
 |cons x l ih=>
  rw[Kv.putK_cons];exact zz2g
theorem pub_perm(l:List Vn)(v:Vn):(Bk.pub l v).Perm (v::l):=by
 induction l with
 |nil=>exact List.Perm.refl _
 |cons x l ih=>
  unfold Bk.pub;exact zz2g
theorem dropK_no{l:List Kv.En}{k:ByteArray}(h:∀e∈l,e.key≠k):Kv.dropK l k=l:=by
 unfold Kv.dropK;rw[List.filter_eq_self];intro e he;rw[Bool.not_eq_true',<-Bool.not_eq_true];exact fun h2=>h e he (Kv.teq.1 h2)
abbrev pr(e:Kv.En):ByteArray×ByteArray:=(e.key,e.val)
abbrev po(o:Kv.Po):ByteArray×ByteArray:=(o.key,o.val)
theorem step_perm{r:Int}{l:List Kv.En}{o:Kv.Po}(hd:o.drop=false)(hn:∀e∈l,e.key≠o.key):((Kv.step r l o).map pr).Perm (po o::l.map pr):=by
 unfold Kv.step;rw[if_neg (by rw[hd];simp),dropK_no hn];exact(putK_perm l _).map pr
theorem steps_perm(r:Int):∀(ops:List Kv.Po) (l:List Kv.En),(∀o∈ops,o.drop=false)->(ops.Pairwise fun a b=>a.key≠b.key)->(∀o∈ops,∀e∈l,e.key≠o.key)->((ops.foldl (Kv.step r) l).map pr).Perm (ops.map po++l.map pr):=by
 intro ops
 induction ops with
 |nil=>intro l _ _ _;exact List.Perm.refl _
 |cons o ops ih=>
  intro l h1 h2 h3;have hp:=List.pairwise_cons.1 h2;have hs:=step_perm (r:=r) (h1 o (List.mem_cons_self ..)) (h3 o (List.mem_cons_self ..));refine(ih (Kv.step r l o) (fun x hx=>h1 x (List.mem_cons_of_mem _ hx)) hp.2 fun x hx e he=> ?_).trans ?_
  ·have hm:pr e∈po o::l.map pr:=hs.mem_iff.1 (List.mem_map.2 ⟨e,he,rfl⟩)
   rcases List.mem_cons.1 hm with hm|hm
   ·have:e.key=o.key:=congrArg Prod.fst hm
    rw[this];exact hp.1 x hx
   ·obtain⟨e',he',hq⟩:=List.mem_map.1 hm
    have:e'.key=e.key:=congrArg Prod.fst hq;rw[<-this];exact h3 x (List.mem_cons_of_mem _ hx) e' he'
  ·refine((List.Perm.refl (ops.map po)).append hs).trans ?_
   exact List.perm_middle
theorem puts_new{K:Kv.St}{ops:List Kv.Po}(hg:Kv.Good K)(h0:0<ops.length)(h1:∀o∈ops,o.drop=false/\o.rev=0)(h2:ops.Pairwise fun a b=>a.key≠b.key)(h3:∀o∈ops,∀e∈K.l,e.key≠o.key)(h4:∀o∈ops,Kv.PoOk o)(h5:K.l.length+ops.length<=64):
  Kv.doE K ops=0/\(Kv.doS K ops).rev=K.rev+1/\Kv.Good (Kv.doS K ops)/\((Kv.doS K ops).l.map pr).Perm (ops.map po++K.l.map pr):=by
 have hp:=steps_perm (K.rev+1) ops K.l (fun o ho=>(h1 o ho).1) h2 h3;have hr:∀o∈ops,Kv.revOf K.l o.key=0:=fun o ho=>by
  unfold Kv.revOf;rw[Kv.find_none.2 fun e he hk=>h3 o ho e he hk]
 have e:Kv.doE K ops=0:=by
  refine Kv.doE_ok ⟨h0,h4,h2⟩ (fun o ho hq=> ?_) (fun o ho hq=> ?_) ?_
  ·exact hq.2 (by rw[(h1 o ho).2,hr o ho])
  ·have h6:o.drop=true:=hq.1
   rw[(h1 o ho).1]at h6
   cases h6
  ·have:=hp.length_eq
   simp only[List.length_map,zA]at this;show¬64<(ops.foldl (Kv.step (K.rev+1)) K.l).length;omega
 have es:=(Kv.doS_ok e).1;refine⟨e,by rw[es];rfl,Kv.doS_good hg ops,?_⟩;rw[es];exact hp
theorem Digs.pub{K:Kv.St}{vs:List Vn}{n:Int}{t:ByteArray}(h:Digs K vs)(hg:Kv.Good K)(hr:vs.Pairwise fun a b=>a.n<b.n)(hn:Bk.has vs n=false)(hl:vs.length<64)(h0:0<=n)(h9:n<1000000000)(ht:1<=t.size/\t.size<=64):
  Kv.doE K [⟨key n,t,0,false⟩]=0/\(Kv.doS K [⟨key n,t,0,false⟩]).rev=K.rev+1/\Kv.Good (Kv.doS K [⟨key n,t,0,false⟩])/\Digs (Kv.doS K [⟨key n,t,0,false⟩]) (Bk.pub vs ⟨n,t⟩):=by
 have hno:Kv.find K.l (key n)=none:=by
  have h1:=h.find hg hr n;unfold Bk.has at hn
  cases e:Kv.find K.l (key n)with
  |none=>rfl
  |some x=>rw[e]at h1;rw[<-h1]at hn;cases hn
 have hk:=key_ten h0 h9;obtain⟨a,b,c,d⟩:=puts_new (K:=K) (ops:=[⟨key n,t,0,false⟩]) hg (by simp) (fun o ho=>by rw[List.mem_singleton.1 ho];exact⟨rfl,rfl⟩) (List.pairwise_singleton _ _) (fun o ho e he=>by rw[List.mem_singleton.1 ho];exact Kv.find_none.1 hno e he)
  (fun o ho=>by rw[List.mem_singleton.1 ho];exact⟨key_one n,by show(key n).size<=64;unfold key;rw[jbr];omega,ht.2⟩) (by rw[h.len];simp;omega)
 refine⟨a,b,c,?_⟩;refine d.trans ?_;refine List.Perm.trans ?_ (((pub_perm vs ⟨n,t⟩).map fun v=>(key v.n,v.t)).symm);exact List.Perm.cons _ h
end Bd
open Go.Deep Go.Maps Go.RowKit
section
variable{w:World}{g:Nat}{a b c:Int}
theorem jn1:(Tryz.prog.info? 231).map (·.size)=some 3:=by kernel_rfl
theorem LsCells.c0(h:w.heap[g]? =some (.cells #[.int .i64 a,.int .i64 b,.int .i64 c] 231 (0,0))):w.cell? ⟨g,0,none⟩=some (.int .i64 a):=by rw[cell_of_row w g 0 _ _ _ h];rfl
theorem LsCells.c1(h:w.heap[g]? =some (.cells #[.int .i64 a,.int .i64 b,.int .i64 c] 231 (0,0))):w.cell? ⟨g,1,none⟩=some (.int .i64 b):=by rw[cell_of_row w g 1 _ _ _ h];rfl
theorem LsCells.c2(h:w.heap[g]? =some (.cells #[.int .i64 a,.int .i64 b,.int .i64 c] 231 (0,0))):w.cell? ⟨g,2,none⟩=some (.int .i64 c):=by rw[cell_of_row w g 2 _ _ _ h];rfl
end
theorem jdw(W:World)(q:Nat)(cs:Array Value)(ty:TypeId)(mo:Option Nat)(s:Ls.St)(h:LsIs W q cs ty mo s)(k:ByteArray)(hk:k.size<=maxLen):
  Calls Tryz.prog 176 #[.pointer (some ⟨q,0,none⟩),.string k] W (LGet s k W):=by
 obtain⟨W1,hW1⟩:∃W1,W1=W.alloc (.cells #[zi,zi,zi] 231):=zx;have B1:=zh ((Below.refl W.heap.size W).alloc zl (.cells #[zi,zi,zi] 231));have R1:=zh (heap_alloc_new W (.cells #[zi,zi,zi] 231));rw[<-hW1]at B1 R1;have H1:=h.on B1.o;have hlk:=H1.look k hk;obtain⟨c0,c1,f1,hq⟩:=H1.cells;unfold LGet lval;have TK:=Ls.taken_iff h.good k;generalize(Ls.find s.l k).isSome=x at*;generalize Ls.holderOf s.l k=a at*;generalize Ls.epochOf s.l k=b at*;generalize Ls.tillOf s.l k=c at*;have C:=zh (fun W=>jlh W a b c TK);clear h H1 TK;go_in;go_upto_region 3 with fail
 obtain⟨g,hg⟩:∃g,g=W.heap.size:=zx;rw[<-hW1,<-hg];rw[<-hg]at R1;have B2:=zh (B1.o.alloc (by have:=B1.o.size;omega) (.cells #[.int .i64 a,.int .i64 b,.int .i64 c] 231));have R2:=zh (jah R1.o ((Below.refl W1.heap.size W1).alloc zl (.cells #[.int .i64 a,.int .i64 b,.int .i64 c] 231)));have R6:=zh (heap_alloc_new W1 (.cells #[.int .i64 a,.int .i64 b,.int .i64 c] 231));have HG:=zh hg;clear hW1 hg;go_upto_region 4 with fail
 obtain⟨g6,hg6⟩:∃g6,g6=W1.heap.size:=zx;have NE:Hid (g6≠g):=by have:=(zg R1.o).1;show _≠_;omega
 rw[<-hg6]at R6⊢;have BG:Hid (W.heap.size<=g):=Nat.le_of_eq HG.o.symm;clear HG hg6 R1 B1 c0 c1 f1 hq hlk;generalize W1.alloc (.cells #[.int .i64 a,.int .i64 b,.int .i64 c] 231)=W6 at*;refine wp_region_held_drew (S:=fun W=>W.heap[g6]? =some (.cells #[.int .i64 a,.int .i64 b,.int .i64 c] 231 (0,0))) zk R6.o (fun hS=> ?_);have B3:=zh B2.o.drew;refine tZ 0 rfl (by intro W hW;have d0:=LsCells.c0 hW;have d1:=LsCells.c1 hW;have d2:=LsCells.c2 hW;go_simp;(try with_reducible rfl)) hS ?_;refine tZ 1 rfl (by intro W hW;have d0:=LsCells.c0 hW;have d1:=LsCells.c1 hW;have d2:=LsCells.c2 hW;go_simp;(try with_reducible rfl)) hS ?_;simp only[Act.put,zT,zO,zS];refine rO 2 (fun K hK=> ?_);go_simp
 refine(C.o _).mono ?_
 rintro e w7 ⟨rfl,hb⟩;have hS2:=jah hS hb;have RG:=zh (jah (W:=W6.drew) R2.o hb);have B4:=zh (B3.o.trans (hb.mono B3.o.size));clear hS hb;have hS:=hS2;clear hS2;refine hK.out _ _ hS (fun _=> ?_);clear hK K;try simp only[Act.put,zT,zO,zS]
 refine rO 3 (fun K hK=> ?_);refine wp_store_row 231 (.tmp 4) (.tmp 16) rfl g #[.int .i64 a,.int .i64 b,.int .i64 c] rfl rfl 231 _ RG.o jn1 rfl (by simp[Value.oneCell']) ?_;have hS2:=(setRow_other w7 g g6 #[.int .i64 a,.int .i64 b,.int .i64 c] NE.o).trans hS;have RS:=setRow_heap w7 g _ #[.int .i64 a,.int .i64 b,.int .i64 c] _ _ RG.o;have B5:=zh (below_setRow B4.o BG.o #[.int .i64 a,.int .i64 b,.int .i64 c]);have e0:=LsCells.c0 RS;have e1:=LsCells.c1 RS;have e2:=LsCells.c2 RS;clear hS RG RS;have hS:=hS2;clear hS2;generalize w7.setRow g #[.int .i64 a,.int .i64 b,.int .i64 c]=w8 at*;refine hK.out _ _ hS (fun _=> ?_);clear hK K;try simp only[Act.put]
 refine tY 4 hS ?_;simp only[Act.put,zT,zO,zS];refine wpAnyH_done zk ?_ _;go_wp2_with fail;exact bodyPost_ret (v:= .tuple #[leV a b c,.bool x]) (by simp[results,Tryz.results176,go_sem,e0,e1,e2]) rfl ⟨rfl,B5.o⟩
theorem jll(W:World)(q:Nat)(cs:Array Value)(ty:TypeId)(mo:Option Nat)(s:Ls.St)(h:LsIs W q cs ty mo s)(k:ByteArray)(hk:k.size<=maxLen)(now:Int){x:Bool}(hx:x=true↔Ls.Free s k now):
  Calls Tryz.prog 173 #[.pointer (some ⟨q,0,none⟩),.string k,.int .i64 now] W (fun e w'=>e= .returned (.bool x)/\zF W w'):=by
 have TT:=Ls.till_time h.good k;have m0:=h.good.m0;have m1:=h.good.m1;rw[Ls.free_iff h.good]at hx;obtain⟨a,ha⟩:∃a,a=Ls.holderOf s.l k:=zx;obtain⟨b,hb⟩:∃b,b=Ls.epochOf s.l k:=zx;obtain⟨c,hc⟩:∃c,c=Ls.tillOf s.l k:=zx;rw[<-hc]at TT hx;have C:=zh (fun W=>jhy W a b c now s.margin TT.1 TT.2 m0 m1 hx);have EA:=zh ha.symm;have EB:=zh hb.symm;have EC:=zh hc.symm;have HKS:=zh hk;have H:=zh h;clear TT m0 m1 hx ha hb hc hk h;go_in;go_upto_region 1 with fail
 refine wp_region_held_drew (S:=fun W=>LsIs W q cs ty mo s) zk (H.o.on (Below.refl W.heap.size W).drew) (fun hS=> ?_);refine tY 0 hS ?_;refine tY 1 hS ?_;refine tY 2 hS ?_;refine tY 3 hS ?_;refine tY 4 hS ?_;refine tY 5 hS ?_;simp only[Act.put,zT,zO,zS];refine tZ 6 rfl (by intro W hW;obtain⟨c0,c1,f1,hq⟩:=hW.cells;have hlk:=hW.look k HKS.o;rw[EA.o,EB.o,EC.o]at hlk;unfold leV at hlk;go_simp;(try with_reducible rfl)) hS ?_;refine tY 7 hS ?_;refine tZ 8 rfl (by intro W hW;obtain⟨c0,c1,f1,hq⟩:=hW.cells;have hlk:=hW.look k HKS.o;rw[EA.o,EB.o,EC.o]at hlk;unfold leV at hlk;go_simp;(try with_reducible rfl)) hS ?_;refine tY 9 hS ?_;refine tY 10 hS ?_;refine tY 11 hS ?_;simp only[Act.put,zT,zO,zS];refine tY 12 hS ?_;refine tZ 13 rfl (by intro W hW;obtain⟨c0,c1,f1,hq⟩:=hW.cells;have hlk:=hW.look k HKS.o;rw[EA.o,EB.o,EC.o]at hlk;unfold leV at hlk;go_simp;(try with_reducible rfl)) hS ?_;simp only[Act.put,zT,zO,zS];refine rO 14 (fun K hK=> ?_);go_simp
 refine(C.o _).mono ?_
 rintro e w7 ⟨rfl,hb⟩;have hS2:=hS.on hb;have B3:=zh ((Below.refl W.heap.size W).drew.trans hb);clear hS hb;have hS:=hS2;clear hS2;refine hK.out _ _ hS (fun _=> ?_);clear hK K;refine tY 15 hS ?_;refine tY 16 hS ?_;simp only[Act.put,zT,zO,zS];refine wpAnyH_done zk ?_ _;go_wp2;go_ret;exact⟨rfl,B3.o⟩
