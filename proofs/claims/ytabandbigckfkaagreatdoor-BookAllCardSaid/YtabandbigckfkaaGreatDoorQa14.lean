import Derived.Test.YtabandbigckfkaaGreatDoorQa13
import Derived.Laws.ByValue
import Derived.IntWalk
set_option maxHeartbeats 6400000
set_option maxRecDepth 100000
set_option linter.unusedSimpArgs false
set_option linter.unusedVariables false
namespace Go.Proofs.YtabandbigckfkaaGreatDoor.Ls
open Kv (lt teq tne gt_eq lt_irrefl lt_ne lt_trans lt_asymm lt_tri)
structure En where
 name:ByteArray
 holder:Int
 epoch:Int
 till:Int
 dropped:Bool
structure St where
 margin:Int
 l:List En
def find(l:List En)(k:ByteArray):Option En:=l.find? fun e=>e.name.toList==k.toList
def Rise(l:List En):Prop:=l.Pairwise fun a b=>lt a.name b.name
def dropK(l:List En)(k:ByteArray):List En:=l.filter fun e=> !(e.name.toList==k.toList)
def putK(l:List En)(e:En):List En:=(l.takeWhile fun x=> !(!(Op.bytesLess x.name.toList e.name.toList|| x.name.toList==e.name.toList)))++e::(l.dropWhile fun x=> !(!(Op.bytesLess x.name.toList e.name.toList|| x.name.toList==e.name.toList)))
def put(l:List En)(e:En):List En:=putK (dropK l e.name) e
theorem find_nil(k:ByteArray):find [] k=none:=rfl
theorem find_cons(e:En)(l:List En)(k:ByteArray):find (e::l) k=if e.name=k then some e else find l k:=by
 unfold find;by_cases h:e.name=k
 ·rw[if_pos h,List.find?_cons_of_pos (p:=fun e:En=>e.name.toList==k.toList) (teq.2 h)]
 ·rw[if_neg h,List.find?_cons_of_neg (p:=fun e:En=>e.name.toList==k.toList) (fun h2=>h (teq.1 h2))]
theorem find_some{l:List En}{k:ByteArray}{e:En}(h:find l k=some e):e∈l∧e.name=k:=by
 unfold find at h;exact⟨List.mem_of_find?_eq_some h,teq.1 (List.find?_some (p:=fun e:En=>e.name.toList==k.toList) h)⟩
theorem find_none{l:List En}{k:ByteArray}:find l k=none↔∀e∈l,e.name≠k:=by
 unfold find;rw[List.find?_eq_none];exact⟨fun h e he hk=>h e he (teq.2 hk),fun h e he hk=>h e he (teq.1 hk)⟩
theorem find_mem{l:List En}(h:Rise l){e:En}(he:e∈l):find l e.name=some e:=by
 induction l with
 |nil=>cases he
 |cons a l ih=>
  rw[find_cons];rcases List.mem_cons.1 he with rfl|he
  ·rw[if_pos rfl]
  ·have hr:=List.pairwise_cons.1 h
   rw[if_neg (lt_ne (hr.1 e he)),ih hr.2 he]
theorem mem_dropK{l:List En}{k:ByteArray}{e:En}:e∈dropK l k↔e∈l∧e.name≠k:=by
 unfold dropK;rw[List.mem_filter,Bool.not_eq_true',tne]
theorem dropK_rise{l:List En}(h:Rise l)(k:ByteArray):Rise (dropK l k):=List.Pairwise.filter _ h
theorem dropK_cons(e:En)(l:List En)(k:ByteArray):dropK (e::l) k=if e.name=k then dropK l k else e::dropK l k:=by
 unfold dropK;by_cases h:e.name=k
 ·rw[if_pos h,List.filter_cons_of_neg (by rw[teq.2 h];simp)]
 ·rw[if_neg h,List.filter_cons_of_pos (by rw[tne.2 h];rfl)]
theorem find_dropK(l:List En)(k k':ByteArray):find (dropK l k) k'=if k'=k then none else find l k':=by
 induction l with
 |nil=>rw[show dropK [] k=[]from rfl,find_nil];split<;>rfl
 |cons e l ih=>
  rw[dropK_cons,find_cons];by_cases h:e.name=k
  ·rw[if_pos h,ih]
   by_cases h2:k'=k
   ·rw[if_pos h2,if_pos h2]
   ·rw[if_neg h2,if_neg h2,if_neg (fun e'=>h2 (by rw[←e',h]))]
  ·rw[if_neg h,find_cons,ih]
   by_cases h2:k'=k
   ·rw[if_pos h2,if_pos h2,if_neg (by rw[h2];exact h)]
   ·rw[if_neg h2,if_neg h2]
def low(k:ByteArray)(x:En):Bool:= !(!(Op.bytesLess x.name.toList k.toList|| x.name.toList==k.toList))
theorem low_false{k:ByteArray}{x:En}:low k x=false↔lt k x.name:=by
 unfold low;rw[Bool.not_eq_false',gt_eq]
theorem putK_cons(x:En)(l:List En)(e:En):putK (x::l) e=if lt e.name x.name then e::x::l else x::putK l e:=by
 have hd:∀l,putK l e=(l.takeWhile (low e.name))++e::(l.dropWhile (low e.name)):=fun _=>rfl;rw[hd,hd];by_cases h:lt e.name x.name
 ·rw[if_pos h,List.takeWhile_cons_of_neg (by rw[low_false.2 h];simp),List.dropWhile_cons_of_neg (by rw[low_false.2 h];simp)]
  rfl
 ·have:low e.name x=true:=by rw[←Bool.not_eq_false,low_false];exact h
  rw[if_neg h,List.takeWhile_cons_of_pos this,List.dropWhile_cons_of_pos this];rfl
theorem putK_nil(e:En):putK [] e=[e]:=rfl
theorem mem_putK{l:List En}{e x:En}:x∈putK l e↔x=e∨x∈l:=by
 induction l with
 |nil=>simp[putK_nil]
 |cons a l ih=>
  rw[putK_cons];split
  ·simp
  ·rw[List.mem_cons,ih,List.mem_cons]
   constructor
   ·rintro(h|h|h)
    ·exact .inr (.inl h)
    ·exact .inl h
    ·exact .inr (.inr h)
   ·rintro(h|h|h)
    ·exact .inr (.inl h)
    ·exact .inl h
    ·exact .inr (.inr h)
theorem putK_length(l:List En)(e:En):(putK l e).length=l.length+1:=by
 induction l with
 |nil=>rfl
 |cons a l ih=>rw[putK_cons];split<;>simp[ih]
theorem putK_rise{l:List En}{e:En}(h:Rise l)(hne:∀x∈l,x.name≠e.name):Rise (putK l e):=by
 induction l with
 |nil=>exact List.pairwise_singleton _ _
 |cons a l ih=>
  have hr:=List.pairwise_cons.1 h;rw[putK_cons];split
  ·rename_i h1
   refine List.pairwise_cons.2 ⟨fun x hx=> ?_,h⟩;rcases List.mem_cons.1 hx with rfl|hx
   ·exact h1
   ·exact lt_trans h1 (hr.1 x hx)
  ·rename_i h1
   refine List.pairwise_cons.2 ⟨fun x hx=> ?_,ih hr.2 fun x hx=>hne x (List.mem_cons_of_mem _ hx)⟩;rcases mem_putK.1 hx with rfl|hx
   ·exact lt_tri h1 (hne a (List.mem_cons_self ..)).symm
   ·exact hr.1 x hx
theorem find_putK{l:List En}{e:En}(hne:∀x∈l,x.name≠e.name)(k:ByteArray):find (putK l e) k=if e.name=k then some e else find l k:=by
 induction l with
 |nil=>rw[putK_nil,find_cons]
 |cons a l ih=>
  rw[putK_cons];split
  ·rw[find_cons]
  ·rw[find_cons,ih fun x hx=>hne x (List.mem_cons_of_mem _ hx),find_cons]
   by_cases h2:a.name=k
   ·rw[if_pos h2,if_pos h2,if_neg (fun e'=>hne a (List.mem_cons_self ..) (h2.trans e'.symm))]
   ·rw[if_neg h2,if_neg h2]
theorem put_rise{l:List En}(h:Rise l)(e:En):Rise (put l e):=putK_rise (dropK_rise h _) fun _ hx=>(mem_dropK.1 hx).2
theorem find_put(l:List En)(e:En)(k:ByteArray):find (put l e) k=if e.name=k then some e else find l k:=by
 unfold put;rw[find_putK fun x hx=>(mem_dropK.1 hx).2,find_dropK];by_cases h:e.name=k
 ·rw[if_pos h,if_pos h]
 ·rw[if_neg h,if_neg h,if_neg (fun e=>h e.symm)]
theorem mem_put{l:List En}{e x:En}(h:x∈put l e):x=e∨x∈l:=by
 rcases mem_putK.1 h with h|h
 ·exact .inl h
 ·exact .inr (mem_dropK.1 h).1
def Time(n:Int):Prop:=0≤n∧n≤1099511627776
def late(a b:Int):Int:=min (a+b) 1099511627776
def Right(k:ByteArray)(h now ttl:Int):Prop:=1≤k.size∧k.size≤16∧0≤h∧h≤63∧Time now∧1≤ttl∧ttl≤1048576
def new(margin:Int):St:=⟨min (max margin 0) 1048576,[]⟩
def Free(s:St)(k:ByteArray)(now:Int):Prop:=∀e,find s.l k=some e→e.dropped=true∨late e.till s.margin≤now
def Holds(s:St)(k:ByteArray)(h ep now:Int):Prop:=∃e,find s.l k=some e∧e.dropped=false∧e.holder=h∧e.epoch=ep∧now<e.till
def epochOf(l:List En)(k:ByteArray):Int:=match find l k with|some e=>e.epoch|none=>0
def holderOf(l:List En)(k:ByteArray):Int:=match find l k with|some e=>e.holder|none=>0
def tillOf(l:List En)(k:ByteArray):Int:=match find l k with|some e=>e.till|none=>0
open Classical in
noncomputable def takeE(s:St)(k:ByteArray)(h now ttl:Int):Nat:=if¬Right k h now ttl then 1 else if¬Free s k now then 9 else 0
def taken(s:St)(k:ByteArray)(h now ttl:Int):St:=⟨s.margin,put s.l ⟨k,h,epochOf s.l k+1,late now ttl,false⟩⟩
open Classical in
noncomputable def takeS(s:St)(k:ByteArray)(h now ttl:Int):St:=if takeE s k h now ttl=0 then taken s k h now ttl else s
open Classical in
noncomputable def takeN(s:St)(k:ByteArray)(h now ttl:Int):Int:=if takeE s k h now ttl=0 then epochOf s.l k+1 else 0
def Other(e:En)(h ep:Int):Prop:=e.holder≠h∨e.epoch≠ep
open Classical in
noncomputable def renewE(s:St)(k:ByteArray)(h ep now ttl:Int):Nat:=
 if¬Right k h now ttl then 1 else match find s.l k with
  |none=>5
  |some e=>if Other e h ep then 8 else if e.dropped=true∨e.till≤now then 9 else 0
def renewed(s:St)(k:ByteArray)(now ttl:Int):St:=match find s.l k with
 |none=>s
 |some e=>⟨s.margin,put s.l ⟨e.name,e.holder,e.epoch,max e.till (late now ttl),e.dropped⟩⟩
open Classical in
noncomputable def renewS(s:St)(k:ByteArray)(h ep now ttl:Int):St:=if renewE s k h ep now ttl=0 then renewed s k now ttl else s
open Classical in
noncomputable def renewN(s:St)(k:ByteArray)(h ep now ttl:Int):Int:=if renewE s k h ep now ttl=0 then max (tillOf s.l k) (late now ttl)else 0
open Classical in
noncomputable def dropE(s:St)(k:ByteArray)(h ep:Int):Nat:=match find s.l k with
 |none=>5
 |some e=>if Other e h ep then 8 else if e.dropped=true then 10 else 0
def droppedS(s:St)(k:ByteArray):St:=match find s.l k with
 |none=>s
 |some e=>⟨s.margin,put s.l ⟨e.name,e.holder,e.epoch,0,true⟩⟩
open Classical in
noncomputable def dropS(s:St)(k:ByteArray)(h ep:Int):St:=if dropE s k h ep=0 then droppedS s k else s
structure Good(s:St):Prop where
 rise:Rise s.l
 m0:0≤s.margin
 m1:s.margin≤1048576
 each:∀e∈s.l,1≤e.name.size∧e.name.size≤16∧0≤e.holder∧e.holder≤63∧1≤e.epoch∧Time e.till∧(e.dropped=true→e.till=0)∧(e.dropped=false→1≤e.till)
theorem new_good(m:Int):Good (new m):=⟨List.Pairwise.nil,by show 0≤min (max m 0) 1048576;omega,by show min (max m 0) 1048576≤1048576;omega,fun e he=>by cases he⟩
theorem late_time{a b:Int}(h1:0≤a)(h2:0≤b):Time (late a b):=by unfold Time late;omega
theorem epoch_pos{s:St}(h:Good s)(k:ByteArray):0≤epochOf s.l k:=by
 unfold epochOf;split
 ·rename_i e he
  have:=h.each e (find_some he).1;omega
 ·omega
theorem taken_good{s:St}(h:Good s){k:ByteArray}{ho now ttl:Int}(hr:Right k ho now ttl):Good (taken s k ho now ttl):=by
 obtain⟨r1,r2,r3,r4,r5,r6,r7⟩:=hr;refine⟨put_rise h.rise _,h.m0,h.m1,fun e he=> ?_⟩;rcases mem_put he with rfl|he
 ·have:=epoch_pos h k
  refine⟨r1,r2,r3,r4,by show 1≤epochOf s.l k+1;omega,late_time r5.1 (by omega),(fun h=>by cases h),fun _=> ?_⟩;have:=r5.1;have:=r5.2;show 1≤late now ttl;unfold late;omega
 ·exact h.each e he
theorem renewed_good{s:St}(h:Good s){k:ByteArray}{ho now ttl:Int}(hr:Right k ho now ttl){e:En}(he:find s.l k=some e)(hd:e.dropped=false):Good (renewed s k now ttl):=by
 unfold renewed;rw[he];obtain⟨r1,r2,r3,r4,r5,r6,r7⟩:=hr;have h1:=h.each e (find_some he).1;refine⟨put_rise h.rise _,h.m0,h.m1,fun x hx=> ?_⟩;rcases mem_put hx with rfl|hx
 ·have h2:=late_time r5.1 (show 0≤ttl by omega)
  have h3:=h1.2.2.2.2.2.1;have h4:=h1.2.2.2.2.2.2.2 hd;refine⟨h1.1,h1.2.1,h1.2.2.1,h1.2.2.2.1,h1.2.2.2.2.1,?_,(fun h=>by rw[show e.dropped=true from h]at hd;cases hd),fun _=> ?_⟩
  ·show Time (max e.till (late now ttl))
   unfold Time at*;omega
  ·show 1≤max e.till (late now ttl)
   omega
 ·exact h.each x hx
theorem dropped_good{s:St}(h:Good s)(k:ByteArray):Good (droppedS s k):=by
 unfold droppedS
 cases he:find s.l k with
 |none=>exact h
 |some e=>
  have h1:=h.each e (find_some he).1;refine⟨put_rise h.rise _,h.m0,h.m1,fun x hx=> ?_⟩;rcases mem_put hx with rfl|hx
  ·exact⟨h1.1,h1.2.1,h1.2.2.1,h1.2.2.2.1,h1.2.2.2.2.1,⟨by show(0:Int)≤0;omega,by show(0:Int)≤1099511627776;omega⟩,fun _=>rfl,fun h=>by cases h⟩
  ·exact h.each x hx
end Go.Proofs.YtabandbigckfkaaGreatDoor.Ls
namespace Go.Proofs.YtabandbigckfkaaGreatDoor
open Go.RowKit
def lval(s:Ls.St)(k:ByteArray):Value:= .agg #[.int .i64 (Ls.holderOf s.l k),.int .i64 (Ls.epochOf s.l k),.int .i64 (Ls.tillOf s.l k)]
def LGet(s:Ls.St)(k:ByteArray)(w:World)(e:Ending)(w':World):Prop:=e= .returned (.tuple #[lval s k,.bool (Ls.find s.l k).isSome])∧Below w.heap.size w w'
def Ls.Few(s:Ls.St)(n:Nat):Prop:=(∀e∈s.l,e.epoch≤n)∧s.l.length≤n
namespace Ls
theorem Few.more{s:St}{n m:Nat}(h:Few s n)(hm:n≤m):Few s m:=⟨fun e he=>by have:=h.1 e he;omega,Nat.le_trans h.2 hm⟩
theorem few_epoch{s:St}{n:Nat}(h:Few s n)(k:ByteArray):epochOf s.l k≤n:=by
 unfold epochOf;split
 ·rename_i e he;exact h.1 e (find_some he).1
 ·omega
theorem put_len(l:List En)(e:En):(put l e).length≤l.length+1:=by
 unfold put;rw[putK_length];have:(dropK l e.name).length≤l.length:=List.length_filter_le _ _;omega
theorem take_few{s:St}{n:Nat}(hf:Few s n)(k:ByteArray)(h now ttl:Int):Few (takeS s k h now ttl) (n+1):=by
 unfold takeS;split
 ·refine⟨fun e he=> ?_,Nat.le_trans (put_len _ _) (Nat.succ_le_succ hf.2)⟩
  rcases mem_put he with rfl|he
  ·have:=few_epoch hf k
   show epochOf s.l k+1≤((n+1:Nat):Int);omega
  ·have:=hf.1 e he;omega
 ·exact hf.more (by omega)
end Ls
theorem jgm:Tryz.prog.underlying 260=some (.struct (Tryz.prog.fieldsOf 260)):=by kernel_rfl
theorem jhy:Tryz.prog.stoodInHeld 260=false:=by kernel_rfl
open Go.Deep Go.Maps Go.WideMaps
abbrev leV(a b c:Int):Value:= .agg #[.int .i64 a,.int .i64 b,.int .i64 c]
def leD(z:Int×Int×Int):DataW Unit:= .agg [.lit (.int .i64 z.1),.lit (.int .i64 z.2.1),.lit (.int .i64 z.2.2)]
def leR:Value→Option (DataW Unit×List MemPlace)
 | .agg ⟨[.int .i64 a,.int .i64 b,.int .i64 c]⟩=>some (leD (a,b,c),[])
 |_=>none
theorem leR_inv{v:Value}{z:DataW Unit×List MemPlace}(h:leR v=some z):∃a b c,v=leV a b c∧z=(leD (a,b,c),[]):=by
 unfold leR at h;split at h
 ·rename_i a b c
  exact⟨a,b,c,rfl,(Option.some.inj h).symm⟩
 ·cases h
theorem leD_inj{z z':Int×Int×Int}(h:leD z=leD z'):z=z':=by
 obtain⟨a,b,c⟩:=z;obtain⟨a',b',c'⟩:=z';unfold leD at h;injection h with h
 simp only[List.cons.injEq,and_true]at h;obtain⟨h1,h2,h3⟩:=h;injection h1 with h1;injection h1 with _ h1
 injection h2 with h2;injection h2 with _ h2
 injection h3 with h3;injection h3 with _ h3
 rw[show a=a' from h1,show b=b' from h2,show c=c' from h3]
theorem jjj(w:World):(zeroValue 260).run Tryz.prog w= .ok (leV 0 0 0) w:=by kernel_rfl
theorem str_inj{a b:ByteArray}(h:Lit.string a.data.toList=Lit.string b.data.toList):a=b:=by
 injection h with h
 exact ByteArray.ext (Array.ext' h)
def LM:MapW Tryz.prog 9 260 118 ByteArray (Int×Int×Int) where
 kv:= .string
 kl:=fun k=> .string k.data.toList
 ok:=fun k=>k.size≤maxLen
 ev:=fun z=>leV z.1 z.2.1 z.2.2
 ed:=leD
 R:=leR
 zero:=(0,0,0)
 keyed:=string_keyed Tryz.underlying9
 ty:=Tryz.underlying118
 key:=fun _ h=>keyOf_string_mk Tryz.underlying9 h
 inv:=fun v z h=>by
  exact string_of_keyOf Tryz.underlying9 h
 inj:=fun _ _ h=>str_inj h
 isKey:=fun _=>trivial
 rd:=fun _=>rfl
 rinv:=fun x z h=>by
  obtain⟨a,b,c,rfl,rfl⟩:=leR_inv h;exact⟨(a,b,c),rfl,rfl⟩
 einj:=fun _ _ h=>leD_inj h
 hz:=jjj
theorem jff(a b c a' b' c':Int)(d:Nat)(W:World):(Op.equalIn (d+2) 260 (leV a b c) (leV a' b' c')).run Tryz.prog W= .ok ((a==a')&&((b==b')&&((c==c')&&true))) W:=by
 rw[run_equalIn_agg W (d+1) 260 _ _ jgm jhy];have hi:∀x y,(Op.equalIn (d+1) 3 (.int .i64 x) (.int .i64 y)).run Tryz.prog W= .ok (x==y) W:=fun x y=>run_equalIn_int W d 3 .i64 .i64 x y Tryz.underlying3;simp only[Program.fieldsOf,Tryz.underlying260];refine jag (by decide) ?_ ?_ (hi _ _) (jag (by decide) ?_ ?_ (hi _ _) (jag (by decide) ?_ ?_ (hi _ _) jdp))
 all_goals simp[go_sem,Sem.run_bind,Result.andThen]
theorem jin{a b c a' b' c':Int}{x:Bool}(h:x=true↔a=a'∧b=b'∧c=c')(W:World):(binOp .eql 260 (leV a b c) (leV a' b' c')).run Tryz.prog W= .ok (.bool x) W:=by
 have e:x=((a==a')&&((b==b')&&((c==c')&&true))):=by
  rw[Bool.eq_iff_iff,h];simp
 rw[run_eql_struct,jff,e];rfl
theorem jlb{a b c a' b' c':Int}{x:Bool}(h:x=true↔¬(a=a'∧b=b'∧c=c'))(W:World):(binOp .neq 260 (leV a b c) (leV a' b' c')).run Tryz.prog W= .ok (.bool x) W:=by
 have e:x= !((a==a')&&((b==b')&&((c==c')&&true))):=by
  rw[Bool.eq_iff_iff,h];simp only[Bool.not_eq_true',Bool.and_eq_false_iff,beq_eq_false_iff_ne,Bool.true_eq_false,or_false];rw[Classical.not_and_iff_not_or_not,Classical.not_and_iff_not_or_not]
 rw[run_neq_struct,jff,e];rfl
theorem jch(W:World)(a b c:Int):Calls Tryz.prog 287 #[leV a b c] W (fun e w'=>e= .returned (.bool (c==0))∧Below W.heap.size W w'):=by
 have hE:=fun W=>jin (a:=a) (b:=b) (c:=c) (a':=a) (b':=b) (c':=0) (x:=c==0) (by simp) W;have B1:=zh ((Below.refl W.heap.size W).alloc (Nat.le_refl _) (.cells #[.int .i64 a,.int .i64 b,.int .i64 c] 260));generalize(c==0)=x at*;unfold leV at*;go_enter Tryz.func287,Tryz.ntmps287;go_wp2_with fail;go_ret;exact⟨rfl,B1.out⟩
theorem jhz(W:World)(a b c:Int){x:Bool}(hx:x=true↔¬(a=0∧b=0∧c=0)):Calls Tryz.prog 253 #[leV a b c] W (fun e w'=>e= .returned (.bool x)∧Below W.heap.size W w'):=by
 have hE:=fun W=>jlb hx W;have B1:=zh ((Below.refl W.heap.size W).alloc (Nat.le_refl _) (.cells #[.int .i64 a,.int .i64 b,.int .i64 c] 260));clear hx;unfold leV at*;go_enter Tryz.func253,Tryz.ntmps253;go_wp2_with fail;go_ret;exact⟨rfl,B1.out⟩
theorem jfw(W:World)(a b c h ep:Int){x:Bool}(hx:x=true↔a=h∧b=ep):Calls Tryz.prog 246 #[leV a b c,.int .i64 h,.int .i64 ep] W (fun e w'=>e= .returned (.bool x)∧Below W.heap.size W w'):=by
 have hE:=fun W=>jin (a:=a) (b:=b) (c:=c) (a':=h) (b':=ep) (c':=c) (x:=x) (by rw[hx];simp) W;have B1:=zh ((Below.refl W.heap.size W).alloc (Nat.le_refl _) (.cells #[.int .i64 a,.int .i64 b,.int .i64 c] 260));clear hx;unfold leV at*;go_enter Tryz.func246,Tryz.ntmps246;go_wp2_with fail;go_ret;exact⟨rfl,B1.out⟩
theorem jc8(W:World)(a b:Int)(h1: -4611686018427387904≤a)(h2:a≤4611686018427387904)(h3: -4611686018427387904≤b)(h4:b≤4611686018427387903):Calls Tryz.prog 251 #[.int .i64 a,.int .i64 b] W (fun e w'=>e= .returned (.int .i64 (Ls.late a b))∧w'=W):=by
 have hs:wrap64 (a+b)=a+b:=IntWalk.wrap64_in _ ⟨by omega,by omega⟩;unfold Ls.late;go_enter Tryz.func251,Tryz.ntmps251;go_wp2_with fail;go_ret;exact⟨rfl,rfl⟩
end Go.Proofs.YtabandbigckfkaaGreatDoor
namespace Go.Proofs.YtabandbigckfkaaGreatDoor
open Go.RowKit Go.Deep Go.Maps
theorem jdw(W:World)(a b c now:Int){x:Bool}(hx:x=true↔c≠0∧now<c):Calls Tryz.prog 247 #[leV a b c,.int .i64 now] W (fun e w'=>e= .returned (.bool x)∧Below W.heap.size W w'):=by
 have C:=zh (jch (W.alloc (.cells #[.int .i64 a,.int .i64 b,.int .i64 c] 260)) a b c);have B0:=zh ((Below.refl W.heap.size W).alloc (Nat.le_refl _) (.cells #[.int .i64 a,.int .i64 b,.int .i64 c] 260));have R0:=zh (heap_alloc_new W (.cells #[.int .i64 a,.int .i64 b,.int .i64 c] 260));by_cases hc:c=0
 ·have hv:(c==0)=true:=by simp[hc]
  obtain rfl:x=false:=by rw[Bool.eq_false_iff];intro h;exact(hx.1 h).1 hc
  rw[hv]at C;clear hx hc hv;unfold leV at*;go_enter Tryz.func247,Tryz.ntmps247;go_wp2_with(go_at_call 287;(with_reducible refine C.out.mono ?_);rintro e w1 ⟨rfl,hb⟩;have B1:=zh (B0.out.trans (hb.mono B0.out.size));clear hb);go_ret;exact⟨rfl,B1.out⟩
 ·have hv:(c==0)=false:=by simp[hc]
  have hx2:x=decide (now<c):=by rw[Bool.eq_iff_iff,hx];simp[hc]
  subst hx2;rw[hv]at C;clear hx hc hv;unfold leV at*;go_enter Tryz.func247,Tryz.ntmps247;go_wp2_with(go_at_call 287;(with_reducible refine C.out.mono ?_);rintro e w1 ⟨rfl,hb⟩;have B1:=zh (B0.out.trans (hb.mono B0.out.size));have R1:=jaf R0.out hb;have c2:w1.cell? ⟨W.heap.size,2,none⟩=some (.int .i64 c):=(by rw[cell_of_row w1 W.heap.size 2 _ _ _ R1];rfl);clear hb R1);go_ret;exact⟨rfl,B1.out⟩
theorem jfg(W:World)(a b c now m:Int)(h1:0≤c)(h2:c≤1099511627776)(h3:0≤m)(h4:m≤1048576){x:Bool}(hx:x=true↔c=0∨Ls.late c m≤now):Calls Tryz.prog 248 #[leV a b c,.int .i64 now,.int .i64 m] W (fun e w'=>e= .returned (.bool x)∧Below W.heap.size W w'):=by
 have C:=zh (jch (W.alloc (.cells #[.int .i64 a,.int .i64 b,.int .i64 c] 260)) a b c);have B0:=zh ((Below.refl W.heap.size W).alloc (Nat.le_refl _) (.cells #[.int .i64 a,.int .i64 b,.int .i64 c] 260));have R0:=zh (heap_alloc_new W (.cells #[.int .i64 a,.int .i64 b,.int .i64 c] 260));have CL:=zh (fun W=>jc8 W c m (by omega) (by omega) (by omega) (by omega));by_cases hc:c=0
 ·have hv:(c==0)=true:=by simp[hc]
  obtain rfl:x=true:=hx.2 (.inl hc);rw[hv]at C;clear hx hc hv h1 h2 h3 h4;unfold leV at*;go_enter Tryz.func248,Tryz.ntmps248;go_wp2_with(go_at_call 287;(with_reducible refine C.out.mono ?_);rintro e w1 ⟨rfl,hb⟩;have B1:=zh (B0.out.trans (hb.mono B0.out.size));clear hb);go_ret;exact⟨rfl,B1.out⟩
 ·have hv:(c==0)=false:=by simp[hc]
  have hx2:x=decide (Ls.late c m≤now):=by rw[Bool.eq_iff_iff,hx];simp[hc]
  subst hx2;rw[hv]at C;generalize Ls.late c m=d at*;clear hx hc hv h1 h2 h3 h4;unfold leV at*;go_enter Tryz.func248,Tryz.ntmps248
  go_wp2_with(first
   |(go_at_call 287;(with_reducible refine C.out.mono ?_);rintro e w1 ⟨rfl,hb⟩;have B1:=zh (B0.out.trans (hb.mono B0.out.size));have R1:=jaf R0.out hb;have c2:w1.cell? ⟨W.heap.size,2,none⟩=some (.int .i64 c):=(by rw[cell_of_row w1 W.heap.size 2 _ _ _ R1];rfl);clear hb R1)
   |(go_at_call 251;(with_reducible refine(CL.out _).mono ?_);rintro e w2 ⟨rfl,rfl⟩))
  go_ret;exact⟨rfl,B1.out⟩
theorem jgn(n:Int)(W:World):Calls Tryz.prog 184 #[.int .i64 n,.int .i64 0,.int .i64 1048576] W (fun e w'=>e= .returned (.int .i64 (max 0 (min n 1048576)))∧w'=W):=by
 go_enter Tryz.func184,Tryz.ntmps184;go_wp2_with fail;go_ret;exact⟨rfl,rfl⟩
theorem jgo(n:Int)(W:World):Calls Tryz.prog 110 #[.int .i64 n] W (fun e w'=>e= .returned (.int .i64 (max 0 (min n 1048576)))∧w'=W):=by
 have C:=zh (jgn n W);generalize max 0 (min n 1048576)=d at*;go_enter Tryz.func110,Tryz.ntmps110;go_wp2_with(go_at_call 184;(with_reducible refine C.out.mono ?_);rintro e w1 ⟨rfl,rfl⟩);go_ret;exact⟨rfl,rfl⟩
theorem jdk(W:World)(k:ByteArray)(h now ttl:Int)(hk:k.size≤maxLen){x:Bool}(hx:x=true↔Ls.Right k h now ttl):Calls Tryz.prog 249 #[.string k,.int .i64 h,.int .i64 now,.int .i64 ttl] W (fun e w'=>e= .returned (.bool x)∧w'=W):=by
 have C:=zh (fun W=>jgo ttl W);have hks:(k.size:Int)≤9223372036854775807:=by unfold maxLen at hk;omega
 have NO:¬Ls.Right k h now ttl→x=false:=fun h=>by rw[Bool.eq_false_iff];intro h2;exact h (hx.1 h2)
 by_cases g1:k.size=0
 ·obtain rfl:=NO fun h=>by have:=h.1;omega
  have hk:k=⟨#[]⟩:=ByteArray.ext (Array.eq_empty_of_size_eq_zero g1);subst hk;clear hx NO hks g1;go_enter Tryz.func249,Tryz.ntmps249;go_wp2_with fail;go_ret;exact⟨rfl,rfl⟩
 have hke:k.toList.isEmpty=false:=by
  rw[Bool.eq_false_iff];intro h;refine g1 ?_;have h1:k.toList=ByteArray.toList ⟨#[]⟩:=(List.isEmpty_iff.1 h).trans (by rw[ByteArray.toList_eq]);rw[Kv.teq.1 (beq_iff_eq.2 h1)];rfl
 by_cases g2:(k.size:Int)≤16
 case neg=>
  obtain rfl:=NO fun h=>by have:=h.2.1;omega
  clear hx NO;go_enter Tryz.func249,Tryz.ntmps249;go_wp2_with fail;go_ret;exact⟨rfl,rfl⟩
 by_cases g3:0≤h
 case neg=>
  obtain rfl:=NO fun h=>by have:=h.2.2.1;omega
  clear hx NO;go_enter Tryz.func249,Tryz.ntmps249;go_wp2_with fail;go_ret;exact⟨rfl,rfl⟩
 by_cases g4:h≤63
 case neg=>
  obtain rfl:=NO fun h=>by have:=h.2.2.2.1;omega
  clear hx NO;go_enter Tryz.func249,Tryz.ntmps249;go_wp2_with fail;go_ret;exact⟨rfl,rfl⟩
 by_cases g5:0≤now
 case neg=>
  obtain rfl:=NO fun h=>by have:=h.2.2.2.2.1.1;omega
  clear hx NO;go_enter Tryz.func249,Tryz.ntmps249;go_wp2_with fail;go_ret;exact⟨rfl,rfl⟩
 by_cases g6:now≤1099511627776
 case neg=>
  obtain rfl:=NO fun h=>by have:=h.2.2.2.2.1.2;omega
  clear hx NO;go_enter Tryz.func249,Tryz.ntmps249;go_wp2_with fail;go_ret;exact⟨rfl,rfl⟩
 by_cases g7:0<ttl
 case neg=>
  obtain rfl:=NO fun h=>by have:=h.2.2.2.2.2.1;omega
  clear hx NO;go_enter Tryz.func249,Tryz.ntmps249;go_wp2_with fail;go_ret;exact⟨rfl,rfl⟩
 obtain⟨d,hd⟩:∃d,d=max 0 (min ttl 1048576):=⟨_,rfl⟩;have hE:(ttl==d)=x:=by
  rw[Bool.eq_iff_iff,hx,beq_iff_eq,hd];constructor
  ·intro h2
   exact⟨by omega,by omega,g3,g4,⟨g5,g6⟩,by omega,by omega⟩
  ·intro h2
   have:=h2.2.2.2.2.2.2;omega
 rw[←hd]at C;clear hx NO hd;go_enter Tryz.func249,Tryz.ntmps249;go_wp2_with(go_at_call 110;(with_reducible refine(C.out _).mono ?_);rintro e w1 ⟨rfl,rfl⟩);go_ret;exact⟨rfl,rfl⟩
namespace Ls
def zOf(l:List En)(k:ByteArray):Option (Int×Int×Int):=(find l k).map fun e=>(e.holder,e.epoch,e.till)
theorem zOf_some(l:List En)(k:ByteArray):(zOf l k).isSome=(find l k).isSome:=by unfold zOf;cases find l k<;>rfl
theorem zOf_getD(l:List En)(k:ByteArray):(zOf l k).getD (0,0,0)=(holderOf l k,epochOf l k,tillOf l k):=by unfold zOf holderOf epochOf tillOf;cases find l k<;>rfl
theorem dropK_length{l:List En}(h:Rise l)(k:ByteArray):(dropK l k).length+(if(find l k).isSome then 1 else 0)=l.length:=by
 induction l with
 |nil=>rfl
 |cons e l ih=>
  have hr:=List.pairwise_cons.1 h;rw[dropK_cons,find_cons];by_cases hk:e.name=k
  ·have:find l k=none:=find_none.2 fun x hx hxk=>Kv.lt_ne (hr.1 x hx) (hk.trans hxk.symm)
   have h2:=ih hr.2;rw[this]at h2;rw[if_pos hk,if_pos hk];simp at h2⊢;exact h2
  ·have h2:=ih hr.2
   rw[if_neg hk,if_neg hk,List.length_cons,List.length_cons];omega
theorem put_length{l:List En}(h:Rise l)(e:En):(put l e).length=if(find l e.name).isSome then l.length else l.length+1:=by
 have h2:=dropK_length h e.name;unfold put;rw[putK_length];split at h2<;>simp_all<;>omega
theorem zOf_put(l:List En)(e:En):zOf (put l e)=MapW.set (zOf l) e.name (some (e.holder,e.epoch,e.till)):=by
 funext k;by_cases h:k=e.name
 ·subst h
  rw[MapW.set_same];unfold zOf;rw[find_put,if_pos rfl];rfl
 ·rw[MapW.set_other _ _ h]
  unfold zOf;rw[find_put,if_neg (fun e=>h e.symm)]
theorem taken_iff{s:St}(h:Good s)(k:ByteArray):(find s.l k).isSome=true↔¬(holderOf s.l k=0∧epochOf s.l k=0∧tillOf s.l k=0):=by
 unfold holderOf epochOf tillOf
 cases he:find s.l k with
 |none=>simp
 |some e=>
  have:=(h.each e (find_some he).1).2.2.2.2.1;simp;intro _ h2;omega
theorem till_time{s:St}(h:Good s)(k:ByteArray):0≤tillOf s.l k∧tillOf s.l k≤1099511627776:=by
 unfold tillOf
 cases he:find s.l k with
 |none=>simp
 |some e=>exact(h.each e (find_some he).1).2.2.2.2.2.1
theorem free_iff{s:St}(h:Good s)(k:ByteArray)(now:Int):Free s k now↔tillOf s.l k=0∨late (tillOf s.l k) s.margin≤now:=by
 unfold Free tillOf
 cases he:find s.l k with
 |none=>simp
 |some e=>
  have h1:=h.each e (find_some he).1;simp
  cases hd:e.dropped with
  |true=>have:=h1.2.2.2.2.2.2.1 hd;simp[this]
  |false=>have:=h1.2.2.2.2.2.2.2 hd;simp;omega
theorem holds_is{s:St}(h:Good s)(k:ByteArray)(ho ep now:Int):Holds s k ho ep now↔(holderOf s.l k=ho∧epochOf s.l k=ep)∧(tillOf s.l k≠0∧now<tillOf s.l k):=by
 unfold Holds holderOf epochOf tillOf
 cases he:find s.l k with
 |none=>simp
 |some e=>
  have h1:=h.each e (find_some he).1;simp
  cases hd:e.dropped with
  |true=>have:=h1.2.2.2.2.2.2.1 hd;simp[this]
  |false=>have:=h1.2.2.2.2.2.2.2 hd;simp;omega
end Ls
structure LsIs(w:World)(q:Nat)(cs:Array Value)(ty:TypeId)(mo:Option Nat)(s:Ls.St):Prop where
 row:w.heap[q]? =some (.cells cs ty (0,0))
 k0:cs[0]? =some (.int .i64 s.margin)
 k1:cs[1]? =some (.map mo)
 map:LM.Opt w mo (Ls.zOf s.l) s.l.length
 good:Ls.Good s
 few:Ls.Few s 2199023255553
theorem LsIs.ne{w:World}{q m:Nat}{cs:Array Value}{ty:TypeId}{s:Ls.St}(h:LsIs w q cs ty (some m) s):q≠m:=fun e=>by
 obtain⟨es,clock,hb⟩:=MapW.At.block (M:=LM) h.map;have:=h.row;rw[e,hb]at this;injection this with this
 cases this
theorem LsIs.cells{w:World}{q:Nat}{cs:Array Value}{ty:TypeId}{mo:Option Nat}{s:Ls.St}(h:LsIs w q cs ty mo s):w.cell? ⟨q,0,none⟩=some (.int .i64 s.margin)∧w.cell? ⟨q,1,none⟩=some (.map mo)∧w.frozen? ⟨q,1,none⟩=false∧q<w.heap.size:=
 ⟨by rw[cell_of_row w q 0 _ _ _ h.row];exact h.k0,by rw[cell_of_row w q 1 _ _ _ h.row];exact h.k1,frozen_of_row _ _ _ _ _ h.row,(Array.getElem?_eq_some_iff.1 h.row).1⟩
theorem set_same{cs:Array Value}{k:Nat}{v:Value}(h:cs[k]? =some v):cs.setIfInBounds k v=cs:=by
 refine Array.ext_getElem? fun i=> ?_;rw[Array.getElem?_setIfInBounds];split
 ·rename_i e
  subst e;rw[h];split
  ·rfl
  ·rename_i h2
   rw[Array.getElem?_eq_none (by omega)]at h
   cases h
 ·rfl
theorem set_k0{cs:Array Value}{v u:Value}(h:cs[0]? =some v):(cs.setIfInBounds 1 u)[0]? =some v:=by rw[Array.getElem?_setIfInBounds_ne (by decide)];exact h
theorem set_k1{cs:Array Value}{v u:Value}(h:cs[1]? =some v):(cs.setIfInBounds 1 u)[1]? =some u:=by
 rw[Array.getElem?_setIfInBounds_self,if_pos];exact(Array.getElem?_eq_some_iff.1 h).1
theorem LsIs.keep{w w':World}{q:Nat}{cs:Array Value}{ty:TypeId}{mo:Option Nat}{s:Ls.St}(h:LsIs w q cs ty mo s)(h1:w'.heap[q]? =w.heap[q]?)(h2:∀m,mo=some m→w'.heap[m]? =w.heap[m]?):LsIs w' q cs ty mo s:=⟨h1.trans h.row,h.k0,h.k1,h.map.keep h2,h.good,h.few⟩
theorem LsIs.on{w w':World}{q:Nat}{cs:Array Value}{ty:TypeId}{mo:Option Nat}{s:Ls.St}(h:LsIs w q cs ty mo s)(hb:Below w.heap.size w w'):LsIs w' q cs ty mo s:=⟨(hb.block q h.cells.2.2.2).trans h.row,h.k0,h.k1,h.map.on hb,h.good,h.few⟩
theorem LsIs.look{w:World}{q:Nat}{cs:Array Value}{ty:TypeId}{mo:Option Nat}{s:Ls.St}(h:LsIs w q cs ty mo s)(k:ByteArray)(hk:k.size≤maxLen):(Instr.lookup 118 (.map mo) (.string k) false).run Tryz.prog w= .ok (leV (Ls.holderOf s.l k) (Ls.epochOf s.l k) (Ls.tillOf s.l k)) w:=by
 have:=h.map.look k hk;rw[show LM.zero=(0,0,0)from rfl,Ls.zOf_getD]at this;exact this
theorem jgp(W:World)(m:Int):Calls Tryz.prog 115 #[.int .i64 m] W (fun e w'=>e= .returned (.pointer (some ⟨W.heap.size,0,none⟩))∧LsIs w' W.heap.size #[.int .i64 (Ls.new m).margin,.map none] 120 none (Ls.new m)∧Below W.heap.size W w'):=by
 have C:=zh (jgo m W);have E:Hid (max 0 (min m 1048576)=(Ls.new m).margin):=by show _=min (max m 0) 1048576;omega
 generalize max 0 (min m 1048576)=d at*;have B1:=zh ((Below.refl W.heap.size W).alloc (Nat.le_refl _) (.cells #[.int .i64 d,.map none] 120));have R1:=zh (heap_alloc_new W (.cells #[.int .i64 d,.map none] 120));go_enter Tryz.func115,Tryz.ntmps115;go_wp2_with(go_at_call 110;(with_reducible refine C.out.mono ?_);rintro e w1 ⟨rfl,rfl⟩);go_ret;rw[E.out]at R1 B1⊢;exact⟨rfl,⟨R1.out,rfl,rfl,⟨fun _=>rfl,rfl⟩,Ls.new_good m,⟨fun e he=>(by cases he),by show 0≤2199023255553;omega⟩⟩,B1.out⟩
end Go.Proofs.YtabandbigckfkaaGreatDoor
namespace Go.Proofs.YtabandbigckfkaaGreatDoor
open Go.RowKit Go.Maps Go.WideMaps
def kl(k:ByteArray):Lit:= .string k.data.toList
def eD(v:ByteArray)(r:Int):DataW Unit:= .agg [.lit (.string v.data.toList),.lit (.int .i64 r)]
def eR:Value→Option (DataW Unit×List MemPlace)
 | .agg ⟨[.string s,.int .i64 r]⟩=>some (eD s r,[])
 |_=>none
theorem jlc(v:ByteArray)(r:Int):eR (.agg #[.string v,.int .i64 r])=some (eD v r,[]):=rfl
theorem jld{v:Value}{z:DataW Unit×List MemPlace}(h:eR v=some z):∃s r,v= .agg #[.string s,.int .i64 r]∧z=(eD s r,[]):=by
 unfold eR at h;split at h
 ·rename_i s r
  exact⟨s,r,rfl,(Option.some.inj h).symm⟩
 ·cases h
theorem jet{a b:ByteArray}(h:kl a=kl b):a=b:=by
 unfold kl at h;injection h with h
 exact ByteArray.ext (Array.ext' h)
theorem jle{v v':ByteArray}{r r':Int}(h:eD v r=eD v' r'):v=v'∧r=r':=by
 unfold eD at h;injection h with h
 simp only[List.cons.injEq,and_true]at h;obtain⟨h1,h2⟩:=h;injection h1 with h1
 injection h2 with h2
 injection h2 with _ h2
 exact⟨jet h1,h2⟩
theorem jc1(k:ByteArray):WideAt.IsKeyLit (kl k):=trivial
structure DIs(D:DataW Unit)(l:List Kv.En):Prop where
 has:∀k:ByteArray,Maps.has D (kl k)=(Kv.find l k).isSome
 at_:∀(k:ByteArray) (e:Kv.En),Kv.find l k=some e→∀z,D.atKey (kl k) z=eD e.val e.rev
 size:Maps.size D=l.length
 tidy:Tidy D
theorem DIs.look{D:DataW Unit}{l:List Kv.En}(h:DIs D l)(k:ByteArray):D.atKey (kl k) (eD ⟨#[]⟩ 0)=eD (Kv.valOf l k) (Kv.revOf l k):=by
 unfold Kv.valOf Kv.revOf
 cases hf:Kv.find l k with
 |none=>
  have:=h.has k;rw[hf]at this;exact Maps.atKey_of_not_has this _
 |some e=>exact h.at_ k e hf _
theorem DIs.nil:DIs (.map []) []:=⟨fun _=>rfl,fun k e h=>(by cases h),rfl,tidy_empty⟩
theorem dropK_length{l:List Kv.En}(h:Kv.Rise l)(k:ByteArray):(Kv.dropK l k).length+(if(Kv.find l k).isSome then 1 else 0)=l.length:=by
 induction l with
 |nil=>rfl
 |cons e l ih=>
  have hr:=List.pairwise_cons.1 h;rw[Kv.dropK_cons,Kv.find_cons];by_cases hk:e.key=k
  ·have:Kv.find l k=none:=Kv.find_none.2 fun x hx hxk=>Kv.lt_ne (hr.1 x hx) (hk.trans hxk.symm)
   have h2:=ih hr.2;rw[this]at h2;rw[if_pos hk,if_pos hk];simp at h2⊢;exact h2
  ·have h2:=ih hr.2
   rw[if_neg hk,if_neg hk,List.length_cons,List.length_cons];omega
theorem DIs.del{D:DataW Unit}{l:List Kv.En}(h:DIs D l)(hr:Kv.Rise l)(k:ByteArray):DIs (D.del (kl k)) (Kv.dropK l k):=by
 refine⟨fun k'=> ?_,fun k' e he z=> ?_,?_,h.tidy.del _⟩
 ·rw[Kv.find_dropK]
  by_cases hk:k'=k
  ·subst hk;rw[if_pos rfl];exact has_del_same
  ·rw[if_neg hk,has_del_other (fun e=>hk (jet e))];exact h.has k'
 ·rw[Kv.find_dropK]at he
  by_cases hk:k'=k
  ·rw[if_pos hk]at he;cases he
  ·rw[if_neg hk]at he
   rw[atKey_del_other (fun e=>hk (jet e))];exact h.at_ k' e he z
 ·have h1:=size_del (k:=kl k) h.tidy
  have h2:=dropK_length hr k;rw[h.has k,h.size]at h1;omega
theorem DIs.put{D:DataW Unit}{l:List Kv.En}(h:DIs D l)(hr:Kv.Rise l)(k v:ByteArray)(r:Int):DIs (D.put (kl k) (eD v r)) (Kv.putK (Kv.dropK l k) ⟨k,v,r⟩):=by
 have hne:∀x∈Kv.dropK l k,x.key≠(⟨k,v,r⟩:Kv.En).key:=fun x hx=>(Kv.mem_dropK.1 hx).2;refine⟨fun k'=> ?_,fun k' e he z=> ?_,?_,h.tidy.put (jc1 k) _⟩
 ·rw[Kv.find_putK hne,Kv.find_dropK]
  by_cases hk:k=k'
  ·subst hk;rw[if_pos rfl];exact has_put_same h.tidy.isMap (jc1 k) _
  ·rw[if_neg hk,if_neg (fun e=>hk e.symm),has_put_other (fun e=>hk (jet e).symm)];exact h.has k'
 ·rw[Kv.find_putK hne,Kv.find_dropK]at he
  by_cases hk:k=k'
  ·subst hk
   rw[if_pos rfl]at he;obtain rfl:=Option.some.inj he;exact atKey_put_same h.tidy.isMap (jc1 k) _ _
  ·rw[if_neg hk,if_neg (fun e=>hk e.symm)]at he
   rw[atKey_put_other (fun e=>hk (jet e).symm)];exact h.at_ k' e he z
 ·have h1:=size_put (k:=kl k) h.tidy (eD v r)
  have h2:=dropK_length hr k;rw[h.has k,h.size]at h1;rw[h1,Kv.putK_length];split at h2<;>simp_all<;>omega
def jbm(P:Program)(kt:TypeId)(w:World)(b:Nat)(l:List Kv.En):Prop:=∃D,w.ownsMap P kt eR b l.length D∧DIs D l
section
variable{P:Program}{kt et t:TypeId}{w w':World}{b:Nat}{l:List Kv.En}
theorem owns_tight{n:Nat}{D:DataW Unit}(h:w.ownsMap P kt eR b n D):w.ownsMap P kt eR b (Maps.size D) D:=by
 obtain⟨es,clock,hb,F,_,rfl⟩:=h;refine⟨es,clock,hb,F,?_,rfl⟩;simp[Maps.size,length_sorted]
theorem jbm.of{n:Nat}{D:DataW Unit}(h:w.ownsMap P kt eR b n D)(hd:DIs D l):jbm P kt w b l:=⟨D,by rw[←hd.size];exact owns_tight h,hd⟩
theorem jbm.made(w:World):jbm P kt (w.alloc (.map #[] 0)) w.heap.size []:=⟨_,World.ownsMap_made w P kt eR,DIs.nil⟩
theorem jbm.lt(h:jbm P kt w b l):b<w.heap.size:=by
 obtain⟨D,h1,_⟩:=h;exact h1.lt
theorem jbm.keep(h:jbm P kt w b l)(hb:w'.heap[b]? =w.heap[b]?):jbm P kt w' b l:=by
 obtain⟨D,⟨es,clock,h1,h2⟩,hd⟩:=h;exact⟨D,⟨es,clock,hb.trans h1,h2⟩,hd⟩
theorem jn4(hk:P.underlying kt=some .string)(ht:P.underlying t=some (.map kt et))(hz:(zeroValue et).run P w= .ok (.agg #[.string ⟨#[]⟩,.int .i64 0]) w)(h:jbm P kt w b l)(k:ByteArray)(hs:k.size≤maxLen):
  (Instr.lookup t (.map (some b)) (.string k) false).run P w= .ok (.agg #[.string (Kv.valOf l k),.int .i64 (Kv.revOf l k)]) w:=by
 obtain⟨D,h1,hd⟩:=h;obtain⟨v,ps,hrun,hv⟩:=h1.lookup (string_keyed hk) ht hz (jlc ⟨#[]⟩ 0) (keyOf_string_mk hk hs);obtain⟨s,r,rfl,_⟩:=jld hv;have h2:=hd.look k;obtain⟨e1,e2⟩:=jle ((show D.atKey (kl k) (eD ⟨#[]⟩ 0)=eD s r by have:=jlc s r;exact Option.some.inj (hv.symm.trans this)|>congrArg Prod.fst).symm.trans h2);subst e1 e2;exact hrun
theorem jh0(hk:P.underlying kt=some .string)(ht:P.underlying t=some (.map kt et))(hz:(zeroValue et).run P w= .ok (.agg #[.string ⟨#[]⟩,.int .i64 0]) w)(h:jbm P kt w b l)(k:ByteArray)(hs:k.size≤maxLen):
  (Instr.lookup t (.map (some b)) (.string k) true).run P w= .ok (.tuple #[.agg #[.string (Kv.valOf l k),.int .i64 (Kv.revOf l k)],.bool (Kv.find l k).isSome]) w:=by
 obtain⟨D,h1,hd⟩:=h;obtain⟨v,ps,hrun,hv⟩:=h1.look_ok (string_keyed hk) ht hz (jlc ⟨#[]⟩ 0) (keyOf_string_mk hk hs);obtain⟨s,r,rfl,_⟩:=jld hv;have h2:=hd.look k;obtain⟨e1,e2⟩:=jle ((show D.atKey (kl k) (eD ⟨#[]⟩ 0)=eD s r by have:=jlc s r;exact Option.some.inj (hv.symm.trans this)|>congrArg Prod.fst).symm.trans h2);subst e1 e2;have h3:Maps.has D (.string k.data.toList)=(Kv.find l k).isSome:=hd.has k;rw[h3]at hrun;exact hrun
theorem put_run(hk:P.underlying kt=some .string)(ht:P.underlying t=some (.map kt et))(h:jbm P kt w b l)(hr:Kv.Rise l)(hl:l.length≤1000000)(k u:ByteArray)(r:Int)(hs:k.size≤maxLen):
  ∃w',(Instr.mapUpdate t (.map (some b)) (.string k) (.agg #[.string u,.int .i64 r])).run P w= .ok () w'∧jbm P kt w' b (Kv.putK (Kv.dropK l k) ⟨k,u,r⟩)∧w.mapTurned w' b:=by
 obtain⟨D,h1,hd⟩:=h;obtain⟨w',hrun,h2,h3⟩:=h1.store (string_keyed hk) ht (by unfold maxLen;omega) (keyOf_string_mk hk hs) (jlc u r);exact⟨w',hrun,jbm.of h2 (hd.put hr k u r),h3⟩
theorem jn5(hk:P.underlying kt=some .string)(ht:P.underlying t=some (.map kt et))(h:jbm P kt w b l)(hr:Kv.Rise l)(k:ByteArray)(hs:k.size≤maxLen)(ty:TypeId):
  ∃w',(Builtin.delete_ #[t,kt] ty #[.map (some b),.string k]).run P w= .ok (.tuple #[]) w'∧jbm P kt w' b (Kv.dropK l k)∧w.mapTurned w' b:=by
 obtain⟨D,h1,hd⟩:=h;obtain⟨w',hrun,h2,h3⟩:=h1.drop (string_keyed hk) ht (keyOf_string_mk hk hs) ty;exact⟨w',hrun,jbm.of h2 (hd.del hr k),h3⟩
theorem len_run(ht:P.underlying t=some (.map kt et))(h:jbm P kt w b l)(ty:TypeId):(Builtin.len_ #[t] ty #[.map (some b)]).run P w= .ok (.int .i64 (l.length:Nat)) w:=by
 obtain⟨D,h1,hd⟩:=h;rw[←hd.size];exact h1.len ht ty
variable{ops:Array Oper}{rest:List Oper}{o:Oper}{a:Act}{Q:Exit→Act→World→Prop}
end
end Go.Proofs.YtabandbigckfkaaGreatDoor
namespace Go.Proofs.YtabandbigckfkaaGreatDoor
open Go.RowKit Go.Deep
abbrev jjk(x:Int):Prop:= -9223372036854775808≤x∧x≤9223372036854775807
def EPo(_:World)(cs:List Value)(o:Kv.Po):Prop:=cs=[.string o.key,.string o.val,.int .i64 o.rev,.bool o.drop]∧o.key.size≤maxLen∧o.val.size≤maxLen∧jjk o.rev
def ETx(_:World)(cs:List Value)(s:ByteArray):Prop:=cs=[.string s]
abbrev SlP(w:World)(A:Option Addr)(n c:Nat)(l:List Kv.Po):Prop:=SlR 4 EPo w A n c l
theorem ETx.on:∀w w' cs t,Below w.heap.size w w'→ETx w cs t→ETx w' cs t:=fun _ _ _ _ _ h=>h
theorem jio:(Tryz.prog.info? 265).map (fun i=>(i.zero,i.size,i.bytes))=some (some (.agg #[.string ⟨#[]⟩,.string ⟨#[]⟩,.int .i64 0,.bool false]),4,48):=by kernel_rfl
theorem tx_info:(Tryz.prog.info? 9).map (fun i=>(i.zero,i.size,i.bytes))=some (some (.string ⟨#[]⟩),1,16):=by kernel_rfl
abbrev jh1(w:World)(B:Nat)(v:Value)(l:List ByteArray):Prop:=OwnR 1 ETx 9 w w B v l
theorem jh1.any{w0 w1 w:World}{e:TypeId}{B:Nat}{v:Value}{l:List ByteArray}(h:OwnR 1 ETx e w0 w B v l):OwnR 1 ETx e w1 w B v l:=h
theorem OwnR.lower{T:Type}{K:Nat}{E:World→List Value→T→Prop}{e:TypeId}{w0 w:World}{B B':Nat}{v:Value}{ts:List T}(h:OwnR K E e w0 w B v ts)(hB:B'≤B):OwnR K E e w0 w B' v ts:=by
 obtain⟨xs,h1,h2⟩:=h;exact⟨xs,jdf h1 hB,h2⟩
def KTx(l:List ByteArray)(w:World)(e:Ending)(w':World):Prop:=∃v,e= .returned v∧jh1 w' w.heap.size v l∧Below w.heap.size w w'
def KInt(x:Int)(w:World)(e:Ending)(w':World):Prop:=e= .returned (.int .i64 x)∧Below w.heap.size w w'
def KBool(p:Prop)(w:World)(e:Ending)(w':World):Prop:=(∃x:Bool,e= .returned (.bool x)∧(x=true↔p))∧Below w.heap.size w w'
def KGet(s:Kv.St)(k:ByteArray)(w:World)(e:Ending)(w':World):Prop:=e= .returned (.tuple #[.string (Kv.valOf s.l k),.int .i64 (Kv.revOf s.l k)])∧Below w.heap.size w w'
theorem SlR.cell{T:Type}{K:Nat}{E:World→List Value→T→Prop}{w:World}{b o n c:Nat}{ts:List T}(h:SlR K E w (some ⟨b,o,none⟩) n c ts){j:Nat}(hj:j<ts.length):
  b<w.heap.size∧∃cs,cs.length=K∧(∀i,i<K→w.cell? ⟨b,o+j*K+i,none⟩=cs[i]?)∧E w cs ts[j]:=by
 obtain⟨b',o',cs,e,h1,h2,h3,h4⟩:=h.rd j ts[j] (List.getElem?_eq_getElem hj);injection e with e;injection e with e1 e2;subst e1 e2
 exact⟨h1,cs,h2,h3,h4⟩
theorem SlR.addr{T:Type}{K:Nat}{E:World→List Value→T→Prop}{w:World}{A:Option Addr}{n c:Nat}{ts:List T}(h:SlR K E w A n c ts)(hj:0<ts.length):∃b o,A=some ⟨b,o,none⟩:=by
 obtain⟨b,o,cs,e,_⟩:=h.rd 0 ts[0] (List.getElem?_eq_getElem hj);exact⟨b,o,e⟩
theorem jd4{w:World}{ops:Array Oper}{rest:List Oper}{op:Oper}{a:Act}{Q:Exit→Act→World→Prop}(hgd:op.guard=none)(s x:Operand)
  (ho:op.op= .call {callee:= .builtin .append,args:=#[s,x],argTypes:=#[133,133]})
  (base:Nat) (v:Value) (ts:List ByteArray) (hs:a.eval s=v) (hown:OwnR 1 ETx 9 w w base v ts) (t:ByteArray) (hx:a.eval x= .slice (some ⟨w.heap.size,0,none⟩) 1 1)
  (hlen:ts.length≤1000000) (hB:base≤w.heap.size)
  (h:∀v' w',OwnR 1 ETx 9 w' w' base v' (ts++[t])→Below base w w'→w.grownBy w' v.ownBlock→wpList Tryz.prog ops Q rest (a.put op.dst v') w'):wpList Tryz.prog ops Q (op::rest) a (w.alloc (.cells #[.string t] 9)):=by
 obtain⟨i0,hi0,hz0,hz1,hz2⟩:=info_parts tx_info;exact jdh (K:=1) (E:=ETx) (w0:=w) Tryz.underlying133 hi0 hz0 hz1 hz2 rfl (by decide) hgd s x ho base v ts hs hown [.string t] t rfl (by intro u hu;simp at hu;rcases hu with rfl<;>rfl) rfl hx (by unfold maxLen;omega) (by omega) hB fun v' w' h1 h2 h3=>h v' w' h1 h2 h3
theorem SlR.po{w:World}{b o n c:Nat}{l:List Kv.Po}(h:SlP w (some ⟨b,o,none⟩) n c l){j:Nat}{x:Kv.Po}(hx:l[j]? =some x){w':World}(hb:Below w.heap.size w w'):
  w'.cell? ⟨b,o+j*4,none⟩=some (.string x.key)∧w'.cell? ⟨b,o+j*4+1,none⟩=some (.string x.val)∧w'.cell? ⟨b,o+j*4+2,none⟩=some (.int .i64 x.rev)∧w'.cell? ⟨b,o+j*4+3,none⟩=some (.bool x.drop):=by
 obtain⟨hj,rfl⟩:=List.getElem?_eq_some_iff.1 hx;obtain⟨hl,cs,_,hc,he⟩:=h.cell hj;unfold EPo at he;rw[he.1]at hc;exact⟨(hb.cell (p:=⟨b,o+j*4,none⟩) hl).trans (hc 0 (by omega)),(hb.cell (p:=⟨b,o+j*4+1,none⟩) hl).trans (hc 1 (by omega)),(hb.cell (p:=⟨b,o+j*4+2,none⟩) hl).trans (hc 2 (by omega)),(hb.cell (p:=⟨b,o+j*4+3,none⟩) hl).trans (hc 3 (by omega))⟩
theorem SlR.poOk{w:World}{A:Option Addr}{n c:Nat}{l:List Kv.Po}(h:SlP w A n c l){x:Kv.Po}(hx:x∈l):x.key.size≤maxLen∧x.val.size≤maxLen∧jjk x.rev:=by
 obtain⟨j,hj⟩:=List.getElem?_of_mem hx;obtain⟨_,_,_,_,_,_,_,h5⟩:=h.rd j x hj;exact h5.2
namespace Kv
theorem step_length(r:Int)(l:List En)(o:Po):(step r l o).length≤l.length+1:=by
 have h1:(dropK l o.key).length≤l.length:=List.length_filter_le ..;unfold step;split
 ·omega
 ·rw[putK_length];omega
theorem steps_length(r:Int)(ops:List Po)(l:List En):(ops.foldl (step r) l).length≤l.length+ops.length:=by
 induction ops generalizing l with
 |nil=>simp
 |cons o ops ih=>
  have h1:=ih (step r l o);have h2:=step_length r l o;rw[List.foldl_cons,List.length_cons];omega
theorem steps_snoc(r:Int){ops:List Po}{j:Nat}{o:Po}(h:ops[j]? =some o)(l:List En):(ops.take (j+1)).foldl (step r) l=step r ((ops.take j).foldl (step r) l) o:=by
 rw[List.take_add_one,h,List.foldl_append];rfl
end Kv
open Go.Maps Go.WideMaps
theorem jc2(w:World):(zeroValue 273).run Tryz.prog w= .ok (.agg #[.string ⟨#[]⟩,.int .i64 0]) w:=by kernel_rfl
def MapO(w:World)(mo:Option Nat)(l:List Kv.En):Prop:=
 match mo with
 |none=>l=[]
 |some m=>jbm Tryz.prog 9 w m l
theorem MapO.look{w:World}{mo:Option Nat}{l:List Kv.En}(h:MapO w mo l)(k:ByteArray)(hs:k.size≤maxLen):
  (Instr.lookup 121 (.map mo) (.string k) false).run Tryz.prog w= .ok (.agg #[.string (Kv.valOf l k),.int .i64 (Kv.revOf l k)]) w:=by
 cases mo with
 |some m=>exact jn4 Tryz.underlying9 Tryz.underlying121 (jc2 w) h k hs
 |none=>
  obtain rfl:l=[]:=h;exact Maps.look_nil false (string_keyed Tryz.underlying9) Tryz.underlying121 (jc2 w) (keyOf_string_mk Tryz.underlying9 hs)
theorem MapO.look_ok{w:World}{mo:Option Nat}{l:List Kv.En}(h:MapO w mo l)(k:ByteArray)(hs:k.size≤maxLen):
  (Instr.lookup 121 (.map mo) (.string k) true).run Tryz.prog w= .ok (.tuple #[.agg #[.string (Kv.valOf l k),.int .i64 (Kv.revOf l k)],.bool (Kv.find l k).isSome]) w:=by
 cases mo with
 |some m=>exact jh0 Tryz.underlying9 Tryz.underlying121 (jc2 w) h k hs
 |none=>
  obtain rfl:l=[]:=h;exact Maps.look_nil true (string_keyed Tryz.underlying9) Tryz.underlying121 (jc2 w) (keyOf_string_mk Tryz.underlying9 hs)
theorem MapO.len{w:World}{mo:Option Nat}{l:List Kv.En}(h:MapO w mo l)(ty:TypeId):
  (Builtin.len_ #[121] ty #[.map mo]).run Tryz.prog w= .ok (.int .i64 (l.length:Nat)) w:=by
 cases mo with
 |some m=>exact len_run Tryz.underlying121 h ty
 |none=>
  obtain rfl:l=[]:=h;exact Maps.len_nil Tryz.underlying121 ty
theorem MapO.keep{w w':World}{mo:Option Nat}{l:List Kv.En}(h:MapO w mo l)(hk:∀m,mo=some m→w'.heap[m]? =w.heap[m]?):MapO w' mo l:=by
 cases mo with
 |some m=>exact jbm.keep h (hk m rfl)
 |none=>exact h
theorem MapO.lt{w:World}{m:Nat}{l:List Kv.En}(h:MapO w (some m) l):m<w.heap.size:=jbm.lt (P:=Tryz.prog) (kt:=9) (l:=l) h
theorem MapO.on{w w':World}{mo:Option Nat}{l:List Kv.En}(h:MapO w mo l)(hb:Below w.heap.size w w'):MapO w' mo l:=
 h.keep fun m e=>by subst e;exact hb.block m h.lt
theorem jeu{cs:Array Value}{k:Nat}{v:Value}(h:cs[k]? =some v):cs.setIfInBounds k v=cs:=by
 refine Array.ext_getElem? fun i=> ?_;rw[Array.getElem?_setIfInBounds];split
 ·rename_i e
  subst e;rw[h];split
  ·rfl
  ·rename_i h2
   rw[Array.getElem?_eq_none (by omega)]at h
   cases h
 ·rfl
theorem jh2{cs:Array Value}{k:Nat}{v u:Value}(h:cs[k]? =some v):(cs.setIfInBounds k u)[k]? =some u:=by
 rw[Array.getElem?_setIfInBounds_self,if_pos];exact(Array.getElem?_eq_some_iff.1 h).1
theorem jfx{cs:Array Value}{k i:Nat}{v u:Value}(h:cs[i]? =some v)(hk:k≠i):(cs.setIfInBounds k u)[i]? =some v:=by
 rw[Array.getElem?_setIfInBounds_ne hk];exact h
def jjl(cs:Array Value):Prop:=∀(i:Nat) (t:ByteArray),cs[i]?≠some (Value.string t)
theorem jjl.set{cs:Array Value}(h:jjl cs)(k:Nat){u:Value}(hu:∀t,u≠ .string t):jjl (cs.setIfInBounds k u):=by
 intro i t;rw[Array.getElem?_setIfInBounds];split
 ·split
  ·intro e;exact hu t (Option.some.inj e)
  ·intro e;cases e
 ·exact h i t
structure KvIs(w:World)(q oq:Nat)(cs:Array Value)(ty:TypeId)(mo:Option Nat)(s:Kv.St):Prop where
 row:w.heap[q]? =some (.cells cs ty (0,0))
 k0:cs[oq]? =some (.int .i64 s.rev)
 k1:cs[oq+1]? =some (.map mo)
 nos:jjl cs
 map:MapO w mo s.l
 good:Kv.Good s
theorem KvIs.ne{w:World}{q oq m:Nat}{cs:Array Value}{ty:TypeId}{s:Kv.St}(h:KvIs w q oq cs ty (some m) s):q≠m:=fun e=>by
 obtain⟨D,⟨es,clock,hb,_⟩,_⟩:=show jbm Tryz.prog 9 w m s.l from h.map
 have:=h.row;rw[e,hb]at this;injection this with this
 cases this
theorem KvIs.cells{w:World}{q oq:Nat}{cs:Array Value}{ty:TypeId}{mo:Option Nat}{s:Kv.St}(h:KvIs w q oq cs ty mo s):w.cell? ⟨q,oq,none⟩=some (.int .i64 s.rev)∧w.cell? ⟨q,oq+1,none⟩=some (.map mo)∧w.frozen? ⟨q,oq,none⟩=false∧q<w.heap.size:=
 ⟨by rw[cell_of_row w q oq _ _ _ h.row];exact h.k0,by rw[cell_of_row w q (oq+1) _ _ _ h.row];exact h.k1,frozen_of_row _ _ _ _ _ h.row,(Array.getElem?_eq_some_iff.1 h.row).1⟩
theorem KvIs.on{w w':World}{q oq:Nat}{cs:Array Value}{ty:TypeId}{mo:Option Nat}{s:Kv.St}(h:KvIs w q oq cs ty mo s)(hb:Below w.heap.size w w'):KvIs w' q oq cs ty mo s:=⟨(hb.block q h.cells.2.2.2).trans h.row,h.k0,h.k1,h.nos,h.map.on hb,h.good⟩
def EAt(w:World)(p:Value)(mo:Option Nat)(s:Kv.St):Prop:=(p= .pointer none∧mo=none∧s=Kv.St.none)∨∃q oq cs ty,p= .pointer (some ⟨q,oq,none⟩)∧KvIs w q oq cs ty mo s
theorem KvIs.ask{w:World}{q oq:Nat}{cs:Array Value}{ty:TypeId}{mo:Option Nat}{s:Kv.St}(h:KvIs w q oq cs ty mo s):EAt w (.pointer (some ⟨q,oq,none⟩)) mo s:= .inr ⟨q,oq,cs,ty,rfl,h⟩
theorem EAt.on{w w':World}{p:Value}{mo:Option Nat}{s:Kv.St}(h:EAt w p mo s)(hb:Below w.heap.size w w'):EAt w' p mo s:=by
 rcases h with h|⟨q,oq,cs,ty,h1,h2⟩
 ·exact .inl h
 ·exact .inr ⟨q,oq,cs,ty,h1,h2.on hb⟩
theorem EAt.map{w:World}{p:Value}{mo:Option Nat}{s:Kv.St}(h:EAt w p mo s):MapO w mo s.l:=by
 rcases h with⟨_,rfl,rfl⟩|⟨q,oq,cs,ty,h1,h2⟩
 ·rfl
 ·exact h2.map
theorem EAt.good{w:World}{p:Value}{mo:Option Nat}{s:Kv.St}(h:EAt w p mo s):Kv.Good s:=by
 rcases h with⟨_,rfl,rfl⟩|⟨q,oq,cs,ty,h1,h2⟩
 ·exact Kv.Good.none_
 ·exact h2.good
theorem jbn(W:World)(p:Value)(mo:Option Nat)(s:Kv.St)(h:EAt W p mo s):Calls Tryz.prog 222 #[p] W (fun e w'=>e= .returned (.map mo)∧w'=W):=by
 rcases h with⟨rfl,rfl,rfl⟩|⟨q,oq,cs,ty,rfl,h2⟩
 ·go_enter Tryz.func222,Tryz.ntmps222
  go_wp2_with fail;go_ret;exact⟨rfl,rfl⟩
 ·obtain⟨c0,c1,f0,hq⟩:=h2.cells
  clear h2;go_enter Tryz.func222,Tryz.ntmps222;go_wp2_with fail;go_ret;exact⟨rfl,rfl⟩
theorem jgq(W:World)(p:Value)(mo:Option Nat)(s:Kv.St)(h:EAt W p mo s)(k:ByteArray)(hk:k.size≤maxLen):
  Calls Tryz.prog 311 #[p,.string k] W (fun e w'=>e= .returned (.bool (Kv.find s.l k).isSome)∧Below W.heap.size W w'):=by
 have C:=zh (jbn W p mo s h);have hlk:=h.map.look_ok k hk;generalize hv:Kv.valOf s.l k=v at hlk;generalize hr:Kv.revOf s.l k=r at hlk;generalize(Kv.find s.l k).isSome=b at hlk⊢;have B2:=zh ((Below.refl W.heap.size W).alloc (Nat.le_refl _) (.cells #[.string v,.int .i64 r] 273));clear h hv hr;go_enter Tryz.func311,Tryz.ntmps311;go_wp2_with(go_at_call 222;(with_reducible refine C.out.mono ?_);rintro e w1 ⟨rfl,rfl⟩);go_ret;exact⟨rfl,B2.out⟩
theorem jgr(W:World)(p:Value)(mo:Option Nat)(s:Kv.St)(h:EAt W p mo s):Calls Tryz.prog 209 #[p] W (fun e w'=>e= .returned (.int .i64 (s.l.length:Nat))∧w'=W):=by
 have C:=zh (jbn W p mo s h);have hln:=fun ty=>h.map.len ty;clear h;go_enter Tryz.func209,Tryz.ntmps209;go_wp2_with(go_at_call 222;(with_reducible refine C.out.mono ?_);rintro e w1 ⟨rfl,rfl⟩);go_ret;exact⟨rfl,rfl⟩
theorem jn6(W:World)(p:Value)(mo:Option Nat)(k v:ByteArray)(r:Int)(C:Calls Tryz.prog 222 #[p] W (fun e w'=>e= .returned (.map mo)∧w'=W))
  (hlk:(Instr.lookup 121 (.map mo) (.string k) false).run Tryz.prog W= .ok (.agg #[.string v,.int .i64 r]) W):
  Calls Tryz.prog 154 #[p,.string k] W (fun e w'=>e= .returned (.tuple #[.string v,.int .i64 r])∧Below W.heap.size W w'):=by
 have C:=zh C;have B2:=zh ((Below.refl W.heap.size W).alloc (Nat.le_refl _) (.cells #[.string v,.int .i64 r] 273));go_enter Tryz.func154,Tryz.ntmps154;go_upto_region 2 with(go_at_call 222;(with_reducible refine C.out.mono ?_);rintro e w1 ⟨rfl,rfl⟩)
 go_region;go_wp2_with fail;exact bodyPost_ret (v:= .tuple #[.string v,.int .i64 r]) (by simp[results,Tryz.results154,go_sem]) rfl ⟨rfl,B2.out.drew⟩
theorem jev(W:World)(p:Value)(mo:Option Nat)(s:Kv.St)(h:EAt W p mo s)(k:ByteArray)(hk:k.size≤maxLen):Calls Tryz.prog 154 #[p,.string k] W (KGet s k W):=
 jn6 W p mo k _ _ (jbn W p mo s h) (h.map.look k hk)
theorem jlf(W:World):Calls Tryz.prog 279 #[] W (fun e w'=>e= .returned (.pointer (some ⟨W.heap.size,0,none⟩))∧KvIs w' W.heap.size 0 #[.int .i64 0,.map none] 123 none Kv.St.none∧Below W.heap.size W w'):=by
 have B1:=zh ((Below.refl W.heap.size W).alloc (Nat.le_refl _) (.cells #[.int .i64 0,.map none] 123));have R1:=zh (heap_alloc_new W (.cells #[.int .i64 0,.map none] 123));go_enter Tryz.func279,Tryz.ntmps279;go_wp2_with fail;go_ret;refine⟨rfl,⟨R1.out,rfl,rfl,fun i t=> ?_,rfl,Kv.Good.none_⟩,B1.out⟩;rcases i with _|_|i
 ·exact fun e=>(by cases e)
 ·exact fun e=>(by cases e)
 ·simp
end Go.Proofs.YtabandbigckfkaaGreatDoor
namespace Go.Proofs.YtabandbigckfkaaGreatDoor
open Go.RowKit
namespace Bd
def cells(s:Bk.St)(ru:Nat→Bk.Un)(rv:Int)(lm km H:Value):Array Value:=#[.int .i64 s.m,lm,.int .i64 rv,km,.int .i64 s.ep,.int .i64 s.who,.int .i64 s.till,.int .i64 s.stable,.int .i64 s.from_,.int .i64 s.ph,.int .i64 s.step,.int .i64 s.since,.int .i64 s.begun,.int .i64 s.seq,.int .i64 s.sp.v,.int .i64 s.sp.d,.int .i64 s.sp.u,.int .i64 s.sp.n,.int .i64 s.sp.g,.int .i64 s.sp.a,.int .i64 s.sp.b,.int .i64 s.sp.c,.int .i64 s.sp.e,.int .i64 s.sp.w,.int .i64 s.sp.x,.int .i64 s.sp.k,.int .i64 (ru 0).v,.int .i64 (ru 0).q,.bool (ru 0).d,.int .i64 (ru 1).v,.int .i64 (ru 1).q,.bool (ru 1).d,.int .i64 (ru 2).v,.int .i64 (ru 2).q,.bool (ru 2).d,.int .i64 (ru 3).v,.int .i64 (ru 3).q,.bool (ru 3).d,.int .i64 (ru 4).v,.int .i64 (ru 4).q,.bool (ru 4).d,.int .i64 (ru 5).v,.int .i64 (ru 5).q,.bool (ru 5).d,.int .i64 (ru 6).v,.int .i64 (ru 6).q,.bool (ru 6).d,.int .i64 (ru 7).v,.int .i64 (ru 7).q,.bool (ru 7).d,.int .i64 (ru 8).v,.int .i64 (ru 8).q,.bool (ru 8).d,.int .i64 (ru 9).v,.int .i64 (ru 9).q,.bool (ru 9).d,.int .i64 (ru 10).v,.int .i64 (ru 10).q,.bool (ru 10).d,.int .i64 (ru 11).v,.int .i64 (ru 11).q,.bool (ru 11).d,.int .i64 (ru 12).v,.int .i64 (ru 12).q,.bool (ru 12).d,.int .i64 (ru 13).v,.int .i64 (ru 13).q,.bool (ru 13).d,.int .i64 (ru 14).v,.int .i64 (ru 14).q,.bool (ru 14).d,.int .i64 (ru 15).v,.int .i64 (ru 15).q,.bool (ru 15).d,H]
def zeros:Array Value:=#[.int .i64 0,.map none,.int .i64 0,.map none,.int .i64 0,.int .i64 0,.int .i64 0,.int .i64 0,.int .i64 0,.int .i64 0,.int .i64 0,.int .i64 0,.int .i64 0,.int .i64 0,.int .i64 0,.int .i64 0,.int .i64 0,.int .i64 0,.int .i64 0,.int .i64 0,.int .i64 0,.int .i64 0,.int .i64 0,.int .i64 0,.int .i64 0,.int .i64 0,.int .i64 0,.int .i64 0,.bool false,.int .i64 0,.int .i64 0,.bool false,.int .i64 0,.int .i64 0,.bool false,.int .i64 0,.int .i64 0,.bool false,.int .i64 0,.int .i64 0,.bool false,.int .i64 0,.int .i64 0,.bool false,.int .i64 0,.int .i64 0,.bool false,.int .i64 0,.int .i64 0,.bool false,.int .i64 0,.int .i64 0,.bool false,.int .i64 0,.int .i64 0,.bool false,.int .i64 0,.int .i64 0,.bool false,.int .i64 0,.int .i64 0,.bool false,.int .i64 0,.int .i64 0,.bool false,.int .i64 0,.int .i64 0,.bool false,.int .i64 0,.int .i64 0,.bool false,.int .i64 0,.int .i64 0,.bool false,.slice none 0 0]
end Bd
structure BdAt(w:World)(g:Nat)(s:Bk.St)(ru:Nat→Bk.Un)(rv:Int)(lm km H:Value):Prop where
 row:w.heap[g]? =some (.cells (Bd.cells s ru rv lm km H) 125 (0,0))
section
variable{w w':World}{g:Nat}{s:Bk.St}{ru:Nat→Bk.Un}{rv:Int}{lm km H:Value}
theorem BdAt.on(h:BdAt w g s ru rv lm km H)(hb:Below w.heap.size w w'):BdAt w' g s ru rv lm km H:=⟨(hb.block g (Array.getElem?_eq_some_iff.1 h.row).1).trans h.row⟩
theorem BdAt.lt(h:BdAt w g s ru rv lm km H):g<w.heap.size:=(Array.getElem?_eq_some_iff.1 h.row).1
theorem BdAt.keep(h:BdAt w g s ru rv lm km H)(hk:w'.heap[g]? =w.heap[g]?):BdAt w' g s ru rv lm km H:=⟨hk.trans h.row⟩
structure BdCs(w:World)(g:Nat)(s:Bk.St)(ru:Nat→Bk.Un)(rv:Int)(lm km H:Value):Prop where
 c0:w.cell? ⟨g,0,none⟩=some (.int .i64 s.m)
 c1:w.cell? ⟨g,1,none⟩=some (lm)
 c2:w.cell? ⟨g,2,none⟩=some (.int .i64 rv)
 c3:w.cell? ⟨g,3,none⟩=some (km)
 c4:w.cell? ⟨g,4,none⟩=some (.int .i64 s.ep)
 c5:w.cell? ⟨g,5,none⟩=some (.int .i64 s.who)
 c6:w.cell? ⟨g,6,none⟩=some (.int .i64 s.till)
 c7:w.cell? ⟨g,7,none⟩=some (.int .i64 s.stable)
 c8:w.cell? ⟨g,8,none⟩=some (.int .i64 s.from_)
 c9:w.cell? ⟨g,9,none⟩=some (.int .i64 s.ph)
 c10:w.cell? ⟨g,10,none⟩=some (.int .i64 s.step)
 c11:w.cell? ⟨g,11,none⟩=some (.int .i64 s.since)
 c12:w.cell? ⟨g,12,none⟩=some (.int .i64 s.begun)
 c13:w.cell? ⟨g,13,none⟩=some (.int .i64 s.seq)
 c14:w.cell? ⟨g,14,none⟩=some (.int .i64 s.sp.v)
 c15:w.cell? ⟨g,15,none⟩=some (.int .i64 s.sp.d)
 c16:w.cell? ⟨g,16,none⟩=some (.int .i64 s.sp.u)
 c17:w.cell? ⟨g,17,none⟩=some (.int .i64 s.sp.n)
 c18:w.cell? ⟨g,18,none⟩=some (.int .i64 s.sp.g)
 c19:w.cell? ⟨g,19,none⟩=some (.int .i64 s.sp.a)
 c20:w.cell? ⟨g,20,none⟩=some (.int .i64 s.sp.b)
 c21:w.cell? ⟨g,21,none⟩=some (.int .i64 s.sp.c)
 c22:w.cell? ⟨g,22,none⟩=some (.int .i64 s.sp.e)
 c23:w.cell? ⟨g,23,none⟩=some (.int .i64 s.sp.w)
 c24:w.cell? ⟨g,24,none⟩=some (.int .i64 s.sp.x)
 c25:w.cell? ⟨g,25,none⟩=some (.int .i64 s.sp.k)
 c74:w.cell? ⟨g,74,none⟩=some (H)
 lt:g<w.heap.size
theorem BdAt.cs(h:BdAt w g s ru rv lm km H):BdCs w g s ru rv lm km H:=by
 constructor
 all_goals first|(rw[cell_of_row w g _ _ _ _ h.row];rfl)|exact h.lt
theorem BdAt.unit(h:BdAt w g s ru rv lm km H){j:Nat}(hj:j<16):w.cell? ⟨g,26+j*3,none⟩=some (.int .i64 (ru j).v)∧w.cell? ⟨g,26+j*3+1,none⟩=some (.int .i64 (ru j).q)∧w.cell? ⟨g,26+j*3+2,none⟩=some (.bool (ru j).d):=by
 rw[cell_of_row w g _ _ _ _ h.row,cell_of_row w g _ _ _ _ h.row,cell_of_row w g _ _ _ _ h.row];rcases j with _|_|_|_|_|_|_|_|_|_|_|_|_|_|_|_|j
 all_goals first|exact⟨rfl,rfl,rfl⟩|omega
theorem BdAt.fz(h:BdAt w g s ru rv lm km H)(i:Nat):w.frozen? ⟨g,i,none⟩=false:=frozen_of_row _ _ _ _ _ h.row
theorem BdAt.set(h:BdAt w g s ru rv lm km H)(k:Nat)(v:Value){s':Bk.St}{ru':Nat→Bk.Un}{rv':Int}{lm' km' H':Value}(he:(Bd.cells s ru rv lm km H).setIfInBounds k v=Bd.cells s' ru' rv' lm' km' H'):BdAt (w.setCell ⟨g,k,none⟩ v) g s' ru' rv' lm' km' H':=⟨by rw[←he];exact heap_setCell_same w g k _ _ _ h.row⟩
theorem BdAt.ep(h:BdAt w g s ru rv lm km H)(x:Int):BdAt (w.setCell ⟨g,4,none⟩ (.int .i64 x)) g {s with ep:=x} ru rv lm km H:=h.set 4 _ rfl
theorem BdAt.who(h:BdAt w g s ru rv lm km H)(x:Int):BdAt (w.setCell ⟨g,5,none⟩ (.int .i64 x)) g {s with who:=x} ru rv lm km H:=h.set 5 _ rfl
theorem BdAt.till(h:BdAt w g s ru rv lm km H)(x:Int):BdAt (w.setCell ⟨g,6,none⟩ (.int .i64 x)) g {s with till:=x} ru rv lm km H:=h.set 6 _ rfl
theorem BdAt.stable(h:BdAt w g s ru rv lm km H)(x:Int):BdAt (w.setCell ⟨g,7,none⟩ (.int .i64 x)) g {s with stable:=x} ru rv lm km H:=h.set 7 _ rfl
theorem BdAt.frm(h:BdAt w g s ru rv lm km H)(x:Int):BdAt (w.setCell ⟨g,8,none⟩ (.int .i64 x)) g {s with from_:=x} ru rv lm km H:=h.set 8 _ rfl
theorem BdAt.ph(h:BdAt w g s ru rv lm km H)(x:Int):BdAt (w.setCell ⟨g,9,none⟩ (.int .i64 x)) g {s with ph:=x} ru rv lm km H:=h.set 9 _ rfl
theorem BdAt.step(h:BdAt w g s ru rv lm km H)(x:Int):BdAt (w.setCell ⟨g,10,none⟩ (.int .i64 x)) g {s with step:=x} ru rv lm km H:=h.set 10 _ rfl
theorem BdAt.since(h:BdAt w g s ru rv lm km H)(x:Int):BdAt (w.setCell ⟨g,11,none⟩ (.int .i64 x)) g {s with since:=x} ru rv lm km H:=h.set 11 _ rfl
theorem BdAt.begun(h:BdAt w g s ru rv lm km H)(x:Int):BdAt (w.setCell ⟨g,12,none⟩ (.int .i64 x)) g {s with begun:=x} ru rv lm km H:=h.set 12 _ rfl
theorem BdAt.seq(h:BdAt w g s ru rv lm km H)(x:Int):BdAt (w.setCell ⟨g,13,none⟩ (.int .i64 x)) g {s with seq:=x} ru rv lm km H:=h.set 13 _ rfl
theorem BdAt.hs(h:BdAt w g s ru rv lm km H)(H':Value)(l:List Rc.R):BdAt (w.setCell ⟨g,74,none⟩ H') g {s with h:=l} ru rv lm km H':=h.set 74 _ rfl
theorem BdAt.us(h:BdAt w g s ru rv lm km H)(us:Nat→Bk.Un):BdAt w g {s with us:=us} ru rv lm km H:=⟨h.row⟩
theorem BdAt.sp_v(h:BdAt w g s ru rv lm km H)(x:Int):BdAt (w.setCell ⟨g,14,none⟩ (.int .i64 x)) g {s with sp:={s.sp with v:=x}} ru rv lm km H:=h.set 14 _ rfl
theorem BdAt.sp_d(h:BdAt w g s ru rv lm km H)(x:Int):BdAt (w.setCell ⟨g,15,none⟩ (.int .i64 x)) g {s with sp:={s.sp with d:=x}} ru rv lm km H:=h.set 15 _ rfl
theorem BdAt.sp_u(h:BdAt w g s ru rv lm km H)(x:Int):BdAt (w.setCell ⟨g,16,none⟩ (.int .i64 x)) g {s with sp:={s.sp with u:=x}} ru rv lm km H:=h.set 16 _ rfl
theorem BdAt.sp_n(h:BdAt w g s ru rv lm km H)(x:Int):BdAt (w.setCell ⟨g,17,none⟩ (.int .i64 x)) g {s with sp:={s.sp with n:=x}} ru rv lm km H:=h.set 17 _ rfl
theorem BdAt.sp_g(h:BdAt w g s ru rv lm km H)(x:Int):BdAt (w.setCell ⟨g,18,none⟩ (.int .i64 x)) g {s with sp:={s.sp with g:=x}} ru rv lm km H:=h.set 18 _ rfl
theorem BdAt.sp_a(h:BdAt w g s ru rv lm km H)(x:Int):BdAt (w.setCell ⟨g,19,none⟩ (.int .i64 x)) g {s with sp:={s.sp with a:=x}} ru rv lm km H:=h.set 19 _ rfl
theorem BdAt.sp_b(h:BdAt w g s ru rv lm km H)(x:Int):BdAt (w.setCell ⟨g,20,none⟩ (.int .i64 x)) g {s with sp:={s.sp with b:=x}} ru rv lm km H:=h.set 20 _ rfl
theorem BdAt.sp_c(h:BdAt w g s ru rv lm km H)(x:Int):BdAt (w.setCell ⟨g,21,none⟩ (.int .i64 x)) g {s with sp:={s.sp with c:=x}} ru rv lm km H:=h.set 21 _ rfl
theorem BdAt.sp_e(h:BdAt w g s ru rv lm km H)(x:Int):BdAt (w.setCell ⟨g,22,none⟩ (.int .i64 x)) g {s with sp:={s.sp with e:=x}} ru rv lm km H:=h.set 22 _ rfl
theorem BdAt.sp_w(h:BdAt w g s ru rv lm km H)(x:Int):BdAt (w.setCell ⟨g,23,none⟩ (.int .i64 x)) g {s with sp:={s.sp with w:=x}} ru rv lm km H:=h.set 23 _ rfl
theorem BdAt.sp_x(h:BdAt w g s ru rv lm km H)(x:Int):BdAt (w.setCell ⟨g,24,none⟩ (.int .i64 x)) g {s with sp:={s.sp with x:=x}} ru rv lm km H:=h.set 24 _ rfl
theorem BdAt.sp_k(h:BdAt w g s ru rv lm km H)(x:Int):BdAt (w.setCell ⟨g,25,none⟩ (.int .i64 x)) g {s with sp:={s.sp with k:=x}} ru rv lm km H:=h.set 25 _ rfl
def bdPuts(w:World)(g:Nat)(t:Spc.Sp):World:=((((((((((((w.setCell ⟨g,14,none⟩ (.int .i64 t.v)).setCell ⟨g,15,none⟩ (.int .i64 t.d)).setCell ⟨g,16,none⟩ (.int .i64 t.u)).setCell ⟨g,17,none⟩ (.int .i64 t.n)).setCell ⟨g,18,none⟩ (.int .i64 t.g)).setCell ⟨g,19,none⟩ (.int .i64 t.a)).setCell ⟨g,20,none⟩ (.int .i64 t.b)).setCell ⟨g,21,none⟩ (.int .i64 t.c)).setCell ⟨g,22,none⟩ (.int .i64 t.e)).setCell ⟨g,23,none⟩ (.int .i64 t.w)).setCell ⟨g,24,none⟩ (.int .i64 t.x)).setCell ⟨g,25,none⟩ (.int .i64 t.k))
theorem BdAt.spec(h:BdAt w g s ru rv lm km H)(t:Spc.Sp):BdAt (bdPuts w g t) g {s with sp:=t} ru rv lm km H:=((((((((((((h.sp_v t.v).sp_d t.d).sp_u t.u).sp_n t.n).sp_g t.g).sp_a t.a).sp_b t.b).sp_c t.c).sp_e t.e).sp_w t.w).sp_x t.x).sp_k t.k)
theorem BdAt.unitV(h:BdAt w g s ru rv lm km H){j:Nat}(hj:j<16)(x:Int):BdAt (w.setCell ⟨g,26+j*3,none⟩ (.int .i64 x)) g s (Bk.setU ru j {ru j with v:=x}) rv lm km H:=by
 refine h.set _ _ ?_;rcases j with _|_|_|_|_|_|_|_|_|_|_|_|_|_|_|_|j
 all_goals first|rfl|omega
theorem BdAt.unitQ(h:BdAt w g s ru rv lm km H){j:Nat}(hj:j<16)(x:Int):BdAt (w.setCell ⟨g,26+j*3+1,none⟩ (.int .i64 x)) g s (Bk.setU ru j {ru j with q:=x}) rv lm km H:=by
 refine h.set _ _ ?_;rcases j with _|_|_|_|_|_|_|_|_|_|_|_|_|_|_|_|j
 all_goals first|rfl|omega
theorem BdAt.unitD(h:BdAt w g s ru rv lm km H){j:Nat}(hj:j<16)(x:Bool):BdAt (w.setCell ⟨g,26+j*3+2,none⟩ (.bool x)) g s (Bk.setU ru j {ru j with d:=x}) rv lm km H:=by
 refine h.set _ _ ?_;rcases j with _|_|_|_|_|_|_|_|_|_|_|_|_|_|_|_|j
 all_goals first|rfl|omega
end
theorem Bd.nostr{s:Bk.St}{ru:Nat→Bk.Un}{rv:Int}{lm km H:Value}(h1:∀t,lm≠ .string t)(h2:∀t,km≠ .string t)(h3:∀t,H≠ .string t):jjl (Bd.cells s ru rv lm km H):=by
 intro i t;rcases i with _|_|_|_|_|_|_|_|_|_|_|_|_|_|_|_|_|_|_|_|_|_|_|_|_|_|_|_|_|_|_|_|_|_|_|_|_|_|_|_|_|_|_|_|_|_|_|_|_|_|_|_|_|_|_|_|_|_|_|_|_|_|_|_|_|_|_|_|_|_|_|_|_|_|_|i
 all_goals first
  |(intro e;injection e with e;exact absurd e (by first|exact h1 t|exact h2 t|exact h3 t))
  |(intro e;cases e)
  |(rw[Array.getElem?_eq_none (by show 75≤_;omega)];intro e;cases e)
end Go.Proofs.YtabandbigckfkaaGreatDoor
