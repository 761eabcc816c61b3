import Derived.Shelf.Small.Bits
import Derived.Shelf.Strconv.Atoi
import Derived.Shelf.Strconv.Itoa0
import Derived.Shelf.Strconv.Itoa1
import Derived.Shelf.LaysM
import Derived.Shelf.Strconv.Itoa2
import Derived.Shelf.Strconv.Itoa3
import Derived.Shelf.Sort.Plain
import Derived.Shelf.Slices.Equal
import Derived.Shelf.Slices.In.SortNone
import Derived.Shelf.Slices.Empties2
import Derived.Test.YtabandbigckfkaaGreatDoorProg
import Derived.Shelf.Abstract
import Derived.Test.YtabandbigckfkaaGreatDoorQx10
import Derived.Sort.OwnSorted
import Derived.Sort.KeysCollected
import Derived.Lib.SmallJoins
import Derived.Lib.LaidTab
import Derived.Lib.LaidU8
set_option maxHeartbeats 6400000
set_option maxRecDepth 100000
set_option linter.unusedSimpArgs false
set_option linter.unusedVariables false
namespace Go.Proofs
open Go.Shelf
def Tryz.laysM171_ren:Go.Shelf.Ren:=⟨fun|171=>223|243=>260|246=>294|283=>312|284=>313|285=>314|286=>315|129=>277|317=>329|318=>330|319=>331|320=>332|337=>337|338=>338|n=>n,fun|3=>3|9=>9|2=>2|4=>4|171=>347|0=>0|53=>312|37=>58|5=>5|173=>349|212=>367|51=>285|20=>20|213=>368|46=>74|232=>372|233=>373|n=>n,fun|17=>4|18=>5|19=>6|n=>n⟩
theorem Tryz.laysM171:Go.Proofs.LaysM.n171 Tryz.prog Tryz.laysM171_ren:={
 mixed:=by kernel_rfl
 f129:=Tryz.func277.trans (congrArg some (by kernel_rfl))
 f171:=Tryz.func223.trans (congrArg some (by kernel_rfl))
 f243:=Tryz.func260.trans (congrArg some (by kernel_rfl))
 f246:=Tryz.func294.trans (congrArg some (by kernel_rfl))
 f283:=Tryz.func312.trans (congrArg some (by kernel_rfl))
 f284:=Tryz.func313.trans (congrArg some (by kernel_rfl))
 f285:=Tryz.func314.trans (congrArg some (by kernel_rfl))
 f286:=Tryz.func315.trans (congrArg some (by kernel_rfl))
 f317:=Tryz.func329.trans (congrArg some (by kernel_rfl))
 f318:=Tryz.func330.trans (congrArg some (by kernel_rfl))
 f319:=Tryz.func331.trans (congrArg some (by kernel_rfl))
 f320:=Tryz.func332.trans (congrArg some (by kernel_rfl))
 f337:=Tryz.func337.trans (congrArg some (by kernel_rfl))
 f338:=Tryz.func338.trans (congrArg some (by kernel_rfl))
 t0:=Tryz.underlying0
 a0:=Tryz.isAgg0
 z0:=Tryz.sizeOf0
 v0:=Tryz.zeroValue0
 t2:=Tryz.underlying2
 a2:=Tryz.isAgg2
 z2:=Tryz.sizeOf2
 v2:=Tryz.zeroValue2
 t3:=Tryz.underlying3
 a3:=Tryz.isAgg3
 z3:=Tryz.sizeOf3
 v3:=Tryz.zeroValue3
 t4:=Tryz.underlying4
 a4:=Tryz.isAgg4
 z4:=Tryz.sizeOf4
 v4:=Tryz.zeroValue4
 t5:=Tryz.underlying5
 a5:=Tryz.isAgg5
 z5:=Tryz.sizeOf5
 v5:=Tryz.zeroValue5
 t9:=Tryz.underlying9
 a9:=Tryz.isAgg9
 z9:=Tryz.sizeOf9
 v9:=Tryz.zeroValue9
 t20:=Tryz.underlying20
 a20:=Tryz.isAgg20
 z20:=Tryz.sizeOf20
 v20:=Tryz.zeroValue20
 t37:=Tryz.underlying58
 a37:=Tryz.isAgg58
 z37:=Tryz.sizeOf58
 v37:=Tryz.zeroValue58
 t46:=Tryz.underlying74
 a46:=Tryz.isAgg74
 z46:=Tryz.sizeOf74
 v46:=Tryz.zeroValue74
 t51:=Tryz.underlying285
 a51:=Tryz.isAgg285
 z51:=Tryz.sizeOf285
 v51:=Tryz.zeroValue285
 t53:=Tryz.underlying312
 a53:=Tryz.isAgg312
 z53:=Tryz.sizeOf312
 v53:=Tryz.zeroValue312
 t171:=Tryz.underlying347
 a171:=Tryz.isAgg347
 z171:=Tryz.sizeOf347
 v171:=Tryz.zeroValue347
 t173:=Tryz.underlying349
 a173:=Tryz.isAgg349
 z173:=Tryz.sizeOf349
 v173:=Tryz.zeroValue349
 t212:=Tryz.underlying367
 a212:=Tryz.isAgg367
 z212:=Tryz.sizeOf367
 v212:=Tryz.zeroValue367
 t213:=Tryz.underlying368
 a213:=Tryz.isAgg368
 z213:=Tryz.sizeOf368
 t232:=Tryz.underlying372
 a232:=Tryz.isAgg372
 z232:=Tryz.sizeOf372
 v232:=Tryz.zeroValue372
 t233:=Tryz.underlying373
 a233:=Tryz.isAgg373
 z233:=Tryz.sizeOf373
 v233:=Tryz.zeroValue373
 g17:=by kernel_rfl
 g18:=by kernel_rfl
 g19:=by kernel_rfl
 i0:=by kernel_rfl
 i2:=by kernel_rfl
 i3:=by kernel_rfl
 i4:=by kernel_rfl
 i5:=by kernel_rfl
 i9:=by kernel_rfl
 i20:=by kernel_rfl
 i37:=by kernel_rfl
 i46:=by kernel_rfl
 i51:=by kernel_rfl
 i53:=by kernel_rfl
 i171:=by kernel_rfl
 i173:=by kernel_rfl
 i212:=by kernel_rfl
 i232:=by kernel_rfl
 i233:=by kernel_rfl
 m17:=by kernel_rfl
 m18:=by kernel_rfl
 m19:=by kernel_rfl}
open Go.RowKit Go.Sort Go.Lib in
theorem Tryz.strconv_Itoa(n:Int)(h0: -9223372036854775808≤n)(h1:n≤9223372036854775807)(w:World)(htab:Lib.TabIs Tryz.prog w "internal/strconv.uint64pow10" .u64 Lib.pow10Tab):
 Calls Tryz.prog 223 #[.int .i64 n] w fun e w'=>e= .returned (.string ⟨(Lib.itoa n).toArray⟩)∧∃k os,w'=grow (w.drewN k) os:=Any.strconv_Itoa Tryz.laysM171 n h0 h1 w htab
end Go.Proofs
namespace Go.Proofs.YtabandbigckfkaaGreatDoor
open Go.RowKit Go.Deep Go.Maps
abbrev opV(o:Kv.Po):Value:= .agg #[.string o.key,.string o.val,.int .i64 o.rev,.bool o.drop]
namespace Kv
def badB(o:Po):Bool:=decide (o.key.size=0)|| (decide (64<o.key.size)|| decide (64<o.val.size))
def oddB(s:St)(o:Po):Bool:=decide (0≤o.rev)&& !decide (o.rev=revOf s.l o.key)
def lackB(s:St)(o:Po):Bool:=o.drop&& !(find s.l o.key).isSome
theorem badB_iff{o:Po}:badB o=true↔¬PoOk o:=by
 unfold badB PoOk;simp only[Bool.or_eq_true,decide_eq_true_eq];omega
theorem oddB_iff{s:St}{o:Po}:oddB s o=true↔Odd s o:=by
 unfold oddB Odd;simp
theorem lackB_iff{s:St}(hs:Good s){o:Po}:lackB s o=true↔Lacks s o:=by
 unfold lackB Lacks;rw[rev_zero hs]
 cases find s.l o.key<;>simp
end Kv
def FnB(g:Nat)(pre:Array Value)(p:Kv.Po→Bool)(w0:World)(l:List Kv.Po):Prop:=
 ∀W o,o∈l→Below w0.heap.size w0 W→Calls Tryz.prog g (pre.push (opV o)) W (fun e w'=>e= .returned (.bool (p o))∧Below W.heap.size W w')
theorem jj6(g:Nat)(pre:Array Value)(p:Kv.Po→Bool)(eg:∀args w,(callFunc g args).run Tryz.prog w= .ok (.enter g args) w)(l:List Kv.Po)(n c:Nat)(A:Option Addr)(w0 w:World)(h:SlP w0 A n c l)(hb0:Below w0.heap.size w0 w)(hp:FnB g pre p w l):
  Calls Tryz.prog 310 #[.slice A n c,.func (.func g) pre #[]] w (fun e w'=>∃i:Int,e= .returned (.int .i64 i)∧(0≤i↔l.any p=true)∧Below w.heap.size w w'):=by
 have hn:=h.len;have hmx:=h.max;have hcp:=h.cap;unfold maxLen at hmx;have HA:=zh h;have HN:=zh hn;have B0:=zh hb0;have HP:=zh hp;clear h hn hb0 hp;go_enter Tryz.func310,Tryz.ntmps310;go_wp2_with fail;go_loopw [5,8] (fun _ i wr=>∃j:Nat,j≤n∧i= .int .i64 j∧(∀o∈l.take j,p o=false)∧Below w.heap.size w wr) (fun _ i _=>n -(intOf i).toNat)
 case atStart=>exact⟨0,by omega,rfl,by simp,Below.refl _ _⟩
 case round=>
  obtain⟨j,hj,rfl,hok,hbr⟩:=hrel;have OK:=zh hok;have B:=zh hbr;have BB:=zh (B0.out.trans (hbr.mono B0.out.size));clear hok hbr;by_cases hlt:j<n
  ·obtain⟨b1,o1,rfl⟩:=HA.out.addr (by have:=HN.out;omega)
   have EA:Hid (l[j]? =some (l[j]'(by have:=HN.out;omega))):=List.getElem?_eq_getElem _;generalize l[j]'(by have:=HN.out;omega)=x at*;obtain⟨p0,p1,p2,p3⟩:=HA.out.po EA.out BB.out;have HM:Hid (x∈l):=List.mem_of_getElem? EA.out;have CC:=zh (HP.out _ x HM.out B.out)
   cases hq:p x with
   |true=>
    rw[hq]at CC;have HQ:=zh hq;clear hq;go_wp2_with(go_at_fn g;(with_reducible refine CC.out.mono ?_);rintro e w1 ⟨rfl,hb1⟩;have B1:=zh (B.out.trans (hb1.mono B.out.size));clear hb1);go_ret;refine⟨_,rfl,?_,B1.out⟩;rw[List.any_eq_true];exact⟨fun _=>⟨x,HM.out,HQ.out⟩,fun _=>by omega⟩
   |false=>
    rw[hq]at CC;have HQ:=zh hq;clear hq;go_wp2_with(go_at_fn g;(with_reducible refine CC.out.mono ?_);rintro e w1 ⟨rfl,hb1⟩;have B1:=zh (B.out.trans (hb1.mono B.out.size));clear hb1);refine⟨⟨j+1,by omega,by go_num,fun o ho=> ?_,B1.out⟩,by simp[intOf];omega⟩;rw[List.take_add_one,EA.out]at ho;rcases List.mem_append.1 ho with ho|ho
    ·exact OK.out o ho
    ·simp at ho;subst ho;exact HQ.out
  ·have E:Hid (l.take j=l):=List.take_of_length_le (by have:=HN.out;omega)
   rw[E.out]at OK;go_wp2_with fail;go_ret;refine⟨_,rfl,?_,B.out⟩;rw[List.any_eq_true];refine⟨fun h=>by omega,fun⟨o,ho,hp⟩=> ?_⟩;rw[OK.out o ho]at hp
   cases hp
theorem jcj(g:Nat)(pre:Array Value)(p:Kv.Po→Bool)(eg:∀args w,(callFunc g args).run Tryz.prog w= .ok (.enter g args) w)(l:List Kv.Po)(n c:Nat)(A:Option Addr)(w0 w:World)(h:SlP w0 A n c l)(hb0:Below w0.heap.size w0 w)(hp:FnB g pre p w l):
  Calls Tryz.prog 288 #[.slice A n c,.func (.func g) pre #[]] w (fun e w'=>e= .returned (.bool (l.any p))∧Below w.heap.size w w'):=by
 have C:=zh (jj6 g pre p eg l n c A w0 w h hb0 hp);clear h hb0 hp eg;generalize l.any p=b at C⊢;go_enter Tryz.func288,Tryz.ntmps288;go_wp2_with(go_at_call 310;(with_reducible refine C.out.mono ?_);rintro e w1 ⟨i,rfl,hi,hb1⟩;have B1:=zh hb1;have HI:=zh hi;clear hb1 hi);go_ret;refine⟨?_,B1.out⟩
 cases b with
 |true=>
  have:0≤i:=HI.out.2 rfl;simp[this]
 |false=>
  have:¬0≤i:=fun h=>by have:=HI.out.1 h;cases this
  simp[this]
theorem jol(W:World)(o:Kv.Po)(h1:o.key.size≤maxLen)(h2:o.val.size≤maxLen):Calls Tryz.prog 289 (#[].push (opV o)) W (fun e w'=>e= .returned (.bool (Kv.badB o))∧Below W.heap.size W w'):=by
 have B1:=zh ((Below.refl W.heap.size W).alloc (Nat.le_refl _) (.cells #[.string o.key,.string o.val,.int .i64 o.rev,.bool o.drop] 265));unfold maxLen at h1 h2;have hs1:(o.key.size:Int)≤9223372036854775807:=by omega
 have hs2:(o.val.size:Int)≤9223372036854775807:=by omega
 unfold opV Kv.badB;obtain⟨key,val,rev,drop⟩:=o;simp only at*;show Calls _ _ #[_] _ _;by_cases g1:key.size=0
 ·have hk:key=⟨#[]⟩:=ByteArray.ext (Array.eq_empty_of_size_eq_zero g1)
  subst hk;go_enter Tryz.func289,Tryz.ntmps289;go_wp2_with fail;go_ret;exact⟨rfl,B1.out⟩
 ·have hk:key.toList.isEmpty=false:=by
   rw[Bool.eq_false_iff];intro h;refine g1 ?_;have h1:key.toList=ByteArray.toList ⟨#[]⟩:=(List.isEmpty_iff.1 h).trans (by rw[ByteArray.toList_eq]);rw[Kv.teq.1 (beq_iff_eq.2 h1)];rfl
  by_cases g2:(64:Int)<key.size
  ·go_enter Tryz.func289,Tryz.ntmps289
   go_wp2_with fail;go_ret;refine⟨?_,B1.out⟩;show Ending.returned (.bool _)=Ending.returned (.bool _);refine congrArg (fun b=>Ending.returned (.bool b)) ?_;rw[Bool.eq_iff_iff];simp;omega
  ·go_enter Tryz.func289,Tryz.ntmps289
   go_wp2_with fail;go_ret;refine⟨?_,B1.out⟩;show Ending.returned (.bool _)=Ending.returned (.bool _);refine congrArg (fun b=>Ending.returned (.bool b)) ?_;rw[Bool.eq_iff_iff];simp;omega
open Go.WideMaps
def eU:Value→Option (DataW Unit×List MemPlace)
 | .agg ⟨[]⟩=>some (.agg [],[])
 |_=>none
theorem eU_mk:eU (.agg #[])=some (.agg [],[]):=rfl
def jcx(w:World)(b:Nat)(ks:List ByteArray):Prop:=
 ∃D n,w.ownsMap Tryz.prog 9 eU b n D∧n≤ks.length∧Tidy D∧(∀k:ByteArray,Maps.has D (kl k)=true↔k∈ks)∧Maps.size D≤ks.length∧(Maps.size D=ks.length↔ks.Pairwise fun a b=>a≠b)
theorem jcx.made(w:World):jcx (w.alloc (.map #[] 0)) w.heap.size []:=
 ⟨_,0,World.ownsMap_made w _ _ _,Nat.le_refl _,tidy_empty,fun k=>by simp[Maps.has],Nat.le_refl _,by simp[Maps.size]⟩
theorem jcx.lt{w:World}{b:Nat}{ks:List ByteArray}(h:jcx w b ks):b<w.heap.size:=by
 obtain⟨D,n,h1,_⟩:=h;exact h1.lt
theorem jcx.keep{w w':World}{b:Nat}{ks:List ByteArray}(h:jcx w b ks)(hb:w'.heap[b]? =w.heap[b]?):jcx w' b ks:=by
 obtain⟨D,n,⟨es,clock,h1,h2⟩,hd⟩:=h;exact⟨D,n,⟨es,clock,hb.trans h1,h2⟩,hd⟩
theorem jcx.on{w w':World}{b:Nat}{ks:List ByteArray}(h:jcx w b ks)(hb:Below w.heap.size w w'):jcx w' b ks:=h.keep (hb.block b h.lt)
theorem jcx.len{w:World}{b:Nat}{ks:List ByteArray}(h:jcx w b ks)(ty:TypeId):∃m:Nat,m≤ks.length∧(m=ks.length↔ks.Pairwise fun a b=>a≠b)∧(Builtin.len_ #[345] ty #[.map (some b)]).run Tryz.prog w= .ok (.int .i64 (m:Nat)) w:=by
 obtain⟨D,n,h1,_,_,_,h3,h4⟩:=h;exact⟨_,h3,h4,h1.len Tryz.underlying345 ty⟩
theorem jcx.put{w:World}{b:Nat}{ks:List ByteArray}(h:jcx w b ks)(hl:ks.length≤1000000)(k:ByteArray)(hs:k.size≤maxLen):
  ∃w',(Instr.mapUpdate 345 (.map (some b)) (.string k) (.agg #[])).run Tryz.prog w= .ok () w'∧jcx w' b (ks++[k])∧w.mapTurned w' b:=by
 obtain⟨D,n,h1,h2,ht,hh,h3,h4⟩:=h;obtain⟨w',hrun,h5,h6⟩:=h1.store (string_keyed Tryz.underlying9) Tryz.underlying345 (by unfold maxLen;omega) (keyOf_string_mk Tryz.underlying9 hs) eU_mk;refine⟨w',hrun,⟨_,_,h5,by simp;omega,ht.put (jec k) _,fun k'=> ?_,?_,?_⟩,h6⟩
 ·by_cases hk:k'=k
  ·subst hk
   have:=has_put_same ht.isMap (jec k') (DataW.agg (H:=Unit) []);exact⟨fun _=>by simp,fun _=>this⟩
  ·have:=has_put_other (D:=D) (k:=kl k) (k':=kl k') (fun e=>hk (jgx e)) (DataW.agg (H:=Unit) [])
   rw[show Maps.has (D.put (Lit.string k.data.toList) (.agg [])) (kl k')=Maps.has D (kl k')from this,hh k'];simp[hk]
 ·have:=size_put (k:=kl k) ht (DataW.agg (H:=Unit) [])
  show Maps.size (D.put (kl k) _)≤_;rw[this,List.length_append,List.length_singleton];split<;>omega
 ·have:=size_put (k:=kl k) ht (DataW.agg (H:=Unit) [])
  show Maps.size (D.put (kl k) _)=_↔_;rw[this,List.length_append,List.length_singleton,List.pairwise_append];by_cases hk:k∈ks
  ·rw[if_pos ((hh k).2 hk)]
   exact⟨fun h=>by omega,fun h=>absurd rfl (h.2.2 k hk k (by simp))⟩
  ·rw[if_neg (fun h=>hk ((hh k).1 h))]
   refine⟨fun h=>⟨h4.1 (by omega),List.pairwise_singleton _ _,fun a ha b hb e=> ?_⟩,fun h=>by rw[h4.2 h.1]⟩;simp at hb;subst hb;subst e;exact hk ha
theorem je8(w:World)(n:Nat)(t k e:TypeId)(ht:Tryz.prog.underlying t=some (.map k e)):(Instr.makeMap t (some (.int .i64 n))).run Tryz.prog w= .ok (.map (some w.heap.size)) (w.alloc (.map #[] 0)):=by
 simp[Instr.makeMap,run_underlying ht,asInt,go_sem]
theorem jfv(l:List Kv.Po)(n c:Nat)(A:Option Addr)(w0 w:World)(h:SlP w0 A n c l)(hb0:Below w0.heap.size w0 w)(hz:l.length≤70):
  Calls Tryz.prog 290 #[.slice A n c] w (KBool (¬l.Pairwise fun a b=>a.key≠b.key) w):=by
 have hn:=h.len;have hmx:=h.max;have hcp:=h.cap;unfold maxLen at hmx;have HA:=zh h;have HN:=zh hn;have HZ:=zh hz;have B0:=zh hb0;have hmm:=je8 w n 345 9 346 Tryz.underlying345;have S0:=zh (jcx.made w);have BM:=zh ((Below.refl w.heap.size w).alloc (Nat.le_refl _) (.map #[] 0));have LT:Hid (w.heap.size<(w.alloc (.map #[] 0)).heap.size):=S0.out.lt;clear h hn hb0 hz;go_enter Tryz.func290,Tryz.ntmps290;go_wp2_with fail;clear hmm;obtain⟨m,hm⟩:∃m,m=w.heap.size:=⟨_,rfl⟩;rw[←hm]at S0 LT⊢;have HM:=zh hm;clear hm;generalize w.alloc (.map #[] 0)=w1 at*;go_loopw [11] (fun i wr=>∃j:Nat,j≤n∧i= .int .i64 j∧jcx wr m ((l.take j).map (·.key))∧Below w.heap.size w wr) (fun i _=>n -(intOf i).toNat)
 case atStart=>exact⟨0,by omega,rfl,S0.out,BM.out⟩
 case round=>
  obtain⟨j,hj,rfl,hs,hbr⟩:=hrel;have SE:=zh hs;have B:=zh hbr;have BB:=zh (B0.out.trans (hbr.mono B0.out.size));clear hs hbr;by_cases hlt:j<n
  ·obtain⟨b1,o1,rfl⟩:=HA.out.addr (by have:=HN.out;omega)
   have EA:Hid (l[j]? =some (l[j]'(by have:=HN.out;omega))):=List.getElem?_eq_getElem _;generalize l[j]'(by have:=HN.out;omega)=x at*;obtain⟨p0,p1,p2,p3⟩:=HA.out.po EA.out BB.out;have KS:=zh (HA.out.poOk (List.mem_of_getElem? EA.out)).1;have ST:Hid ((l.take (j+1)).map (·.key)=(l.take j).map (·.key)++[x.key]):=by
    show _=_;rw[List.take_add_one,EA.out];simp
   have LL:Hid (((l.take j).map (·.key)).length≤1000000):=by
    show _≤_;rw[List.length_map,List.length_take];have:=HZ.out;omega
   generalize(l.take j).map (·.key)=ks at*;have BN:=zh ((Below.refl wr.heap.size wr).alloc (Nat.le_refl _) (.cells #[.string x.key,.string x.val,.int .i64 x.rev,.bool x.drop] 265));have S1:=zh (SE.out.on BN.out);obtain⟨wd,hrun,hs2,ht2⟩:=S1.out.put LL.out x.key KS.out;have S2:=zh hs2;have B2:=zh ((B.out.trans (BN.out.mono B.out.size)).grown ht2.grown (by have:=B.out.size;have:=BN.out.size;omega) (fun k hk=>by injection hk with hk;have:=HM.out;omega))
   clear hs2 ht2 BN S1;go_wp2_with fail;exact⟨⟨j+1,by omega,by go_num,by rw[ST.out];exact S2.out,B2.out⟩,by simp[intOf];omega⟩
  ·have E:Hid (l.take j=l):=List.take_of_length_le (by have:=HN.out;omega)
   rw[E.out]at SE;obtain⟨z,hz1,hz2,hz3⟩:=SE.out.len 3;rw[List.length_map]at hz1 hz2;have Z1:=zh hz1;have Z2:=zh hz2;clear hz1 hz2;go_wp2_with fail;go_ret;refine⟨⟨_,rfl,?_⟩,B.out⟩;rw[←List.pairwise_map,←Z2.out];have:=Z1.out;have:=HN.out;simp;omega
end Go.Proofs.YtabandbigckfkaaGreatDoor
namespace Go.Proofs.YtabandbigckfkaaGreatDoor
open Go.RowKit Go.Deep Go.Maps
theorem jom(W:World)(p:Value)(mo:Option Nat)(s:Kv.St)(h:EAt W p mo s)(o:Kv.Po)(hk:o.key.size≤maxLen):Calls Tryz.prog 291 (#[p].push (opV o)) W (fun e w'=>e= .returned (.bool (Kv.oddB s o))∧Below W.heap.size W w'):=by
 have B1:=zh ((Below.refl W.heap.size W).alloc (Nat.le_refl _) (.cells #[.string o.key,.string o.val,.int .i64 o.rev,.bool o.drop] 265));have R1:=zh (heap_alloc_new W (.cells #[.string o.key,.string o.val,.int .i64 o.rev,.bool o.drop] 265));have C:=zh (jih _ p mo s (h.on B1.out) o.key hk);unfold KGet at C;unfold opV Kv.oddB;generalize Kv.valOf s.l o.key=v at*;generalize Kv.revOf s.l o.key=r at*;clear h hk;obtain⟨key,val,rev,drop⟩:=o;simp only at*;show Calls _ _ #[_,_] _ _;by_cases g0:0≤rev
 ·by_cases g1:rev=r
  ·have hee:(rev==r)=true:=by rw[beq_iff_eq];exact g1
   have G1:=zh g1;clear g1;go_enter Tryz.func291,Tryz.ntmps291;go_wp2_with(go_at_call 154;(with_reducible refine C.out.mono ?_);rintro e w1 ⟨rfl,hb1⟩;have RR:=zh ((hb1.block _ (Array.getElem?_eq_some_iff.1 R1.out).1).trans R1.out);have B2:=zh (B1.out.trans (hb1.mono B1.out.size));have c2:w1.cell? ⟨W.heap.size,2,none⟩=some (.int .i64 rev):=(by rw[cell_of_row w1 _ 2 _ _ _ RR.out];rfl);clear hb1);go_ret;exact⟨by simp[G1.out],B2.out⟩
  ·have hee:(rev==r)=false:=by rw[beq_eq_false_iff_ne];exact g1
   have G1:=zh g1;clear g1;go_enter Tryz.func291,Tryz.ntmps291;go_wp2_with(go_at_call 154;(with_reducible refine C.out.mono ?_);rintro e w1 ⟨rfl,hb1⟩;have RR:=zh ((hb1.block _ (Array.getElem?_eq_some_iff.1 R1.out).1).trans R1.out);have B2:=zh (B1.out.trans (hb1.mono B1.out.size));have c2:w1.cell? ⟨W.heap.size,2,none⟩=some (.int .i64 rev):=(by rw[cell_of_row w1 _ 2 _ _ _ RR.out];rfl);clear hb1);go_ret;exact⟨by simp[G1.out,g0],B2.out⟩
 ·go_enter Tryz.func291,Tryz.ntmps291
  go_wp2_with(go_at_call 154;(with_reducible refine C.out.mono ?_);rintro e w1 ⟨rfl,hb1⟩;have RR:=zh ((hb1.block _ (Array.getElem?_eq_some_iff.1 R1.out).1).trans R1.out);have B2:=zh (B1.out.trans (hb1.mono B1.out.size));have c2:w1.cell? ⟨W.heap.size,2,none⟩=some (.int .i64 rev):=(by rw[cell_of_row w1 _ 2 _ _ _ RR.out];rfl);clear hb1);go_ret;exact⟨by simp;intro h;omega,B2.out⟩
theorem jmp(W:World)(p:Value)(mo:Option Nat)(s:Kv.St)(h:EAt W p mo s)(o:Kv.Po)(hk:o.key.size≤maxLen):Calls Tryz.prog 292 (#[p].push (opV o)) W (fun e w'=>e= .returned (.bool (Kv.lackB s o))∧Below W.heap.size W w'):=by
 have B1:=zh ((Below.refl W.heap.size W).alloc (Nat.le_refl _) (.cells #[.string o.key,.string o.val,.int .i64 o.rev,.bool o.drop] 265));have C:=zh (jif _ p mo s (h.on B1.out) o.key hk);unfold opV Kv.lackB;generalize(Kv.find s.l o.key).isSome=b at*;clear h hk;obtain⟨key,val,rev,drop⟩:=o;simp only at*;show Calls _ _ #[_,_] _ _
 cases drop with
 |true=>
  go_enter Tryz.func292,Tryz.ntmps292;go_wp2_with(go_at_call 311;(with_reducible refine C.out.mono ?_);rintro e w1 ⟨rfl,hb1⟩;have B2:=zh (B1.out.trans (hb1.mono B1.out.size));clear hb1);go_ret;exact⟨by simp,B2.out⟩
 |false=>
  go_enter Tryz.func292,Tryz.ntmps292;go_wp2_with fail;go_ret;exact⟨by simp,B1.out⟩
theorem bad_fn{w0 w:World}{n c:Nat}{A:Option Addr}{l:List Kv.Po}(h:SlP w0 A n c l):FnB 289 #[] Kv.badB w l:=
 fun W o ho _=>jol W o (h.poOk ho).1 (h.poOk ho).2.1
theorem odd_fn{w0 w:World}{p:Value}{mo:Option Nat}{s:Kv.St}{n c:Nat}{A:Option Addr}{l:List Kv.Po}(h:SlP w0 A n c l)(hk:EAt w p mo s):FnB 291 #[p] (Kv.oddB s) w l:=
 fun W o ho hb=>jom W p mo s (hk.on hb) o (h.poOk ho).1
theorem lack_fn{w0 w:World}{p:Value}{mo:Option Nat}{s:Kv.St}{n c:Nat}{A:Option Addr}{l:List Kv.Po}(h:SlP w0 A n c l)(hk:EAt w p mo s):FnB 292 #[p] (Kv.lackB s) w l:=
 fun W o ho hb=>jmp W p mo s (hk.on hb) o (h.poOk ho).1
namespace Kv
theorem step_size{r:Int}{l:List En}{o:Po}(hl:Rise l)(hd:o.drop=true→(find l o.key).isSome=true):((step r l o).length:Int)=l.length+(if o.drop then -1 else if(find l o.key).isSome then 0 else 1):=by
 have h1:=dropK_length hl o.key;unfold step
 cases h:o.drop with
 |true=>
  rw[hd h]at h1;simp only[if_true]at h1⊢;omega
 |false=>
  simp only[Bool.false_eq_true,if_false];rw[putK_length]
  cases h2:(find l o.key).isSome
  ·rw[h2]at h1;simp at h1⊢;omega
  ·rw[h2]at h1;simp at h1⊢;omega
end Kv
theorem jmq(w:World)(p:Value)(mo:Option Nat)(s:Kv.St)(l:List Kv.Po)(n c:Nat)(A:Option Addr)(w0:World)(hk:EAt w p mo s)(h:SlP w0 A n c l)(hb0:Below w0.heap.size w0 w)(hr:Kv.Right l)(hlk:∀o∈l,¬Kv.Lacks s o)(hz:l.length≤70):
  Calls Tryz.prog 293 #[p,.slice A n c] w (KInt ((Kv.after s l).l.length:Nat) w):=by
 have hn:=h.len;have hmx:=h.max;have hcp:=h.cap;unfold maxLen at hmx;have HA:=zh h;have HN:=zh hn;have HZ:=zh hz;have B0:=zh hb0;have HK:=zh hk;have RT:=zh hr;have GD:=zh hk.good;have NL:=zh hlk;have CL:=zh (jig w p mo s hk);clear h hn hb0 hk hr hz hlk;go_enter Tryz.func293,Tryz.ntmps293;go_wp2_with(go_at_call 209;(with_reducible refine CL.out.mono ?_);rintro e w1 ⟨rfl,rfl⟩);go_loopw [5,12] (fun z i wr=>∃j:Nat,j≤n∧i= .int .i64 j∧z= .int .i64 (((l.take j).foldl (Kv.step (s.rev+1)) s.l).length:Nat)∧Below w1.heap.size w1 wr) (fun _ i _=>n -(intOf i).toNat)
 case atStart=>exact⟨0,by omega,rfl,rfl,Below.refl _ _⟩
 case round=>
  obtain⟨j,hj,rfl,rfl,hbr⟩:=hrel;have B:=zh hbr;have BB:=zh (B0.out.trans (hbr.mono B0.out.size));clear hbr;by_cases hlt:j<n
  ·obtain⟨b1,o1,rfl⟩:=HA.out.addr (by have:=HN.out;omega)
   have EA:Hid (l[j]? =some (l[j]'(by have:=HN.out;omega))):=List.getElem?_eq_getElem _;generalize l[j]'(by have:=HN.out;omega)=x at*;obtain⟨p0,p1,p2,p3⟩:=HA.out.po EA.out BB.out;have HM:Hid (x∈l):=List.mem_of_getElem? EA.out;have KS:=zh (HA.out.poOk HM.out).1;have BN:=zh ((Below.refl wr.heap.size wr).alloc (Nat.le_refl _) (.cells #[.string x.key,.string x.val,.int .i64 x.rev,.bool x.drop] 265));have B2:=zh (B.out.trans (BN.out.mono B.out.size));have CH:=zh (jif _ p mo s (HK.out.on B2.out) x.key KS.out);have LS:Hid ((l.take (j+1)).foldl (Kv.step (s.rev+1)) s.l=Kv.step (s.rev+1) ((l.take j).foldl (Kv.step (s.rev+1)) s.l) x):=Kv.steps_snoc (s.rev+1) EA.out s.l;have FL:Hid (Kv.find ((l.take j).foldl (Kv.step (s.rev+1)) s.l) x.key=Kv.find s.l x.key):=Kv.find_steps_other fun o ho=>by
    obtain⟨i,hi⟩:=List.getElem?_of_mem ho;rw[List.getElem?_take]at hi;split at hi
    ·rename_i hij
     obtain⟨g1,e1⟩:=List.getElem?_eq_some_iff.1 hi;obtain⟨g2,e2⟩:=List.getElem?_eq_some_iff.1 EA.out;have:=List.pairwise_iff_getElem.1 RT.out.2.2 i j g1 g2 hij;rw[e1,e2]at this;exact this
    ·cases hi
   have SS:=zh (Kv.step_size (r:=s.rev+1) (o:=x) (Kv.steps_rise (r:=s.rev+1) (ops:=l.take j) GD.out.rise));have LB:=Kv.steps_length (s.rev+1) (l.take j) s.l;rw[List.length_take]at LB;have LG:=GD.out.len;have LZ:=HZ.out;have hlb:((l.take j).foldl (Kv.step (s.rev+1)) s.l).length≤200:=by omega
   clear LB LG LZ;rw[FL.out]at SS;generalize hLL:((l.take j).foldl (Kv.step (s.rev+1)) s.l).length=ln at*;rw[←LS.out]at SS;generalize hLN:((l.take (j+1)).foldl (Kv.step (s.rev+1)) s.l).length=lm at*;clear hLL;have HLN:=zh hLN;clear hLN;have LKS:Hid (x.drop=true→(Kv.find s.l x.key).isSome=true):=fun hd=>by
    have h1:=NL.out x HM.out;have h2:=Kv.rev_zero GD.out x.key
    cases hf:Kv.find s.l x.key with
    |some e=>rfl
    |none=>exact absurd ⟨hd,h2.2 hf⟩ h1
   generalize(Kv.find s.l x.key).isSome=z at*
   cases hd:x.drop with
   |true=>
    rw[hd]at p3 BN B2 CH;have SE:lm+1=ln:=by have:=SS.out LKS.out;rw[hd]at this;simp at this;omega
    have hsub:((ln:Int) -1)=((lm:Nat):Int):=by omega
    have HS:=zh hsub;clear SE hsub hd;go_wp2_with fail;exact⟨⟨j+1,by omega,by go_num,by rw[HLN.out];have:=HS.out;go_num,B2.out⟩,by simp[intOf];omega⟩
   |false=>
    rw[hd]at p3 BN B2 CH
    cases z with
    |true=>
     have SE:lm=ln:=by have:=SS.out (fun _=>rfl);rw[hd]at this;simp at this;omega
     have HS:=zh SE;clear SE hd;go_wp2_with(go_at_call 311;(with_reducible refine CH.out.mono ?_);rintro e w2 ⟨rfl,hb2⟩;have B3:=zh (B2.out.trans (hb2.mono B2.out.size));clear hb2);exact⟨⟨j+1,by omega,by go_num,by rw[HLN.out,HS.out],B3.out⟩,by simp[intOf];omega⟩
    |false=>
     have SE:lm=ln+1:=by have:=SS.out (fun h=>by rw[hd]at h;cases h);rw[hd]at this;simp at this;omega
     have HS:=zh SE;clear SE hd;go_wp2_with(go_at_call 311;(with_reducible refine CH.out.mono ?_);rintro e w2 ⟨rfl,hb2⟩;have B3:=zh (B2.out.trans (hb2.mono B2.out.size));clear hb2);exact⟨⟨j+1,by omega,by go_num,by rw[HLN.out,HS.out];go_num,B3.out⟩,by simp[intOf];omega⟩
  ·have E:Hid (l.take j=l):=List.take_of_length_le (by have:=HN.out;omega)
   rw[E.out];have AF:Hid ((Kv.after s l).l.length=(l.foldl (Kv.step (s.rev+1)) s.l).length):=rfl;generalize(l.foldl (Kv.step (s.rev+1)) s.l).length=ln at*;go_wp2_with fail;go_ret;exact⟨by rw[AF.out];rfl,B.out⟩
open Go.Shelf
theorem jon(w:World)(q oq:Nat)(cs:Array Value)(ty:TypeId)(mo:Option Nat)(s:Kv.St)(l:List Kv.Po)(n c:Nat)(A:Option Addr)(w0:World)(hk:KvIs w q oq cs ty mo s)(h:SlP w0 A n c l)(hb0:Below w0.heap.size w0 w)(hz:l.length≤70):
  Calls Tryz.prog 254 #[.pointer (some ⟨q,oq,none⟩),.slice A n c] w (KInt (Kv.doE s l:Nat) w):=by
 have hn:=h.len;have hmx:=h.max;have hcp:=h.cap;unfold maxLen at hmx;have HA:=zh h;have HN:=zh hn;have HZ:=zh hz;have B0:=zh hb0;have HK:=zh hk.ask;have GD:=zh hk.good;have B:=zh (Below.refl w.heap.size w);clear h hn hb0 hk hz;by_cases h0:n=0
 ·have NE:Hid (Kv.doE s l=1):=Kv.doE_right fun h=>by have:=h.1;have:=HN.out;omega
  subst h0;go_enter Tryz.func254,Tryz.ntmps254;go_wp2_with fail;go_ret;exact⟨by rw[NE.out];rfl,B.out⟩
 have hn0:((n:Int)==0)=false:=by rw[beq_eq_false_iff_ne];omega
 have CB:Hid (∀w1,Below w.heap.size w w1→Calls Tryz.prog 288 #[.slice A n c,.func (.func 289) #[] #[]] w1 (fun e w'=>e= .returned (.bool (l.any Kv.badB))∧Below w1.heap.size w1 w')):=fun w1 hb=>jcj 289 #[] Kv.badB (enters_of Tryz.func289 (by kernel_rfl) rfl) l n c A w0 w1 HA.out (B0.out.trans (hb.mono B0.out.size)) (bad_fn HA.out)
 cases hbad:l.any Kv.badB with
 |true=>
  rw[hbad]at CB;have NE:Hid (Kv.doE s l=1):=Kv.doE_right fun h=>by
   obtain⟨o,ho,hb⟩:=List.any_eq_true.1 hbad;exact Kv.badB_iff.1 hb (h.2.1 o ho)
  clear hbad;go_enter Tryz.func254,Tryz.ntmps254
  go_wp2_with(first
    |(go_at_call 288;(with_reducible refine(CB.out _ B.out).mono ?_);rintro e w1 ⟨rfl,hb⟩;have B:=zh (B.out.trans (hb.mono B.out.size));clear hb))
  go_ret;exact⟨by rw[NE.out];rfl,B.out⟩
 |false=>
 rw[hbad]at CB;have OK:Hid (∀o∈l,Kv.PoOk o):=fun o ho=>by
  have h1:=List.any_eq_false.1 hbad o ho;exact Classical.byContradiction fun h2=>h1 (Kv.badB_iff.2 h2)
 clear hbad;by_cases hpw:l.Pairwise fun a b=>a.key≠b.key
 case neg=>
  have CT:Hid (∀w1,Below w.heap.size w w1→Calls Tryz.prog 290 #[.slice A n c] w1 (fun e w'=>e= .returned (.bool true)∧Below w1.heap.size w1 w')):=fun w1 hb=>(jfv l n c A w0 w1 HA.out (B0.out.trans (hb.mono B0.out.size)) HZ.out).mono fun e w' ⟨⟨x,h1,h2⟩,h3⟩=>⟨by rw[h1,h2.2 hpw],h3⟩;have NE:Hid (Kv.doE s l=1):=Kv.doE_right fun h=>hpw h.2.2;clear hpw;go_enter Tryz.func254,Tryz.ntmps254
  go_wp2_with(first
    |(go_at_call 288;(with_reducible refine(CB.out _ B.out).mono ?_);rintro e w1 ⟨rfl,hb⟩;have B:=zh (B.out.trans (hb.mono B.out.size));clear hb)
    |(go_at_call 290;(with_reducible refine(CT.out _ B.out).mono ?_);rintro e w1 ⟨rfl,hb⟩;have B:=zh (B.out.trans (hb.mono B.out.size));clear hb))
  go_ret;exact⟨by rw[NE.out];rfl,B.out⟩
 have CT:Hid (∀w1,Below w.heap.size w w1→Calls Tryz.prog 290 #[.slice A n c] w1 (fun e w'=>e= .returned (.bool false)∧Below w1.heap.size w1 w')):=fun w1 hb=>(jfv l n c A w0 w1 HA.out (B0.out.trans (hb.mono B0.out.size)) HZ.out).mono fun e w' ⟨⟨x,h1,h2⟩,h3⟩=>⟨by
   rw[h1]
   cases x with
   |false=>rfl
   |true=>exact absurd hpw (h2.1 rfl),h3⟩
 have RT:Hid (Kv.Right l):=⟨by have:=HN.out;omega,OK.out,hpw⟩;clear hpw;have CO:Hid (∀w1,Below w.heap.size w w1→Calls Tryz.prog 288 #[.slice A n c,.func (.func 291) #[.pointer (some ⟨q,oq,none⟩)] #[]] w1 (fun e w'=>e= .returned (.bool (l.any (Kv.oddB s)))∧Below w1.heap.size w1 w')):=fun w1 hb=>jcj 291 #[.pointer (some ⟨q,oq,none⟩)] (Kv.oddB s) (enters_of Tryz.func291 (by kernel_rfl) rfl) l n c A w0 w1 HA.out (B0.out.trans (hb.mono B0.out.size)) (odd_fn HA.out (HK.out.on hb))
 cases hodd:l.any (Kv.oddB s)with
 |true=>
  rw[hodd]at CO;have NE:Hid (Kv.doE s l=7):=by
   obtain⟨o,ho,hb⟩:=List.any_eq_true.1 hodd;exact Kv.doE_odd RT.out ⟨o,ho,Kv.oddB_iff.1 hb⟩
  clear hodd;go_enter Tryz.func254,Tryz.ntmps254
  go_wp2_with(first
    |(go_at_call 288;(with_reducible refine(CB.out _ B.out).mono ?_);rintro e w1 ⟨rfl,hb⟩;have B:=zh (B.out.trans (hb.mono B.out.size));clear hb)
    |(go_at_call 290;(with_reducible refine(CT.out _ B.out).mono ?_);rintro e w1 ⟨rfl,hb⟩;have B:=zh (B.out.trans (hb.mono B.out.size));clear hb)
    |(go_at_call 288;(with_reducible refine(CO.out _ B.out).mono ?_);rintro e w1 ⟨rfl,hb⟩;have B:=zh (B.out.trans (hb.mono B.out.size));clear hb))
  go_ret;exact⟨by rw[NE.out];rfl,B.out⟩
 |false=>
 rw[hodd]at CO;have OD:Hid (∀o∈l,¬Kv.Odd s o):=fun o ho h=>List.any_eq_false.1 hodd o ho (Kv.oddB_iff.2 h);clear hodd;have CL:Hid (∀w1,Below w.heap.size w w1→Calls Tryz.prog 288 #[.slice A n c,.func (.func 292) #[.pointer (some ⟨q,oq,none⟩)] #[]] w1 (fun e w'=>e= .returned (.bool (l.any (Kv.lackB s)))∧Below w1.heap.size w1 w')):=fun w1 hb=>jcj 292 #[.pointer (some ⟨q,oq,none⟩)] (Kv.lackB s) (enters_of Tryz.func292 (by kernel_rfl) rfl) l n c A w0 w1 HA.out (B0.out.trans (hb.mono B0.out.size)) (lack_fn HA.out (HK.out.on hb))
 cases hlk:l.any (Kv.lackB s)with
 |true=>
  rw[hlk]at CL;have NE:Hid (Kv.doE s l=5):=by
   obtain⟨o,ho,hb⟩:=List.any_eq_true.1 hlk;exact Kv.doE_lacks RT.out OD.out ⟨o,ho,(Kv.lackB_iff GD.out).1 hb⟩
  clear hlk;go_enter Tryz.func254,Tryz.ntmps254
  go_wp2_with(first
    |(go_at_call 288;(with_reducible refine(CB.out _ B.out).mono ?_);rintro e w1 ⟨rfl,hb⟩;have B:=zh (B.out.trans (hb.mono B.out.size));clear hb)
    |(go_at_call 290;(with_reducible refine(CT.out _ B.out).mono ?_);rintro e w1 ⟨rfl,hb⟩;have B:=zh (B.out.trans (hb.mono B.out.size));clear hb)
    |(go_at_call 288;(with_reducible refine(CO.out _ B.out).mono ?_);rintro e w1 ⟨rfl,hb⟩;have B:=zh (B.out.trans (hb.mono B.out.size));clear hb)
    |(go_at_call 288;(with_reducible refine(CL.out _ B.out).mono ?_);rintro e w1 ⟨rfl,hb⟩;have B:=zh (B.out.trans (hb.mono B.out.size));clear hb))
  go_ret;exact⟨by rw[NE.out];rfl,B.out⟩
 |false=>
 rw[hlk]at CL;have LK:Hid (∀o∈l,¬Kv.Lacks s o):=fun o ho h=>List.any_eq_false.1 hlk o ho ((Kv.lackB_iff GD.out).2 h);clear hlk;have CN:Hid (∀w1,Below w.heap.size w w1→Calls Tryz.prog 293 #[.pointer (some ⟨q,oq,none⟩),.slice A n c] w1 (KInt ((Kv.after s l).l.length:Nat) w1)):=fun w1 hb=>jmq w1 _ mo s l n c A w0 (HK.out.on hb) HA.out (B0.out.trans (hb.mono B0.out.size)) RT.out LK.out HZ.out;by_cases hf:64<(Kv.after s l).l.length
 ·have NE:Hid (Kv.doE s l=4):=Kv.doE_full RT.out OD.out LK.out hf
  generalize(Kv.after s l).l.length=ln at*;have hg:decide ((64:Int)<(ln:Nat))=true:=decide_eq_true (by omega);go_enter Tryz.func254,Tryz.ntmps254
  go_wp2_with(first
    |(go_at_call 288;(with_reducible refine(CB.out _ B.out).mono ?_);rintro e w1 ⟨rfl,hb⟩;have B:=zh (B.out.trans (hb.mono B.out.size));clear hb)
    |(go_at_call 290;(with_reducible refine(CT.out _ B.out).mono ?_);rintro e w1 ⟨rfl,hb⟩;have B:=zh (B.out.trans (hb.mono B.out.size));clear hb)
    |(go_at_call 288;(with_reducible refine(CO.out _ B.out).mono ?_);rintro e w1 ⟨rfl,hb⟩;have B:=zh (B.out.trans (hb.mono B.out.size));clear hb)
    |(go_at_call 288;(with_reducible refine(CL.out _ B.out).mono ?_);rintro e w1 ⟨rfl,hb⟩;have B:=zh (B.out.trans (hb.mono B.out.size));clear hb)
    |(go_at_call 293;(with_reducible refine(CN.out _ B.out).mono ?_);rintro e w1 ⟨rfl,hb⟩;have B:=zh (B.out.trans (hb.mono B.out.size));clear hb))
  go_ret;exact⟨by rw[NE.out];rfl,B.out⟩
 ·have NE:Hid (Kv.doE s l=0):=Kv.doE_ok RT.out OD.out LK.out hf
  generalize(Kv.after s l).l.length=ln at*;have hg:decide ((64:Int)<(ln:Nat))=false:=decide_eq_false (by omega);go_enter Tryz.func254,Tryz.ntmps254
  go_wp2_with(first
    |(go_at_call 288;(with_reducible refine(CB.out _ B.out).mono ?_);rintro e w1 ⟨rfl,hb⟩;have B:=zh (B.out.trans (hb.mono B.out.size));clear hb)
    |(go_at_call 290;(with_reducible refine(CT.out _ B.out).mono ?_);rintro e w1 ⟨rfl,hb⟩;have B:=zh (B.out.trans (hb.mono B.out.size));clear hb)
    |(go_at_call 288;(with_reducible refine(CO.out _ B.out).mono ?_);rintro e w1 ⟨rfl,hb⟩;have B:=zh (B.out.trans (hb.mono B.out.size));clear hb)
    |(go_at_call 288;(with_reducible refine(CL.out _ B.out).mono ?_);rintro e w1 ⟨rfl,hb⟩;have B:=zh (B.out.trans (hb.mono B.out.size));clear hb)
    |(go_at_call 293;(with_reducible refine(CN.out _ B.out).mono ?_);rintro e w1 ⟨rfl,hb⟩;have B:=zh (B.out.trans (hb.mono B.out.size));clear hb))
  go_ret;exact⟨by rw[NE.out];rfl,B.out⟩
end Go.Proofs.YtabandbigckfkaaGreatDoor
namespace Go.Proofs.YtabandbigckfkaaGreatDoor
open Go.RowKit Go.Deep Go.Maps
structure jcy(w:World)(q oq:Nat)(cs:Array Value)(ty:TypeId)(m:Nat)(r:Int)(l:List Kv.En):Prop where
 row:w.heap[q]? =some (.cells cs ty (0,0))
 k0:cs[oq]? =some (.int .i64 r)
 k1:cs[oq+1]? =some (.map (some m))
 nos:jmn cs
 map:jbn Tryz.prog 9 w m l
theorem jcy.ne{w:World}{q oq m:Nat}{cs:Array Value}{ty:TypeId}{r:Int}{l:List Kv.En}(h:jcy w q oq cs ty m r l):q≠m:=fun e=>by
 obtain⟨D,⟨es,clock,hb,_⟩,_⟩:=h.map;have:=h.row;rw[e,hb]at this;injection this with this
 cases this
theorem jcy.cells{w:World}{q oq m:Nat}{cs:Array Value}{ty:TypeId}{r:Int}{l:List Kv.En}(h:jcy w q oq cs ty m r l):w.cell? ⟨q,oq,none⟩=some (.int .i64 r)∧w.cell? ⟨q,oq+1,none⟩=some (.map (some m))∧w.frozen? ⟨q,oq,none⟩=false∧q<w.heap.size:=
 ⟨by rw[cell_of_row w q oq _ _ _ h.row];exact h.k0,by rw[cell_of_row w q (oq+1) _ _ _ h.row];exact h.k1,frozen_of_row _ _ _ _ _ h.row,(Array.getElem?_eq_some_iff.1 h.row).1⟩
theorem jcy.on{w w':World}{q oq m:Nat}{cs:Array Value}{ty:TypeId}{r:Int}{l:List Kv.En}(h:jcy w q oq cs ty m r l)(hb:Below w.heap.size w w'):jcy w' q oq cs ty m r l:=⟨(hb.block q h.cells.2.2.2).trans h.row,h.k0,h.k1,h.nos,h.map.keep (hb.block m h.map.lt)⟩
theorem jcy.turned{w w':World}{q oq m:Nat}{cs:Array Value}{ty:TypeId}{r:Int}{l l':List Kv.En}(h:jcy w q oq cs ty m r l)(ht:w.mapTurned w' m)(hm:jbn Tryz.prog 9 w' m l'):jcy w' q oq cs ty m r l':=
 ⟨(ht.grown.block q h.cells.2.2.2 (fun e=>h.ne (by injection e))).trans h.row,h.k0,h.k1,h.nos,hm⟩
theorem jed{w w':World}{b i:Nat}(h:w'.heap[b]? =w.heap[b]?):w'.cell? ⟨b,i,none⟩=w.cell? ⟨b,i,none⟩:=by unfold World.cell?;rw[h]
theorem SlR.poH{w:World}{b o n c:Nat}{l:List Kv.Po}(h:SlP w (some ⟨b,o,none⟩) n c l){j:Nat}{x:Kv.Po}(hx:l[j]? =some x){w':World}(hb:w'.heap[b]? =w.heap[b]?):
  w'.cell? ⟨b,o+j*4,none⟩=some (.string x.key)∧w'.cell? ⟨b,o+j*4+1,none⟩=some (.string x.val)∧w'.cell? ⟨b,o+j*4+2,none⟩=some (.int .i64 x.rev)∧w'.cell? ⟨b,o+j*4+3,none⟩=some (.bool x.drop):=by
 obtain⟨h0,h1,h2,h3⟩:=h.po hx (Below.refl _ _);exact⟨(jed hb).trans h0,(jed hb).trans h1,(jed hb).trans h2,(jed hb).trans h3⟩
theorem jfw(t k e:TypeId)(m:Option Nat)(w:World)(h:Tryz.prog.underlying t=some (.map k e)):(binOp .eql t (.map m) (.map none)).run Tryz.prog w= .ok (.bool m.isNone) w:=by
 simp only[binOp];simp[run_equal_map_nil w t k e m h]
theorem jij{w:World}{q oq b o n c:Nat}{cs:Array Value}{ty:TypeId}{mo:Option Nat}{s:Kv.St}{l:List Kv.Po}(hk:KvIs w q oq cs ty mo s)(h:SlP w (some ⟨b,o,none⟩) n c l)(hl:0<l.length):b≠q∧mo≠some b∧b<w.heap.size:=by
 obtain⟨h0,_⟩:=h.po (List.getElem?_eq_getElem hl) (Below.refl _ _);refine⟨fun e=> ?_,fun e=> ?_,(h.cell hl).1⟩
 ·subst e
  rw[cell_of_row _ _ _ _ _ _ hk.row]at h0;exact hk.nos _ _ h0
 ·subst e
  obtain⟨D,⟨es,clock,hb,_⟩,_⟩:=show jbn Tryz.prog 9 w b s.l from hk.map
  simp[World.cell?,hb]at h0
theorem jfx(w:World)(q oq:Nat)(cs:Array Value)(ty:TypeId)(m:Nat)(r:Int)(L:List Kv.En)(x:Kv.Po)(h:jcy w q oq cs ty m r L)(hr:Kv.Rise L)(hl:L.length≤1000000)(hk:x.key.size≤maxLen):
  Calls Tryz.prog 255 #[.pointer (some ⟨q,oq,none⟩),opV x] w (fun e w'=>e= .returned (.tuple #[])∧jcy w' q oq cs ty m r (Kv.step r L x)∧Kept (fun i=>i=m) w w'):=by
 have Q1:=heap_alloc_new w (.cells #[.string x.key,.string x.val,.int .i64 x.rev,.bool x.drop] 265);have BN:=zh ((Below.refl w.heap.size w).alloc (Nat.le_refl _) (.cells #[.string x.key,.string x.val,.int .i64 x.rev,.bool x.drop] 265));have M2:=zh (h.on BN.out);have KS:=zh hk;have RI:=zh hr;have LB:=zh hl;have QH:=zh Q1;clear h hk hr hl Q1;obtain⟨ws,hws⟩:∃ws,ws=w.alloc (.cells #[.string x.key,.string x.val,.int .i64 x.rev,.bool x.drop] 265):=⟨_,rfl⟩;obtain⟨g,hg⟩:∃g,g=w.heap.size:=⟨_,rfl⟩;rw[←hws,←hg]at QH;rw[←hws]at BN M2;have c0:ws.cell? ⟨g,0,none⟩=some (.string x.key):=by rw[cell_of_row ws g 0 _ _ _ QH.out];rfl
 have c1:ws.cell? ⟨g,1,none⟩=some (.string x.val):=by rw[cell_of_row ws g 1 _ _ _ QH.out];rfl
 have c3:ws.cell? ⟨g,3,none⟩=some (.bool x.drop):=by rw[cell_of_row ws g 3 _ _ _ QH.out];rfl
 obtain⟨d0,d1,d2,d3⟩:=M2.out.cells;have M3:=zh (M2.out.on (Below.refl ws.heap.size ws).drew);have K3:=zh ((Kept.of_below (F:=fun i=>i=m) BN.out).trans (Kept.of_below (F:=fun _=>False) (Below.refl ws.heap.size ws).drew) fun _ _ hf=>hf.elim);have HWS:=zh hws;have HG:=zh hg
 cases hd:x.drop with
 |true=>
  have SE:Hid (Kv.step r L x=Kv.dropK L x.key):=by show _=_;unfold Kv.step;rw[if_pos hd]
  obtain⟨wd,hrun,hmd,htd⟩:=jr5 Tryz.underlying9 Tryz.underlying121 M3.out.map RI.out x.key KS.out 0;have M4:=zh (M3.out.turned htd hmd);have K4:=zh (K3.out.trans (G:=fun i=>i=m) (Kept.of_grown htd.grown (fun k hk=>by injection hk with hk;exact hk.symm)) fun _ _ hi=>hi)
  rw[hd]at c3;clear hmd htd hws hg;rw[SE.out];unfold opV;obtain⟨key,val,rev,drop⟩:=x;simp only at*;obtain rfl:=hd;go_enter Tryz.func255,Tryz.ntmps255;go_upto_region 1 with fail
  rw[←HWS.out,←HG.out];clear HWS HG;go_wp2_with fail;go_region;go_wp2_with fail;go_end0;exact⟨rfl,M4.out,K4.out⟩
 |false=>
  have SE:Hid (Kv.step r L x=Kv.putK (Kv.dropK L x.key) ⟨x.key,x.val,r⟩):=by show _=_;unfold Kv.step;rw[if_neg (by rw[hd];simp)]
  obtain⟨wd,hrun,hmd,htd⟩:=put_run Tryz.underlying9 Tryz.underlying121 M3.out.map RI.out LB.out x.key x.val r KS.out;have M4:=zh (M3.out.turned htd hmd);have K4:=zh (K3.out.trans (G:=fun i=>i=m) (Kept.of_grown htd.grown (fun k hk=>by injection hk with hk;exact hk.symm)) fun _ _ hi=>hi)
  rw[hd]at c3;clear hmd htd hws hg;rw[SE.out];unfold opV;obtain⟨key,val,rev,drop⟩:=x;simp only at*;obtain rfl:=hd;go_enter Tryz.func255,Tryz.ntmps255;go_upto_region 1 with fail
  rw[←HWS.out,←HG.out];clear HWS HG;go_wp2_with fail;go_region;go_wp2_with fail;go_end0;exact⟨rfl,M4.out,K4.out⟩
def jj7(cs:Array Value)(oq:Nat)(r:Int)(mo:Option Nat):Array Value:=(cs.setIfInBounds (oq+1) (.map mo)).setIfInBounds oq (.int .i64 r)
theorem jmr{cs:Array Value}{oq:Nat}{r:Int}{mo:Option Nat}(h0:cs[oq]? =some (.int .i64 r))(h1:cs[oq+1]? =some (.map mo)):jj7 cs oq r mo=cs:=by unfold jj7;rw[jfu h1,jfu h0]
theorem joo{cs:Array Value}{oq:Nat}(r:Int){mo:Option Nat}(h1:cs[oq+1]? =some (.map mo)):jj7 cs oq r mo=cs.setIfInBounds oq (.int .i64 r):=by unfold jj7;rw[jfu h1]
def KbDo(q oq:Nat)(cs:Array Value)(ty:TypeId)(mo:Option Nat)(s:Kv.St)(ops:List Kv.Po)(W:World)(e:Ending)(w':World):Prop:=
 ∃mo',e= .returned (.tuple #[.int .i64 (Kv.doN s ops),.int .i64 (Kv.doE s ops:Nat)])∧KvIs w' q oq (jj7 cs oq (Kv.doS s ops).rev mo') ty mo' (Kv.doS s ops)∧Kept (fun i=>i=q∨mo=some i) W w'∧∀m,mo'=some m→mo=some m∨W.heap.size≤m
theorem jr8(W:World)(q oq:Nat)(cs:Array Value)(ty:TypeId)(mo:Option Nat)(s:Kv.St)(n c:Nat)(A:Option Addr)(l:List Kv.Po)(hk:KvIs W q oq cs ty mo s)(hrv:s.rev≤1000)(h:SlP W A n c l)(hz:l.length≤70):
  Calls Tryz.prog 210 #[.pointer (some ⟨q,oq,none⟩),.slice A n c] W (KbDo q oq cs ty mo s l W):=by
 have hn:=h.len;have hmx:=h.max;have hcp:=h.cap;unfold maxLen at hmx;have hr0:=hk.good.rev0;have HA:=zh h;have HN:=zh hn;have HZ:=zh hz;have HK:=zh hk;have HK0:=zh hk.k0;have HK1:=zh hk.k1;have NS:=zh hk.nos;have STAY:∀{w':World},Below W.heap.size W w'→Kv.doE s l≠0→KbDo q oq cs ty mo s l W (.returned (.tuple #[.int .i64 0,.int .i64 (Kv.doE s l:Nat)])) w':=fun{w'} hb h0=>by
  refine⟨mo,by rw[(Kv.doS_no h0).2],?_,Kept.of_below hb,fun _ h=> .inl h⟩;rw[(Kv.doS_no h0).1,jmr HK0.out HK1.out];exact HK.out.on hb
 have ST:Hid (∀{w':World},Below W.heap.size W w'→Kv.doE s l≠0→KbDo q oq cs ty mo s l W (.returned (.tuple #[.int .i64 0,.int .i64 (Kv.doE s l:Nat)])) w'):=STAY;have CA:=zh (jon W q oq cs ty mo s l n c A W HK.out HA.out (Below.refl _ _) HZ.out);have heq:=fun m w=>jfw _ _ _ m w Tryz.underlying121;clear h hn hk hz STAY;by_cases h0:Kv.doE s l=0
 ·have H0:=zh h0
  rw[h0]at CA;clear h0
  cases mo with
  |some m=>
   go_enter Tryz.func210,Tryz.ntmps210;go_upto_region 4 with(go_at_call 254;(with_reducible refine CA.out.mono ?_);rintro e w2 ⟨rfl,hb2⟩;have B2:=zh hb2;clear hb2)
   obtain⟨c0,c1,f0,hq⟩:=(HK.out.on B2.out).cells;have MID:Hid (jcy (w2.setCell ⟨q,oq,none⟩ (.int .i64 (s.rev+1))) q oq (cs.setIfInBounds oq (.int .i64 (s.rev+1))) ty m (s.rev+1) s.l):=⟨heap_setCell_same _ _ _ _ _ _ (HK.out.on B2.out).row,jj4 HK0.out,jhg HK1.out (by omega),NS.out.set _ (fun _ e=>by cases e),jbn.keep (HK.out.on B2.out).map (heap_setCell_other _ _ _ _ (by simpa using(HK.out.on B2.out).ne.symm))⟩;have KP:Hid (Kept (fun i=>i=q∨some m=some i) W (w2.setCell ⟨q,oq,none⟩ (.int .i64 (s.rev+1)))):=(Kept.of_below (F:=fun i=>i=q∨some m=some i) B2.out).trans (G:=fun i=>i=q) (Kept.of_grown (row:=some q) (jab _ _ _ _) (fun k hk=>by injection hk with hk;exact hk.symm)) fun i _ hi=> .inl hi
   have HM0:Hid (m<W.heap.size→some m=some m):=fun _=>rfl;go_wp2_with fail;generalize w2.setCell ⟨q,oq,none⟩ (.int .i64 (s.rev+1))=w3 at*;clear c0 c1 f0 hq;go_loopw [33] (fun i wr=>∃j:Nat,j≤n∧i= .int .i64 j∧jcy wr q oq (cs.setIfInBounds oq (.int .i64 (s.rev+1))) ty m (s.rev+1) ((l.take j).foldl (Kv.step (s.rev+1)) s.l)∧Kept (fun i=>i=q∨some m=some i) W wr∧(m<W.heap.size→some m=some m)) (fun i _=>n -(intOf i).toNat)
   case atStart=>exact⟨0,by omega,rfl,MID.out,KP.out,fun _=>rfl⟩
   case round=>
    obtain⟨j,hj,rfl,hm,hkp,hm0⟩:=hrel;have MD:=zh hm;have KE:=zh hkp;have HM1:=zh hm0;clear hm hkp hm0;by_cases hlt:j<n
    ·obtain⟨b1,o1,rfl⟩:=HA.out.addr (by have:=HN.out;omega)
     have EA:Hid (l[j]? =some (l[j]'(by have:=HN.out;omega))):=List.getElem?_eq_getElem _;generalize l[j]'(by have:=HN.out;omega)=x at*;have AP:=jij HK.out HA.out (by have:=HN.out;omega);obtain⟨p0,p1,p2,p3⟩:=HA.out.poH EA.out (KE.out.block b1 AP.2.2 (by rintro(e|e);exact AP.1 e;exact AP.2.1 e));have KS:=zh (HA.out.poOk (List.mem_of_getElem? EA.out)).1;have LS:=zh (Kv.steps_snoc (s.rev+1) EA.out s.l);have RI:=zh (Kv.steps_rise (r:=s.rev+1) (ops:=l.take j) HK.out.good.rise);have LB:Hid (((l.take j).foldl (Kv.step (s.rev+1)) s.l).length≤1000000):=by
      have h1:=Kv.steps_length (s.rev+1) (l.take j) s.l;rw[List.length_take]at h1;have:=HK.out.good.len;have:=HZ.out;show _≤_;omega
     generalize(l.take j).foldl (Kv.step (s.rev+1)) s.l=L at*;clear AP;have Q1:=zh (heap_alloc_new wr (.cells #[.string x.key,.string x.val,.int .i64 x.rev,.bool x.drop] 265));have BN:=zh ((Below.refl wr.heap.size wr).alloc (Nat.le_refl _) (.cells #[.string x.key,.string x.val,.int .i64 x.rev,.bool x.drop] 265));have M2:=zh (MD.out.on BN.out);have K2:=zh (KE.out.trans (Kept.of_below (F:=fun _=>False) BN.out) fun _ _ hf=>hf.elim);have CP:=zh (jfx _ q oq _ ty m _ L x M2.out RI.out LB.out KS.out);rw[←LS.out]at CP;go_wp2_with(go_at_call 255;(with_reducible refine CP.out.mono ?_);rintro e w4 ⟨rfl,hm4,hk4⟩;have M4:=zh hm4;have K4:=zh (K2.out.trans hk4 (fun i hi e=>by subst e;exact .inr rfl));clear hm4 hk4);exact⟨⟨j+1,by omega,by go_num,M4.out,K4.out,by simp⟩,by simp[intOf];omega⟩
    ·have E:Hid (l.take j=l):=List.take_of_length_le (by have:=HN.out;omega)
     rw[E.out]at MD;obtain⟨d0,d1,d2,d3⟩:=MD.out.cells;go_wp2_with fail;have hok:=Kv.doS_ok H0.out;have hgd:=Kv.doS_good HK.out.good l;have hp:KbDo q oq cs ty (some m) s l W (.returned (.tuple #[.int .i64 (s.rev+1),.int .i64 0])) wr:=by
      refine⟨some m,by rw[hok.2,H0.out];rfl,?_,KE.out,fun _ h=> .inl h⟩;rw[hok.1]at hgd⊢;rw[joo _ HK1.out];exact⟨MD.out.row,MD.out.k0,MD.out.k1,MD.out.nos,MD.out.map,hgd⟩
     exact bodyPost_ret (v:= .tuple #[.int .i64 (s.rev+1),.int .i64 0]) (by simp[results,Tryz.results210,go_sem]) rfl hp
  |none=>
   go_enter Tryz.func210,Tryz.ntmps210;have hmm:=@run_makeMap Tryz.prog;go_upto_region 4 with(go_at_call 254;(with_reducible refine CA.out.mono ?_);rintro e w2 ⟨rfl,hb2⟩;have B2:=zh hb2;clear hb2)
   obtain⟨c0,c1,f0,hq⟩:=(HK.out.on B2.out).cells;have f1:w2.frozen? ⟨q,oq+1,none⟩=false:=frozen_of_row _ _ _ _ _ (HK.out.on B2.out).row;have BM:=zh ((Below.refl w2.heap.size w2).alloc (Nat.le_refl _) (.map #[] 0));have S0:=zh (jbn.made (P:=Tryz.prog) (kt:=9) w2);have RW:=zh ((HK.out.on B2.out).on BM.out).row;have EL:Hid (s.l=[]):=HK.out.map;have MID:Hid (jcy ((w2.alloc (.map #[] 0)).setCell ⟨q,oq+1,none⟩ (.map (some w2.heap.size))) q oq (cs.setIfInBounds (oq+1) (.map (some w2.heap.size))) ty w2.heap.size s.rev s.l):=⟨heap_setCell_same _ _ _ _ _ _ RW.out,jhg HK0.out (by omega),jj4 HK1.out,NS.out.set _ (fun _ e=>by cases e),by rw[EL.out];exact S0.out.keep (heap_setCell_other _ _ _ _ (by simp;omega))⟩;have KP:Hid (Kept (fun i=>i=q∨none=some i) W ((w2.alloc (.map #[] 0)).setCell ⟨q,oq+1,none⟩ (.map (some w2.heap.size)))):=(Kept.of_below (F:=fun i=>i=q∨none=some i) (B2.out.trans (BM.out.mono B2.out.size))).trans (G:=fun i=>i=q) (Kept.of_grown (row:=some q) (jab _ _ _ _) (fun k hk=>by injection hk with hk;exact hk.symm)) fun i _ hi=> .inl hi
   have HM0:Hid (w2.heap.size<W.heap.size→none=some w2.heap.size):=fun h=>by have:=B2.out.size;omega
   have EW:Hid ((w2.alloc (.map #[] 0)).setCell ⟨q,oq+1,none⟩ (.map (some w2.heap.size))=(w2.setCell ⟨q,oq+1,none⟩ (.map (some w2.heap.size))).alloc (.map #[] 0)):=World.setCell_alloc_past _ _ _ _ hq;rw[EW.out]at MID KP;go_upto_region 6 with fail
   obtain⟨m,hm⟩:∃m,m=w2.heap.size:=⟨_,rfl⟩;rw[←hm]at MID KP HM0⊢;clear hm hmm c0 c1 f0 f1 hq BM S0 RW EW;generalize(w2.setCell ⟨q,oq+1,none⟩ (.map (some m))).alloc (.map #[] 0)=w5 at*;obtain⟨c0,c1,f0,hq⟩:=MID.out.cells;have MID:Hid (jcy (w5.setCell ⟨q,oq,none⟩ (.int .i64 (s.rev+1))) q oq (jj7 cs oq (s.rev+1) (some m)) ty m (s.rev+1) s.l):=⟨heap_setCell_same _ _ _ _ _ _ MID.out.row,jj4 MID.out.k0,jhg MID.out.k1 (by omega),MID.out.nos.set _ (fun _ e=>by cases e),MID.out.map.keep (heap_setCell_other _ _ _ _ (by simpa using MID.out.ne.symm))⟩;have KP:Hid (Kept (fun i=>i=q∨none=some i) W (w5.setCell ⟨q,oq,none⟩ (.int .i64 (s.rev+1)))):=KP.out.trans (G:=fun i=>i=q) (Kept.of_grown (row:=some q) (jab _ _ _ _) (fun k hk=>by injection hk with hk;exact hk.symm)) fun i _ hi=> .inl hi
   go_wp2_with fail;generalize w5.setCell ⟨q,oq,none⟩ (.int .i64 (s.rev+1))=w3 at*;clear c0 c1 f0 hq;go_loopw [33] (fun i wr=>∃j:Nat,j≤n∧i= .int .i64 j∧jcy wr q oq (jj7 cs oq (s.rev+1) (some m)) ty m (s.rev+1) ((l.take j).foldl (Kv.step (s.rev+1)) s.l)∧Kept (fun i=>i=q∨none=some i) W wr∧(m<W.heap.size→none=some m)) (fun i _=>n -(intOf i).toNat)
   case atStart=>exact⟨0,by omega,rfl,MID.out,KP.out,HM0.out⟩
   case round=>
    obtain⟨j,hj,rfl,hm,hkp,hm0⟩:=hrel;have MD:=zh hm;have KE:=zh hkp;have HM1:=zh hm0;clear hm hkp hm0;by_cases hlt:j<n
    ·obtain⟨b1,o1,rfl⟩:=HA.out.addr (by have:=HN.out;omega)
     have EA:Hid (l[j]? =some (l[j]'(by have:=HN.out;omega))):=List.getElem?_eq_getElem _;generalize l[j]'(by have:=HN.out;omega)=x at*;have AP:=jij HK.out HA.out (by have:=HN.out;omega);obtain⟨p0,p1,p2,p3⟩:=HA.out.poH EA.out (KE.out.block b1 AP.2.2 (by rintro(e|e);exact AP.1 e;exact AP.2.1 e));have KS:=zh (HA.out.poOk (List.mem_of_getElem? EA.out)).1;have LS:=zh (Kv.steps_snoc (s.rev+1) EA.out s.l);have RI:=zh (Kv.steps_rise (r:=s.rev+1) (ops:=l.take j) HK.out.good.rise);have LB:Hid (((l.take j).foldl (Kv.step (s.rev+1)) s.l).length≤1000000):=by
      have h1:=Kv.steps_length (s.rev+1) (l.take j) s.l;rw[List.length_take]at h1;have:=HK.out.good.len;have:=HZ.out;show _≤_;omega
     generalize(l.take j).foldl (Kv.step (s.rev+1)) s.l=L at*;clear AP;have Q1:=zh (heap_alloc_new wr (.cells #[.string x.key,.string x.val,.int .i64 x.rev,.bool x.drop] 265));have BN:=zh ((Below.refl wr.heap.size wr).alloc (Nat.le_refl _) (.cells #[.string x.key,.string x.val,.int .i64 x.rev,.bool x.drop] 265));have M2:=zh (MD.out.on BN.out);have K2:=zh (KE.out.trans (Kept.of_below (F:=fun _=>False) BN.out) fun _ _ hf=>hf.elim);have CP:=zh (jfx _ q oq _ ty m _ L x M2.out RI.out LB.out KS.out);rw[←LS.out]at CP;go_wp2_with(go_at_call 255;(with_reducible refine CP.out.mono ?_);rintro e w4 ⟨rfl,hm4,hk4⟩;have M4:=zh hm4;have K4:=zh (K2.out.trans hk4 (fun i hi e=>by subst e;exact .inr (HM1.out hi)));clear hm4 hk4);exact⟨⟨j+1,by omega,by go_num,M4.out,K4.out,HM1.out⟩,by simp[intOf];omega⟩
    ·have E:Hid (l.take j=l):=List.take_of_length_le (by have:=HN.out;omega)
     rw[E.out]at MD;obtain⟨d0,d1,d2,d3⟩:=MD.out.cells;go_wp2_with fail;have hok:=Kv.doS_ok H0.out;have hgd:=Kv.doS_good HK.out.good l;have hp:KbDo q oq cs ty none s l W (.returned (.tuple #[.int .i64 (s.rev+1),.int .i64 0])) wr:=by
      refine⟨some m,by rw[hok.2,H0.out];rfl,?_,KE.out,fun k hk=> .inr ?_⟩
      ·rw[hok.1]at hgd⊢
       exact⟨MD.out.row,MD.out.k0,MD.out.k1,MD.out.nos,MD.out.map,hgd⟩
      ·injection hk with hk
       rcases Nat.lt_or_ge m W.heap.size with h|h
       ·exact absurd (HM1.out h) (by simp)
       ·omega
     exact bodyPost_ret (v:= .tuple #[.int .i64 (s.rev+1),.int .i64 0]) (by simp[results,Tryz.results210,go_sem]) rfl hp
 ·have H0:=zh h0
  obtain⟨z,hz⟩:∃z,z=Kv.doE s l:=⟨_,rfl⟩;rw[←hz]at h0 CA;have hz0:((z:Int)==0)=false:=by rw[beq_eq_false_iff_ne];omega
  have HZ1:=zh hz;clear hz;go_enter Tryz.func210,Tryz.ntmps210;go_wp2_with(go_at_call 254;(with_reducible refine CA.out.mono ?_);rintro e w2 ⟨rfl,hb2⟩;have B2:=zh hb2;clear hb2);have hs:=ST.out B2.out H0.out;rw[←HZ1.out]at hs;exact bodyPost_ret (v:= .tuple #[.int .i64 0,.int .i64 (z:Nat)]) (by simp[results,Tryz.results210,go_sem]) rfl hs
end Go.Proofs.YtabandbigckfkaaGreatDoor
namespace Go.Proofs.YtabandbigckfkaaGreatDoor
open Go.RowKit
theorem g_pow:Tryz.prog.globalNamed "internal/strconv.uint64pow10" =some 4:=by kernel_rfl
structure Tb(w:World):Prop where
 pow:Lib.TabIs Tryz.prog w "internal/strconv.uint64pow10" .u64 Lib.pow10Tab
theorem Tb.on{w w':World}(h:Tb w)(hb:Below w.heap.size w w'):Tb w':=⟨Joins.tab_stays g_pow h.pow hb (Nat.le_refl _)⟩
theorem jik(w:World)(k:Nat)(os:Array Obj):Below w.heap.size w (Go.Sort.grow (w.drewN k) os):=
 ⟨rfl,rfl,rfl,by show w.heap.size≤(w.heap++os).size;rw[Array.size_append];omega,fun j hj=>by show(w.heap++os)[j]? =_;rw[Array.getElem?_append_left hj]⟩
theorem jr9(n:Int)(hn:Spc.i64 n)(w:World)(ht:Tb w):Calls Tryz.prog 223 #[.int .i64 n] w (APos w (.string (txt (Spc.digs n)))):=by
 refine(Tryz.strconv_Itoa n hn.1 hn.2 w ht.pow).mono ?_;rintro e w' ⟨rfl,k,os,rfl⟩;rw[Spc.itoa_txt];exact⟨rfl,jik _ _ _⟩
open Go
def jop{H:Type}:DataW H→List Value
 | .lit (.int k n)=>[.int k n]
 | .lit (.bool b)=>[.bool b]
 | .lit (.string l)=>[.string ⟨l.toArray⟩]
 |_=>[]
def jsa{H:Type}:DataW H→List Value
 | .agg ds=>ds.flatMap jop
 |d=>jop d
def leaf3{H:Type}:DataW H→List Value
 | .agg ds=>ds.flatMap jsa
 |d=>jsa d
section
variable{H:Type}{enc:TypeId×Value→H}{P:Program}{w:World}{base:Nat}{spare:Nat→Bool}{held:Bool}{t e:TypeId}
def joq(enc:TypeId×Value→H)(P:Program)(w:World)(base:Nat)(spare:Nat→Bool)(held:Bool)(t:TypeId)(L:DataW H→List Value):Prop:=
 ∀fuel cs x,DataW.trod enc P w base spare held fuel t cs=some x→cs=L x.1
theorem jor{k:IntKind}(he:P.underlying t=some (.int k)):joq enc P w base spare held t jop:=fun fuel cs x h=>by
 obtain⟨n,rfl,rfl,_⟩:=DataW.trod_int he h;rfl
theorem jos(he:P.underlying t=some .string):joq enc P w base spare held t jop:=fun fuel cs x h=>by
 cases fuel with
 |zero=>simp[DataW.trod]at h
 |succ m=>
  unfold DataW.trod at h;rw[he]at h;split at h<;>simp_all;obtain⟨_,h⟩:=h;subst h;rfl
theorem chunks{k n:Nat}:∀{cs:List Value},cs.length=n*k→∀{c:Nat→List Value},(∀i,i<n→(cs.drop (i*k)).take k=c i)→cs=(List.range n).flatMap c:=by
 induction n with
 |zero=>
  intro cs hl c _;rw[Nat.zero_mul]at hl;rw[List.length_eq_zero_iff.1 hl];rfl
 |succ n ih=>
  intro cs hl c hc;have h0:=hc 0 (by omega);rw[Nat.zero_mul,List.drop_zero]at h0;have hl2:(cs.drop k).length=n*k:=by rw[List.length_drop,hl,Nat.succ_mul];omega
  have h1:=ih hl2 (c:=fun i=>c (i+1)) (fun i hi=>by
   have:=hc (i+1) (by omega);rw[←this,List.drop_drop,Nat.succ_mul,Nat.add_comm])
  rw[List.range_succ_eq_map,List.flatMap_cons,List.flatMap_map,←h0]
  conv=>lhs;rw[←List.take_append_drop k cs]
  rw[h1]
theorem jfy{n:Nat}{L L2:DataW H→List Value}(hL:∀ds,L2 (.agg ds)=ds.flatMap L)(he:joq enc P w base spare held e L)(ht:P.underlying t=some (.array n e))(hc:P.cellsOf t=n*P.cellsOf e):joq enc P w base spare held t L2:=fun fuel cs x h=>by
 obtain⟨xs,m,rfl,rfl,hl,hxl,hi⟩:=DataW.trod_array ht h;rw[hc]at hl;have h2:=chunks hl (c:=fun i=>L ((xs.map (·.1)).getD i .nil)) (fun i hi2=>by
  have h3:=hi i hi2;have h4:xs[i]? =some (xs[i]'(by omega)):=List.getElem?_eq_getElem _;rw[h4]at h3;have h5:=he _ _ _ h3;rw[h5,List.getD_eq_getElem?_getD,List.getElem?_map,h4];rfl)
 show cs=L2 (.agg (xs.map (·.1)));rw[hL];rw[h2];have:∀(ds:List (DataW H)),(List.range ds.length).flatMap (fun i=>L (ds.getD i .nil))=ds.flatMap L:=by
  intro ds
  induction ds with
  |nil=>rfl
  |cons d ds ih=>
   rw[List.length_cons,List.range_succ_eq_map,List.flatMap_cons,List.flatMap_map,List.flatMap_cons]
   congr 1
 have h6:=this (xs.map (·.1));rw[List.length_map,hxl]at h6;exact h6
end
def jgn(P:Program)(w:World)(name:String)(cs:List Value):Prop:=w.var? P name=some cs.toArray
theorem jk6{P:Program}{W:World}{name:String}{d:DataW Unit}{l:List (String×DataW Unit)}{g:Nat}{t:TypeId}{L:DataW Unit→List Value}(hm:laidMet P l W)(hd:(name,d)∈l)(hg:P.globalNamed name=some g)(hty:(P.globals[g]?).map (·.type)=some t)
  (hT:∀w base spare held,joq (fun _=>()) P w base spare held t L):jgn P W name (L d):=by
 obtain⟨g',t',cs,fuel,p,h1,h2,h3,h4⟩:=Lib.laidMet.reads hm hd;rw[hg]at h1;obtain rfl:=Option.some.inj h1;rw[hty]at h2;obtain rfl:=Option.some.inj h2;have:=hT _ _ _ _ _ _ _ h4;unfold jgn;rw[h3,←this]
theorem jgn.on{P:Program}{w w':World}{name:String}{cs:List Value}{g:Nat}(hg:P.globalNamed name=some g)(h:jgn P w name cs)(hb:Below w.heap.size w w'):jgn P w' name cs:=Joins.var_stays hg h hb (Nat.le_refl _)
theorem jgn.cell{P:Program}{w:World}{name:String}{cs:List Value}{g:Nat}(hg:P.globalNamed name=some g)(h:jgn P w name cs){i:Nat}{v:Value}(hi:cs[i]? =some v):w.cell? ⟨g,i,none⟩=some v:=by
 unfold jgn World.var? at h;rw[hg]at h;simp only[Option.bind_some]at h;split at h
 ·rename_i c T fr hh
  obtain rfl:=Option.some.inj h;rw[cell_of_row w g i _ _ _ hh];simpa using hi
 ·cases h
end Go.Proofs.YtabandbigckfkaaGreatDoor
