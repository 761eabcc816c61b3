import Derived.Laws.Cover3
import Derived.Test.YtkinlcfhojjalaaGreatDoorQz14
import Derived.Sort.OwnSorted
import Derived.Sort.KeysCollected
import Derived.Shelf.Small.Bits
import Derived.Shelf.Small.Wraps
import Derived.Shelf.Strconv.Atoi
import Derived.Shelf.Strconv.Itoa0
import Derived.Shelf.Strconv.Itoa1
import Derived.Shelf.LaysM
import Derived.Shelf.Strconv.Itoa2
import Derived.Shelf.Strconv.Itoa3
import Derived.Shelf.Strconv.AtoiErrFast
import Derived.Shelf.Strconv.ParseIntEmpty
import Derived.Shelf.Strconv.AtoiFail
import Derived.Shelf.Strconv.Clone
import Derived.Shelf.Strconv.SyntaxError
import Derived.Shelf.Strconv.Lower
import Derived.Shelf.Strconv.ParseUint10
import Derived.Shelf.Strconv.ParseUint10Empty
import Derived.Shelf.Strconv.RangeError
import Derived.Shelf.Strconv.ParseUintEmpty
import Derived.Shelf.Strconv.ParseUint10b64
import Derived.Shelf.Strconv.ParseUint10b32
import Derived.Shelf.Strconv.ParseUint10b16
import Derived.Shelf.Strconv.ParseUint10b8
import Derived.Shelf.Sort.Plain
import Derived.Shelf.Slices.Equal
import Derived.Ground.Names2Prog
import Derived.Shelf.Slices.SearchI
import Derived.Shelf.Slices.In.SortNone
import Derived.Shelf.Slices.Empties2
import Derived.Test.YtkinlcfhojjalaaGreatDoorProg
set_option maxHeartbeats 6400000
set_option maxRecDepth 100000
set_option linter.all false
namespace Go.Proofs.YtkinlcfhojjalaaGreatDoor
open Go.RowKit Go.Deep Go.Maps
theorem jqn(t k e:TypeId)(m:Option Nat)(w:World)(h:Tryz.prog.underlying t=some (.map k e)):(binOp .eql t (.map m) (.map none)).run Tryz.prog w= .ok (.bool m.isNone) w:=by
 simp only[binOp];simp[run_equal_map_nil w t k e m h]
def juu(W:World)(q:Nat)(cs:Array Value)(ty:TypeId)(mo:Option Nat)(s':Ls.St)(e:Ending)(w':World):Prop:=
 ∃mo',e= .returned (.tuple #[])/\LsIs w' q (cs.setIfInBounds 1 (.map mo')) ty mo' s'/\Kept (fun i=>i=q\/mo=some i) W w'/\∀m,mo'=some m->mo=some m\/W.heap.size<=m
theorem jgy(W:World)(q:Nat)(cs:Array Value)(ty:TypeId)(mo:Option Nat)(s:Ls.St)(h:LsIs W q cs ty mo s)(k:ByteArray)(hk:k.size<=maxLen)(a b c:Int)(d:Bool)(hg2:Ls.Good ⟨s.margin,Ls.put s.l ⟨k,a,b,c,d⟩⟩)(hf2:Ls.Few ⟨s.margin,Ls.put s.l ⟨k,a,b,c,d⟩⟩ 2199023255553):
  Calls Tryz.prog 230 #[.pointer (some ⟨q,0,none⟩),.string k,leV a b c] W (juu W q cs ty mo ⟨s.margin,Ls.put s.l ⟨k,a,b,c,d⟩⟩):=by
 have GD:=zh hg2;have FW:=zh hf2;have LN:Hid (s.l.length<maxLen):=by have:=h.few.2;show _<_;unfold maxLen;omega
 have heq:=fun m w=>jqn _ _ _ m w Tryz.underlying76;obtain⟨W1,hW1⟩:∃W1,W1=W.alloc (.cells #[.int .i64 a,.int .i64 b,.int .i64 c] 231):=zx;have hb1:=(Below.refl W.heap.size W).alloc zl (.cells #[.int .i64 a,.int .i64 b,.int .i64 c] 231);have hr1:=heap_alloc_new W (.cells #[.int .i64 a,.int .i64 b,.int .i64 c] 231);rw[<-hW1]at hb1 hr1;obtain⟨g,hg⟩:∃g,g=W.heap.size:=zx;rw[<-hg]at hr1;have R1:=zh hr1;have B1:=zh hb1;have H1:=zh (h.on hb1);have HG:=zh hg;have HW:=zh hW1;have HL:=zh h.cells.2.2.2;have HKS:=zh hk;have HML:Hid (∀m,mo=some m->m<W.heap.size):=fun m e=>by subst e;exact MapW.Opt.lt h.map
 clear h hk hg2 hf2 hW1 hb1 hr1 hg
 cases mo with
 |some m=>
  have D1:=zh (H1.o.on (Below.refl W1.heap.size W1).drew);obtain⟨wd,hrun,hmd,htd⟩:=MapW.At.put (M:=LM) D1.o.map LN.o k (a,b,c) HKS.o;have MD:=zh hmd;have TD:=zh htd;have RW:Hid (wd.heap[q]? =some (.cells cs ty (0,0))):=(htd.grown.block q (by have:=HL.o;have:=B1.o.size;show q<W1.heap.size;omega) (fun e=>H1.o.ne (by injection e))).trans D1.o.row;have K2:Hid (Kept (fun i=>i=q\/some m=some i) W wd):=((Kept.of_below (F:=fun i=>i=q\/some m=some i) B1.o).trans (Kept.of_below (F:=fun _=>False) (Below.refl W1.heap.size W1).drew) fun _ _ hf=>hf.elim).trans (G:=fun i=>i=m) (Kept.of_grown htd.grown (fun k hk=>by injection hk with hk;exact hk.symm)) fun i _ hi=> .inr (by rw[hi])
  have hrun2:(Instr.mapUpdate 76 (.map (some m)) (.string k) (.agg #[.int .i64 a,.int .i64 b,.int .i64 c])).run Tryz.prog W1.drew= .ok () wd:=hrun;clear hrun hmd htd;obtain⟨c0,c1,f1,hq⟩:=H1.o.cells;have d0:=LsCells.c0 R1.o;have d1:=LsCells.c1 R1.o;have d2:=LsCells.c2 R1.o;unfold leV;go_in;go_upto_region 1 with fail
  rw[<-HW.o,<-HG.o];go_upto_region 3 with fail
  go_region;go_wp2;go_end0;refine⟨some m,rfl,?_,K2.o,fun x hx=> .inl hx⟩;rw[set_same H1.o.k1];refine⟨RW.o,H1.o.k0,H1.o.k1,?_,GD.o,FW.o⟩;have:=MD.o;rw[<-show Ls.zOf (Ls.put s.l ⟨k,a,b,c,d⟩)=_ from Ls.zOf_put s.l ⟨k,a,b,c,d⟩,Ls.zOf_some,<-Ls.put_length H1.o.good.rise ⟨k,a,b,c,d⟩]at this;exact this
 |none=>
  have hmm:=@run_makeMap Tryz.prog;have BM:=zh ((Below.refl W1.heap.size W1).alloc zl (.map #[] 0));have S0:=zh (MapW.At.made (M:=LM) W1);have EL:Hid ((∀k,Ls.zOf s.l k=none)/\s.l.length=0):=H1.o.map;have RW0:=zh (H1.o.on BM.o).row;have GD0:=zh H1.o.good;have HK0:=zh H1.o.k0;have HK1:=zh H1.o.k1;have f1:W1.frozen? ⟨q,1,none⟩=false:=H1.o.cells.2.2.1;obtain⟨c0,c1,_,hq⟩:=H1.o.cells;have EW:Hid ((W1.alloc (.map #[] 0)).setCell ⟨q,1,none⟩ (.map (some W1.heap.size))=(W1.setCell ⟨q,1,none⟩ (.map (some W1.heap.size))).alloc (.map #[] 0)):=World.setCell_alloc_past _ _ _ _ hq;have RQ:Hid (((W1.alloc (.map #[] 0)).setCell ⟨q,1,none⟩ (.map (some W1.heap.size))).heap[q]? =some (.cells (cs.setIfInBounds 1 (.map (some W1.heap.size))) ty (0,0))):=heap_setCell_same _ _ _ _ _ _ RW0.o;have MP:Hid (LM.At ((W1.alloc (.map #[] 0)).setCell ⟨q,1,none⟩ (.map (some W1.heap.size))) W1.heap.size (Ls.zOf s.l) s.l.length):=by
   have h0:=S0.o.keep (heap_setCell_other (W1.alloc (.map #[] 0)) ⟨q,1,none⟩ W1.heap.size (.map (some W1.heap.size)) (by simp;omega));rw[show(fun _:ByteArray=>(none:Option (Int×Int×Int)))=Ls.zOf s.l from(funext EL.o.1).symm]at h0;show LM.At _ _ (Ls.zOf s.l) s.l.length;rw[EL.o.2];exact h0
  have KP:Hid (Kept (fun i=>i=q\/none=some i) W ((W1.alloc (.map #[] 0)).setCell ⟨q,1,none⟩ (.map (some W1.heap.size)))):=(Kept.of_below (F:=fun i=>i=q\/none=some i) (B1.o.trans (BM.o.mono B1.o.size))).trans (G:=fun i=>i=q) (Kept.of_grown (row:=some q) (jad _ _ _ _) (fun k hk=>by injection hk with hk;exact hk.symm)) fun i _ hi=> .inl hi
  have RG:Hid (((W1.alloc (.map #[] 0)).setCell ⟨q,1,none⟩ (.map (some W1.heap.size))).heap[g]? =some (.cells #[.int .i64 a,.int .i64 b,.int .i64 c] 231 (0,0))):=(heap_setCell_other (W1.alloc (.map #[] 0)) ⟨q,1,none⟩ g (.map (some W1.heap.size)) (by have:=HL.o;have:=HG.o;simp;omega)).trans (jah R1.o BM.o);rw[EW.o]at RQ MP KP RG;unfold leV;go_in;go_upto_region 1 with fail
  rw[<-HW.o,<-HG.o];go_upto_region 3 with fail
  obtain⟨m,hm⟩:∃m,m=W1.heap.size:=zx;have NW:Hid (W.heap.size<=m):=by have:=B1.o.size;show _<=_;omega
  rw[<-hm]at RQ MP KP RG⊢;clear hm hmm c0 c1 f1 hq BM S0 RW0 EW H1 R1 HW;generalize(W1.setCell ⟨q,1,none⟩ (.map (some m))).alloc (.map #[] 0)=W5 at*;have hqm:q≠m:=fun e=>by
   obtain⟨es,clock,hb⟩:=MapW.At.block (M:=LM) MP.o;have:=RQ.o;rw[e,hb]at this;injection this with this
   cases this
  have HQM:=zh hqm;have c1:W5.cell? ⟨q,1,none⟩=some (.map (some m)):=by rw[cell_of_row W5 q 1 _ _ _ RQ.o];exact set_k1 HK1.o
  have d0:=LsCells.c0 RG.o;have d1:=LsCells.c1 RG.o;have d2:=LsCells.c2 RG.o;have D1:=zh (MapW.At.on (M:=LM) MP.o (Below.refl W5.heap.size W5).drew);obtain⟨wd,hrun,hmd,htd⟩:=MapW.At.put (M:=LM) D1.o LN.o k (a,b,c) HKS.o;have MD:=zh hmd;have RW:Hid (wd.heap[q]? =some (.cells (cs.setIfInBounds 1 (.map (some m))) ty (0,0))):=(htd.grown.block q (zg RQ.o).1 (fun e=>HQM.o (by injection e))).trans RQ.o;have K2:Hid (Kept (fun i=>i=q\/none=some i) W wd):=(KP.o.trans (Kept.of_below (F:=fun _=>False) (Below.refl W5.heap.size W5).drew) fun _ _ hf=>hf.elim).trans (G:=fun i=>i=m) (Kept.of_grown htd.grown (fun k hk=>by injection hk with hk;exact hk.symm)) fun i hi e=>by have:=NW.o;omega
  have hrun2:(Instr.mapUpdate 76 (.map (some m)) (.string k) (.agg #[.int .i64 a,.int .i64 b,.int .i64 c])).run Tryz.prog W5.drew= .ok () wd:=hrun;clear hrun hmd htd hqm;go_region;go_wp2;go_end0;refine⟨some m,rfl,⟨RW.o,set_k0 HK0.o,set_k1 HK1.o,?_,GD.o,FW.o⟩,K2.o,fun x hx=> .inr (by injection hx with hx;have:=NW.o;omega)⟩
  have:=MD.o;rw[<-show Ls.zOf (Ls.put s.l ⟨k,a,b,c,d⟩)=_ from Ls.zOf_put s.l ⟨k,a,b,c,d⟩,Ls.zOf_some,<-Ls.put_length GD0.o.rise ⟨k,a,b,c,d⟩]at this;exact this
open Go.RowKit Go.Maps Go.Proofs
def toL(k:ByteArray):List UInt8:=k.data.toList
theorem toL_inj{a b:ByteArray}(h:toL a=toL b):a=b:=ByteArray.ext (Array.ext' h)
theorem toL_eq(k:ByteArray):k.toList=toL k:=ByteArray.toList_eq k
def ofL(x:List UInt8):ByteArray:=⟨x.toArray⟩
theorem ofL_toL(k:ByteArray):ofL (toL k)=k:=by unfold ofL toL;simp
theorem enc_toL(k:ByteArray):encStr (toL k)= .string k:=by show Value.string (ofL (toL k))=_;rw[ofL_toL]
theorem jqo(ks:List ByteArray):(ks.map toL).map encStr=ks.map Value.string:=by
 rw[List.map_map];exact List.map_congr_left fun k _=>enc_toL k
theorem bl_lt:∀x y:List UInt8,Op.bytesLess x y=decide (x<y)
 |[],[]=>rfl
 |[],_::_=>by simp[Op.bytesLess]
 |_::_,[]=>by simp[Op.bytesLess]
 |a::x,b::y=>by
  simp only[Op.bytesLess,bl_lt x y,List.cons_lt_cons_iff];by_cases h:a<b<;>by_cases h2:a=b<;>simp[h,h2]
theorem lt_iff{a b:ByteArray}:Kv.lt a b↔toL a<toL b:=by
 unfold Kv.lt;rw[toL_eq,toL_eq,bl_lt,decide_eq_true_eq]
def jiq(ks:List ByteArray):List ByteArray:=((ks.map toL).mergeSort leB).map ofL
theorem jjz(ks:List ByteArray):(jiq ks).map toL=(ks.map toL).mergeSort leB:=by
 unfold jiq;rw[List.map_map]
 conv=>rhs;rw[<-List.map_id ((ks.map toL).mergeSort leB)]
 refine List.map_congr_left fun x _=> ?_;show toL (ofL x)=x;unfold toL ofL;simp
theorem jfu(ks:List ByteArray):(jiq ks).length=ks.length:=by unfold jiq;simp
theorem juv{ks ts:List ByteArray}(hn:ks.Nodup)(hr:ts.Pairwise Kv.lt)(hm:∀k,k∈ks↔k∈ts):jiq ks=ts:=by
 have hnt:ts.Nodup:=hr.imp fun h=>Kv.lt_ne h;have hp:ks.Perm ts:=(List.perm_ext_iff_of_nodup hn hnt).2 hm;have tr:∀a b c:List UInt8,leB a b=true->leB b c=true->leB a c=true:=fun a b c h1 h2=>by simp only[leB,decide_eq_true_eq]at*;exact List.le_trans h1 h2
 have tot:∀a b:List UInt8,(leB a b|| leB b a)=true:=fun a b=>by simp only[leB,Bool.or_eq_true,decide_eq_true_eq];exact List.le_total a b
 have e:(ks.map toL).mergeSort leB=ts.map toL:=by
  refine List.Perm.eq_of_pairwise (le:=fun a b=>leB a b=true) (fun a b _ _ h1 h2=> ?_) (List.pairwise_mergeSort tr tot _) (List.pairwise_map.2 (hr.imp fun{a b} h=> ?_)) ((List.mergeSort_perm _ leB).trans (hp.map toL))
  ·simp only[leB,decide_eq_true_eq]at h1 h2
   exact List.le_antisymm h1 h2
  ·simp only[leB,decide_eq_true_eq]
   exact List.le_of_lt (lt_iff.1 h)
 have h2:=jjz ks;rw[e]at h2;refine List.ext_getElem? fun i=> ?_;have h3:=congrArg (fun l=>l[i]?) h2;simp only[List.getElem?_map]at h3
 cases h4:(jiq ks)[i]? with
 |none=>rw[h4]at h3;cases h5:ts[i]? with
  |none=>rfl
  |some y=>rw[h5]at h3;cases h3
 |some x=>
  rw[h4]at h3
  cases h5:ts[i]? with
  |none=>rw[h5]at h3;cases h3
  |some y=>rw[h5]at h3;exact congrArg some (toL_inj (Option.some.inj h3))
theorem jn2{l:List Kv.En}(h:Kv.Rise l)(s r:Int):(Kv.since ⟨l,s⟩ r).Pairwise Kv.lt:=by
 unfold Kv.since;exact List.pairwise_map.2 (List.Pairwise.filter _ h)
theorem jqp{l:List Kv.En}(h:Kv.Rise l){s r:Int}{k:ByteArray}:k∈Kv.since ⟨l,s⟩ r↔∃e,Kv.find l k=some e/\r<e.rev:=by
 unfold Kv.since;rw[List.mem_map];constructor
 ·rintro⟨e,he,rfl⟩
  rw[List.mem_filter,decide_eq_true_eq]at he;exact⟨e,Kv.find_mem h he.1,he.2⟩
 ·rintro⟨e,he,hr⟩
  have:=Kv.find_some he;exact⟨e,List.mem_filter.2 ⟨this.1,by simpa using hr⟩,this.2⟩
def Coll(l:List Kv.En)(r:Int)(left:Lit->Bool)(ks:List ByteArray):Prop:=ks.Nodup/\∀k,k∈ks↔(∃e,Kv.find l k=some e/\r<e.rev)/\left (kl k)=false
theorem Coll.start{D:DataW Unit}{l:List Kv.En}(h:DIs D l)(r:Int):Coll l r (Maps.has D) []:=by
 refine⟨List.nodup_nil,fun k=> ?_⟩;simp only[List.not_mem_nil,false_iff,not_and];rintro⟨e,he,_⟩ h2;have:=h.has k;rw[he,h2]at this
 cases this
theorem same_kl{k x:ByteArray}:(kl k).sameKey (kl x)=decide (k=x):=by
 by_cases h:k=x
 ·subst h;rw[WideAt.sameKey_self (jdu k)];simp
 ·rw[Maps.sameKey_ne (fun e=>h (jgv e))];simp[h]
theorem Coll.step{l:List Kv.En}{r:Int}{left:Lit->Bool}{ks:List ByteArray}(h:Coll l r left ks){x:ByteArray}{e:Kv.En}(hx:left (kl x)=true)(he:Kv.find l x=some e):
  Coll l r (fun z=>left z&& !z.sameKey (kl x)) (if r<e.rev then ks++[x]else ks):=by
 have hnew:x∉ks:=fun hm=>by have:=((h.2 x).1 hm).2;rw[hx]at this;cases this
 by_cases hr:r<e.rev
 ·rw[if_pos hr]
  refine⟨List.nodup_append.2 ⟨h.1,by simp,fun a ha b hb=>by simp at hb;subst hb;exact fun e=>hnew (e▸ha)⟩,fun k=> ?_⟩;rw[List.mem_append,h.2 k];show _↔_/\(left (kl k)&& !(kl k).sameKey (kl x))=false;rw[same_kl];by_cases hk:k=x
  ·subst hk;simp[he,hr]
  ·simp[hk]
 ·rw[if_neg hr]
  refine⟨h.1,fun k=> ?_⟩;rw[h.2 k];show _↔_/\(left (kl k)&& !(kl k).sameKey (kl x))=false;rw[same_kl];by_cases hk:k=x
  ·subst hk;simp[he,hr]
  ·simp[hk]
theorem Coll.all{l:List Kv.En}{r:Int}{left:Lit->Bool}{ks:List ByteArray}(h:Coll l r left ks)(hl:∀z,left z=false)(hr:Kv.Rise l)(s:Int):jiq ks=Kv.since ⟨l,s⟩ r:=
 juv h.1 (jn2 hr s r) fun k=>by rw[h.2 k,jqp hr];simp[hl]
theorem DIs.entry{D:DataW Unit}{l:List Kv.En}(h:DIs D l){x v:ByteArray}{r:Int}(hat:∀z,D.atKey (kl x) z=eD v r):∃e,Kv.find l x=some e/\e.val=v/\e.rev=r:=by
 have h1:=h.has x;rw[Maps.has_true_of_atKey hat]at h1
 cases hf:Kv.find l x with
 |none=>rw[hf]at h1;cases h1
 |some e=>
  obtain⟨e1,e2⟩:=jql ((h.at_ x e hf (eD v r)).symm.trans (hat _));exact⟨e,rfl,e1,e2⟩
structure SortC(P:Program)(f:FuncId):Prop where
 row:∀(blk off cap:Nat) (ss:List (List UInt8)) (w:World),Sort.Holds encStr w blk off ss.toArray->blk<w.heap.size->ss.length<4611686018427387904->Calls P f #[.slice (some ⟨blk,off,none⟩) ss.length cap] w fun e w'=>
  e= .returned (.tuple #[])/\∃n os,w'=Sort.grow (Sort.putRow encStr (Sort.ahead w n) blk off (ss.mergeSort fun x y=>decide (x<=y)).toArray) os
 none_:∀w,Calls P f #[.slice none 0 0] w fun e w'=>e= .returned (.tuple #[])/\w'=w
theorem juw{P:Program}{f:FuncId}(hS:SortC P f){e:TypeId}{w:World}{B:Nat}{v:Value}{ks:List ByteArray}(h:OwnR 1 (fun _ cs (s:ByteArray)=>cs=[.string s]) e w w B v ks)(hz:ks.length<=1000000):
  Calls P f #[v] w fun en w'=>en= .returned (.tuple #[])/\OwnR 1 (fun _ cs (s:ByteArray)=>cs=[.string s]) e w' w' B v (jiq ks)/\w.grownBy w' v.ownBlock:=by
 obtain⟨xs,h1,h2⟩:=h;have hxs:xs=ks.map Value.string:=by
  have hl:=h1.1;refine List.ext_getElem? fun i=> ?_;by_cases hi:i<ks.length
  ·obtain⟨cs,_,hc,he⟩:=h2 i ks[i] (List.getElem?_eq_getElem hi)
   have:=hc 0 zv;rw[Nat.mul_one,Nat.add_zero,he]at this;rw[this];simp[hi]
  ·rw[List.getElem?_eq_none zv,List.getElem?_eq_none (by simpa using Nat.le_of_not_lt hi)]
 have own_of:∀(w':World) (ts:List ByteArray),ts.length=ks.length->w'.ownsRow B e 1 v ks.length (ts.map Value.string)->OwnR 1 (fun _ cs (s:ByteArray)=>cs=[.string s]) e w' w' B v ts:=fun w' ts hl ho=>by
  refine⟨_,by rw[hl];exact ho,fun j t hj=>⟨[.string t],rfl,fun i hi=> ?_,rfl⟩⟩;obtain rfl:i=0:=by omega
  rw[Nat.mul_one,Nat.add_zero,List.getElem?_map,hj];rfl
 rcases h1.2 with⟨rfl,h0⟩|⟨g,cap,cur,rfl,hbase,hb,c1,c2,c3,c4⟩
 ·obtain rfl:ks=[]:=List.eq_nil_of_length_eq_zero h0
  refine(hS.none_ w).mono fun en w' ⟨he,hw⟩=>⟨he,?_,?_⟩
  ·have:jiq []=[]:=List.eq_nil_of_length_eq_zero (jfu [])
   rw[this];exact OwnR.none_ _ _ _ _
  ·subst hw
   exact⟨rfl,rfl,rfl,zl,fun i hi _=>rfl⟩
 ·rw[Nat.mul_one]at c4
  have hk:(ks.map toL).map encStr=xs:=by rw[jqo,hxs]
  have h5:=hS.row g 0 cap (ks.map toL) w (holds_of_block hb (by rw[List.length_map,hk];exact c4)) (zg hb).1 (by rw[List.length_map];omega);rw[List.length_map]at h5;refine h5.mono fun en w' ⟨he,n,os,hw⟩=>⟨he,?_,?_⟩
  ·subst hw
   have h6:=ownsRow_sorted (base:=B) (g:=g) (cap:=cap) (n:=n) (os:=os) (ss:=ks.map toL) (ts:=(ks.map toL).mergeSort leB) (by simp) hbase hb (by rw[List.length_map];exact c1) c2 c3;rw[List.length_map]at h6;refine own_of _ _ (jfu ks) ?_;rw[<-jqo,jjz];exact h6
  ·subst hw
   exact grownBy_sorted _
end Go.Proofs.YtkinlcfhojjalaaGreatDoor
namespace Go.Proofs
open Go.Shelf
def Tryz.lays172_ren:Go.Shelf.Ren:=⟨fun|172=>107|244=>166|245=>167|247=>207|279=>208|280=>209|281=>210|282=>211|287=>247|316=>248|171=>171|205=>249|321=>276|322=>277|243=>223|246=>256|283=>279|284=>280|285=>281|286=>282|129=>222|317=>292|318=>293|319=>294|320=>295|337=>297|338=>298|n=>n,fun|9=>9|3=>3|75=>172|76=>173|4=>4|5=>5|167=>249|37=>50|0=>0|85=>250|2=>2|168=>252|53=>265|175=>279|46=>97|210=>283|127=>307|145=>310|143=>308|21=>21|171=>313|173=>315|212=>326|51=>215|20=>20|213=>327|232=>330|233=>331|80=>165|n=>n,fun|15=>2|16=>3|17=>4|18=>5|19=>6|n=>n⟩
theorem Tryz.lays172:Go.Proofs.Lays.n172 Tryz.prog Tryz.lays172_ren:={
 mixed:=by kernel_rfl
 f129:=Tryz.func222.trans (congrArg some (by kernel_rfl))
 f171:=Tryz.func171.trans (congrArg some (by kernel_rfl))
 f172:=Tryz.func107.trans (congrArg some (by kernel_rfl))
 f205:=Tryz.func249.trans (congrArg some (by kernel_rfl))
 f243:=Tryz.func223.trans (congrArg some (by kernel_rfl))
 f244:=Tryz.func166.trans (congrArg some (by kernel_rfl))
 f245:=Tryz.func167.trans (congrArg some (by kernel_rfl))
 f246:=Tryz.func256.trans (congrArg some (by kernel_rfl))
 f247:=Tryz.func207.trans (congrArg some (by kernel_rfl))
 f279:=Tryz.func208.trans (congrArg some (by kernel_rfl))
 f280:=Tryz.func209.trans (congrArg some (by kernel_rfl))
 f281:=Tryz.func210.trans (congrArg some (by kernel_rfl))
 f282:=Tryz.func211.trans (congrArg some (by kernel_rfl))
 f283:=Tryz.func279.trans (congrArg some (by kernel_rfl))
 f284:=Tryz.func280.trans (congrArg some (by kernel_rfl))
 f285:=Tryz.func281.trans (congrArg some (by kernel_rfl))
 f286:=Tryz.func282.trans (congrArg some (by kernel_rfl))
 f287:=Tryz.func247.trans (congrArg some (by kernel_rfl))
 f316:=Tryz.func248.trans (congrArg some (by kernel_rfl))
 f317:=Tryz.func292.trans (congrArg some (by kernel_rfl))
 f318:=Tryz.func293.trans (congrArg some (by kernel_rfl))
 f319:=Tryz.func294.trans (congrArg some (by kernel_rfl))
 f320:=Tryz.func295.trans (congrArg some (by kernel_rfl))
 f321:=Tryz.func276.trans (congrArg some (by kernel_rfl))
 f322:=Tryz.func277.trans (congrArg some (by kernel_rfl))
 f337:=Tryz.func297.trans (congrArg some (by kernel_rfl))
 f338:=Tryz.func298.trans (congrArg some (by kernel_rfl))
 t0:=Tryz.underlying0
 a0:=Tryz.isAgg0
 z0:=Tryz.sizeOf0
 v0:=Tryz.zeroValue0
 t2:=Tryz.underlying2
 a2:=Tryz.isAgg2
 z2:=Tryz.sizeOf2
 v2:=Tryz.zeroValue2
 t3:=Tryz.underlying3
 a3:=Tryz.isAgg3
 z3:=Tryz.sizeOf3
 v3:=Tryz.zeroValue3
 t4:=Tryz.underlying4
 a4:=Tryz.isAgg4
 z4:=Tryz.sizeOf4
 v4:=Tryz.zeroValue4
 t5:=Tryz.underlying5
 a5:=Tryz.isAgg5
 z5:=Tryz.sizeOf5
 v5:=Tryz.zeroValue5
 t9:=Tryz.underlying9
 a9:=Tryz.isAgg9
 z9:=Tryz.sizeOf9
 v9:=Tryz.zeroValue9
 t20:=Tryz.underlying20
 a20:=Tryz.isAgg20
 z20:=Tryz.sizeOf20
 v20:=Tryz.zeroValue20
 t21:=Tryz.underlying21
 a21:=Tryz.isAgg21
 z21:=Tryz.sizeOf21
 v21:=Tryz.zeroValue21
 t37:=Tryz.underlying50
 a37:=Tryz.isAgg50
 z37:=Tryz.sizeOf50
 v37:=Tryz.zeroValue50
 t46:=Tryz.underlying97
 a46:=Tryz.isAgg97
 z46:=Tryz.sizeOf97
 v46:=Tryz.zeroValue97
 t51:=Tryz.underlying215
 a51:=Tryz.isAgg215
 z51:=Tryz.sizeOf215
 v51:=Tryz.zeroValue215
 t53:=Tryz.underlying265
 a53:=Tryz.isAgg265
 z53:=Tryz.sizeOf265
 v53:=Tryz.zeroValue265
 t75:=Tryz.underlying172
 a75:=Tryz.isAgg172
 z75:=Tryz.sizeOf172
 v75:=Tryz.zeroValue172
 t76:=Tryz.underlying173
 a76:=Tryz.isAgg173
 z76:=Tryz.sizeOf173
 v76:=Tryz.zeroValue173
 t85:=Tryz.underlying250
 a85:=Tryz.isAgg250
 z85:=Tryz.sizeOf250
 v85:=Tryz.zeroValue250
 t127:=Tryz.underlying307
 a127:=Tryz.isAgg307
 z127:=Tryz.sizeOf307
 v127:=Tryz.zeroValue307
 t143:=Tryz.underlying308
 a143:=Tryz.isAgg308
 z143:=Tryz.sizeOf308
 v143:=Tryz.zeroValue308
 t145:=Tryz.underlying310
 a145:=Tryz.isAgg310
 z145:=Tryz.sizeOf310
 v145:=Tryz.zeroValue310
 t167:=Tryz.underlying249
 a167:=Tryz.isAgg249
 z167:=Tryz.sizeOf249
 v167:=Tryz.zeroValue249
 t168:=Tryz.underlying252
 a168:=Tryz.isAgg252
 z168:=Tryz.sizeOf252
 v168:=Tryz.zeroValue252
 t171:=Tryz.underlying313
 a171:=Tryz.isAgg313
 z171:=Tryz.sizeOf313
 v171:=Tryz.zeroValue313
 t173:=Tryz.underlying315
 a173:=Tryz.isAgg315
 z173:=Tryz.sizeOf315
 v173:=Tryz.zeroValue315
 t175:=Tryz.underlying279
 a175:=Tryz.isAgg279
 z175:=Tryz.sizeOf279
 v175:=Tryz.zeroValue279
 t210:=Tryz.underlying283
 a210:=Tryz.isAgg283
 z210:=Tryz.sizeOf283
 v210:=Tryz.zeroValue283
 t212:=Tryz.underlying326
 a212:=Tryz.isAgg326
 z212:=Tryz.sizeOf326
 v212:=Tryz.zeroValue326
 t213:=Tryz.underlying327
 a213:=Tryz.isAgg327
 z213:=Tryz.sizeOf327
 t232:=Tryz.underlying330
 a232:=Tryz.isAgg330
 z232:=Tryz.sizeOf330
 v232:=Tryz.zeroValue330
 t233:=Tryz.underlying331
 a233:=Tryz.isAgg331
 z233:=Tryz.sizeOf331
 v233:=Tryz.zeroValue331
 g15:=by kernel_rfl
 g16:=by kernel_rfl
 g17:=by kernel_rfl
 g18:=by kernel_rfl
 g19:=by kernel_rfl}
open Go.RowKit in
theorem Tryz.strconv_Atoi(s:ByteArray)(n:Int)(hl:s.size<=18)(h:Lib.atoi s.data.toList=some n)(w:World):
 Calls Tryz.prog 107 #[.string s] w fun e w'=>e= .returned (.tuple #[.int .i64 n,.nilIface])/\∃t,w'=Lib.bytesWorld w 5 t:=Any.strconv_Atoi Tryz.lays172 s n hl h w
def Tryz.laysM171_ren:Go.Shelf.Ren:=⟨fun|171=>171|243=>223|246=>256|283=>279|284=>280|285=>281|286=>282|129=>222|317=>292|318=>293|319=>294|320=>295|337=>297|338=>298|n=>n,fun|3=>3|9=>9|2=>2|4=>4|171=>313|0=>0|53=>265|37=>50|5=>5|173=>315|212=>326|51=>215|20=>20|213=>327|46=>97|232=>330|233=>331|n=>n,fun|17=>4|18=>5|19=>6|n=>n⟩
theorem Tryz.laysM171:Go.Proofs.LaysM.n171 Tryz.prog Tryz.laysM171_ren:={
 mixed:=by kernel_rfl
 f129:=Tryz.func222.trans (congrArg some (by kernel_rfl))
 f171:=Tryz.func171.trans (congrArg some (by kernel_rfl))
 f243:=Tryz.func223.trans (congrArg some (by kernel_rfl))
 f246:=Tryz.func256.trans (congrArg some (by kernel_rfl))
 f283:=Tryz.func279.trans (congrArg some (by kernel_rfl))
 f284:=Tryz.func280.trans (congrArg some (by kernel_rfl))
 f285:=Tryz.func281.trans (congrArg some (by kernel_rfl))
 f286:=Tryz.func282.trans (congrArg some (by kernel_rfl))
 f317:=Tryz.func292.trans (congrArg some (by kernel_rfl))
 f318:=Tryz.func293.trans (congrArg some (by kernel_rfl))
 f319:=Tryz.func294.trans (congrArg some (by kernel_rfl))
 f320:=Tryz.func295.trans (congrArg some (by kernel_rfl))
 f337:=Tryz.func297.trans (congrArg some (by kernel_rfl))
 f338:=Tryz.func298.trans (congrArg some (by kernel_rfl))
 t0:=Tryz.underlying0
 a0:=Tryz.isAgg0
 z0:=Tryz.sizeOf0
 v0:=Tryz.zeroValue0
 t2:=Tryz.underlying2
 a2:=Tryz.isAgg2
 z2:=Tryz.sizeOf2
 v2:=Tryz.zeroValue2
 t3:=Tryz.underlying3
 a3:=Tryz.isAgg3
 z3:=Tryz.sizeOf3
 v3:=Tryz.zeroValue3
 t4:=Tryz.underlying4
 a4:=Tryz.isAgg4
 z4:=Tryz.sizeOf4
 v4:=Tryz.zeroValue4
 t5:=Tryz.underlying5
 a5:=Tryz.isAgg5
 z5:=Tryz.sizeOf5
 v5:=Tryz.zeroValue5
 t9:=Tryz.underlying9
 a9:=Tryz.isAgg9
 z9:=Tryz.sizeOf9
 v9:=Tryz.zeroValue9
 t20:=Tryz.underlying20
 a20:=Tryz.isAgg20
 z20:=Tryz.sizeOf20
 v20:=Tryz.zeroValue20
 t37:=Tryz.underlying50
 a37:=Tryz.isAgg50
 z37:=Tryz.sizeOf50
 v37:=Tryz.zeroValue50
 t46:=Tryz.underlying97
 a46:=Tryz.isAgg97
 z46:=Tryz.sizeOf97
 v46:=Tryz.zeroValue97
 t51:=Tryz.underlying215
 a51:=Tryz.isAgg215
 z51:=Tryz.sizeOf215
 v51:=Tryz.zeroValue215
 t53:=Tryz.underlying265
 a53:=Tryz.isAgg265
 z53:=Tryz.sizeOf265
 v53:=Tryz.zeroValue265
 t171:=Tryz.underlying313
 a171:=Tryz.isAgg313
 z171:=Tryz.sizeOf313
 v171:=Tryz.zeroValue313
 t173:=Tryz.underlying315
 a173:=Tryz.isAgg315
 z173:=Tryz.sizeOf315
 v173:=Tryz.zeroValue315
 t212:=Tryz.underlying326
 a212:=Tryz.isAgg326
 z212:=Tryz.sizeOf326
 v212:=Tryz.zeroValue326
 t213:=Tryz.underlying327
 a213:=Tryz.isAgg327
 z213:=Tryz.sizeOf327
 t232:=Tryz.underlying330
 a232:=Tryz.isAgg330
 z232:=Tryz.sizeOf330
 v232:=Tryz.zeroValue330
 t233:=Tryz.underlying331
 a233:=Tryz.isAgg331
 z233:=Tryz.sizeOf331
 v233:=Tryz.zeroValue331
 g17:=by kernel_rfl
 g18:=by kernel_rfl
 g19:=by kernel_rfl
 i0:=by kernel_rfl
 i2:=by kernel_rfl
 i3:=by kernel_rfl
 i4:=by kernel_rfl
 i5:=by kernel_rfl
 i9:=by kernel_rfl
 i20:=by kernel_rfl
 i37:=by kernel_rfl
 i46:=by kernel_rfl
 i51:=by kernel_rfl
 i53:=by kernel_rfl
 i171:=by kernel_rfl
 i173:=by kernel_rfl
 i212:=by kernel_rfl
 i232:=by kernel_rfl
 i233:=by kernel_rfl
 m17:=by kernel_rfl
 m18:=by kernel_rfl
 m19:=by kernel_rfl}
open Go.RowKit Go.Sort Go.Lib in
theorem Tryz.strconv_Itoa(n:Int)(h0: -9223372036854775808<=n)(h1:n<=9223372036854775807)(w:World)(htab:Lib.TabIs Tryz.prog w "internal/strconv.uint64pow10" .u64 Lib.pow10Tab):
 Calls Tryz.prog 171 #[.int .i64 n] w fun e w'=>e= .returned (.string ⟨(Lib.itoa n).toArray⟩)/\∃k os,w'=grow (w.drewN k) os:=Any.strconv_Itoa Tryz.laysM171 n h0 h1 w htab
def Tryz.lays189_ren:Go.Shelf.Ren:=⟨fun|189=>108|125=>169|257=>168|128=>221|129=>222|294=>212|295=>213|296=>214|297=>215|298=>216|299=>217|216=>218|300=>219|301=>220|328=>250|329=>251|330=>252|331=>253|332=>254|215=>255|343=>278|n=>n,fun|28=>102|3=>3|46=>97|0=>0|51=>215|53=>265|4=>4|183=>257|182=>256|131=>99|5=>5|9=>9|218=>285|222=>161|228=>311|229=>200|n=>n,fun|n=>n⟩
theorem Tryz.lays189:Go.Proofs.Lays.n189 Tryz.prog Tryz.lays189_ren:={
 mixed:=by kernel_rfl
 f125:=Tryz.func169.trans (congrArg some (by kernel_rfl))
 f128:=Tryz.func221.trans (congrArg some (by kernel_rfl))
 f129:=Tryz.func222.trans (congrArg some (by kernel_rfl))
 f189:=Tryz.func108.trans (congrArg some (by kernel_rfl))
 f215:=Tryz.func255.trans (congrArg some (by kernel_rfl))
 f216:=Tryz.func218.trans (congrArg some (by kernel_rfl))
 f257:=Tryz.func168.trans (congrArg some (by kernel_rfl))
 f294:=Tryz.func212.trans (congrArg some (by kernel_rfl))
 f295:=Tryz.func213.trans (congrArg some (by kernel_rfl))
 f296:=Tryz.func214.trans (congrArg some (by kernel_rfl))
 f297:=Tryz.func215.trans (congrArg some (by kernel_rfl))
 f298:=Tryz.func216.trans (congrArg some (by kernel_rfl))
 f299:=Tryz.func217.trans (congrArg some (by kernel_rfl))
 f300:=Tryz.func219.trans (congrArg some (by kernel_rfl))
 f301:=Tryz.func220.trans (congrArg some (by kernel_rfl))
 f328:=Tryz.func250.trans (congrArg some (by kernel_rfl))
 f329:=Tryz.func251.trans (congrArg some (by kernel_rfl))
 f330:=Tryz.func252.trans (congrArg some (by kernel_rfl))
 f331:=Tryz.func253.trans (congrArg some (by kernel_rfl))
 f332:=Tryz.func254.trans (congrArg some (by kernel_rfl))
 f343:=Tryz.func278.trans (congrArg some (by kernel_rfl))
 t0:=Tryz.underlying0
 a0:=Tryz.isAgg0
 z0:=Tryz.sizeOf0
 v0:=Tryz.zeroValue0
 t3:=Tryz.underlying3
 a3:=Tryz.isAgg3
 z3:=Tryz.sizeOf3
 v3:=Tryz.zeroValue3
 t4:=Tryz.underlying4
 a4:=Tryz.isAgg4
 z4:=Tryz.sizeOf4
 v4:=Tryz.zeroValue4
 t5:=Tryz.underlying5
 a5:=Tryz.isAgg5
 z5:=Tryz.sizeOf5
 v5:=Tryz.zeroValue5
 t9:=Tryz.underlying9
 a9:=Tryz.isAgg9
 z9:=Tryz.sizeOf9
 v9:=Tryz.zeroValue9
 t28:=Tryz.underlying102
 a28:=Tryz.isAgg102
 z28:=Tryz.sizeOf102
 v28:=Tryz.zeroValue102
 t46:=Tryz.underlying97
 a46:=Tryz.isAgg97
 z46:=Tryz.sizeOf97
 v46:=Tryz.zeroValue97
 t51:=Tryz.underlying215
 a51:=Tryz.isAgg215
 z51:=Tryz.sizeOf215
 v51:=Tryz.zeroValue215
 t53:=Tryz.underlying265
 a53:=Tryz.isAgg265
 z53:=Tryz.sizeOf265
 v53:=Tryz.zeroValue265
 t131:=Tryz.underlying99
 a131:=Tryz.isAgg99
 z131:=Tryz.sizeOf99
 v131:=Tryz.zeroValue99
 t182:=Tryz.underlying256
 a182:=Tryz.isAgg256
 z182:=Tryz.sizeOf256
 v182:=Tryz.zeroValue256
 t183:=Tryz.underlying257
 a183:=Tryz.isAgg257
 z183:=Tryz.sizeOf257
 v183:=Tryz.zeroValue257
 t218:=Tryz.underlying285
 a218:=Tryz.isAgg285
 z218:=Tryz.sizeOf285
 v218:=Tryz.zeroValue285
 t222:=Tryz.underlying161
 a222:=Tryz.isAgg161
 z222:=Tryz.sizeOf161
 v222:=Tryz.zeroValue161
 t228:=Tryz.underlying311
 a228:=Tryz.isAgg311
 z228:=Tryz.sizeOf311
 v228:=Tryz.zeroValue311
 t229:=Tryz.underlying200
 a229:=Tryz.isAgg200
 z229:=Tryz.sizeOf200
 v229:=Tryz.zeroValue200}
open Go.Sort Go.RowKit in
theorem Tryz.slices_Sort_int(blk off cap:Nat)(zs:List Int)(w:World)(hH:Holds (Value.int .i64) w blk off zs.toArray)(hblk:blk<w.heap.size)(hsz:zs.length<4611686018427387904):
 Calls Tryz.prog 108 #[.slice (some ⟨blk,off,none⟩) zs.length cap] w fun e w'=>
  e= .returned (.tuple #[])/\∃n os,w'=grow (putRow (Value.int .i64) (Sort.ahead w n) blk off (zs.mergeSort fun x y=>decide (x<=y)).toArray) os:=Any.slices_Sort_int Tryz.lays189 blk off cap zs w hH hblk hsz
def Tryz.lays190_ren:Go.Shelf.Ren:=⟨fun|190=>206|125=>169|258=>246|128=>221|129=>222|302=>267|303=>268|304=>269|305=>270|306=>271|307=>272|308=>273|309=>274|310=>275|333=>288|329=>251|330=>252|334=>289|335=>290|336=>291|344=>296|n=>n,fun|31=>98|9=>9|3=>3|46=>97|0=>0|51=>215|53=>265|4=>4|183=>257|182=>256|131=>99|5=>5|218=>285|222=>161|228=>311|229=>200|n=>n,fun|n=>n⟩
theorem Tryz.lays190:Go.Proofs.Lays.n190 Tryz.prog Tryz.lays190_ren:={
 mixed:=by kernel_rfl
 f125:=Tryz.func169.trans (congrArg some (by kernel_rfl))
 f128:=Tryz.func221.trans (congrArg some (by kernel_rfl))
 f129:=Tryz.func222.trans (congrArg some (by kernel_rfl))
 f190:=Tryz.func206.trans (congrArg some (by kernel_rfl))
 f258:=Tryz.func246.trans (congrArg some (by kernel_rfl))
 f302:=Tryz.func267.trans (congrArg some (by kernel_rfl))
 f303:=Tryz.func268.trans (congrArg some (by kernel_rfl))
 f304:=Tryz.func269.trans (congrArg some (by kernel_rfl))
 f305:=Tryz.func270.trans (congrArg some (by kernel_rfl))
 f306:=Tryz.func271.trans (congrArg some (by kernel_rfl))
 f307:=Tryz.func272.trans (congrArg some (by kernel_rfl))
 f308:=Tryz.func273.trans (congrArg some (by kernel_rfl))
 f309:=Tryz.func274.trans (congrArg some (by kernel_rfl))
 f310:=Tryz.func275.trans (congrArg some (by kernel_rfl))
 f329:=Tryz.func251.trans (congrArg some (by kernel_rfl))
 f330:=Tryz.func252.trans (congrArg some (by kernel_rfl))
 f333:=Tryz.func288.trans (congrArg some (by kernel_rfl))
 f334:=Tryz.func289.trans (congrArg some (by kernel_rfl))
 f335:=Tryz.func290.trans (congrArg some (by kernel_rfl))
 f336:=Tryz.func291.trans (congrArg some (by kernel_rfl))
 f344:=Tryz.func296.trans (congrArg some (by kernel_rfl))
 t0:=Tryz.underlying0
 a0:=Tryz.isAgg0
 z0:=Tryz.sizeOf0
 v0:=Tryz.zeroValue0
 t3:=Tryz.underlying3
 a3:=Tryz.isAgg3
 z3:=Tryz.sizeOf3
 v3:=Tryz.zeroValue3
 t4:=Tryz.underlying4
 a4:=Tryz.isAgg4
 z4:=Tryz.sizeOf4
 v4:=Tryz.zeroValue4
 t5:=Tryz.underlying5
 a5:=Tryz.isAgg5
 z5:=Tryz.sizeOf5
 v5:=Tryz.zeroValue5
 t9:=Tryz.underlying9
 a9:=Tryz.isAgg9
 z9:=Tryz.sizeOf9
 v9:=Tryz.zeroValue9
 t31:=Tryz.underlying98
 a31:=Tryz.isAgg98
 z31:=Tryz.sizeOf98
 v31:=Tryz.zeroValue98
 t46:=Tryz.underlying97
 a46:=Tryz.isAgg97
 z46:=Tryz.sizeOf97
 v46:=Tryz.zeroValue97
 t51:=Tryz.underlying215
 a51:=Tryz.isAgg215
 z51:=Tryz.sizeOf215
 v51:=Tryz.zeroValue215
 t53:=Tryz.underlying265
 a53:=Tryz.isAgg265
 z53:=Tryz.sizeOf265
 v53:=Tryz.zeroValue265
 t131:=Tryz.underlying99
 a131:=Tryz.isAgg99
 z131:=Tryz.sizeOf99
 v131:=Tryz.zeroValue99
 t182:=Tryz.underlying256
 a182:=Tryz.isAgg256
 z182:=Tryz.sizeOf256
 v182:=Tryz.zeroValue256
 t183:=Tryz.underlying257
 a183:=Tryz.isAgg257
 z183:=Tryz.sizeOf257
 v183:=Tryz.zeroValue257
 t218:=Tryz.underlying285
 a218:=Tryz.isAgg285
 z218:=Tryz.sizeOf285
 v218:=Tryz.zeroValue285
 t222:=Tryz.underlying161
 a222:=Tryz.isAgg161
 z222:=Tryz.sizeOf161
 v222:=Tryz.zeroValue161
 t228:=Tryz.underlying311
 a228:=Tryz.isAgg311
 z228:=Tryz.sizeOf311
 v228:=Tryz.zeroValue311
 t229:=Tryz.underlying200
 a229:=Tryz.isAgg200
 z229:=Tryz.sizeOf200
 v229:=Tryz.zeroValue200}
open Go.Sort Go.RowKit in
theorem Tryz.slices_Sort_string(blk off cap:Nat)(ss:List (List UInt8))(w:World)(hH:Holds encStr w blk off ss.toArray)(hblk:blk<w.heap.size)(hsz:ss.length<4611686018427387904):
 Calls Tryz.prog 206 #[.slice (some ⟨blk,off,none⟩) ss.length cap] w fun e w'=>
  e= .returned (.tuple #[])/\∃n os,w'=grow (putRow encStr (Sort.ahead w n) blk off (ss.mergeSort fun x y=>decide (x<=y)).toArray) os:=Any.slices_Sort_string Tryz.lays190 blk off cap ss w hH hblk hsz
def Tryz.lays111_ren:Go.Shelf.Ren:=⟨fun|111=>61|n=>n,fun|28=>102|3=>3|4=>4|0=>0|n=>n,fun|n=>n⟩
theorem Tryz.lays111:Go.Proofs.Lays.n111 Tryz.prog Tryz.lays111_ren:={
 mixed:=by kernel_rfl
 f111:=Tryz.func61.trans (congrArg some (by kernel_rfl))
 t0:=Tryz.underlying0
 a0:=Tryz.isAgg0
 z0:=Tryz.sizeOf0
 v0:=Tryz.zeroValue0
 t3:=Tryz.underlying3
 a3:=Tryz.isAgg3
 z3:=Tryz.sizeOf3
 v3:=Tryz.zeroValue3
 t4:=Tryz.underlying4
 a4:=Tryz.isAgg4
 z4:=Tryz.sizeOf4
 v4:=Tryz.zeroValue4
 t28:=Tryz.underlying102
 a28:=Tryz.isAgg102
 z28:=Tryz.sizeOf102
 v28:=Tryz.zeroValue102}
open Go.RowKit Go.Lib in
theorem Tryz.slices_Equal_int(b1 o1 n c b2 o2 m d:Nat)(xs ys:List Int)(w:World)(hx:n<=xs.length)(hy:m<=ys.length)(hbig:n<=9223372036854775807)(hbig2:m<=9223372036854775807)(hc1:∀j,j<xs.length->w.cell? ⟨b1,o1+j,none⟩=some (.int .i64 (xs.getD j 0)))(hc2:∀j,j<ys.length->w.cell? ⟨b2,o2+j,none⟩=some (.int .i64 (ys.getD j 0))):
 Calls Tryz.prog 61 #[.slice (some ⟨b1,o1,none⟩) n c,.slice (some ⟨b2,o2,none⟩) m d] w fun e w'=>e= .returned (.bool (xs.take n==ys.take m))/\∃q,w'=w.drewN q:=Any.slices_Equal_int Tryz.lays111 b1 o1 n c b2 o2 m d xs ys w hx hy hbig hbig2 hc1 hc2
open Go.RowKit Go.Lib in
theorem Tryz.slices_Equal_int_empty(a1 a2:Option Addr)(c m d:Nat)(w:World)(hbig2:m<=9223372036854775807):
 Calls Tryz.prog 61 #[.slice a1 0 c,.slice a2 m d] w fun e w'=>e= .returned (.bool (decide (m=0)))/\w'=w:=Any.slices_Equal_int_empty Tryz.lays111 a1 a2 c m d w hbig2
open Go.RowKit Go.Sort in
theorem Tryz.slices_Sort_string_none(p:Option Addr)(cap:Nat)(w:World):
 Calls Tryz.prog 206 #[.slice p 0 cap] w fun e w'=>e= .returned (.tuple #[])/\w'=w:=Any.slices_Sort_string_none Tryz.lays190 p cap w
open Go.RowKit Go.Sort in
theorem Tryz.slices_Sort_int_none(p:Option Addr)(cap:Nat)(w:World):
 Calls Tryz.prog 108 #[.slice p 0 cap] w fun e w'=>e= .returned (.tuple #[])/\w'=w:=Any.slices_Sort_int_none Tryz.lays189 p cap w
open Go.RowKit Go.Lib in
theorem Tryz.slices_Equal_int_lens(a1 a2:Option Addr)(n c m d:Nat)(w:World)(hnm:n≠m):
 Calls Tryz.prog 61 #[.slice a1 n c,.slice a2 m d] w fun e w'=>e= .returned (.bool false)/\w'=w:=Any.slices_Equal_int_lens Tryz.lays111 a1 a2 n c m d w hnm
end Go.Proofs
namespace Go.Proofs.YtkinlcfhojjalaaGreatDoor
open Go.RowKit Go.Deep Go.Maps
theorem jj0:SortC Tryz.prog 206:=⟨Tryz.slices_Sort_string,Tryz.slices_Sort_string_none none 0⟩
theorem Z_own{w w0:World}{B:Nat}{v:Value}{l:List ByteArray}(h:OwnR 1 ETx 9 w0 w B v l):w.ownsRow B 9 1 v l.length (h.choose):=h.choose_spec.1
theorem jfz{w w':World}(h:w.grownBy w' none):zF w w':=(Below.refl w.heap.size w).grown h zl (fun k hk=>by cases hk)
def mkK(x:ByteArray):Value:= .string x
def mkV(c:ByteArray×Int):Value:= .agg #[.string c.1,.int .i64 c.2]
theorem invK(key:Value)(z:Lit)(h:keyOf Tryz.prog 9 key=some z):∃x,key=mkK x:=by
 obtain⟨x,rfl,_⟩:=Maps.keyOf_str Tryz.underlying9 h;exact⟨ofL x,rfl⟩
theorem key_is{x:ByteArray}{z:Lit}(h:keyOf Tryz.prog 9 (.string x)=some z):z=kl x/\x.size<=maxLen:=by
 obtain⟨y,hy,rfl,hl⟩:=Maps.keyOf_str Tryz.underlying9 h;have:x=ofL y:=by
  have h1:Value.string x=Value.string (ofL y):=hy;injection h1
 subst this;refine⟨by unfold kl ofL;simp,?_⟩;show(ofL y).data.size<=_;unfold ofL;simpa using hl
theorem invV(v:Value)(y:DataW Unit×List MemPlace)(h:eR v=some y):∃c,v=mkV c:=by
 obtain⟨s,r,rfl,_⟩:=jqk h;exact⟨(s,r),rfl⟩
theorem jj1(W:World)(p:Value)(m:Nat)(s:Kv.St)(r:Int)(h:EAt W p (some m) s):Calls Tryz.prog 165 #[p,.int .i64 r] W (KTx (Kv.since s r) W):=by
 have G:=zh h.good;have CE:=zh (jbw W p (some m) s h);obtain⟨D,hD,hI⟩:=show jbv Tryz.prog 9 W m s.l from h.map
 have HD:=zh hD;have HI:=zh hI;have HML:Hid (m<W.heap.size):=h.map.lt;clear h hD hI;go_in;go_wp2_with(first|(go_at_call 170;refine CE.o.mono ?_;rintro e w1 ⟨rfl,hw⟩;subst hw)|(at_range;refine wpList_range_own _ rfl _ _ rfl _ _ (string_keyed Tryz.underlying9) Tryz.underlying79 eR m _ D rfl HD.o ?_;intro w0 hrg0 hg0 hs0;have RG0:=zh hrg0;have G0:=zh hg0;have S0:=zh hs0;clear hrg0 hg0 hs0;go_frame));have B0:=zh (jfz G0.o);obtain⟨it,hit⟩:∃it,it=w1.heap.size:=zx;rw[<-hit]at RG0⊢;have HIT:=zh hit;have MS:=zh HI.o.size;clear hit;go_loopw [5] (fun v wr=>∃left cnt ks,wr.ranges Tryz.prog 9 eR m it s.l.length D left cnt/\jlj wr w0.heap.size v ks/\Coll s.l r left ks/\ks.length+cnt<=s.l.length/\zF w1 wr/\w0.heap.size<=wr.heap.size) (fun _ wr=>wr.rangeLeft m it)
 case atStart=>exact⟨_,_,[],RG0.o,OwnR.none_ _ _ _ _,Coll.start HI.o r,by rw[MS.o];simp,B0.o,zl⟩
 case round=>
  obtain⟨left,cnt,ks,hrg,hown,hcoll,hlen,hbr,hsz⟩:=hrel;have RG:=zh hrg;have O:=zh hown;have CO:=zh hcoll;have LE:=zh hlen;have B:=zh hbr;have SZ:=zh hsz;clear hrg hown hcoll hlen hbr hsz;go_wp2_with(at_next;refine wpList_next_ranges _ rfl _ rfl 9 (string_keyed Tryz.underlying9) eR mkK mkV invK invV m it _ D left cnt rfl RG.o ?_ ?_)
  ·intro _ hl0
   have ES:=zh (CO.o.all hl0 G.o.rise s.rev);have LN:Hid (ks.length<=1000000):=by have:=LE.o;have:=G.o.len;show _<=_;omega
   have CS:=zh (juw jj0 O.o LN.o);go_wp2_with(go_at_call 206;refine CS.o.mono ?_;rintro en w9 ⟨rfl,ho9,hg9⟩;have O9:=zh ho9;have G9:=zh hg9;clear ho9 hg9);go_ret;rw[ES.o]at O9;have B9:zF w1 w9:=B.o.grown G9.o B.o.size (fun k hk=>by have:=(O.o.lt k hk).1;have:=S0.o;omega);exact⟨_,rfl,OwnR.lower O9.o (by have:=S0.o;omega),B9⟩
  ·intro x c1 c2 z y1 y2 wx cnt1 hk hl hv hat hrg1 hlt hg1 hs1 hen
   obtain⟨rfl,hkx⟩:=key_is hk;obtain⟨rfl,rfl⟩:y1=eD c1 c2/\y2=[]:=by
    have h1:=(Option.some.inj hv).symm;exact⟨congrArg Prod.fst h1,congrArg Prod.snd h1⟩
   obtain⟨e,he,e3,e4⟩:=HI.o.entry hat;subst e3 e4;have RG1:=zh hrg1;have HS1:=zh hs1;have B1:=zh (B.o.grown hg1 B.o.size (fun k hk=>by injection hk with hk;have:=HIT.o;omega))
   have HLT:=zh hlt;have HL:=zh hl;have hen2:(Instr.entry (.pointer (some ⟨it,0,none⟩))).run Tryz.prog wx= .ok (.tuple #[.string x,.agg #[.string e.val,.int .i64 e.rev]]) wx:=hen;have CO1:=zh (CO.o.step hl he);have hne:some it≠u5.ownBlock:=row_ne_iter (Z_own O.o) RG.o;have O1:=zh (jlj.any (w1:=wx) (O.o.kept hg1 (fun e=>hne e.symm)));have S1:Hid (w0.heap.size<=wx.heap.size):=by have:=SZ.o;show _<=_;omega
   have BN:=zh ((Below.refl wx.heap.size wx).alloc zl (.cells #[.string e.val,.int .i64 e.rev] 224));have RN:=zh (heap_alloc_new wx (.cells #[.string e.val,.int .i64 e.rev] 224));have RG2:=zh (hrg1.alloc (.cells #[.string e.val,.int .i64 e.rev] 224));have hw:wr.rangeLeft m it=cnt:=RG.o.left_eq;have HW:=zh hw;have LN:Hid (ks.length<=1000000):=by have:=LE.o;have:=G.o.len;show _<=_;omega
   clear hk hv hl hat hrg1 hlt hg1 hs1 hen hne hw;simp only[mkK,mkV];go_upto_region 5 with fail
   obtain⟨gn,hgn⟩:∃gn,gn=wx.heap.size:=zx;rw[<-hgn]at RN⊢;have O2:=zh (jlj.any (w1:=wx.alloc (.cells #[.string e.val,.int .i64 e.rev] 224)) (O1.o.below BN.o));have B2:=zh (B1.o.trans (BN.o.mono B1.o.size));have S2:=zh (Nat.le_trans S1.o BN.o.size);have en1:(wx.alloc (.cells #[.string e.val,.int .i64 e.rev] 224)).cell? ⟨gn,1,none⟩=some (.int .i64 e.rev):=by rw[cell_of_row _ gn 1 _ _ _ RN.o];rfl
   clear hgn BN RN hen2;generalize wx.alloc (.cells #[.string e.val,.int .i64 e.rev] 224)=wy at*;by_cases hr:r<e.rev
   ·rw[if_pos hr]at CO1
    go_wp2_with(at_builtin;refine jfy rfl (.tmp 20) (.tmp 22) rfl w0.heap.size _ _ rfl O2.o x rfl LN.o S2.o ?_;intro v3 w3 ho3 hb3 hg3;have O3:=zh ho3;have B3:=zh hb3;have G3:=zh hg3;clear ho3 hb3 hg3);have RG3:=RG2.o.kept G3.o (fun e=>by have:=(O2.o.lt m e.symm).1;have:=HML.o;have:=S0.o;omega) (row_ne_iter (Z_own O2.o) RG2.o);exact⟨⟨_,_,_,RG3,O3.o,CO1.o,by have:=LE.o;have:=HLT.o;simp only[zA,List.length_singleton];omega,B2.o.trans (B3.o.mono (by have:=S0.o;omega)),Nat.le_trans S2.o (G3.o.size)⟩,by rw[RG3.left_eq,HW.o];exact HLT.o⟩
   ·rw[if_neg hr]at CO1
    go_wp2_with fail;exact⟨⟨_,_,_,RG2.o,O2.o,CO1.o,by have:=LE.o;have:=HLT.o;omega,B2.o,S2.o⟩,by rw[RG2.o.left_eq,HW.o];exact HLT.o⟩
theorem jj2(W:World)(p:Value)(s:Kv.St)(r:Int)(h:EAt W p none s):Calls Tryz.prog 165 #[p,.int .i64 r] W (KTx [] W):=by
 have CE:=zh (jbw W p none s h);have hrg:=run_range_nilMap (P:=Tryz.prog) W _ _ _ Tryz.underlying79;have hnx:=fun ty=>run_next_nilMap (P:=Tryz.prog) W ty 0 0 #[];have B1:=zh ((Below.refl W.heap.size W).alloc zl (.mapIter none 0 #[] 0));have CS:=zh (jj0.none_ (W.alloc (.mapIter none 0 #[] 0)));clear h;go_in;go_wp2_with(go_at_call 170;refine CE.o.mono ?_;rintro e w1 ⟨rfl,hw⟩;subst hw);go_loopw [5] (fun v wr=>v= .slice none 0 0/\wr=w1.alloc (.mapIter none 0 #[] 0)) (fun _ _=>0)
 case atStart=>exact⟨rfl,rfl⟩
 case round=>
  obtain⟨rfl,rfl⟩:=hrel;go_wp2_with(go_at_call 206;refine CS.o.mono ?_;rintro en w9 ⟨rfl,hw⟩;have HW:=zh hw;clear hw);go_ret;exact⟨_,rfl,OwnR.none_ _ _ _ _,by rw[HW.o];exact B1.o⟩
theorem jlm(W:World)(p:Value)(mo:Option Nat)(s:Kv.St)(r:Int)(h:EAt W p mo s):Calls Tryz.prog 165 #[p,.int .i64 r] W (KTx (Kv.since s r) W):=by
 cases mo with
 |some m=>exact jj1 W p m s r h
 |none=>
  have e:s.l=[]:=h.map;have:Kv.since s r=[]:=by unfold Kv.since;rw[e];rfl
  rw[this];exact jj2 W p s r h
theorem jhz(W:World)(p:Value)(mo:Option Nat)(s:Kv.St)(h:EAt W p mo s):Calls Tryz.prog 106 #[p] W (KTx (Kv.keysOf s.l) W):=by
 have C:=zh (jlm W p mo s 0 h);have E:=zh (Kv.since_zero h.good);rw[E.o]at C;clear h;go_in;go_wp2_with(go_at_call 165;refine C.o.mono ?_;rintro e w1 ⟨v,rfl,ho,hb⟩;have O:=zh ho;have B:=zh hb;clear ho hb);go_ret;exact⟨_,rfl,O.o,B.o⟩
abbrev opV(o:Kv.Po):Value:= .agg #[.string o.key,.string o.val,.int .i64 o.rev,.bool o.drop]
namespace Kv
def badB(o:Po):Bool:=decide (o.key.size=0)|| (decide (64<o.key.size)|| decide (64<o.val.size))
def oddB(s:St)(o:Po):Bool:=decide (0<=o.rev)&& !decide (o.rev=revOf s.l o.key)
def lackB(s:St)(o:Po):Bool:=o.drop&& !(find s.l o.key).isSome
theorem badB_iff{o:Po}:badB o=true↔¬PoOk o:=by
 unfold badB PoOk;simp only[Bool.or_eq_true,decide_eq_true_eq];omega
theorem oddB_iff{s:St}{o:Po}:oddB s o=true↔Odd s o:=by
 unfold oddB Odd;simp
theorem lackB_iff{s:St}(hs:Good s){o:Po}:lackB s o=true↔Lacks s o:=by
 unfold lackB Lacks;rw[rev_zero hs]
 cases find s.l o.key<;>simp
end Kv
def FnB(g:Nat)(pre:Array Value)(p:Kv.Po->Bool)(w0:World)(l:List Kv.Po):Prop:=
 ∀W o,o∈l->zF w0 W->Calls Tryz.prog g (pre.push (opV o)) W (fun e w'=>e= .returned (.bool (p o))/\zF W w')
theorem jln(g:Nat)(pre:Array Value)(p:Kv.Po->Bool)(eg:∀args w,(callFunc g args).run Tryz.prog w= .ok (.enter g args) w)(l:List Kv.Po)(n c:Nat)(A:Option Addr)(w0 w:World)(h:SlP w0 A n c l)(hb0:zF w0 w)(hp:FnB g pre p w l):
  Calls Tryz.prog 283 #[.slice A n c,.func (.func g) pre #[]] w (fun e w'=>∃i:Int,e= .returned (.int .i64 i)/\(0<=i↔l.any p=true)/\zF w w'):=by
 have hn:=h.len;have hmx:=h.max;have hcp:=h.cap;unfold maxLen at hmx;have HA:=zh h;have HN:=zh hn;have B0:=zh hb0;have HP:=zh hp;clear h hn hb0 hp;go_in;go_wp2_with fail;go_loopw [5,8] (fun _ i wr=>∃j:Nat,j<=n/\i= .int .i64 j/\(∀o∈l.take j,p o=false)/\zF w wr) (fun _ i _=>n -(intOf i).toNat)
 case atStart=>exact⟨0,zv,rfl,by simp,zD⟩
 case round=>
  obtain⟨j,hj,rfl,hok,hbr⟩:=hrel;have OK:=zh hok;have B:=zh hbr;have BB:=zh (B0.o.trans (hbr.mono B0.o.size));clear hok hbr;by_cases hlt:j<n
  ·obtain⟨b1,o1,rfl⟩:=HA.o.addr (by have:=HN.o;omega)
   have EA:Hid (l[j]? =some (l[j]'(by have:=HN.o;omega))):=List.getElem?_eq_getElem _;generalize l[j]'(by have:=HN.o;omega)=x at*;obtain⟨p0,p1,p2,p3⟩:=HA.o.po EA.o BB.o;have HM:Hid (x∈l):=List.mem_of_getElem? EA.o;have CC:=zh (HP.o _ x HM.o B.o)
   cases hq:p x with
   |true=>
    rw[hq]at CC;have HQ:=zh hq;clear hq;go_wp2_with(go_at_fn g;refine CC.o.mono ?_;rintro e w1 ⟨rfl,hb1⟩;have B1:=zh (B.o.trans (hb1.mono B.o.size));clear hb1);go_ret;refine⟨_,rfl,?_,B1.o⟩;rw[List.any_eq_true];exact⟨fun _=>⟨x,HM.o,HQ.o⟩,fun _=>by omega⟩
   |false=>
    rw[hq]at CC;have HQ:=zh hq;clear hq;go_wp2_with(go_at_fn g;refine CC.o.mono ?_;rintro e w1 ⟨rfl,hb1⟩;have B1:=zh (B.o.trans (hb1.mono B.o.size));clear hb1);refine⟨⟨j+1,zv,by go_num,fun o ho=> ?_,B1.o⟩,by simp[intOf];omega⟩;rw[List.take_add_one,EA.o]at ho;rcases List.mem_append.1 ho with ho|ho
    ·exact OK.o o ho
    ·simp at ho;subst ho;exact HQ.o
  ·have E:Hid (l.take j=l):=List.take_of_length_le (by have:=HN.o;omega)
   rw[E.o]at OK;go_wp2;go_ret;refine⟨_,rfl,?_,B.o⟩;rw[List.any_eq_true];refine⟨fun h=>by omega,fun⟨o,ho,hp⟩=> ?_⟩;rw[OK.o o ho]at hp
   cases hp
theorem jcw(g:Nat)(pre:Array Value)(p:Kv.Po->Bool)(eg:∀args w,(callFunc g args).run Tryz.prog w= .ok (.enter g args) w)(l:List Kv.Po)(n c:Nat)(A:Option Addr)(w0 w:World)(h:SlP w0 A n c l)(hb0:zF w0 w)(hp:FnB g pre p w l):
  Calls Tryz.prog 257 #[.slice A n c,.func (.func g) pre #[]] w (fun e w'=>e= .returned (.bool (l.any p))/\zF w w'):=by
 have C:=zh (jln g pre p eg l n c A w0 w h hb0 hp);clear h hb0 hp eg;generalize l.any p=b at C⊢;go_in;go_wp2_with(go_at_call 283;refine C.o.mono ?_;rintro e w1 ⟨i,rfl,hi,hb1⟩;have B1:=zh hb1;have HI:=zh hi;clear hb1 hi);go_ret;refine⟨?_,B1.o⟩
 cases b with
 |true=>
  have:0<=i:=HI.o.2 rfl;simp[this]
 |false=>
  have:¬0<=i:=fun h=>by have:=HI.o.1 h;cases this
  simp[this]
theorem zz1d{p:Prop}(h:p:=by
 go_in
 go_wp2;go_ret;refine⟨?_,B1.o⟩;show Ending.returned (.bool _)=Ending.returned (.bool _);refine congrArg (fun b=>Ending.returned (.bool b)) ?_;rw[Bool.eq_iff_iff];simp;omega):p:=h
theorem jqq(W:World)(o:Kv.Po)(h1:o.key.size<=maxLen)(h2:o.val.size<=maxLen):Calls Tryz.prog 258 (#[].push (opV o)) W (fun e w'=>e= .returned (.bool (Kv.badB o))/\zF W w'):=by
 have B1:=zh ((Below.refl W.heap.size W).alloc zl (.cells #[.string o.key,.string o.val,.int .i64 o.rev,.bool o.drop] 236));unfold maxLen at h1 h2;have hs1:(o.key.size:Int)<=9223372036854775807:=by omega
 have hs2:(o.val.size:Int)<=9223372036854775807:=by omega
 unfold opV Kv.badB;obtain⟨key,val,rev,drop⟩:=o;simp only at*;show Calls _ _ #[_] _ _;by_cases g1:key.size=0
 ·have hk:key=⟨#[]⟩:=ByteArray.ext (Array.eq_empty_of_size_eq_zero g1)
  subst hk;go_in;go_wp2;go_ret;exact⟨rfl,B1.o⟩
 ·have hk:key.toList.isEmpty=false:=by
   rw[Bool.eq_false_iff];intro h;refine g1 ?_;have h1:key.toList=ByteArray.toList ⟨#[]⟩:=(List.isEmpty_iff.1 h).trans (by rw[ByteArray.toList_eq]);rw[Kv.teq.1 (beq_iff_eq.2 h1)];rfl
  by_cases g2:(64:Int)<key.size
  ·exact zz1d
  ·exact zz1d
open Go.WideMaps
def eU:Value->Option (DataW Unit×List MemPlace)
 | .agg ⟨[]⟩=>some (.agg [],[])
 |_=>none
theorem eU_mk:eU (.agg #[])=some (.agg [],[]):=rfl
def jdf(w:World)(b:Nat)(ks:List ByteArray):Prop:=
 ∃D n,w.ownsMap Tryz.prog 9 eU b n D/\n<=ks.length/\Tidy D/\(∀k:ByteArray,Maps.has D (kl k)=true↔k∈ks)/\Maps.size D<=ks.length/\(Maps.size D=ks.length↔ks.Pairwise fun a b=>a≠b)
theorem jdf.made(w:World):jdf (w.alloc (.map #[] 0)) w.heap.size []:=
 ⟨_,0,World.ownsMap_made w _ _ _,zl,tidy_empty,fun k=>by simp[Maps.has],zl,by simp[Maps.size]⟩
theorem jdf.lt{w:World}{b:Nat}{ks:List ByteArray}(h:jdf w b ks):b<w.heap.size:=by
 obtain⟨D,n,h1,_⟩:=h;exact h1.lt
theorem jdf.keep{w w':World}{b:Nat}{ks:List ByteArray}(h:jdf w b ks)(hb:w'.heap[b]? =w.heap[b]?):jdf w' b ks:=by
 obtain⟨D,n,⟨es,clock,h1,h2⟩,hd⟩:=h;exact⟨D,n,⟨es,clock,hb.trans h1,h2⟩,hd⟩
theorem jdf.on{w w':World}{b:Nat}{ks:List ByteArray}(h:jdf w b ks)(hb:zF w w'):jdf w' b ks:=h.keep (hb.block b h.lt)
theorem jdf.len{w:World}{b:Nat}{ks:List ByteArray}(h:jdf w b ks)(ty:TypeId):∃m:Nat,m<=ks.length/\(m=ks.length↔ks.Pairwise fun a b=>a≠b)/\(Builtin.len_ #[318] ty #[.map (some b)]).run Tryz.prog w= .ok (.int .i64 (m:Nat)) w:=by
 obtain⟨D,n,h1,_,_,_,h3,h4⟩:=h;exact⟨_,h3,h4,h1.len Tryz.underlying318 ty⟩
theorem jdf.put{w:World}{b:Nat}{ks:List ByteArray}(h:jdf w b ks)(hl:ks.length<=1000000)(k:ByteArray)(hs:k.size<=maxLen):
  ∃w',(Instr.mapUpdate 318 (.map (some b)) (.string k) (.agg #[])).run Tryz.prog w= .ok () w'/\jdf w' b (ks++[k])/\w.mapTurned w' b:=by
 obtain⟨D,n,h1,h2,ht,hh,h3,h4⟩:=h;obtain⟨w',hrun,h5,h6⟩:=h1.store (string_keyed Tryz.underlying9) Tryz.underlying318 (by unfold maxLen;omega) (keyOf_string_mk Tryz.underlying9 hs) eU_mk;refine⟨w',hrun,⟨_,_,h5,by simp;omega,ht.put (jdu k) _,fun k'=> ?_,?_,?_⟩,h6⟩
 ·by_cases hk:k'=k
  ·subst hk
   have:=has_put_same ht.isMap (jdu k') (DataW.agg (H:=Unit) []);exact⟨fun _=>by simp,fun _=>this⟩
  ·have:=has_put_other (D:=D) (k:=kl k) (k':=kl k') (fun e=>hk (jgv e)) (DataW.agg (H:=Unit) [])
   rw[show Maps.has (D.put (Lit.string k.data.toList) (.agg [])) (kl k')=Maps.has D (kl k')from this,hh k'];simp[hk]
 ·have:=size_put (k:=kl k) ht (DataW.agg (H:=Unit) [])
  show Maps.size (D.put (kl k) _)<=_;rw[this,zA,List.length_singleton];split<;>omega
 ·have:=size_put (k:=kl k) ht (DataW.agg (H:=Unit) [])
  show Maps.size (D.put (kl k) _)=_↔_;rw[this,zA,List.length_singleton,List.pairwise_append];by_cases hk:k∈ks
  ·rw[if_pos ((hh k).2 hk)]
   exact⟨fun h=>by omega,fun h=>absurd rfl (h.2.2 k hk k (by simp))⟩
  ·rw[if_neg (fun h=>hk ((hh k).1 h))]
   refine⟨fun h=>⟨h4.1 zv,List.pairwise_singleton _ _,fun a ha b hb e=> ?_⟩,fun h=>by rw[h4.2 h.1]⟩;simp at hb;subst hb;subst e;exact hk ha
theorem jf0(w:World)(n:Nat)(t k e:TypeId)(ht:Tryz.prog.underlying t=some (.map k e)):(Instr.makeMap t (some (.int .i64 n))).run Tryz.prog w= .ok (.map (some w.heap.size)) (w.alloc (.map #[] 0)):=by
 simp[Instr.makeMap,run_underlying ht,asInt,go_sem]
theorem jgz(l:List Kv.Po)(n c:Nat)(A:Option Addr)(w0 w:World)(h:SlP w0 A n c l)(hb0:zF w0 w)(hz:l.length<=70):
  Calls Tryz.prog 259 #[.slice A n c] w (KBool (¬l.Pairwise fun a b=>a.key≠b.key) w):=by
 have hn:=h.len;have hmx:=h.max;have hcp:=h.cap;unfold maxLen at hmx;have HA:=zh h;have HN:=zh hn;have HZ:=zh hz;have B0:=zh hb0;have hmm:=jf0 w n 318 9 319 Tryz.underlying318;have S0:=zh (jdf.made w);have BM:=zh ((Below.refl w.heap.size w).alloc zl (.map #[] 0));have LT:Hid (w.heap.size<(w.alloc (.map #[] 0)).heap.size):=S0.o.lt;clear h hn hb0 hz;go_in;go_wp2_with fail;clear hmm;obtain⟨m,hm⟩:∃m,m=w.heap.size:=zx;rw[<-hm]at S0 LT⊢;have HM:=zh hm;clear hm;generalize w.alloc (.map #[] 0)=w1 at*;go_loopw [11] (fun i wr=>∃j:Nat,j<=n/\i= .int .i64 j/\jdf wr m ((l.take j).map (·.key))/\zF w wr) (fun i _=>n -(intOf i).toNat)
 case atStart=>exact⟨0,zv,rfl,S0.o,BM.o⟩
 case round=>
  obtain⟨j,hj,rfl,hs,hbr⟩:=hrel;have SE:=zh hs;have B:=zh hbr;have BB:=zh (B0.o.trans (hbr.mono B0.o.size));clear hs hbr;by_cases hlt:j<n
  ·obtain⟨b1,o1,rfl⟩:=HA.o.addr (by have:=HN.o;omega)
   have EA:Hid (l[j]? =some (l[j]'(by have:=HN.o;omega))):=List.getElem?_eq_getElem _;generalize l[j]'(by have:=HN.o;omega)=x at*;obtain⟨p0,p1,p2,p3⟩:=HA.o.po EA.o BB.o;have KS:=zh (HA.o.poOk (List.mem_of_getElem? EA.o)).1;have ST:Hid ((l.take (j+1)).map (·.key)=(l.take j).map (·.key)++[x.key]):=by
    show _=_;rw[List.take_add_one,EA.o];simp
   have LL:Hid (((l.take j).map (·.key)).length<=1000000):=by
    show _<=_;rw[List.length_map,List.length_take];have:=HZ.o;omega
   generalize(l.take j).map (·.key)=ks at*;have BN:=zh ((Below.refl wr.heap.size wr).alloc zl (.cells #[.string x.key,.string x.val,.int .i64 x.rev,.bool x.drop] 236));have S1:=zh (SE.o.on BN.o);obtain⟨wd,hrun,hs2,ht2⟩:=S1.o.put LL.o x.key KS.o;have S2:=zh hs2;have B2:=zh ((B.o.trans (BN.o.mono B.o.size)).grown ht2.grown (by have:=B.o.size;have:=BN.o.size;omega) (fun k hk=>by injection hk with hk;have:=HM.o;omega))
   clear hs2 ht2 BN S1;go_wp2_with fail;exact⟨⟨j+1,zv,by go_num,by rw[ST.o];exact S2.o,B2.o⟩,by simp[intOf];omega⟩
  ·have E:Hid (l.take j=l):=List.take_of_length_le (by have:=HN.o;omega)
   rw[E.o]at SE;obtain⟨z,hz1,hz2,hz3⟩:=SE.o.len 3;rw[List.length_map]at hz1 hz2;have Z1:=zh hz1;have Z2:=zh hz2;clear hz1 hz2;go_wp2;go_ret;refine⟨⟨_,rfl,?_⟩,B.o⟩;rw[<-List.pairwise_map,<-Z2.o];have:=Z1.o;have:=HN.o;simp;omega
open Go.RowKit Go.Deep Go.Maps
theorem jqr(W:World)(p:Value)(mo:Option Nat)(s:Kv.St)(h:EAt W p mo s)(o:Kv.Po)(hk:o.key.size<=maxLen):Calls Tryz.prog 260 (#[p].push (opV o)) W (fun e w'=>e= .returned (.bool (Kv.oddB s o))/\zF W w'):=by
 have B1:=zh ((Below.refl W.heap.size W).alloc zl (.cells #[.string o.key,.string o.val,.int .i64 o.rev,.bool o.drop] 236));have R1:=zh (heap_alloc_new W (.cells #[.string o.key,.string o.val,.int .i64 o.rev,.bool o.drop] 236));have C:=zh (jgx _ p mo s (h.on B1.o) o.key hk);unfold KGet at C;unfold opV Kv.oddB;generalize Kv.valOf s.l o.key=v at*;generalize Kv.revOf s.l o.key=r at*;clear h hk;obtain⟨key,val,rev,drop⟩:=o;simp only at*;show Calls _ _ #[_,_] _ _;by_cases g0:0<=rev
 ·by_cases g1:rev=r
  ·have hee:(rev==r)=true:=by rw[beq_iff_eq];exact g1
   have G1:=zh g1;clear g1;go_in;go_wp2_with(go_at_call 109;refine C.o.mono ?_;rintro e w1 ⟨rfl,hb1⟩;have RR:=zh ((hb1.block _ (zg R1.o).1).trans R1.o);have B2:=zh (B1.o.trans (hb1.mono B1.o.size));have c2:w1.cell? ⟨W.heap.size,2,none⟩=some (.int .i64 rev):=(by rw[cell_of_row w1 _ 2 _ _ _ RR.o];rfl);clear hb1);go_ret;exact⟨by simp[G1.o],B2.o⟩
  ·have hee:(rev==r)=false:=by rw[zq];exact g1
   have G1:=zh g1;clear g1;go_in;go_wp2_with(go_at_call 109;refine C.o.mono ?_;rintro e w1 ⟨rfl,hb1⟩;have RR:=zh ((hb1.block _ (zg R1.o).1).trans R1.o);have B2:=zh (B1.o.trans (hb1.mono B1.o.size));have c2:w1.cell? ⟨W.heap.size,2,none⟩=some (.int .i64 rev):=(by rw[cell_of_row w1 _ 2 _ _ _ RR.o];rfl);clear hb1);go_ret;exact⟨by simp[G1.o,g0],B2.o⟩
 ·go_in
  go_wp2_with(go_at_call 109;refine C.o.mono ?_;rintro e w1 ⟨rfl,hb1⟩;have RR:=zh ((hb1.block _ (zg R1.o).1).trans R1.o);have B2:=zh (B1.o.trans (hb1.mono B1.o.size));have c2:w1.cell? ⟨W.heap.size,2,none⟩=some (.int .i64 rev):=(by rw[cell_of_row w1 _ 2 _ _ _ RR.o];rfl);clear hb1);go_ret;exact⟨by simp;intro h;omega,B2.o⟩
theorem jn3(W:World)(p:Value)(mo:Option Nat)(s:Kv.St)(h:EAt W p mo s)(o:Kv.Po)(hk:o.key.size<=maxLen):Calls Tryz.prog 261 (#[p].push (opV o)) W (fun e w'=>e= .returned (.bool (Kv.lackB s o))/\zF W w'):=by
 have B1:=zh ((Below.refl W.heap.size W).alloc zl (.cells #[.string o.key,.string o.val,.int .i64 o.rev,.bool o.drop] 236));have C:=zh (jjx _ p mo s (h.on B1.o) o.key hk);unfold opV Kv.lackB;generalize(Kv.find s.l o.key).isSome=b at*;clear h hk;obtain⟨key,val,rev,drop⟩:=o;simp only at*;show Calls _ _ #[_,_] _ _
 cases drop with
 |true=>
  go_in;go_wp2_with(go_at_call 284;refine C.o.mono ?_;rintro e w1 ⟨rfl,hb1⟩;have B2:=zh (B1.o.trans (hb1.mono B1.o.size));clear hb1);go_ret;exact⟨by simp,B2.o⟩
 |false=>
  go_in;go_wp2;go_ret;exact⟨by simp,B1.o⟩
theorem bad_fn{w0 w:World}{n c:Nat}{A:Option Addr}{l:List Kv.Po}(h:SlP w0 A n c l):FnB 258 #[] Kv.badB w l:=
 fun W o ho _=>jqq W o (h.poOk ho).1 (h.poOk ho).2.1
theorem odd_fn{w0 w:World}{p:Value}{mo:Option Nat}{s:Kv.St}{n c:Nat}{A:Option Addr}{l:List Kv.Po}(h:SlP w0 A n c l)(hk:EAt w p mo s):FnB 260 #[p] (Kv.oddB s) w l:=
 fun W o ho hb=>jqr W p mo s (hk.on hb) o (h.poOk ho).1
theorem lack_fn{w0 w:World}{p:Value}{mo:Option Nat}{s:Kv.St}{n c:Nat}{A:Option Addr}{l:List Kv.Po}(h:SlP w0 A n c l)(hk:EAt w p mo s):FnB 261 #[p] (Kv.lackB s) w l:=
 fun W o ho hb=>jn3 W p mo s (hk.on hb) o (h.poOk ho).1
namespace Kv
theorem step_size{r:Int}{l:List En}{o:Po}(hl:Rise l)(hd:o.drop=true->(find l o.key).isSome=true):((step r l o).length:Int)=l.length+(if o.drop then -1 else if(find l o.key).isSome then 0 else 1):=by
 have h1:=dropK_length hl o.key;unfold step
 cases h:o.drop with
 |true=>
  rw[hd h]at h1;simp only[if_true]at h1⊢;omega
 |false=>
  simp only[Bool.false_eq_true,if_false];rw[putK_length]
  cases h2:(find l o.key).isSome
  ·rw[h2]at h1;simp at h1⊢;omega
  ·rw[h2]at h1;simp at h1⊢;omega
end Kv
theorem jn4(w:World)(p:Value)(mo:Option Nat)(s:Kv.St)(l:List Kv.Po)(n c:Nat)(A:Option Addr)(w0:World)(hk:EAt w p mo s)(h:SlP w0 A n c l)(hb0:zF w0 w)(hr:Kv.Right l)(hlk:∀o∈l,¬Kv.Lacks s o)(hz:l.length<=70):
  Calls Tryz.prog 262 #[p,.slice A n c] w (KInt ((Kv.after s l).l.length:Nat) w):=by
 have hn:=h.len;have hmx:=h.max;have hcp:=h.cap;unfold maxLen at hmx;have HA:=zh h;have HN:=zh hn;have HZ:=zh hz;have B0:=zh hb0;have HK:=zh hk;have RT:=zh hr;have GD:=zh hk.good;have NL:=zh hlk;have CL:=zh (jjy w p mo s hk);clear h hn hb0 hk hr hz hlk;go_in;go_wp2_with(go_at_call 178;refine CL.o.mono ?_;rintro e w1 ⟨rfl,rfl⟩);go_loopw [5,12] (fun z i wr=>∃j:Nat,j<=n/\i= .int .i64 j/\z= .int .i64 (((l.take j).foldl (Kv.step (s.rev+1)) s.l).length:Nat)/\zF w1 wr) (fun _ i _=>n -(intOf i).toNat)
 case atStart=>exact⟨0,zv,rfl,rfl,zD⟩
 case round=>
  obtain⟨j,hj,rfl,rfl,hbr⟩:=hrel;have B:=zh hbr;have BB:=zh (B0.o.trans (hbr.mono B0.o.size));clear hbr;by_cases hlt:j<n
  ·obtain⟨b1,o1,rfl⟩:=HA.o.addr (by have:=HN.o;omega)
   have EA:Hid (l[j]? =some (l[j]'(by have:=HN.o;omega))):=List.getElem?_eq_getElem _;generalize l[j]'(by have:=HN.o;omega)=x at*;obtain⟨p0,p1,p2,p3⟩:=HA.o.po EA.o BB.o;have HM:Hid (x∈l):=List.mem_of_getElem? EA.o;have KS:=zh (HA.o.poOk HM.o).1;have BN:=zh ((Below.refl wr.heap.size wr).alloc zl (.cells #[.string x.key,.string x.val,.int .i64 x.rev,.bool x.drop] 236));have B2:=zh (B.o.trans (BN.o.mono B.o.size));have CH:=zh (jjx _ p mo s (HK.o.on B2.o) x.key KS.o);have LS:Hid ((l.take (j+1)).foldl (Kv.step (s.rev+1)) s.l=Kv.step (s.rev+1) ((l.take j).foldl (Kv.step (s.rev+1)) s.l) x):=Kv.steps_snoc (s.rev+1) EA.o s.l;have FL:Hid (Kv.find ((l.take j).foldl (Kv.step (s.rev+1)) s.l) x.key=Kv.find s.l x.key):=Kv.find_steps_other fun o ho=>by
    obtain⟨i,hi⟩:=List.getElem?_of_mem ho;rw[List.getElem?_take]at hi;split at hi
    ·rename_i hij
     obtain⟨g1,e1⟩:=List.getElem?_eq_some_iff.1 hi;obtain⟨g2,e2⟩:=List.getElem?_eq_some_iff.1 EA.o;have:=List.pairwise_iff_getElem.1 RT.o.2.2 i j g1 g2 hij;rw[e1,e2]at this;exact this
    ·cases hi
   have SS:=zh (Kv.step_size (r:=s.rev+1) (o:=x) (Kv.steps_rise (r:=s.rev+1) (ops:=l.take j) GD.o.rise));have LB:=Kv.steps_length (s.rev+1) (l.take j) s.l;rw[List.length_take]at LB;have LG:=GD.o.len;have LZ:=HZ.o;have hlb:((l.take j).foldl (Kv.step (s.rev+1)) s.l).length<=200:=by omega
   clear LB LG LZ;rw[FL.o]at SS;generalize hLL:((l.take j).foldl (Kv.step (s.rev+1)) s.l).length=ln at*;rw[<-LS.o]at SS;generalize hLN:((l.take (j+1)).foldl (Kv.step (s.rev+1)) s.l).length=lm at*;clear hLL;have HLN:=zh hLN;clear hLN;have LKS:Hid (x.drop=true->(Kv.find s.l x.key).isSome=true):=fun hd=>by
    have h1:=NL.o x HM.o;have h2:=Kv.rev_zero GD.o x.key
    cases hf:Kv.find s.l x.key with
    |some e=>rfl
    |none=>exact absurd ⟨hd,h2.2 hf⟩ h1
   generalize(Kv.find s.l x.key).isSome=z at*
   cases hd:x.drop with
   |true=>
    rw[hd]at p3 BN B2 CH;have SE:lm+1=ln:=by have:=SS.o LKS.o;rw[hd]at this;simp at this;omega
    have hsub:((ln:Int) -1)=((lm:Nat):Int):=by omega
    have HS:=zh hsub;clear SE hsub hd;go_wp2_with fail;exact⟨⟨j+1,zv,by go_num,by rw[HLN.o];have:=HS.o;go_num,B2.o⟩,by simp[intOf];omega⟩
   |false=>
    rw[hd]at p3 BN B2 CH
    cases z with
    |true=>
     have SE:lm=ln:=by have:=SS.o (fun _=>rfl);rw[hd]at this;simp at this;omega
     have HS:=zh SE;clear SE hd;go_wp2_with(go_at_call 284;refine CH.o.mono ?_;rintro e w2 ⟨rfl,hb2⟩;have B3:=zh (B2.o.trans (hb2.mono B2.o.size));clear hb2);exact⟨⟨j+1,zv,by go_num,by rw[HLN.o,HS.o],B3.o⟩,by simp[intOf];omega⟩
    |false=>
     have SE:lm=ln+1:=by have:=SS.o (fun h=>by rw[hd]at h;cases h);rw[hd]at this;simp at this;omega
     have HS:=zh SE;clear SE hd;go_wp2_with(go_at_call 284;refine CH.o.mono ?_;rintro e w2 ⟨rfl,hb2⟩;have B3:=zh (B2.o.trans (hb2.mono B2.o.size));clear hb2);exact⟨⟨j+1,zv,by go_num,by rw[HLN.o,HS.o];go_num,B3.o⟩,by simp[intOf];omega⟩
  ·have E:Hid (l.take j=l):=List.take_of_length_le (by have:=HN.o;omega)
   rw[E.o];have AF:Hid ((Kv.after s l).l.length=(l.foldl (Kv.step (s.rev+1)) s.l).length):=rfl;generalize(l.foldl (Kv.step (s.rev+1)) s.l).length=ln at*;go_wp2;go_ret;exact⟨by rw[AF.o];rfl,B.o⟩
