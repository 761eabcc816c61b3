import Derived.Sort.OwnSorted
import Derived.Sort.KeysCollected
import Derived.Shelf.Small.Bits
import Derived.Shelf.Strconv.Atoi
import Derived.Shelf.Strconv.Itoa0
import Derived.Shelf.Strconv.Itoa1
import Derived.Shelf.LaysM
import Derived.Shelf.Strconv.Itoa2
import Derived.Shelf.Strconv.Itoa3
import Derived.Shelf.Sort.Plain
import Derived.Shelf.Slices.Equal
import Derived.Shelf.Slices.In.SortNone
import Derived.Shelf.Slices.Empties2
import Derived.Test.YtpehidgjfcfjoaaGreatDoorProg
import Derived.Test.YtpehidgjfcfjoaaGreatDoorQz14
import Derived.Shelf.Abstract
set_option maxHeartbeats 6400000
set_option maxRecDepth 100000
set_option linter.unusedSimpArgs false
set_option linter.unusedVariables false
namespace Go.Proofs.YtpehidgjfcfjoaaGreatDoor
open Go.RowKit Go.Maps Go.Proofs
def toL(k:ByteArray):List UInt8:=k.data.toList
theorem toL_inj{a b:ByteArray}(h:toL a=toL b):a=b:=ByteArray.ext (Array.ext' h)
theorem toL_eq(k:ByteArray):k.toList=toL k:=ByteArray.toList_eq k
def ofL(x:List UInt8):ByteArray:=⟨x.toArray⟩
theorem ofL_toL(k:ByteArray):ofL (toL k)=k:=by unfold ofL toL;simp
theorem enc_toL(k:ByteArray):encStr (toL k)= .string k:=by show Value.string (ofL (toL k))=_;rw[ofL_toL]
theorem jpa(ks:List ByteArray):(ks.map toL).map encStr=ks.map Value.string:=by
 rw[List.map_map];exact List.map_congr_left fun k _=>enc_toL k
theorem bl_lt:∀x y:List UInt8,Op.bytesLess x y=decide (x<y)
 |[],[]=>rfl
 |[],_::_=>by simp[Op.bytesLess]
 |_::_,[]=>by simp[Op.bytesLess]
 |a::x,b::y=>by
  simp only[Op.bytesLess,bl_lt x y,List.cons_lt_cons_iff];by_cases h:a<b<;>by_cases h2:a=b<;>simp[h,h2]
theorem lt_iff{a b:ByteArray}:Kv.lt a b↔toL a<toL b:=by
 unfold Kv.lt;rw[toL_eq,toL_eq,bl_lt,decide_eq_true_eq]
def jh1(ks:List ByteArray):List ByteArray:=((ks.map toL).mergeSort leB).map ofL
theorem ji3(ks:List ByteArray):(jh1 ks).map toL=(ks.map toL).mergeSort leB:=by
 unfold jh1;rw[List.map_map]
 conv=>rhs;rw[<-List.map_id ((ks.map toL).mergeSort leB)]
 refine List.map_congr_left fun x _=> ?_;show toL (ofL x)=x;unfold toL ofL;simp
theorem jfk(ks:List ByteArray):(jh1 ks).length=ks.length:=by unfold jh1;simp
theorem js9{ks ts:List ByteArray}(hn:ks.Nodup)(hr:ts.Pairwise Kv.lt)(hm:∀k,k∈ks↔k∈ts):jh1 ks=ts:=by
 have hnt:ts.Nodup:=hr.imp fun h=>Kv.lt_ne h;have hp:ks.Perm ts:=(List.perm_ext_iff_of_nodup hn hnt).2 hm;have tr:∀a b c:List UInt8,leB a b=true->leB b c=true->leB a c=true:=fun a b c h1 h2=>by simp only[leB,decide_eq_true_eq]at*;exact List.le_trans h1 h2
 have tot:∀a b:List UInt8,(leB a b|| leB b a)=true:=fun a b=>by simp only[leB,Bool.or_eq_true,decide_eq_true_eq];exact List.le_total a b
 have e:(ks.map toL).mergeSort leB=ts.map toL:=by
  refine List.Perm.eq_of_pairwise (le:=fun a b=>leB a b=true) (fun a b _ _ h1 h2=> ?_) (List.pairwise_mergeSort tr tot _) (List.pairwise_map.2 (hr.imp fun{a b} h=> ?_)) ((List.mergeSort_perm _ leB).trans (hp.map toL))
  ·simp only[leB,decide_eq_true_eq]at h1 h2
   exact List.le_antisymm h1 h2
  ·simp only[leB,decide_eq_true_eq]
   exact List.le_of_lt (lt_iff.1 h)
 have h2:=ji3 ks;rw[e]at h2;refine List.ext_getElem? fun i=> ?_;have h3:=congrArg (fun l=>l[i]?) h2;simp only[List.getElem?_map]at h3
 cases h4:(jh1 ks)[i]? with
 |none=>rw[h4]at h3;cases h5:ts[i]? with
  |none=>rfl
  |some y=>rw[h5]at h3;cases h3
 |some x=>
  rw[h4]at h3
  cases h5:ts[i]? with
  |none=>rw[h5]at h3;cases h3
  |some y=>rw[h5]at h3;exact congrArg some (toL_inj (Option.some.inj h3))
theorem jm5{l:List Kv.En}(h:Kv.Rise l)(s r:Int):(Kv.since ⟨l,s⟩ r).Pairwise Kv.lt:=by
 unfold Kv.since;exact List.pairwise_map.2 (List.Pairwise.filter _ h)
theorem jpb{l:List Kv.En}(h:Kv.Rise l){s r:Int}{k:ByteArray}:k∈Kv.since ⟨l,s⟩ r↔∃e,Kv.find l k=some e/\r<e.rev:=by
 unfold Kv.since;rw[List.mem_map];constructor
 ·rintro⟨e,he,rfl⟩
  rw[List.mem_filter,decide_eq_true_eq]at he;exact⟨e,Kv.find_mem h he.1,he.2⟩
 ·rintro⟨e,he,hr⟩
  have:=Kv.find_some he;exact⟨e,List.mem_filter.2 ⟨this.1,by simpa using hr⟩,this.2⟩
def Coll(l:List Kv.En)(r:Int)(left:Lit->Bool)(ks:List ByteArray):Prop:=ks.Nodup/\∀k,k∈ks↔(∃e,Kv.find l k=some e/\r<e.rev)/\left (kl k)=false
theorem Coll.start{D:DataW Unit}{l:List Kv.En}(h:DIs D l)(r:Int):Coll l r (Maps.has D) []:=by
 refine⟨List.nodup_nil,fun k=> ?_⟩;simp only[List.not_mem_nil,false_iff,not_and];rintro⟨e,he,_⟩ h2;have:=h.has k;rw[he,h2]at this
 cases this
theorem same_kl{k x:ByteArray}:(kl k).sameKey (kl x)=decide (k=x):=by
 by_cases h:k=x
 ·subst h;rw[WideAt.sameKey_self (jdr k)];simp
 ·rw[Maps.sameKey_ne (fun e=>h (jgk e))];simp[h]
theorem Coll.step{l:List Kv.En}{r:Int}{left:Lit->Bool}{ks:List ByteArray}(h:Coll l r left ks){x:ByteArray}{e:Kv.En}(hx:left (kl x)=true)(he:Kv.find l x=some e):
  Coll l r (fun z=>left z&& !z.sameKey (kl x)) (if r<e.rev then ks++[x]else ks):=by
 have hnew:x∉ks:=fun hm=>by have:=((h.2 x).1 hm).2;rw[hx]at this;cases this
 by_cases hr:r<e.rev
 ·rw[if_pos hr]
  refine⟨List.nodup_append.2 ⟨h.1,by simp,fun a ha b hb=>by simp at hb;subst hb;exact fun e=>hnew (e▸ha)⟩,fun k=> ?_⟩;rw[List.mem_append,h.2 k];show _↔_/\(left (kl k)&& !(kl k).sameKey (kl x))=false;rw[same_kl];by_cases hk:k=x
  ·subst hk;simp[he,hr]
  ·simp[hk]
 ·rw[if_neg hr]
  refine⟨h.1,fun k=> ?_⟩;rw[h.2 k];show _↔_/\(left (kl k)&& !(kl k).sameKey (kl x))=false;rw[same_kl];by_cases hk:k=x
  ·subst hk;simp[he,hr]
  ·simp[hk]
theorem Coll.all{l:List Kv.En}{r:Int}{left:Lit->Bool}{ks:List ByteArray}(h:Coll l r left ks)(hl:∀z,left z=false)(hr:Kv.Rise l)(s:Int):jh1 ks=Kv.since ⟨l,s⟩ r:=
 js9 h.1 (jm5 hr s r) fun k=>by rw[h.2 k,jpb hr];simp[hl]
theorem DIs.entry{D:DataW Unit}{l:List Kv.En}(h:DIs D l){x v:ByteArray}{r:Int}(hat:∀z,D.atKey (kl x) z=eD v r):∃e,Kv.find l x=some e/\e.val=v/\e.rev=r:=by
 have h1:=h.has x;rw[Maps.has_true_of_atKey hat]at h1
 cases hf:Kv.find l x with
 |none=>rw[hf]at h1;cases h1
 |some e=>
  obtain⟨e1,e2⟩:=jo8 ((h.at_ x e hf (eD v r)).symm.trans (hat _));exact⟨e,rfl,e1,e2⟩
structure SortC(P:Program)(f:FuncId):Prop where
 row:∀(blk off cap:Nat) (ss:List (List UInt8)) (w:World),Sort.Holds encStr w blk off ss.toArray->blk<w.heap.size->ss.length<4611686018427387904->Calls P f #[.slice (some ⟨blk,off,none⟩) ss.length cap] w fun e w'=>
  e= .returned (.tuple #[])/\∃n os,w'=Sort.grow (Sort.putRow encStr (Sort.ahead w n) blk off (ss.mergeSort fun x y=>decide (x<=y)).toArray) os
 none_:∀w,Calls P f #[.slice none 0 0] w fun e w'=>e= .returned (.tuple #[])/\w'=w
theorem jta{P:Program}{f:FuncId}(hS:SortC P f){e:TypeId}{w:World}{B:Nat}{v:Value}{ks:List ByteArray}(h:OwnR 1 (fun _ cs (s:ByteArray)=>cs=[.string s]) e w w B v ks)(hz:ks.length<=1000000):
  Calls P f #[v] w fun en w'=>en= .returned (.tuple #[])/\OwnR 1 (fun _ cs (s:ByteArray)=>cs=[.string s]) e w' w' B v (jh1 ks)/\w.grownBy w' v.ownBlock:=by
 obtain⟨xs,h1,h2⟩:=h;have hxs:xs=ks.map Value.string:=by
  have hl:=h1.1;refine List.ext_getElem? fun i=> ?_;by_cases hi:i<ks.length
  ·obtain⟨cs,_,hc,he⟩:=h2 i ks[i] (List.getElem?_eq_getElem hi)
   have:=hc 0 zv;rw[Nat.mul_one,Nat.add_zero,he]at this;rw[this];simp[hi]
  ·rw[List.getElem?_eq_none zv,List.getElem?_eq_none (by simpa using Nat.le_of_not_lt hi)]
 have own_of:∀(w':World) (ts:List ByteArray),ts.length=ks.length->w'.ownsRow B e 1 v ks.length (ts.map Value.string)->OwnR 1 (fun _ cs (s:ByteArray)=>cs=[.string s]) e w' w' B v ts:=fun w' ts hl ho=>by
  refine⟨_,by rw[hl];exact ho,fun j t hj=>⟨[.string t],rfl,fun i hi=> ?_,rfl⟩⟩;obtain rfl:i=0:=by omega
  rw[Nat.mul_one,Nat.add_zero,List.getElem?_map,hj];rfl
 rcases h1.2 with⟨rfl,h0⟩|⟨g,cap,cur,rfl,hbase,hb,c1,c2,c3,c4⟩
 ·obtain rfl:ks=[]:=List.eq_nil_of_length_eq_zero h0
  refine(hS.none_ w).mono fun en w' ⟨he,hw⟩=>⟨he,?_,?_⟩
  ·have:jh1 []=[]:=List.eq_nil_of_length_eq_zero (jfk [])
   rw[this];exact OwnR.none_ _ _ _ _
  ·subst hw
   exact⟨rfl,rfl,rfl,Nat.le_refl _,fun i hi _=>rfl⟩
 ·rw[Nat.mul_one]at c4
  have hk:(ks.map toL).map encStr=xs:=by rw[jpa,hxs]
  have h5:=hS.row g 0 cap (ks.map toL) w (holds_of_block hb (by rw[List.length_map,hk];exact c4)) (Array.getElem?_eq_some_iff.1 hb).1 (by rw[List.length_map];omega);rw[List.length_map]at h5;refine h5.mono fun en w' ⟨he,n,os,hw⟩=>⟨he,?_,?_⟩
  ·subst hw
   have h6:=ownsRow_sorted (base:=B) (g:=g) (cap:=cap) (n:=n) (os:=os) (ss:=ks.map toL) (ts:=(ks.map toL).mergeSort leB) (by simp) hbase hb (by rw[List.length_map];exact c1) c2 c3;rw[List.length_map]at h6;refine own_of _ _ (jfk ks) ?_;rw[<-jpa,ji3];exact h6
  ·subst hw
   exact grownBy_sorted _
end Go.Proofs.YtpehidgjfcfjoaaGreatDoor
namespace Go.Proofs
open Go.Shelf
def Tryz.lays172_ren:Go.Shelf.Ren:=⟨fun|172=>123|244=>174|245=>175|247=>211|279=>212|280=>213|281=>214|282=>215|287=>242|316=>243|171=>179|205=>244|321=>268|322=>269|243=>227|246=>251|283=>271|284=>272|285=>273|286=>274|129=>226|317=>280|318=>281|319=>282|320=>283|337=>285|338=>286|n=>n,fun|9=>9|3=>3|75=>191|76=>192|4=>4|5=>5|167=>251|37=>43|0=>0|85=>252|2=>2|168=>254|53=>266|175=>277|46=>45|210=>281|127=>305|145=>308|143=>306|21=>21|171=>311|173=>313|212=>320|51=>237|20=>20|213=>321|232=>323|233=>324|80=>128|n=>n,fun|15=>2|16=>3|17=>4|18=>5|19=>6|n=>n⟩
theorem Tryz.lays172:Go.Proofs.Lays.n172 Tryz.prog Tryz.lays172_ren:={
 mixed:=by kernel_rfl
 f129:=Tryz.func226.trans (congrArg some (by kernel_rfl))
 f171:=Tryz.func179.trans (congrArg some (by kernel_rfl))
 f172:=Tryz.func123.trans (congrArg some (by kernel_rfl))
 f205:=Tryz.func244.trans (congrArg some (by kernel_rfl))
 f243:=Tryz.func227.trans (congrArg some (by kernel_rfl))
 f244:=Tryz.func174.trans (congrArg some (by kernel_rfl))
 f245:=Tryz.func175.trans (congrArg some (by kernel_rfl))
 f246:=Tryz.func251.trans (congrArg some (by kernel_rfl))
 f247:=Tryz.func211.trans (congrArg some (by kernel_rfl))
 f279:=Tryz.func212.trans (congrArg some (by kernel_rfl))
 f280:=Tryz.func213.trans (congrArg some (by kernel_rfl))
 f281:=Tryz.func214.trans (congrArg some (by kernel_rfl))
 f282:=Tryz.func215.trans (congrArg some (by kernel_rfl))
 f283:=Tryz.func271.trans (congrArg some (by kernel_rfl))
 f284:=Tryz.func272.trans (congrArg some (by kernel_rfl))
 f285:=Tryz.func273.trans (congrArg some (by kernel_rfl))
 f286:=Tryz.func274.trans (congrArg some (by kernel_rfl))
 f287:=Tryz.func242.trans (congrArg some (by kernel_rfl))
 f316:=Tryz.func243.trans (congrArg some (by kernel_rfl))
 f317:=Tryz.func280.trans (congrArg some (by kernel_rfl))
 f318:=Tryz.func281.trans (congrArg some (by kernel_rfl))
 f319:=Tryz.func282.trans (congrArg some (by kernel_rfl))
 f320:=Tryz.func283.trans (congrArg some (by kernel_rfl))
 f321:=Tryz.func268.trans (congrArg some (by kernel_rfl))
 f322:=Tryz.func269.trans (congrArg some (by kernel_rfl))
 f337:=Tryz.func285.trans (congrArg some (by kernel_rfl))
 f338:=Tryz.func286.trans (congrArg some (by kernel_rfl))
 t0:=Tryz.underlying0
 a0:=Tryz.isAgg0
 z0:=Tryz.sizeOf0
 v0:=Tryz.zeroValue0
 t2:=Tryz.underlying2
 a2:=Tryz.isAgg2
 z2:=Tryz.sizeOf2
 v2:=Tryz.zeroValue2
 t3:=Tryz.underlying3
 a3:=Tryz.isAgg3
 z3:=Tryz.sizeOf3
 v3:=Tryz.zeroValue3
 t4:=Tryz.underlying4
 a4:=Tryz.isAgg4
 z4:=Tryz.sizeOf4
 v4:=Tryz.zeroValue4
 t5:=Tryz.underlying5
 a5:=Tryz.isAgg5
 z5:=Tryz.sizeOf5
 v5:=Tryz.zeroValue5
 t9:=Tryz.underlying9
 a9:=Tryz.isAgg9
 z9:=Tryz.sizeOf9
 v9:=Tryz.zeroValue9
 t20:=Tryz.underlying20
 a20:=Tryz.isAgg20
 z20:=Tryz.sizeOf20
 v20:=Tryz.zeroValue20
 t21:=Tryz.underlying21
 a21:=Tryz.isAgg21
 z21:=Tryz.sizeOf21
 v21:=Tryz.zeroValue21
 t37:=Tryz.underlying43
 a37:=Tryz.isAgg43
 z37:=Tryz.sizeOf43
 v37:=Tryz.zeroValue43
 t46:=Tryz.underlying45
 a46:=Tryz.isAgg45
 z46:=Tryz.sizeOf45
 v46:=Tryz.zeroValue45
 t51:=Tryz.underlying237
 a51:=Tryz.isAgg237
 z51:=Tryz.sizeOf237
 v51:=Tryz.zeroValue237
 t53:=Tryz.underlying266
 a53:=Tryz.isAgg266
 z53:=Tryz.sizeOf266
 v53:=Tryz.zeroValue266
 t75:=Tryz.underlying191
 a75:=Tryz.isAgg191
 z75:=Tryz.sizeOf191
 v75:=Tryz.zeroValue191
 t76:=Tryz.underlying192
 a76:=Tryz.isAgg192
 z76:=Tryz.sizeOf192
 v76:=Tryz.zeroValue192
 t85:=Tryz.underlying252
 a85:=Tryz.isAgg252
 z85:=Tryz.sizeOf252
 v85:=Tryz.zeroValue252
 t127:=Tryz.underlying305
 a127:=Tryz.isAgg305
 z127:=Tryz.sizeOf305
 v127:=Tryz.zeroValue305
 t143:=Tryz.underlying306
 a143:=Tryz.isAgg306
 z143:=Tryz.sizeOf306
 v143:=Tryz.zeroValue306
 t145:=Tryz.underlying308
 a145:=Tryz.isAgg308
 z145:=Tryz.sizeOf308
 v145:=Tryz.zeroValue308
 t167:=Tryz.underlying251
 a167:=Tryz.isAgg251
 z167:=Tryz.sizeOf251
 v167:=Tryz.zeroValue251
 t168:=Tryz.underlying254
 a168:=Tryz.isAgg254
 z168:=Tryz.sizeOf254
 v168:=Tryz.zeroValue254
 t171:=Tryz.underlying311
 a171:=Tryz.isAgg311
 z171:=Tryz.sizeOf311
 v171:=Tryz.zeroValue311
 t173:=Tryz.underlying313
 a173:=Tryz.isAgg313
 z173:=Tryz.sizeOf313
 v173:=Tryz.zeroValue313
 t175:=Tryz.underlying277
 a175:=Tryz.isAgg277
 z175:=Tryz.sizeOf277
 v175:=Tryz.zeroValue277
 t210:=Tryz.underlying281
 a210:=Tryz.isAgg281
 z210:=Tryz.sizeOf281
 v210:=Tryz.zeroValue281
 t212:=Tryz.underlying320
 a212:=Tryz.isAgg320
 z212:=Tryz.sizeOf320
 v212:=Tryz.zeroValue320
 t213:=Tryz.underlying321
 a213:=Tryz.isAgg321
 z213:=Tryz.sizeOf321
 t232:=Tryz.underlying323
 a232:=Tryz.isAgg323
 z232:=Tryz.sizeOf323
 v232:=Tryz.zeroValue323
 t233:=Tryz.underlying324
 a233:=Tryz.isAgg324
 z233:=Tryz.sizeOf324
 v233:=Tryz.zeroValue324
 g15:=by kernel_rfl
 g16:=by kernel_rfl
 g17:=by kernel_rfl
 g18:=by kernel_rfl
 g19:=by kernel_rfl}
open Go.RowKit in
theorem Tryz.strconv_Atoi(s:ByteArray)(n:Int)(hl:s.size<=18)(h:Lib.atoi s.data.toList=some n)(w:World):
 Calls Tryz.prog 123 #[.string s] w fun e w'=>e= .returned (.tuple #[.int .i64 n,.nilIface])/\∃t,w'=Lib.bytesWorld w 5 t:=Any.strconv_Atoi Tryz.lays172 s n hl h w
def Tryz.laysM171_ren:Go.Shelf.Ren:=⟨fun|171=>179|243=>227|246=>251|283=>271|284=>272|285=>273|286=>274|129=>226|317=>280|318=>281|319=>282|320=>283|337=>285|338=>286|n=>n,fun|3=>3|9=>9|2=>2|4=>4|171=>311|0=>0|53=>266|37=>43|5=>5|173=>313|212=>320|51=>237|20=>20|213=>321|46=>45|232=>323|233=>324|n=>n,fun|17=>4|18=>5|19=>6|n=>n⟩
theorem Tryz.laysM171:Go.Proofs.LaysM.n171 Tryz.prog Tryz.laysM171_ren:={
 mixed:=by kernel_rfl
 f129:=Tryz.func226.trans (congrArg some (by kernel_rfl))
 f171:=Tryz.func179.trans (congrArg some (by kernel_rfl))
 f243:=Tryz.func227.trans (congrArg some (by kernel_rfl))
 f246:=Tryz.func251.trans (congrArg some (by kernel_rfl))
 f283:=Tryz.func271.trans (congrArg some (by kernel_rfl))
 f284:=Tryz.func272.trans (congrArg some (by kernel_rfl))
 f285:=Tryz.func273.trans (congrArg some (by kernel_rfl))
 f286:=Tryz.func274.trans (congrArg some (by kernel_rfl))
 f317:=Tryz.func280.trans (congrArg some (by kernel_rfl))
 f318:=Tryz.func281.trans (congrArg some (by kernel_rfl))
 f319:=Tryz.func282.trans (congrArg some (by kernel_rfl))
 f320:=Tryz.func283.trans (congrArg some (by kernel_rfl))
 f337:=Tryz.func285.trans (congrArg some (by kernel_rfl))
 f338:=Tryz.func286.trans (congrArg some (by kernel_rfl))
 t0:=Tryz.underlying0
 a0:=Tryz.isAgg0
 z0:=Tryz.sizeOf0
 v0:=Tryz.zeroValue0
 t2:=Tryz.underlying2
 a2:=Tryz.isAgg2
 z2:=Tryz.sizeOf2
 v2:=Tryz.zeroValue2
 t3:=Tryz.underlying3
 a3:=Tryz.isAgg3
 z3:=Tryz.sizeOf3
 v3:=Tryz.zeroValue3
 t4:=Tryz.underlying4
 a4:=Tryz.isAgg4
 z4:=Tryz.sizeOf4
 v4:=Tryz.zeroValue4
 t5:=Tryz.underlying5
 a5:=Tryz.isAgg5
 z5:=Tryz.sizeOf5
 v5:=Tryz.zeroValue5
 t9:=Tryz.underlying9
 a9:=Tryz.isAgg9
 z9:=Tryz.sizeOf9
 v9:=Tryz.zeroValue9
 t20:=Tryz.underlying20
 a20:=Tryz.isAgg20
 z20:=Tryz.sizeOf20
 v20:=Tryz.zeroValue20
 t37:=Tryz.underlying43
 a37:=Tryz.isAgg43
 z37:=Tryz.sizeOf43
 v37:=Tryz.zeroValue43
 t46:=Tryz.underlying45
 a46:=Tryz.isAgg45
 z46:=Tryz.sizeOf45
 v46:=Tryz.zeroValue45
 t51:=Tryz.underlying237
 a51:=Tryz.isAgg237
 z51:=Tryz.sizeOf237
 v51:=Tryz.zeroValue237
 t53:=Tryz.underlying266
 a53:=Tryz.isAgg266
 z53:=Tryz.sizeOf266
 v53:=Tryz.zeroValue266
 t171:=Tryz.underlying311
 a171:=Tryz.isAgg311
 z171:=Tryz.sizeOf311
 v171:=Tryz.zeroValue311
 t173:=Tryz.underlying313
 a173:=Tryz.isAgg313
 z173:=Tryz.sizeOf313
 v173:=Tryz.zeroValue313
 t212:=Tryz.underlying320
 a212:=Tryz.isAgg320
 z212:=Tryz.sizeOf320
 v212:=Tryz.zeroValue320
 t213:=Tryz.underlying321
 a213:=Tryz.isAgg321
 z213:=Tryz.sizeOf321
 t232:=Tryz.underlying323
 a232:=Tryz.isAgg323
 z232:=Tryz.sizeOf323
 v232:=Tryz.zeroValue323
 t233:=Tryz.underlying324
 a233:=Tryz.isAgg324
 z233:=Tryz.sizeOf324
 v233:=Tryz.zeroValue324
 g17:=by kernel_rfl
 g18:=by kernel_rfl
 g19:=by kernel_rfl
 i0:=by kernel_rfl
 i2:=by kernel_rfl
 i3:=by kernel_rfl
 i4:=by kernel_rfl
 i5:=by kernel_rfl
 i9:=by kernel_rfl
 i20:=by kernel_rfl
 i37:=by kernel_rfl
 i46:=by kernel_rfl
 i51:=by kernel_rfl
 i53:=by kernel_rfl
 i171:=by kernel_rfl
 i173:=by kernel_rfl
 i212:=by kernel_rfl
 i232:=by kernel_rfl
 i233:=by kernel_rfl
 m17:=by kernel_rfl
 m18:=by kernel_rfl
 m19:=by kernel_rfl}
open Go.RowKit Go.Sort Go.Lib in
theorem Tryz.strconv_Itoa(n:Int)(h0: -9223372036854775808<=n)(h1:n<=9223372036854775807)(w:World)(htab:Lib.TabIs Tryz.prog w "internal/strconv.uint64pow10" .u64 Lib.pow10Tab):
 Calls Tryz.prog 179 #[.int .i64 n] w fun e w'=>e= .returned (.string ⟨(Lib.itoa n).toArray⟩)/\∃k os,w'=grow (w.drewN k) os:=Any.strconv_Itoa Tryz.laysM171 n h0 h1 w htab
def Tryz.lays189_ren:Go.Shelf.Ren:=⟨fun|189=>124|125=>177|257=>176|128=>225|129=>226|294=>216|295=>217|296=>218|297=>219|298=>220|299=>221|216=>222|300=>223|301=>224|328=>245|329=>246|330=>247|331=>248|332=>249|215=>250|343=>270|n=>n,fun|28=>103|3=>3|46=>45|0=>0|51=>237|53=>266|4=>4|183=>259|182=>258|131=>100|5=>5|9=>9|218=>283|222=>124|228=>309|229=>175|n=>n,fun|n=>n⟩
theorem Tryz.lays189:Go.Proofs.Lays.n189 Tryz.prog Tryz.lays189_ren:={
 mixed:=by kernel_rfl
 f125:=Tryz.func177.trans (congrArg some (by kernel_rfl))
 f128:=Tryz.func225.trans (congrArg some (by kernel_rfl))
 f129:=Tryz.func226.trans (congrArg some (by kernel_rfl))
 f189:=Tryz.func124.trans (congrArg some (by kernel_rfl))
 f215:=Tryz.func250.trans (congrArg some (by kernel_rfl))
 f216:=Tryz.func222.trans (congrArg some (by kernel_rfl))
 f257:=Tryz.func176.trans (congrArg some (by kernel_rfl))
 f294:=Tryz.func216.trans (congrArg some (by kernel_rfl))
 f295:=Tryz.func217.trans (congrArg some (by kernel_rfl))
 f296:=Tryz.func218.trans (congrArg some (by kernel_rfl))
 f297:=Tryz.func219.trans (congrArg some (by kernel_rfl))
 f298:=Tryz.func220.trans (congrArg some (by kernel_rfl))
 f299:=Tryz.func221.trans (congrArg some (by kernel_rfl))
 f300:=Tryz.func223.trans (congrArg some (by kernel_rfl))
 f301:=Tryz.func224.trans (congrArg some (by kernel_rfl))
 f328:=Tryz.func245.trans (congrArg some (by kernel_rfl))
 f329:=Tryz.func246.trans (congrArg some (by kernel_rfl))
 f330:=Tryz.func247.trans (congrArg some (by kernel_rfl))
 f331:=Tryz.func248.trans (congrArg some (by kernel_rfl))
 f332:=Tryz.func249.trans (congrArg some (by kernel_rfl))
 f343:=Tryz.func270.trans (congrArg some (by kernel_rfl))
 t0:=Tryz.underlying0
 a0:=Tryz.isAgg0
 z0:=Tryz.sizeOf0
 v0:=Tryz.zeroValue0
 t3:=Tryz.underlying3
 a3:=Tryz.isAgg3
 z3:=Tryz.sizeOf3
 v3:=Tryz.zeroValue3
 t4:=Tryz.underlying4
 a4:=Tryz.isAgg4
 z4:=Tryz.sizeOf4
 v4:=Tryz.zeroValue4
 t5:=Tryz.underlying5
 a5:=Tryz.isAgg5
 z5:=Tryz.sizeOf5
 v5:=Tryz.zeroValue5
 t9:=Tryz.underlying9
 a9:=Tryz.isAgg9
 z9:=Tryz.sizeOf9
 v9:=Tryz.zeroValue9
 t28:=Tryz.underlying103
 a28:=Tryz.isAgg103
 z28:=Tryz.sizeOf103
 v28:=Tryz.zeroValue103
 t46:=Tryz.underlying45
 a46:=Tryz.isAgg45
 z46:=Tryz.sizeOf45
 v46:=Tryz.zeroValue45
 t51:=Tryz.underlying237
 a51:=Tryz.isAgg237
 z51:=Tryz.sizeOf237
 v51:=Tryz.zeroValue237
 t53:=Tryz.underlying266
 a53:=Tryz.isAgg266
 z53:=Tryz.sizeOf266
 v53:=Tryz.zeroValue266
 t131:=Tryz.underlying100
 a131:=Tryz.isAgg100
 z131:=Tryz.sizeOf100
 v131:=Tryz.zeroValue100
 t182:=Tryz.underlying258
 a182:=Tryz.isAgg258
 z182:=Tryz.sizeOf258
 v182:=Tryz.zeroValue258
 t183:=Tryz.underlying259
 a183:=Tryz.isAgg259
 z183:=Tryz.sizeOf259
 v183:=Tryz.zeroValue259
 t218:=Tryz.underlying283
 a218:=Tryz.isAgg283
 z218:=Tryz.sizeOf283
 v218:=Tryz.zeroValue283
 t222:=Tryz.underlying124
 a222:=Tryz.isAgg124
 z222:=Tryz.sizeOf124
 v222:=Tryz.zeroValue124
 t228:=Tryz.underlying309
 a228:=Tryz.isAgg309
 z228:=Tryz.sizeOf309
 v228:=Tryz.zeroValue309
 t229:=Tryz.underlying175
 a229:=Tryz.isAgg175
 z229:=Tryz.sizeOf175
 v229:=Tryz.zeroValue175}
open Go.Sort Go.RowKit in
theorem Tryz.slices_Sort_int(blk off cap:Nat)(zs:List Int)(w:World)(hH:Holds (Value.int .i64) w blk off zs.toArray)(hblk:blk<w.heap.size)(hsz:zs.length<4611686018427387904):
 Calls Tryz.prog 124 #[.slice (some ⟨blk,off,none⟩) zs.length cap] w fun e w'=>
  e= .returned (.tuple #[])/\∃n os,w'=grow (putRow (Value.int .i64) (Sort.ahead w n) blk off (zs.mergeSort fun x y=>decide (x<=y)).toArray) os:=Any.slices_Sort_int Tryz.lays189 blk off cap zs w hH hblk hsz
def Tryz.lays190_ren:Go.Shelf.Ren:=⟨fun|190=>210|125=>177|258=>241|128=>225|129=>226|302=>259|303=>260|304=>261|305=>262|306=>263|307=>264|308=>265|309=>266|310=>267|333=>276|329=>246|330=>247|334=>277|335=>278|336=>279|344=>284|n=>n,fun|31=>99|9=>9|3=>3|46=>45|0=>0|51=>237|53=>266|4=>4|183=>259|182=>258|131=>100|5=>5|218=>283|222=>124|228=>309|229=>175|n=>n,fun|n=>n⟩
theorem Tryz.lays190:Go.Proofs.Lays.n190 Tryz.prog Tryz.lays190_ren:={
 mixed:=by kernel_rfl
 f125:=Tryz.func177.trans (congrArg some (by kernel_rfl))
 f128:=Tryz.func225.trans (congrArg some (by kernel_rfl))
 f129:=Tryz.func226.trans (congrArg some (by kernel_rfl))
 f190:=Tryz.func210.trans (congrArg some (by kernel_rfl))
 f258:=Tryz.func241.trans (congrArg some (by kernel_rfl))
 f302:=Tryz.func259.trans (congrArg some (by kernel_rfl))
 f303:=Tryz.func260.trans (congrArg some (by kernel_rfl))
 f304:=Tryz.func261.trans (congrArg some (by kernel_rfl))
 f305:=Tryz.func262.trans (congrArg some (by kernel_rfl))
 f306:=Tryz.func263.trans (congrArg some (by kernel_rfl))
 f307:=Tryz.func264.trans (congrArg some (by kernel_rfl))
 f308:=Tryz.func265.trans (congrArg some (by kernel_rfl))
 f309:=Tryz.func266.trans (congrArg some (by kernel_rfl))
 f310:=Tryz.func267.trans (congrArg some (by kernel_rfl))
 f329:=Tryz.func246.trans (congrArg some (by kernel_rfl))
 f330:=Tryz.func247.trans (congrArg some (by kernel_rfl))
 f333:=Tryz.func276.trans (congrArg some (by kernel_rfl))
 f334:=Tryz.func277.trans (congrArg some (by kernel_rfl))
 f335:=Tryz.func278.trans (congrArg some (by kernel_rfl))
 f336:=Tryz.func279.trans (congrArg some (by kernel_rfl))
 f344:=Tryz.func284.trans (congrArg some (by kernel_rfl))
 t0:=Tryz.underlying0
 a0:=Tryz.isAgg0
 z0:=Tryz.sizeOf0
 v0:=Tryz.zeroValue0
 t3:=Tryz.underlying3
 a3:=Tryz.isAgg3
 z3:=Tryz.sizeOf3
 v3:=Tryz.zeroValue3
 t4:=Tryz.underlying4
 a4:=Tryz.isAgg4
 z4:=Tryz.sizeOf4
 v4:=Tryz.zeroValue4
 t5:=Tryz.underlying5
 a5:=Tryz.isAgg5
 z5:=Tryz.sizeOf5
 v5:=Tryz.zeroValue5
 t9:=Tryz.underlying9
 a9:=Tryz.isAgg9
 z9:=Tryz.sizeOf9
 v9:=Tryz.zeroValue9
 t31:=Tryz.underlying99
 a31:=Tryz.isAgg99
 z31:=Tryz.sizeOf99
 v31:=Tryz.zeroValue99
 t46:=Tryz.underlying45
 a46:=Tryz.isAgg45
 z46:=Tryz.sizeOf45
 v46:=Tryz.zeroValue45
 t51:=Tryz.underlying237
 a51:=Tryz.isAgg237
 z51:=Tryz.sizeOf237
 v51:=Tryz.zeroValue237
 t53:=Tryz.underlying266
 a53:=Tryz.isAgg266
 z53:=Tryz.sizeOf266
 v53:=Tryz.zeroValue266
 t131:=Tryz.underlying100
 a131:=Tryz.isAgg100
 z131:=Tryz.sizeOf100
 v131:=Tryz.zeroValue100
 t182:=Tryz.underlying258
 a182:=Tryz.isAgg258
 z182:=Tryz.sizeOf258
 v182:=Tryz.zeroValue258
 t183:=Tryz.underlying259
 a183:=Tryz.isAgg259
 z183:=Tryz.sizeOf259
 v183:=Tryz.zeroValue259
 t218:=Tryz.underlying283
 a218:=Tryz.isAgg283
 z218:=Tryz.sizeOf283
 v218:=Tryz.zeroValue283
 t222:=Tryz.underlying124
 a222:=Tryz.isAgg124
 z222:=Tryz.sizeOf124
 v222:=Tryz.zeroValue124
 t228:=Tryz.underlying309
 a228:=Tryz.isAgg309
 z228:=Tryz.sizeOf309
 v228:=Tryz.zeroValue309
 t229:=Tryz.underlying175
 a229:=Tryz.isAgg175
 z229:=Tryz.sizeOf175
 v229:=Tryz.zeroValue175}
open Go.Sort Go.RowKit in
theorem Tryz.slices_Sort_string(blk off cap:Nat)(ss:List (List UInt8))(w:World)(hH:Holds encStr w blk off ss.toArray)(hblk:blk<w.heap.size)(hsz:ss.length<4611686018427387904):
 Calls Tryz.prog 210 #[.slice (some ⟨blk,off,none⟩) ss.length cap] w fun e w'=>
  e= .returned (.tuple #[])/\∃n os,w'=grow (putRow encStr (Sort.ahead w n) blk off (ss.mergeSort fun x y=>decide (x<=y)).toArray) os:=Any.slices_Sort_string Tryz.lays190 blk off cap ss w hH hblk hsz
def Tryz.lays111_ren:Go.Shelf.Ren:=⟨fun|111=>67|n=>n,fun|28=>103|3=>3|4=>4|0=>0|n=>n,fun|n=>n⟩
theorem Tryz.lays111:Go.Proofs.Lays.n111 Tryz.prog Tryz.lays111_ren:={
 mixed:=by kernel_rfl
 f111:=Tryz.func67.trans (congrArg some (by kernel_rfl))
 t0:=Tryz.underlying0
 a0:=Tryz.isAgg0
 z0:=Tryz.sizeOf0
 v0:=Tryz.zeroValue0
 t3:=Tryz.underlying3
 a3:=Tryz.isAgg3
 z3:=Tryz.sizeOf3
 v3:=Tryz.zeroValue3
 t4:=Tryz.underlying4
 a4:=Tryz.isAgg4
 z4:=Tryz.sizeOf4
 v4:=Tryz.zeroValue4
 t28:=Tryz.underlying103
 a28:=Tryz.isAgg103
 z28:=Tryz.sizeOf103
 v28:=Tryz.zeroValue103}
open Go.RowKit Go.Lib in
theorem Tryz.slices_Equal_int(b1 o1 n c b2 o2 m d:Nat)(xs ys:List Int)(w:World)(hx:n<=xs.length)(hy:m<=ys.length)(hbig:n<=9223372036854775807)(hbig2:m<=9223372036854775807)(hc1:∀j,j<xs.length->w.cell? ⟨b1,o1+j,none⟩=some (.int .i64 (xs.getD j 0)))(hc2:∀j,j<ys.length->w.cell? ⟨b2,o2+j,none⟩=some (.int .i64 (ys.getD j 0))):
 Calls Tryz.prog 67 #[.slice (some ⟨b1,o1,none⟩) n c,.slice (some ⟨b2,o2,none⟩) m d] w fun e w'=>e= .returned (.bool (xs.take n==ys.take m))/\∃q,w'=w.drewN q:=Any.slices_Equal_int Tryz.lays111 b1 o1 n c b2 o2 m d xs ys w hx hy hbig hbig2 hc1 hc2
open Go.RowKit Go.Lib in
theorem Tryz.slices_Equal_int_empty(a1 a2:Option Addr)(c m d:Nat)(w:World)(hbig2:m<=9223372036854775807):
 Calls Tryz.prog 67 #[.slice a1 0 c,.slice a2 m d] w fun e w'=>e= .returned (.bool (decide (m=0)))/\w'=w:=Any.slices_Equal_int_empty Tryz.lays111 a1 a2 c m d w hbig2
open Go.RowKit Go.Sort in
theorem Tryz.slices_Sort_string_none(p:Option Addr)(cap:Nat)(w:World):
 Calls Tryz.prog 210 #[.slice p 0 cap] w fun e w'=>e= .returned (.tuple #[])/\w'=w:=Any.slices_Sort_string_none Tryz.lays190 p cap w
open Go.RowKit Go.Sort in
theorem Tryz.slices_Sort_int_none(p:Option Addr)(cap:Nat)(w:World):
 Calls Tryz.prog 124 #[.slice p 0 cap] w fun e w'=>e= .returned (.tuple #[])/\w'=w:=Any.slices_Sort_int_none Tryz.lays189 p cap w
open Go.RowKit Go.Lib in
theorem Tryz.slices_Equal_int_lens(a1 a2:Option Addr)(n c m d:Nat)(w:World)(hnm:n≠m):
 Calls Tryz.prog 67 #[.slice a1 n c,.slice a2 m d] w fun e w'=>e= .returned (.bool false)/\w'=w:=Any.slices_Equal_int_lens Tryz.lays111 a1 a2 n c m d w hnm
end Go.Proofs
namespace Go.Proofs.YtpehidgjfcfjoaaGreatDoor
open Go.RowKit Go.Deep Go.Maps
theorem ji4:SortC Tryz.prog 210:=⟨Tryz.slices_Sort_string,Tryz.slices_Sort_string_none none 0⟩
theorem Z_own{w w0:World}{B:Nat}{v:Value}{l:List ByteArray}(h:OwnR 1 ETx 9 w0 w B v l):w.ownsRow B 9 1 v l.length (h.choose):=h.choose_spec.1
theorem jfs{w w':World}(h:w.grownBy w' none):Below w.heap.size w w':=(Below.refl w.heap.size w).grown h (Nat.le_refl _) (fun k hk=>by cases hk)
def mkK(x:ByteArray):Value:= .string x
def mkV(c:ByteArray×Int):Value:= .agg #[.string c.1,.int .i64 c.2]
theorem invK(key:Value)(z:Lit)(h:keyOf Tryz.prog 9 key=some z):∃x,key=mkK x:=by
 obtain⟨x,rfl,_⟩:=Maps.keyOf_str Tryz.underlying9 h;exact⟨ofL x,rfl⟩
theorem key_is{x:ByteArray}{z:Lit}(h:keyOf Tryz.prog 9 (.string x)=some z):z=kl x/\x.size<=maxLen:=by
 obtain⟨y,hy,rfl,hl⟩:=Maps.keyOf_str Tryz.underlying9 h;have:x=ofL y:=by
  have h1:Value.string x=Value.string (ofL y):=hy;injection h1
 subst this;refine⟨by unfold kl ofL;simp,?_⟩;show(ofL y).data.size<=_;unfold ofL;simpa using hl
theorem invV(v:Value)(y:DataW Unit×List MemPlace)(h:eR v=some y):∃c,v=mkV c:=by
 obtain⟨s,r,rfl,_⟩:=jo7 h;exact⟨(s,r),rfl⟩
theorem ji5(W:World)(p:Value)(m:Nat)(s:Kv.St)(r:Int)(h:EAt W p (some m) s):Calls Tryz.prog 173 #[p,.int .i64 r] W (KTx (Kv.since s r) W):=by
 have G:=zh h.good;have CE:=zh (jbs W p (some m) s h);obtain⟨D,hD,hI⟩:=show jbr Tryz.prog 9 W m s.l from h.map
 have HD:=zh hD;have HI:=zh hI;have HML:Hid (m<W.heap.size):=h.map.lt;clear h hD hI;go_in;go_wp2_with(first|(go_at_call 178;(with_reducible refine CE.out.mono ?_);rintro e w1 ⟨rfl,hw⟩;subst hw)|(at_range;refine wpList_range_own _ rfl _ _ rfl _ _ (string_keyed Tryz.underlying9) Tryz.underlying86 eR m _ D rfl HD.out ?_;intro w0 hrg0 hg0 hs0;have RG0:=zh hrg0;have G0:=zh hg0;have S0:=zh hs0;clear hrg0 hg0 hs0;go_frame));have B0:=zh (jfs G0.out);obtain⟨it,hit⟩:∃it,it=w1.heap.size:=⟨_,rfl⟩;rw[<-hit]at RG0⊢;have HIT:=zh hit;have MS:=zh HI.out.size;clear hit;go_loopw [5] (fun v wr=>∃left cnt ks,wr.ranges Tryz.prog 9 eR m it s.l.length D left cnt/\jm2 wr w0.heap.size v ks/\Coll s.l r left ks/\ks.length+cnt<=s.l.length/\Below w1.heap.size w1 wr/\w0.heap.size<=wr.heap.size) (fun _ wr=>wr.rangeLeft m it)
 case atStart=>exact⟨_,_,[],RG0.out,OwnR.none_ _ _ _ _,Coll.start HI.out r,by rw[MS.out];simp,B0.out,Nat.le_refl _⟩
 case round=>
  obtain⟨left,cnt,ks,hrg,hown,hcoll,hlen,hbr,hsz⟩:=hrel;have RG:=zh hrg;have O:=zh hown;have CO:=zh hcoll;have LE:=zh hlen;have B:=zh hbr;have SZ:=zh hsz;clear hrg hown hcoll hlen hbr hsz;go_wp2_with(at_next;refine wpList_next_ranges _ rfl _ rfl 9 (string_keyed Tryz.underlying9) eR mkK mkV invK invV m it _ D left cnt rfl RG.out ?_ ?_)
  ·intro _ hl0
   have ES:=zh (CO.out.all hl0 G.out.rise s.rev);have LN:Hid (ks.length<=1000000):=by have:=LE.out;have:=G.out.len;show _<=_;omega
   have CS:=zh (jta ji4 O.out LN.out);go_wp2_with(go_at_call 210;(with_reducible refine CS.out.mono ?_);rintro en w9 ⟨rfl,ho9,hg9⟩;have O9:=zh ho9;have G9:=zh hg9;clear ho9 hg9);go_ret;rw[ES.out]at O9;have B9:Below w1.heap.size w1 w9:=B.out.grown G9.out B.out.size (fun k hk=>by have:=(O.out.lt k hk).1;have:=S0.out;omega);exact⟨_,rfl,OwnR.lower O9.out (by have:=S0.out;omega),B9⟩
  ·intro x c1 c2 z y1 y2 wx cnt1 hk hl hv hat hrg1 hlt hg1 hs1 hen
   obtain⟨rfl,hkx⟩:=key_is hk;obtain⟨rfl,rfl⟩:y1=eD c1 c2/\y2=[]:=by
    have h1:=(Option.some.inj hv).symm;exact⟨congrArg Prod.fst h1,congrArg Prod.snd h1⟩
   obtain⟨e,he,e3,e4⟩:=HI.out.entry hat;subst e3 e4;have RG1:=zh hrg1;have HS1:=zh hs1;have B1:=zh (B.out.grown hg1 B.out.size (fun k hk=>by injection hk with hk;have:=HIT.out;omega))
   have HLT:=zh hlt;have HL:=zh hl;have hen2:(Instr.entry (.pointer (some ⟨it,0,none⟩))).run Tryz.prog wx= .ok (.tuple #[.string x,.agg #[.string e.val,.int .i64 e.rev]]) wx:=hen;have CO1:=zh (CO.out.step hl he);have hne:some it≠u5.ownBlock:=row_ne_iter (Z_own O.out) RG.out;have O1:=zh (jm2.any (w1:=wx) (O.out.kept hg1 (fun e=>hne e.symm)));have S1:Hid (w0.heap.size<=wx.heap.size):=by have:=SZ.out;show _<=_;omega
   have BN:=zh ((Below.refl wx.heap.size wx).alloc (Nat.le_refl _) (.cells #[.string e.val,.int .i64 e.rev] 228));have RN:=zh (heap_alloc_new wx (.cells #[.string e.val,.int .i64 e.rev] 228));have RG2:=zh (hrg1.alloc (.cells #[.string e.val,.int .i64 e.rev] 228));have hw:wr.rangeLeft m it=cnt:=RG.out.left_eq;have HW:=zh hw;have LN:Hid (ks.length<=1000000):=by have:=LE.out;have:=G.out.len;show _<=_;omega
   clear hk hv hl hat hrg1 hlt hg1 hs1 hen hne hw;simp only[mkK,mkV];go_upto_region 5 with fail
   obtain⟨gn,hgn⟩:∃gn,gn=wx.heap.size:=⟨_,rfl⟩;rw[<-hgn]at RN⊢;have O2:=zh (jm2.any (w1:=wx.alloc (.cells #[.string e.val,.int .i64 e.rev] 228)) (O1.out.below BN.out));have B2:=zh (B1.out.trans (BN.out.mono B1.out.size));have S2:=zh (Nat.le_trans S1.out BN.out.size);have en1:(wx.alloc (.cells #[.string e.val,.int .i64 e.rev] 228)).cell? ⟨gn,1,none⟩=some (.int .i64 e.rev):=by rw[cell_of_row _ gn 1 _ _ _ RN.out];rfl
   clear hgn BN RN hen2;generalize wx.alloc (.cells #[.string e.val,.int .i64 e.rev] 228)=wy at*;by_cases hr:r<e.rev
   ·rw[if_pos hr]at CO1
    go_wp2_with(at_builtin;refine jfr rfl (.tmp 20) (.tmp 22) rfl w0.heap.size _ _ rfl O2.out x rfl LN.out S2.out ?_;intro v3 w3 ho3 hb3 hg3;have O3:=zh ho3;have B3:=zh hb3;have G3:=zh hg3;clear ho3 hb3 hg3);have RG3:=RG2.out.kept G3.out (fun e=>by have:=(O2.out.lt m e.symm).1;have:=HML.out;have:=S0.out;omega) (row_ne_iter (Z_own O2.out) RG2.out);exact⟨⟨_,_,_,RG3,O3.out,CO1.out,by have:=LE.out;have:=HLT.out;simp only[List.length_append,List.length_singleton];omega,B2.out.trans (B3.out.mono (by have:=S0.out;omega)),Nat.le_trans S2.out (G3.out.size)⟩,by rw[RG3.left_eq,HW.out];exact HLT.out⟩
   ·rw[if_neg hr]at CO1
    go_wp2_with fail;exact⟨⟨_,_,_,RG2.out,O2.out,CO1.out,by have:=LE.out;have:=HLT.out;omega,B2.out,S2.out⟩,by rw[RG2.out.left_eq,HW.out];exact HLT.out⟩
theorem ji6(W:World)(p:Value)(s:Kv.St)(r:Int)(h:EAt W p none s):Calls Tryz.prog 173 #[p,.int .i64 r] W (KTx [] W):=by
 have CE:=zh (jbs W p none s h);have hrg:=run_range_nilMap (P:=Tryz.prog) W _ _ _ Tryz.underlying86;have hnx:=fun ty=>run_next_nilMap (P:=Tryz.prog) W ty 0 0 #[];have B1:=zh ((Below.refl W.heap.size W).alloc (Nat.le_refl _) (.mapIter none 0 #[] 0));have CS:=zh (ji4.none_ (W.alloc (.mapIter none 0 #[] 0)));clear h;go_in;go_wp2_with(go_at_call 178;(with_reducible refine CE.out.mono ?_);rintro e w1 ⟨rfl,hw⟩;subst hw);go_loopw [5] (fun v wr=>v= .slice none 0 0/\wr=w1.alloc (.mapIter none 0 #[] 0)) (fun _ _=>0)
 case atStart=>exact⟨rfl,rfl⟩
 case round=>
  obtain⟨rfl,rfl⟩:=hrel;go_wp2_with(go_at_call 210;(with_reducible refine CS.out.mono ?_);rintro en w9 ⟨rfl,hw⟩;have HW:=zh hw;clear hw);go_ret;exact⟨_,rfl,OwnR.none_ _ _ _ _,by rw[HW.out];exact B1.out⟩
theorem jks(W:World)(p:Value)(mo:Option Nat)(s:Kv.St)(r:Int)(h:EAt W p mo s):Calls Tryz.prog 173 #[p,.int .i64 r] W (KTx (Kv.since s r) W):=by
 cases mo with
 |some m=>exact ji5 W p m s r h
 |none=>
  have e:s.l=[]:=h.map;have:Kv.since s r=[]:=by unfold Kv.since;rw[e];rfl
  rw[this];exact ji6 W p s r h
theorem jm6(W:World)(p:Value)(mo:Option Nat)(s:Kv.St)(h:EAt W p mo s):Calls Tryz.prog 122 #[p] W (KTx (Kv.keysOf s.l) W):=by
 have C:=zh (jks W p mo s 0 h);have E:=zh (Kv.since_zero h.good);rw[E.out]at C;clear h;go_in;go_wp2_with(go_at_call 173;(with_reducible refine C.out.mono ?_);rintro e w1 ⟨v,rfl,ho,hb⟩;have O:=zh ho;have B:=zh hb;clear ho hb);go_ret;exact⟨_,rfl,O.out,B.out⟩
abbrev opV(o:Kv.Po):Value:= .agg #[.string o.key,.string o.val,.int .i64 o.rev,.bool o.drop]
namespace Kv
def badB(o:Po):Bool:=decide (o.key.size=0)|| (decide (64<o.key.size)|| decide (64<o.val.size))
def oddB(s:St)(o:Po):Bool:=decide (0<=o.rev)&& !decide (o.rev=revOf s.l o.key)
def lackB(s:St)(o:Po):Bool:=o.drop&& !(find s.l o.key).isSome
theorem badB_iff{o:Po}:badB o=true↔¬PoOk o:=by
 unfold badB PoOk;simp only[Bool.or_eq_true,decide_eq_true_eq];omega
theorem oddB_iff{s:St}{o:Po}:oddB s o=true↔Odd s o:=by
 unfold oddB Odd;simp
theorem lackB_iff{s:St}(hs:Good s){o:Po}:lackB s o=true↔Lacks s o:=by
 unfold lackB Lacks;rw[rev_zero hs]
 cases find s.l o.key<;>simp
end Kv
def FnB(g:Nat)(pre:Array Value)(p:Kv.Po->Bool)(w0:World)(l:List Kv.Po):Prop:=
 ∀W o,o∈l->Below w0.heap.size w0 W->Calls Tryz.prog g (pre.push (opV o)) W (fun e w'=>e= .returned (.bool (p o))/\Below W.heap.size W w')
theorem jkt(g:Nat)(pre:Array Value)(p:Kv.Po->Bool)(eg:∀args w,(callFunc g args).run Tryz.prog w= .ok (.enter g args) w)(l:List Kv.Po)(n c:Nat)(A:Option Addr)(w0 w:World)(h:SlP w0 A n c l)(hb0:Below w0.heap.size w0 w)(hp:FnB g pre p w l):
  Calls Tryz.prog 257 #[.slice A n c,.func (.func g) pre #[]] w (fun e w'=>∃i:Int,e= .returned (.int .i64 i)/\(0<=i↔l.any p=true)/\Below w.heap.size w w'):=by
 have hn:=h.len;have hmx:=h.max;have hcp:=h.cap;unfold maxLen at hmx;have HA:=zh h;have HN:=zh hn;have B0:=zh hb0;have HP:=zh hp;clear h hn hb0 hp;go_in;go_wp2_with fail;go_loopw [5,8] (fun _ i wr=>∃j:Nat,j<=n/\i= .int .i64 j/\(∀o∈l.take j,p o=false)/\Below w.heap.size w wr) (fun _ i _=>n -(intOf i).toNat)
 case atStart=>exact⟨0,zv,rfl,by simp,Below.refl _ _⟩
 case round=>
  obtain⟨j,hj,rfl,hok,hbr⟩:=hrel;have OK:=zh hok;have B:=zh hbr;have BB:=zh (B0.out.trans (hbr.mono B0.out.size));clear hok hbr;by_cases hlt:j<n
  ·obtain⟨b1,o1,rfl⟩:=HA.out.addr (by have:=HN.out;omega)
   have EA:Hid (l[j]? =some (l[j]'(by have:=HN.out;omega))):=List.getElem?_eq_getElem _;generalize l[j]'(by have:=HN.out;omega)=x at*;obtain⟨p0,p1,p2,p3⟩:=HA.out.po EA.out BB.out;have HM:Hid (x∈l):=List.mem_of_getElem? EA.out;have CC:=zh (HP.out _ x HM.out B.out)
   cases hq:p x with
   |true=>
    rw[hq]at CC;have HQ:=zh hq;clear hq;go_wp2_with(go_at_fn g;(with_reducible refine CC.out.mono ?_);rintro e w1 ⟨rfl,hb1⟩;have B1:=zh (B.out.trans (hb1.mono B.out.size));clear hb1);go_ret;refine⟨_,rfl,?_,B1.out⟩;rw[List.any_eq_true];exact⟨fun _=>⟨x,HM.out,HQ.out⟩,fun _=>by omega⟩
   |false=>
    rw[hq]at CC;have HQ:=zh hq;clear hq;go_wp2_with(go_at_fn g;(with_reducible refine CC.out.mono ?_);rintro e w1 ⟨rfl,hb1⟩;have B1:=zh (B.out.trans (hb1.mono B.out.size));clear hb1);refine⟨⟨j+1,zv,by go_num,fun o ho=> ?_,B1.out⟩,by simp[intOf];omega⟩;rw[List.take_add_one,EA.out]at ho;rcases List.mem_append.1 ho with ho|ho
    ·exact OK.out o ho
    ·simp at ho;subst ho;exact HQ.out
  ·have E:Hid (l.take j=l):=List.take_of_length_le (by have:=HN.out;omega)
   rw[E.out]at OK;go_wp2;go_ret;refine⟨_,rfl,?_,B.out⟩;rw[List.any_eq_true];refine⟨fun h=>by omega,fun⟨o,ho,hp⟩=> ?_⟩;rw[OK.out o ho]at hp
   cases hp
theorem jcu(g:Nat)(pre:Array Value)(p:Kv.Po->Bool)(eg:∀args w,(callFunc g args).run Tryz.prog w= .ok (.enter g args) w)(l:List Kv.Po)(n c:Nat)(A:Option Addr)(w0 w:World)(h:SlP w0 A n c l)(hb0:Below w0.heap.size w0 w)(hp:FnB g pre p w l):
  Calls Tryz.prog 235 #[.slice A n c,.func (.func g) pre #[]] w (fun e w'=>e= .returned (.bool (l.any p))/\Below w.heap.size w w'):=by
 have C:=zh (jkt g pre p eg l n c A w0 w h hb0 hp);clear h hb0 hp eg;generalize l.any p=b at C⊢;go_in;go_wp2_with(go_at_call 257;(with_reducible refine C.out.mono ?_);rintro e w1 ⟨i,rfl,hi,hb1⟩;have B1:=zh hb1;have HI:=zh hi;clear hb1 hi);go_ret;refine⟨?_,B1.out⟩
 cases b with
 |true=>
  have:0<=i:=HI.out.2 rfl;simp[this]
 |false=>
  have:¬0<=i:=fun h=>by have:=HI.out.1 h;cases this
  simp[this]
theorem zz1g{p:Prop}(h:p:=by
 go_in
 go_wp2;go_ret;refine⟨?_,B1.out⟩;show Ending.returned (.bool _)=Ending.returned (.bool _);refine congrArg (fun b=>Ending.returned (.bool b)) ?_;rw[Bool.eq_iff_iff];simp;omega):p:=h
theorem jpc(W:World)(o:Kv.Po)(h1:o.key.size<=maxLen)(h2:o.val.size<=maxLen):Calls Tryz.prog 236 (#[].push (opV o)) W (fun e w'=>e= .returned (.bool (Kv.badB o))/\Below W.heap.size W w'):=by
 have B1:=zh ((Below.refl W.heap.size W).alloc (Nat.le_refl _) (.cells #[.string o.key,.string o.val,.int .i64 o.rev,.bool o.drop] 220));unfold maxLen at h1 h2;have hs1:(o.key.size:Int)<=9223372036854775807:=by omega
 have hs2:(o.val.size:Int)<=9223372036854775807:=by omega
 unfold opV Kv.badB;obtain⟨key,val,rev,drop⟩:=o;simp only at*;show Calls _ _ #[_] _ _;by_cases g1:key.size=0
 ·have hk:key=⟨#[]⟩:=ByteArray.ext (Array.eq_empty_of_size_eq_zero g1)
  subst hk;go_in;go_wp2;go_ret;exact⟨rfl,B1.out⟩
 ·have hk:key.toList.isEmpty=false:=by
   rw[Bool.eq_false_iff];intro h;refine g1 ?_;have h1:key.toList=ByteArray.toList ⟨#[]⟩:=(List.isEmpty_iff.1 h).trans (by rw[ByteArray.toList_eq]);rw[Kv.teq.1 (beq_iff_eq.2 h1)];rfl
  by_cases g2:(64:Int)<key.size
  ·exact zz1g
  ·exact zz1g
open Go.WideMaps
def eU:Value->Option (DataW Unit×List MemPlace)
 | .agg ⟨[]⟩=>some (.agg [],[])
 |_=>none
theorem eU_mk:eU (.agg #[])=some (.agg [],[]):=rfl
def jc6(w:World)(b:Nat)(ks:List ByteArray):Prop:=
 ∃D n,w.ownsMap Tryz.prog 9 eU b n D/\n<=ks.length/\Tidy D/\(∀k:ByteArray,Maps.has D (kl k)=true↔k∈ks)/\Maps.size D<=ks.length/\(Maps.size D=ks.length↔ks.Pairwise fun a b=>a≠b)
theorem jc6.made(w:World):jc6 (w.alloc (.map #[] 0)) w.heap.size []:=
 ⟨_,0,World.ownsMap_made w _ _ _,Nat.le_refl _,tidy_empty,fun k=>by simp[Maps.has],Nat.le_refl _,by simp[Maps.size]⟩
theorem jc6.lt{w:World}{b:Nat}{ks:List ByteArray}(h:jc6 w b ks):b<w.heap.size:=by
 obtain⟨D,n,h1,_⟩:=h;exact h1.lt
theorem jc6.keep{w w':World}{b:Nat}{ks:List ByteArray}(h:jc6 w b ks)(hb:w'.heap[b]? =w.heap[b]?):jc6 w' b ks:=by
 obtain⟨D,n,⟨es,clock,h1,h2⟩,hd⟩:=h;exact⟨D,n,⟨es,clock,hb.trans h1,h2⟩,hd⟩
theorem jc6.on{w w':World}{b:Nat}{ks:List ByteArray}(h:jc6 w b ks)(hb:Below w.heap.size w w'):jc6 w' b ks:=h.keep (hb.block b h.lt)
theorem jc6.len{w:World}{b:Nat}{ks:List ByteArray}(h:jc6 w b ks)(ty:TypeId):∃m:Nat,m<=ks.length/\(m=ks.length↔ks.Pairwise fun a b=>a≠b)/\(Builtin.len_ #[296] ty #[.map (some b)]).run Tryz.prog w= .ok (.int .i64 (m:Nat)) w:=by
 obtain⟨D,n,h1,_,_,_,h3,h4⟩:=h;exact⟨_,h3,h4,h1.len Tryz.underlying296 ty⟩
theorem jc6.put{w:World}{b:Nat}{ks:List ByteArray}(h:jc6 w b ks)(hl:ks.length<=1000000)(k:ByteArray)(hs:k.size<=maxLen):
  ∃w',(Instr.mapUpdate 296 (.map (some b)) (.string k) (.agg #[])).run Tryz.prog w= .ok () w'/\jc6 w' b (ks++[k])/\w.mapTurned w' b:=by
 obtain⟨D,n,h1,h2,ht,hh,h3,h4⟩:=h;obtain⟨w',hrun,h5,h6⟩:=h1.store (string_keyed Tryz.underlying9) Tryz.underlying296 (by unfold maxLen;omega) (keyOf_string_mk Tryz.underlying9 hs) eU_mk;refine⟨w',hrun,⟨_,_,h5,by simp;omega,ht.put (jdr k) _,fun k'=> ?_,?_,?_⟩,h6⟩
 ·by_cases hk:k'=k
  ·subst hk
   have:=has_put_same ht.isMap (jdr k') (DataW.agg (H:=Unit) []);exact⟨fun _=>by simp,fun _=>this⟩
  ·have:=has_put_other (D:=D) (k:=kl k) (k':=kl k') (fun e=>hk (jgk e)) (DataW.agg (H:=Unit) [])
   rw[show Maps.has (D.put (Lit.string k.data.toList) (.agg [])) (kl k')=Maps.has D (kl k')from this,hh k'];simp[hk]
 ·have:=size_put (k:=kl k) ht (DataW.agg (H:=Unit) [])
  show Maps.size (D.put (kl k) _)<=_;rw[this,List.length_append,List.length_singleton];split<;>omega
 ·have:=size_put (k:=kl k) ht (DataW.agg (H:=Unit) [])
  show Maps.size (D.put (kl k) _)=_↔_;rw[this,List.length_append,List.length_singleton,List.pairwise_append];by_cases hk:k∈ks
  ·rw[if_pos ((hh k).2 hk)]
   exact⟨fun h=>by omega,fun h=>absurd rfl (h.2.2 k hk k (by simp))⟩
  ·rw[if_neg (fun h=>hk ((hh k).1 h))]
   refine⟨fun h=>⟨h4.1 zv,List.pairwise_singleton _ _,fun a ha b hb e=> ?_⟩,fun h=>by rw[h4.2 h.1]⟩;simp at hb;subst hb;subst e;exact hk ha
theorem jft(w:World)(n:Nat)(t k e:TypeId)(ht:Tryz.prog.underlying t=some (.map k e)):(Instr.makeMap t (some (.int .i64 n))).run Tryz.prog w= .ok (.map (some w.heap.size)) (w.alloc (.map #[] 0)):=by
 simp[Instr.makeMap,run_underlying ht,asInt,go_sem]
theorem jgm(l:List Kv.Po)(n c:Nat)(A:Option Addr)(w0 w:World)(h:SlP w0 A n c l)(hb0:Below w0.heap.size w0 w)(hz:l.length<=70):
  Calls Tryz.prog 237 #[.slice A n c] w (KBool (¬l.Pairwise fun a b=>a.key≠b.key) w):=by
 have hn:=h.len;have hmx:=h.max;have hcp:=h.cap;unfold maxLen at hmx;have HA:=zh h;have HN:=zh hn;have HZ:=zh hz;have B0:=zh hb0;have hmm:=jft w n 296 9 297 Tryz.underlying296;have S0:=zh (jc6.made w);have BM:=zh ((Below.refl w.heap.size w).alloc (Nat.le_refl _) (.map #[] 0));have LT:Hid (w.heap.size<(w.alloc (.map #[] 0)).heap.size):=S0.out.lt;clear h hn hb0 hz;go_in;go_wp2_with fail;clear hmm;obtain⟨m,hm⟩:∃m,m=w.heap.size:=⟨_,rfl⟩;rw[<-hm]at S0 LT⊢;have HM:=zh hm;clear hm;generalize w.alloc (.map #[] 0)=w1 at*;go_loopw [11] (fun i wr=>∃j:Nat,j<=n/\i= .int .i64 j/\jc6 wr m ((l.take j).map (·.key))/\Below w.heap.size w wr) (fun i _=>n -(intOf i).toNat)
 case atStart=>exact⟨0,zv,rfl,S0.out,BM.out⟩
 case round=>
  obtain⟨j,hj,rfl,hs,hbr⟩:=hrel;have SE:=zh hs;have B:=zh hbr;have BB:=zh (B0.out.trans (hbr.mono B0.out.size));clear hs hbr;by_cases hlt:j<n
  ·obtain⟨b1,o1,rfl⟩:=HA.out.addr (by have:=HN.out;omega)
   have EA:Hid (l[j]? =some (l[j]'(by have:=HN.out;omega))):=List.getElem?_eq_getElem _;generalize l[j]'(by have:=HN.out;omega)=x at*;obtain⟨p0,p1,p2,p3⟩:=HA.out.po EA.out BB.out;have KS:=zh (HA.out.poOk (List.mem_of_getElem? EA.out)).1;have ST:Hid ((l.take (j+1)).map (·.key)=(l.take j).map (·.key)++[x.key]):=by
    show _=_;rw[List.take_add_one,EA.out];simp
   have LL:Hid (((l.take j).map (·.key)).length<=1000000):=by
    show _<=_;rw[List.length_map,List.length_take];have:=HZ.out;omega
   generalize(l.take j).map (·.key)=ks at*;have BN:=zh ((Below.refl wr.heap.size wr).alloc (Nat.le_refl _) (.cells #[.string x.key,.string x.val,.int .i64 x.rev,.bool x.drop] 220));have S1:=zh (SE.out.on BN.out);obtain⟨wd,hrun,hs2,ht2⟩:=S1.out.put LL.out x.key KS.out;have S2:=zh hs2;have B2:=zh ((B.out.trans (BN.out.mono B.out.size)).grown ht2.grown (by have:=B.out.size;have:=BN.out.size;omega) (fun k hk=>by injection hk with hk;have:=HM.out;omega))
   clear hs2 ht2 BN S1;go_wp2_with fail;exact⟨⟨j+1,zv,by go_num,by rw[ST.out];exact S2.out,B2.out⟩,by simp[intOf];omega⟩
  ·have E:Hid (l.take j=l):=List.take_of_length_le (by have:=HN.out;omega)
   rw[E.out]at SE;obtain⟨z,hz1,hz2,hz3⟩:=SE.out.len 3;rw[List.length_map]at hz1 hz2;have Z1:=zh hz1;have Z2:=zh hz2;clear hz1 hz2;go_wp2;go_ret;refine⟨⟨_,rfl,?_⟩,B.out⟩;rw[<-List.pairwise_map,<-Z2.out];have:=Z1.out;have:=HN.out;simp;omega
end Go.Proofs.YtpehidgjfcfjoaaGreatDoor
namespace Go.Proofs.YtpehidgjfcfjoaaGreatDoor
open Go.RowKit Go.Deep Go.Maps
theorem jpd(W:World)(p:Value)(mo:Option Nat)(s:Kv.St)(h:EAt W p mo s)(o:Kv.Po)(hk:o.key.size<=maxLen):Calls Tryz.prog 238 (#[p].push (opV o)) W (fun e w'=>e= .returned (.bool (Kv.oddB s o))/\Below W.heap.size W w'):=by
 have B1:=zh ((Below.refl W.heap.size W).alloc (Nat.le_refl _) (.cells #[.string o.key,.string o.val,.int .i64 o.rev,.bool o.drop] 220));have R1:=zh (heap_alloc_new W (.cells #[.string o.key,.string o.val,.int .i64 o.rev,.bool o.drop] 220));have C:=zh (ji1 _ p mo s (h.on B1.out) o.key hk);unfold KGet at C;unfold opV Kv.oddB;generalize Kv.valOf s.l o.key=v at*;generalize Kv.revOf s.l o.key=r at*;clear h hk;obtain⟨key,val,rev,drop⟩:=o;simp only at*;show Calls _ _ #[_,_] _ _;by_cases g0:0<=rev
 ·by_cases g1:rev=r
  ·have hee:(rev==r)=true:=by rw[beq_iff_eq];exact g1
   have G1:=zh g1;clear g1;go_in;go_wp2_with(go_at_call 125;(with_reducible refine C.out.mono ?_);rintro e w1 ⟨rfl,hb1⟩;have RR:=zh ((hb1.block _ (Array.getElem?_eq_some_iff.1 R1.out).1).trans R1.out);have B2:=zh (B1.out.trans (hb1.mono B1.out.size));have c2:w1.cell? ⟨W.heap.size,2,none⟩=some (.int .i64 rev):=(by rw[cell_of_row w1 _ 2 _ _ _ RR.out];rfl);clear hb1);go_ret;exact⟨by simp[G1.out],B2.out⟩
  ·have hee:(rev==r)=false:=by rw[beq_eq_false_iff_ne];exact g1
   have G1:=zh g1;clear g1;go_in;go_wp2_with(go_at_call 125;(with_reducible refine C.out.mono ?_);rintro e w1 ⟨rfl,hb1⟩;have RR:=zh ((hb1.block _ (Array.getElem?_eq_some_iff.1 R1.out).1).trans R1.out);have B2:=zh (B1.out.trans (hb1.mono B1.out.size));have c2:w1.cell? ⟨W.heap.size,2,none⟩=some (.int .i64 rev):=(by rw[cell_of_row w1 _ 2 _ _ _ RR.out];rfl);clear hb1);go_ret;exact⟨by simp[G1.out,g0],B2.out⟩
 ·go_in
  go_wp2_with(go_at_call 125;(with_reducible refine C.out.mono ?_);rintro e w1 ⟨rfl,hb1⟩;have RR:=zh ((hb1.block _ (Array.getElem?_eq_some_iff.1 R1.out).1).trans R1.out);have B2:=zh (B1.out.trans (hb1.mono B1.out.size));have c2:w1.cell? ⟨W.heap.size,2,none⟩=some (.int .i64 rev):=(by rw[cell_of_row w1 _ 2 _ _ _ RR.out];rfl);clear hb1);go_ret;exact⟨by simp;intro h;omega,B2.out⟩
theorem jm7(W:World)(p:Value)(mo:Option Nat)(s:Kv.St)(h:EAt W p mo s)(o:Kv.Po)(hk:o.key.size<=maxLen):Calls Tryz.prog 239 (#[p].push (opV o)) W (fun e w'=>e= .returned (.bool (Kv.lackB s o))/\Below W.heap.size W w'):=by
 have B1:=zh ((Below.refl W.heap.size W).alloc (Nat.le_refl _) (.cells #[.string o.key,.string o.val,.int .i64 o.rev,.bool o.drop] 220));have C:=zh (jiz _ p mo s (h.on B1.out) o.key hk);unfold opV Kv.lackB;generalize(Kv.find s.l o.key).isSome=b at*;clear h hk;obtain⟨key,val,rev,drop⟩:=o;simp only at*;show Calls _ _ #[_,_] _ _
 cases drop with
 |true=>
  go_in;go_wp2_with(go_at_call 258;(with_reducible refine C.out.mono ?_);rintro e w1 ⟨rfl,hb1⟩;have B2:=zh (B1.out.trans (hb1.mono B1.out.size));clear hb1);go_ret;exact⟨by simp,B2.out⟩
 |false=>
  go_in;go_wp2;go_ret;exact⟨by simp,B1.out⟩
theorem bad_fn{w0 w:World}{n c:Nat}{A:Option Addr}{l:List Kv.Po}(h:SlP w0 A n c l):FnB 236 #[] Kv.badB w l:=
 fun W o ho _=>jpc W o (h.poOk ho).1 (h.poOk ho).2.1
theorem odd_fn{w0 w:World}{p:Value}{mo:Option Nat}{s:Kv.St}{n c:Nat}{A:Option Addr}{l:List Kv.Po}(h:SlP w0 A n c l)(hk:EAt w p mo s):FnB 238 #[p] (Kv.oddB s) w l:=
 fun W o ho hb=>jpd W p mo s (hk.on hb) o (h.poOk ho).1
theorem lack_fn{w0 w:World}{p:Value}{mo:Option Nat}{s:Kv.St}{n c:Nat}{A:Option Addr}{l:List Kv.Po}(h:SlP w0 A n c l)(hk:EAt w p mo s):FnB 239 #[p] (Kv.lackB s) w l:=
 fun W o ho hb=>jm7 W p mo s (hk.on hb) o (h.poOk ho).1
namespace Kv
theorem step_size{r:Int}{l:List En}{o:Po}(hl:Rise l)(hd:o.drop=true->(find l o.key).isSome=true):((step r l o).length:Int)=l.length+(if o.drop then -1 else if(find l o.key).isSome then 0 else 1):=by
 have h1:=dropK_length hl o.key;unfold step
 cases h:o.drop with
 |true=>
  rw[hd h]at h1;simp only[if_true]at h1⊢;omega
 |false=>
  simp only[Bool.false_eq_true,if_false];rw[putK_length]
  cases h2:(find l o.key).isSome
  ·rw[h2]at h1;simp at h1⊢;omega
  ·rw[h2]at h1;simp at h1⊢;omega
end Kv
theorem jm8(w:World)(p:Value)(mo:Option Nat)(s:Kv.St)(l:List Kv.Po)(n c:Nat)(A:Option Addr)(w0:World)(hk:EAt w p mo s)(h:SlP w0 A n c l)(hb0:Below w0.heap.size w0 w)(hr:Kv.Right l)(hlk:∀o∈l,¬Kv.Lacks s o)(hz:l.length<=70):
  Calls Tryz.prog 240 #[p,.slice A n c] w (KInt ((Kv.after s l).l.length:Nat) w):=by
 have hn:=h.len;have hmx:=h.max;have hcp:=h.cap;unfold maxLen at hmx;have HA:=zh h;have HN:=zh hn;have HZ:=zh hz;have B0:=zh hb0;have HK:=zh hk;have RT:=zh hr;have GD:=zh hk.good;have NL:=zh hlk;have CL:=zh (ji0 w p mo s hk);clear h hn hb0 hk hr hz hlk;go_in;go_wp2_with(go_at_call 165;(with_reducible refine CL.out.mono ?_);rintro e w1 ⟨rfl,rfl⟩);go_loopw [5,12] (fun z i wr=>∃j:Nat,j<=n/\i= .int .i64 j/\z= .int .i64 (((l.take j).foldl (Kv.step (s.rev+1)) s.l).length:Nat)/\Below w1.heap.size w1 wr) (fun _ i _=>n -(intOf i).toNat)
 case atStart=>exact⟨0,zv,rfl,rfl,Below.refl _ _⟩
 case round=>
  obtain⟨j,hj,rfl,rfl,hbr⟩:=hrel;have B:=zh hbr;have BB:=zh (B0.out.trans (hbr.mono B0.out.size));clear hbr;by_cases hlt:j<n
  ·obtain⟨b1,o1,rfl⟩:=HA.out.addr (by have:=HN.out;omega)
   have EA:Hid (l[j]? =some (l[j]'(by have:=HN.out;omega))):=List.getElem?_eq_getElem _;generalize l[j]'(by have:=HN.out;omega)=x at*;obtain⟨p0,p1,p2,p3⟩:=HA.out.po EA.out BB.out;have HM:Hid (x∈l):=List.mem_of_getElem? EA.out;have KS:=zh (HA.out.poOk HM.out).1;have BN:=zh ((Below.refl wr.heap.size wr).alloc (Nat.le_refl _) (.cells #[.string x.key,.string x.val,.int .i64 x.rev,.bool x.drop] 220));have B2:=zh (B.out.trans (BN.out.mono B.out.size));have CH:=zh (jiz _ p mo s (HK.out.on B2.out) x.key KS.out);have LS:Hid ((l.take (j+1)).foldl (Kv.step (s.rev+1)) s.l=Kv.step (s.rev+1) ((l.take j).foldl (Kv.step (s.rev+1)) s.l) x):=Kv.steps_snoc (s.rev+1) EA.out s.l;have FL:Hid (Kv.find ((l.take j).foldl (Kv.step (s.rev+1)) s.l) x.key=Kv.find s.l x.key):=Kv.find_steps_other fun o ho=>by
    obtain⟨i,hi⟩:=List.getElem?_of_mem ho;rw[List.getElem?_take]at hi;split at hi
    ·rename_i hij
     obtain⟨g1,e1⟩:=List.getElem?_eq_some_iff.1 hi;obtain⟨g2,e2⟩:=List.getElem?_eq_some_iff.1 EA.out;have:=List.pairwise_iff_getElem.1 RT.out.2.2 i j g1 g2 hij;rw[e1,e2]at this;exact this
    ·cases hi
   have SS:=zh (Kv.step_size (r:=s.rev+1) (o:=x) (Kv.steps_rise (r:=s.rev+1) (ops:=l.take j) GD.out.rise));have LB:=Kv.steps_length (s.rev+1) (l.take j) s.l;rw[List.length_take]at LB;have LG:=GD.out.len;have LZ:=HZ.out;have hlb:((l.take j).foldl (Kv.step (s.rev+1)) s.l).length<=200:=by omega
   clear LB LG LZ;rw[FL.out]at SS;generalize hLL:((l.take j).foldl (Kv.step (s.rev+1)) s.l).length=ln at*;rw[<-LS.out]at SS;generalize hLN:((l.take (j+1)).foldl (Kv.step (s.rev+1)) s.l).length=lm at*;clear hLL;have HLN:=zh hLN;clear hLN;have LKS:Hid (x.drop=true->(Kv.find s.l x.key).isSome=true):=fun hd=>by
    have h1:=NL.out x HM.out;have h2:=Kv.rev_zero GD.out x.key
    cases hf:Kv.find s.l x.key with
    |some e=>rfl
    |none=>exact absurd ⟨hd,h2.2 hf⟩ h1
   generalize(Kv.find s.l x.key).isSome=z at*
   cases hd:x.drop with
   |true=>
    rw[hd]at p3 BN B2 CH;have SE:lm+1=ln:=by have:=SS.out LKS.out;rw[hd]at this;simp at this;omega
    have hsub:((ln:Int) -1)=((lm:Nat):Int):=by omega
    have HS:=zh hsub;clear SE hsub hd;go_wp2_with fail;exact⟨⟨j+1,zv,by go_num,by rw[HLN.out];have:=HS.out;go_num,B2.out⟩,by simp[intOf];omega⟩
   |false=>
    rw[hd]at p3 BN B2 CH
    cases z with
    |true=>
     have SE:lm=ln:=by have:=SS.out (fun _=>rfl);rw[hd]at this;simp at this;omega
     have HS:=zh SE;clear SE hd;go_wp2_with(go_at_call 258;(with_reducible refine CH.out.mono ?_);rintro e w2 ⟨rfl,hb2⟩;have B3:=zh (B2.out.trans (hb2.mono B2.out.size));clear hb2);exact⟨⟨j+1,zv,by go_num,by rw[HLN.out,HS.out],B3.out⟩,by simp[intOf];omega⟩
    |false=>
     have SE:lm=ln+1:=by have:=SS.out (fun h=>by rw[hd]at h;cases h);rw[hd]at this;simp at this;omega
     have HS:=zh SE;clear SE hd;go_wp2_with(go_at_call 258;(with_reducible refine CH.out.mono ?_);rintro e w2 ⟨rfl,hb2⟩;have B3:=zh (B2.out.trans (hb2.mono B2.out.size));clear hb2);exact⟨⟨j+1,zv,by go_num,by rw[HLN.out,HS.out];go_num,B3.out⟩,by simp[intOf];omega⟩
  ·have E:Hid (l.take j=l):=List.take_of_length_le (by have:=HN.out;omega)
   rw[E.out];have AF:Hid ((Kv.after s l).l.length=(l.foldl (Kv.step (s.rev+1)) s.l).length):=rfl;generalize(l.foldl (Kv.step (s.rev+1)) s.l).length=ln at*;go_wp2;go_ret;exact⟨by rw[AF.out];rfl,B.out⟩
open Go.Shelf
theorem jpe(w:World)(q oq:Nat)(cs:Array Value)(ty:TypeId)(mo:Option Nat)(s:Kv.St)(l:List Kv.Po)(n c:Nat)(A:Option Addr)(w0:World)(hk:KvIs w q oq cs ty mo s)(h:SlP w0 A n c l)(hb0:Below w0.heap.size w0 w)(hz:l.length<=70):
  Calls Tryz.prog 205 #[.pointer (some ⟨q,oq,none⟩),.slice A n c] w (KInt (Kv.doE s l:Nat) w):=by
 have hn:=h.len;have hmx:=h.max;have hcp:=h.cap;unfold maxLen at hmx;have HA:=zh h;have HN:=zh hn;have HZ:=zh hz;have B0:=zh hb0;have HK:=zh hk.ask;have GD:=zh hk.good;have B:=zh (Below.refl w.heap.size w);clear h hn hb0 hk hz;by_cases h0:n=0
 ·have NE:Hid (Kv.doE s l=1):=Kv.doE_right fun h=>by have:=h.1;have:=HN.out;omega
  subst h0;go_in;go_wp2;go_ret;exact⟨by rw[NE.out];rfl,B.out⟩
 have hn0:((n:Int)==0)=false:=by rw[beq_eq_false_iff_ne];omega
 have CB:Hid (∀w1,Below w.heap.size w w1->Calls Tryz.prog 235 #[.slice A n c,.func (.func 236) #[] #[]] w1 (fun e w'=>e= .returned (.bool (l.any Kv.badB))/\Below w1.heap.size w1 w')):=fun w1 hb=>jcu 236 #[] Kv.badB (enters_of Tryz.func236 zk rfl) l n c A w0 w1 HA.out (B0.out.trans (hb.mono B0.out.size)) (bad_fn HA.out)
 cases hbad:l.any Kv.badB with
 |true=>
  rw[hbad]at CB;have NE:Hid (Kv.doE s l=1):=Kv.doE_right fun h=>by
   obtain⟨o,ho,hb⟩:=List.any_eq_true.1 hbad;exact Kv.badB_iff.1 hb (h.2.1 o ho)
  clear hbad;go_in
  go_wp2_with(first
    |(go_at_call 235;(with_reducible refine(CB.out _ B.out).mono ?_);rintro e w1 ⟨rfl,hb⟩;have B:=zh (B.out.trans (hb.mono B.out.size));clear hb))
  go_ret;exact⟨by rw[NE.out];rfl,B.out⟩
 |false=>
 rw[hbad]at CB;have OK:Hid (∀o∈l,Kv.PoOk o):=fun o ho=>by
  have h1:=List.any_eq_false.1 hbad o ho;exact Classical.byContradiction fun h2=>h1 (Kv.badB_iff.2 h2)
 clear hbad;by_cases hpw:l.Pairwise fun a b=>a.key≠b.key
 case neg=>
  have CT:Hid (∀w1,Below w.heap.size w w1->Calls Tryz.prog 237 #[.slice A n c] w1 (fun e w'=>e= .returned (.bool true)/\Below w1.heap.size w1 w')):=fun w1 hb=>(jgm l n c A w0 w1 HA.out (B0.out.trans (hb.mono B0.out.size)) HZ.out).mono fun e w' ⟨⟨x,h1,h2⟩,h3⟩=>⟨by rw[h1,h2.2 hpw],h3⟩;have NE:Hid (Kv.doE s l=1):=Kv.doE_right fun h=>hpw h.2.2;clear hpw;go_in
  go_wp2_with(first
    |(go_at_call 235;(with_reducible refine(CB.out _ B.out).mono ?_);rintro e w1 ⟨rfl,hb⟩;have B:=zh (B.out.trans (hb.mono B.out.size));clear hb)
    |(go_at_call 237;(with_reducible refine(CT.out _ B.out).mono ?_);rintro e w1 ⟨rfl,hb⟩;have B:=zh (B.out.trans (hb.mono B.out.size));clear hb))
  go_ret;exact⟨by rw[NE.out];rfl,B.out⟩
 have CT:Hid (∀w1,Below w.heap.size w w1->Calls Tryz.prog 237 #[.slice A n c] w1 (fun e w'=>e= .returned (.bool false)/\Below w1.heap.size w1 w')):=fun w1 hb=>(jgm l n c A w0 w1 HA.out (B0.out.trans (hb.mono B0.out.size)) HZ.out).mono fun e w' ⟨⟨x,h1,h2⟩,h3⟩=>⟨by
   rw[h1]
   cases x with
   |false=>rfl
   |true=>exact absurd hpw (h2.1 rfl),h3⟩
 have RT:Hid (Kv.Right l):=⟨by have:=HN.out;omega,OK.out,hpw⟩;clear hpw;have CO:Hid (∀w1,Below w.heap.size w w1->Calls Tryz.prog 235 #[.slice A n c,.func (.func 238) #[.pointer (some ⟨q,oq,none⟩)] #[]] w1 (fun e w'=>e= .returned (.bool (l.any (Kv.oddB s)))/\Below w1.heap.size w1 w')):=fun w1 hb=>jcu 238 #[.pointer (some ⟨q,oq,none⟩)] (Kv.oddB s) (enters_of Tryz.func238 zk rfl) l n c A w0 w1 HA.out (B0.out.trans (hb.mono B0.out.size)) (odd_fn HA.out (HK.out.on hb))
 cases hodd:l.any (Kv.oddB s)with
 |true=>
  rw[hodd]at CO;have NE:Hid (Kv.doE s l=7):=by
   obtain⟨o,ho,hb⟩:=List.any_eq_true.1 hodd;exact Kv.doE_odd RT.out ⟨o,ho,Kv.oddB_iff.1 hb⟩
  clear hodd;go_in
  go_wp2_with(first
    |(go_at_call 235;(with_reducible refine(CB.out _ B.out).mono ?_);rintro e w1 ⟨rfl,hb⟩;have B:=zh (B.out.trans (hb.mono B.out.size));clear hb)
    |(go_at_call 237;(with_reducible refine(CT.out _ B.out).mono ?_);rintro e w1 ⟨rfl,hb⟩;have B:=zh (B.out.trans (hb.mono B.out.size));clear hb)
    |(go_at_call 235;(with_reducible refine(CO.out _ B.out).mono ?_);rintro e w1 ⟨rfl,hb⟩;have B:=zh (B.out.trans (hb.mono B.out.size));clear hb))
  go_ret;exact⟨by rw[NE.out];rfl,B.out⟩
 |false=>
 rw[hodd]at CO;have OD:Hid (∀o∈l,¬Kv.Odd s o):=fun o ho h=>List.any_eq_false.1 hodd o ho (Kv.oddB_iff.2 h);clear hodd;have CL:Hid (∀w1,Below w.heap.size w w1->Calls Tryz.prog 235 #[.slice A n c,.func (.func 239) #[.pointer (some ⟨q,oq,none⟩)] #[]] w1 (fun e w'=>e= .returned (.bool (l.any (Kv.lackB s)))/\Below w1.heap.size w1 w')):=fun w1 hb=>jcu 239 #[.pointer (some ⟨q,oq,none⟩)] (Kv.lackB s) (enters_of Tryz.func239 zk rfl) l n c A w0 w1 HA.out (B0.out.trans (hb.mono B0.out.size)) (lack_fn HA.out (HK.out.on hb))
 cases hlk:l.any (Kv.lackB s)with
 |true=>
  rw[hlk]at CL;have NE:Hid (Kv.doE s l=5):=by
   obtain⟨o,ho,hb⟩:=List.any_eq_true.1 hlk;exact Kv.doE_lacks RT.out OD.out ⟨o,ho,(Kv.lackB_iff GD.out).1 hb⟩
  clear hlk;go_in
  go_wp2_with(first
    |(go_at_call 235;(with_reducible refine(CB.out _ B.out).mono ?_);rintro e w1 ⟨rfl,hb⟩;have B:=zh (B.out.trans (hb.mono B.out.size));clear hb)
    |(go_at_call 237;(with_reducible refine(CT.out _ B.out).mono ?_);rintro e w1 ⟨rfl,hb⟩;have B:=zh (B.out.trans (hb.mono B.out.size));clear hb)
    |(go_at_call 235;(with_reducible refine(CO.out _ B.out).mono ?_);rintro e w1 ⟨rfl,hb⟩;have B:=zh (B.out.trans (hb.mono B.out.size));clear hb)
    |(go_at_call 235;(with_reducible refine(CL.out _ B.out).mono ?_);rintro e w1 ⟨rfl,hb⟩;have B:=zh (B.out.trans (hb.mono B.out.size));clear hb))
  go_ret;exact⟨by rw[NE.out];rfl,B.out⟩
 |false=>
 rw[hlk]at CL;have LK:Hid (∀o∈l,¬Kv.Lacks s o):=fun o ho h=>List.any_eq_false.1 hlk o ho ((Kv.lackB_iff GD.out).2 h);clear hlk;have CN:Hid (∀w1,Below w.heap.size w w1->Calls Tryz.prog 240 #[.pointer (some ⟨q,oq,none⟩),.slice A n c] w1 (KInt ((Kv.after s l).l.length:Nat) w1)):=fun w1 hb=>jm8 w1 _ mo s l n c A w0 (HK.out.on hb) HA.out (B0.out.trans (hb.mono B0.out.size)) RT.out LK.out HZ.out;by_cases hf:64<(Kv.after s l).l.length
 ·have NE:Hid (Kv.doE s l=4):=Kv.doE_full RT.out OD.out LK.out hf
  generalize(Kv.after s l).l.length=ln at*;have hg:decide ((64:Int)<(ln:Nat))=true:=decide_eq_true zv;go_in
  go_wp2_with(first
    |(go_at_call 235;(with_reducible refine(CB.out _ B.out).mono ?_);rintro e w1 ⟨rfl,hb⟩;have B:=zh (B.out.trans (hb.mono B.out.size));clear hb)
    |(go_at_call 237;(with_reducible refine(CT.out _ B.out).mono ?_);rintro e w1 ⟨rfl,hb⟩;have B:=zh (B.out.trans (hb.mono B.out.size));clear hb)
    |(go_at_call 235;(with_reducible refine(CO.out _ B.out).mono ?_);rintro e w1 ⟨rfl,hb⟩;have B:=zh (B.out.trans (hb.mono B.out.size));clear hb)
    |(go_at_call 235;(with_reducible refine(CL.out _ B.out).mono ?_);rintro e w1 ⟨rfl,hb⟩;have B:=zh (B.out.trans (hb.mono B.out.size));clear hb)
    |(go_at_call 240;(with_reducible refine(CN.out _ B.out).mono ?_);rintro e w1 ⟨rfl,hb⟩;have B:=zh (B.out.trans (hb.mono B.out.size));clear hb))
  go_ret;exact⟨by rw[NE.out];rfl,B.out⟩
 ·have NE:Hid (Kv.doE s l=0):=Kv.doE_ok RT.out OD.out LK.out hf
  generalize(Kv.after s l).l.length=ln at*;have hg:decide ((64:Int)<(ln:Nat))=false:=decide_eq_false zv;go_in
  go_wp2_with(first
    |(go_at_call 235;(with_reducible refine(CB.out _ B.out).mono ?_);rintro e w1 ⟨rfl,hb⟩;have B:=zh (B.out.trans (hb.mono B.out.size));clear hb)
    |(go_at_call 237;(with_reducible refine(CT.out _ B.out).mono ?_);rintro e w1 ⟨rfl,hb⟩;have B:=zh (B.out.trans (hb.mono B.out.size));clear hb)
    |(go_at_call 235;(with_reducible refine(CO.out _ B.out).mono ?_);rintro e w1 ⟨rfl,hb⟩;have B:=zh (B.out.trans (hb.mono B.out.size));clear hb)
    |(go_at_call 235;(with_reducible refine(CL.out _ B.out).mono ?_);rintro e w1 ⟨rfl,hb⟩;have B:=zh (B.out.trans (hb.mono B.out.size));clear hb)
    |(go_at_call 240;(with_reducible refine(CN.out _ B.out).mono ?_);rintro e w1 ⟨rfl,hb⟩;have B:=zh (B.out.trans (hb.mono B.out.size));clear hb))
  go_ret;exact⟨by rw[NE.out];rfl,B.out⟩
end Go.Proofs.YtpehidgjfcfjoaaGreatDoor
