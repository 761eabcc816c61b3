import Derived.Test.YtkcdaigaclpfjaaGreatDoorQy13
import Derived.Sort.OwnSorted
import Derived.Sort.KeysCollected
import Derived.Lib.SmallJoins
import Derived.Lib.LaidTab
import Derived.Lib.LaidU8
set_option maxHeartbeats 6400000
set_option maxRecDepth 100000
set_option linter.unusedSimpArgs false
set_option linter.unusedVariables false
namespace Go.Proofs.YtkcdaigaclpfjaaGreatDoor
open Go.RowKit Go.Deep Go.Maps Go.WideMaps
def eU:Value->Option (DataW Unit×List MemPlace)
 | .agg ⟨[]⟩=>some (.agg [],[])
 |_=>none
theorem eU_mk:eU (.agg #[])=some (.agg [],[]):=rfl
def jc1(w:World)(b:Nat)(ks:List ByteArray):Prop:=
 ∃D n,w.ownsMap Tryz.prog 9 eU b n D/\n<=ks.length/\Tidy D/\(∀k:ByteArray,Maps.has D (kl k)=true↔k∈ks)/\Maps.size D<=ks.length/\(Maps.size D=ks.length↔ks.Pairwise fun a b=>a≠b)
theorem jc1.made(w:World):jc1 (w.alloc (.map #[] 0)) w.heap.size []:=
 ⟨_,0,World.ownsMap_made w _ _ _,Nat.le_refl _,tidy_empty,fun k=>by simp[Maps.has],Nat.le_refl _,by simp[Maps.size]⟩
theorem jc1.lt{w:World}{b:Nat}{ks:List ByteArray}(h:jc1 w b ks):b<w.heap.size:=by
 obtain⟨D,n,h1,_⟩:=h;exact h1.lt
theorem jc1.keep{w w':World}{b:Nat}{ks:List ByteArray}(h:jc1 w b ks)(hb:w'.heap[b]? =w.heap[b]?):jc1 w' b ks:=by
 obtain⟨D,n,⟨es,clock,h1,h2⟩,hd⟩:=h;exact⟨D,n,⟨es,clock,hb.trans h1,h2⟩,hd⟩
theorem jc1.on{w w':World}{b:Nat}{ks:List ByteArray}(h:jc1 w b ks)(hb:Below w.heap.size w w'):jc1 w' b ks:=h.keep (hb.block b h.lt)
theorem jc1.len{w:World}{b:Nat}{ks:List ByteArray}(h:jc1 w b ks)(ty:TypeId):∃m:Nat,m<=ks.length/\(m=ks.length↔ks.Pairwise fun a b=>a≠b)/\(Builtin.len_ #[250] ty #[.map (some b)]).run Tryz.prog w= .ok (.int .i64 (m:Nat)) w:=by
 obtain⟨D,n,h1,_,_,_,h3,h4⟩:=h;exact⟨_,h3,h4,h1.len Tryz.underlying250 ty⟩
theorem jc1.put{w:World}{b:Nat}{ks:List ByteArray}(h:jc1 w b ks)(hl:ks.length<=1000000)(k:ByteArray)(hs:k.size<=maxLen):
  ∃w',(Instr.mapUpdate 250 (.map (some b)) (.string k) (.agg #[])).run Tryz.prog w= .ok () w'/\jc1 w' b (ks++[k])/\w.mapTurned w' b:=by
 obtain⟨D,n,h1,h2,ht,hh,h3,h4⟩:=h;obtain⟨w',hrun,h5,h6⟩:=h1.store (string_keyed Tryz.underlying9) Tryz.underlying250 (by unfold maxLen;omega) (keyOf_string_mk Tryz.underlying9 hs) eU_mk;refine⟨w',hrun,⟨_,_,h5,by simp;omega,ht.put (jef k) _,fun k'=> ?_,?_,?_⟩,h6⟩
 ·by_cases hk:k'=k
  ·subst hk
   have:=has_put_same ht.isMap (jef k') (DataW.agg (H:=Unit) []);exact⟨fun _=>by simp,fun _=>this⟩
  ·have:=has_put_other (D:=D) (k:=kl k) (k':=kl k') (fun e=>hk (jg2 e)) (DataW.agg (H:=Unit) [])
   rw[show Maps.has (D.put (Lit.string k.data.toList) (.agg [])) (kl k')=Maps.has D (kl k')from this,hh k'];simp[hk]
 ·have:=size_put (k:=kl k) ht (DataW.agg (H:=Unit) [])
  show Maps.size (D.put (kl k) _)<=_;rw[this,List.length_append,List.length_singleton];split<;>omega
 ·have:=size_put (k:=kl k) ht (DataW.agg (H:=Unit) [])
  show Maps.size (D.put (kl k) _)=_↔_;rw[this,List.length_append,List.length_singleton,List.pairwise_append];by_cases hk:k∈ks
  ·rw[if_pos ((hh k).2 hk)]
   exact⟨fun h=>by omega,fun h=>absurd rfl (h.2.2 k hk k (by simp))⟩
  ·rw[if_neg (fun h=>hk ((hh k).1 h))]
   refine⟨fun h=>⟨h4.1 zv,List.pairwise_singleton _ _,fun a ha b hb e=> ?_⟩,fun h=>by rw[h4.2 h.1]⟩;simp at hb;subst hb;subst e;exact hk ha
theorem jff(w:World)(n:Nat)(t k e:TypeId)(ht:Tryz.prog.underlying t=some (.map k e)):(Instr.makeMap t (some (.int .i64 n))).run Tryz.prog w= .ok (.map (some w.heap.size)) (w.alloc (.map #[] 0)):=by
 simp[Instr.makeMap,run_underlying ht,asInt,go_sem]
theorem jf6(l:List Kv.Po)(n c:Nat)(A:Option Addr)(w0 w:World)(h:SlP w0 A n c l)(hb0:Below w0.heap.size w0 w)(hz:l.length<=70):
  Calls Tryz.prog 195 #[.slice A n c] w (KBool (¬l.Pairwise fun a b=>a.key≠b.key) w):=by
 have hn:=h.len;have hmx:=h.max;have hcp:=h.cap;unfold maxLen at hmx;have HA:=zh h;have HN:=zh hn;have HZ:=zh hz;have B0:=zh hb0;have hmm:=jff w n 250 9 251 Tryz.underlying250;have S0:=zh (jc1.made w);have BM:=zh ((Below.refl w.heap.size w).alloc (Nat.le_refl _) (.map #[] 0));have LT:Hid (w.heap.size<(w.alloc (.map #[] 0)).heap.size):=S0.out.lt;clear h hn hb0 hz;go_enter Tryz.func195,Tryz.ntmps195;go_wp2_with fail;clear hmm;obtain⟨m,hm⟩:∃m,m=w.heap.size:=⟨_,rfl⟩;rw[<-hm]at S0 LT⊢;have HM:=zh hm;clear hm;generalize w.alloc (.map #[] 0)=w1 at*;go_loopw [11] (fun i wr=>∃j:Nat,j<=n/\i= .int .i64 j/\jc1 wr m ((l.take j).map (·.key))/\Below w.heap.size w wr) (fun i _=>n -(intOf i).toNat)
 case atStart=>exact⟨0,zv,rfl,S0.out,BM.out⟩
 case round=>
  obtain⟨j,hj,rfl,hs,hbr⟩:=hrel;have SE:=zh hs;have B:=zh hbr;have BB:=zh (B0.out.trans (hbr.mono B0.out.size));clear hs hbr;by_cases hlt:j<n
  ·obtain⟨b1,o1,rfl⟩:=HA.out.addr (by have:=HN.out;omega)
   have EA:Hid (l[j]? =some (l[j]'(by have:=HN.out;omega))):=List.getElem?_eq_getElem _;generalize l[j]'(by have:=HN.out;omega)=x at*;obtain⟨p0,p1,p2,p3⟩:=HA.out.po EA.out BB.out;have KS:=zh (HA.out.poOk (List.mem_of_getElem? EA.out)).1;have ST:Hid ((l.take (j+1)).map (·.key)=(l.take j).map (·.key)++[x.key]):=by
    show _=_;rw[List.take_add_one,EA.out];simp
   have LL:Hid (((l.take j).map (·.key)).length<=1000000):=by
    show _<=_;rw[List.length_map,List.length_take];have:=HZ.out;omega
   generalize(l.take j).map (·.key)=ks at*;have BN:=zh ((Below.refl wr.heap.size wr).alloc (Nat.le_refl _) (.cells #[.string x.key,.string x.val,.int .i64 x.rev,.bool x.drop] 194));have S1:=zh (SE.out.on BN.out);obtain⟨wd,hrun,hs2,ht2⟩:=S1.out.put LL.out x.key KS.out;have S2:=zh hs2;have B2:=zh ((B.out.trans (BN.out.mono B.out.size)).grown ht2.grown (by have:=B.out.size;have:=BN.out.size;omega) (fun k hk=>by injection hk with hk;have:=HM.out;omega))
   clear hs2 ht2 BN S1;go_wp2_with fail;exact⟨⟨j+1,zv,by go_num,by rw[ST.out];exact S2.out,B2.out⟩,by simp[intOf];omega⟩
  ·have E:Hid (l.take j=l):=List.take_of_length_le (by have:=HN.out;omega)
   rw[E.out]at SE;obtain⟨z,hz1,hz2,hz3⟩:=SE.out.len 3;rw[List.length_map]at hz1 hz2;have Z1:=zh hz1;have Z2:=zh hz2;clear hz1 hz2;go_wp2_with fail;go_ret;refine⟨⟨_,rfl,?_⟩,B.out⟩;rw[<-List.pairwise_map,<-Z2.out];have:=Z1.out;have:=HN.out;simp;omega
end Go.Proofs.YtkcdaigaclpfjaaGreatDoor
namespace Go.Proofs.YtkcdaigaclpfjaaGreatDoor
open Go.RowKit Go.Deep Go.Maps
theorem joa(W:World)(p:Value)(mo:Option Nat)(s:Kv.St)(h:EAt W p mo s)(o:Kv.Po)(hk:o.key.size<=maxLen):Calls Tryz.prog 196 (#[p].push (opV o)) W (fun e w'=>e= .returned (.bool (Kv.oddB s o))/\Below W.heap.size W w'):=by
 have B1:=zh ((Below.refl W.heap.size W).alloc (Nat.le_refl _) (.cells #[.string o.key,.string o.val,.int .i64 o.rev,.bool o.drop] 194));have R1:=zh (heap_alloc_new W (.cells #[.string o.key,.string o.val,.int .i64 o.rev,.bool o.drop] 194));have C:=zh (jik _ p mo s (h.on B1.out) o.key hk);unfold KGet at C;unfold opV Kv.oddB;generalize Kv.valOf s.l o.key=v at*;generalize Kv.revOf s.l o.key=r at*;clear h hk;obtain⟨key,val,rev,drop⟩:=o;simp only at*;show Calls _ _ #[_,_] _ _;by_cases g0:0<=rev
 ·by_cases g1:rev=r
  ·have hee:(rev==r)=true:=by rw[beq_iff_eq];exact g1
   have G1:=zh g1;clear g1;go_enter Tryz.func196,Tryz.ntmps196;go_wp2_with(go_at_call 192;(with_reducible refine C.out.mono ?_);rintro e w1 ⟨rfl,hb1⟩;have RR:=zh ((hb1.block _ (Array.getElem?_eq_some_iff.1 R1.out).1).trans R1.out);have B2:=zh (B1.out.trans (hb1.mono B1.out.size));have c2:w1.cell? ⟨W.heap.size,2,none⟩=some (.int .i64 rev):=(by rw[cell_of_row w1 _ 2 _ _ _ RR.out];rfl);clear hb1);go_ret;exact⟨by simp[G1.out],B2.out⟩
  ·have hee:(rev==r)=false:=by rw[beq_eq_false_iff_ne];exact g1
   have G1:=zh g1;clear g1;go_enter Tryz.func196,Tryz.ntmps196;go_wp2_with(go_at_call 192;(with_reducible refine C.out.mono ?_);rintro e w1 ⟨rfl,hb1⟩;have RR:=zh ((hb1.block _ (Array.getElem?_eq_some_iff.1 R1.out).1).trans R1.out);have B2:=zh (B1.out.trans (hb1.mono B1.out.size));have c2:w1.cell? ⟨W.heap.size,2,none⟩=some (.int .i64 rev):=(by rw[cell_of_row w1 _ 2 _ _ _ RR.out];rfl);clear hb1);go_ret;exact⟨by simp[G1.out,g0],B2.out⟩
 ·go_enter Tryz.func196,Tryz.ntmps196
  go_wp2_with(go_at_call 192;(with_reducible refine C.out.mono ?_);rintro e w1 ⟨rfl,hb1⟩;have RR:=zh ((hb1.block _ (Array.getElem?_eq_some_iff.1 R1.out).1).trans R1.out);have B2:=zh (B1.out.trans (hb1.mono B1.out.size));have c2:w1.cell? ⟨W.heap.size,2,none⟩=some (.int .i64 rev):=(by rw[cell_of_row w1 _ 2 _ _ _ RR.out];rfl);clear hb1);go_ret;exact⟨by simp;intro h;omega,B2.out⟩
theorem jme(W:World)(p:Value)(mo:Option Nat)(s:Kv.St)(h:EAt W p mo s)(o:Kv.Po)(hk:o.key.size<=maxLen):Calls Tryz.prog 197 (#[p].push (opV o)) W (fun e w'=>e= .returned (.bool (Kv.lackB s o))/\Below W.heap.size W w'):=by
 have B1:=zh ((Below.refl W.heap.size W).alloc (Nat.le_refl _) (.cells #[.string o.key,.string o.val,.int .i64 o.rev,.bool o.drop] 194));have C:=zh (jii _ p mo s (h.on B1.out) o.key hk);unfold opV Kv.lackB;generalize(Kv.find s.l o.key).isSome=b at*;clear h hk;obtain⟨key,val,rev,drop⟩:=o;simp only at*;show Calls _ _ #[_,_] _ _
 cases drop with
 |true=>
  go_enter Tryz.func197,Tryz.ntmps197;go_wp2_with(go_at_call 210;(with_reducible refine C.out.mono ?_);rintro e w1 ⟨rfl,hb1⟩;have B2:=zh (B1.out.trans (hb1.mono B1.out.size));clear hb1);go_ret;exact⟨by simp,B2.out⟩
 |false=>
  go_enter Tryz.func197,Tryz.ntmps197;go_wp2_with fail;go_ret;exact⟨by simp,B1.out⟩
theorem bad_fn{w0 w:World}{n c:Nat}{A:Option Addr}{l:List Kv.Po}(h:SlP w0 A n c l):FnB 194 #[] Kv.badB w l:=
 fun W o ho _=>jn9 W o (h.poOk ho).1 (h.poOk ho).2.1
theorem odd_fn{w0 w:World}{p:Value}{mo:Option Nat}{s:Kv.St}{n c:Nat}{A:Option Addr}{l:List Kv.Po}(h:SlP w0 A n c l)(hk:EAt w p mo s):FnB 196 #[p] (Kv.oddB s) w l:=
 fun W o ho hb=>joa W p mo s (hk.on hb) o (h.poOk ho).1
theorem lack_fn{w0 w:World}{p:Value}{mo:Option Nat}{s:Kv.St}{n c:Nat}{A:Option Addr}{l:List Kv.Po}(h:SlP w0 A n c l)(hk:EAt w p mo s):FnB 197 #[p] (Kv.lackB s) w l:=
 fun W o ho hb=>jme W p mo s (hk.on hb) o (h.poOk ho).1
namespace Kv
theorem step_size{r:Int}{l:List En}{o:Po}(hl:Rise l)(hd:o.drop=true->(find l o.key).isSome=true):((step r l o).length:Int)=l.length+(if o.drop then -1 else if(find l o.key).isSome then 0 else 1):=by
 have h1:=dropK_length hl o.key;unfold step
 cases h:o.drop with
 |true=>
  rw[hd h]at h1;simp only[if_true]at h1⊢;omega
 |false=>
  simp only[Bool.false_eq_true,if_false];rw[putK_length]
  cases h2:(find l o.key).isSome
  ·rw[h2]at h1;simp at h1⊢;omega
  ·rw[h2]at h1;simp at h1⊢;omega
end Kv
theorem jmf(w:World)(p:Value)(mo:Option Nat)(s:Kv.St)(l:List Kv.Po)(n c:Nat)(A:Option Addr)(w0:World)(hk:EAt w p mo s)(h:SlP w0 A n c l)(hb0:Below w0.heap.size w0 w)(hr:Kv.Right l)(hlk:∀o∈l,¬Kv.Lacks s o)(hz:l.length<=70):
  Calls Tryz.prog 198 #[p,.slice A n c] w (KInt ((Kv.after s l).l.length:Nat) w):=by
 have hn:=h.len;have hmx:=h.max;have hcp:=h.cap;unfold maxLen at hmx;have HA:=zh h;have HN:=zh hn;have HZ:=zh hz;have B0:=zh hb0;have HK:=zh hk;have RT:=zh hr;have GD:=zh hk.good;have NL:=zh hlk;have CL:=zh (jij w p mo s hk);clear h hn hb0 hk hr hz hlk;go_enter Tryz.func198,Tryz.ntmps198;go_wp2_with(go_at_call 120;(with_reducible refine CL.out.mono ?_);rintro e w1 ⟨rfl,rfl⟩);go_loopw [5,12] (fun z i wr=>∃j:Nat,j<=n/\i= .int .i64 j/\z= .int .i64 (((l.take j).foldl (Kv.step (s.rev+1)) s.l).length:Nat)/\Below w1.heap.size w1 wr) (fun _ i _=>n -(intOf i).toNat)
 case atStart=>exact⟨0,zv,rfl,rfl,Below.refl _ _⟩
 case round=>
  obtain⟨j,hj,rfl,rfl,hbr⟩:=hrel;have B:=zh hbr;have BB:=zh (B0.out.trans (hbr.mono B0.out.size));clear hbr;by_cases hlt:j<n
  ·obtain⟨b1,o1,rfl⟩:=HA.out.addr (by have:=HN.out;omega)
   have EA:Hid (l[j]? =some (l[j]'(by have:=HN.out;omega))):=List.getElem?_eq_getElem _;generalize l[j]'(by have:=HN.out;omega)=x at*;obtain⟨p0,p1,p2,p3⟩:=HA.out.po EA.out BB.out;have HM:Hid (x∈l):=List.mem_of_getElem? EA.out;have KS:=zh (HA.out.poOk HM.out).1;have BN:=zh ((Below.refl wr.heap.size wr).alloc (Nat.le_refl _) (.cells #[.string x.key,.string x.val,.int .i64 x.rev,.bool x.drop] 194));have B2:=zh (B.out.trans (BN.out.mono B.out.size));have CH:=zh (jii _ p mo s (HK.out.on B2.out) x.key KS.out);have LS:Hid ((l.take (j+1)).foldl (Kv.step (s.rev+1)) s.l=Kv.step (s.rev+1) ((l.take j).foldl (Kv.step (s.rev+1)) s.l) x):=Kv.steps_snoc (s.rev+1) EA.out s.l;have FL:Hid (Kv.find ((l.take j).foldl (Kv.step (s.rev+1)) s.l) x.key=Kv.find s.l x.key):=Kv.find_steps_other fun o ho=>by
    obtain⟨i,hi⟩:=List.getElem?_of_mem ho;rw[List.getElem?_take]at hi;split at hi
    ·rename_i hij
     obtain⟨g1,e1⟩:=List.getElem?_eq_some_iff.1 hi;obtain⟨g2,e2⟩:=List.getElem?_eq_some_iff.1 EA.out;have:=List.pairwise_iff_getElem.1 RT.out.2.2 i j g1 g2 hij;rw[e1,e2]at this;exact this
    ·cases hi
   have SS:=zh (Kv.step_size (r:=s.rev+1) (o:=x) (Kv.steps_rise (r:=s.rev+1) (ops:=l.take j) GD.out.rise));have LB:=Kv.steps_length (s.rev+1) (l.take j) s.l;rw[List.length_take]at LB;have LG:=GD.out.len;have LZ:=HZ.out;have hlb:((l.take j).foldl (Kv.step (s.rev+1)) s.l).length<=200:=by omega
   clear LB LG LZ;rw[FL.out]at SS;generalize hLL:((l.take j).foldl (Kv.step (s.rev+1)) s.l).length=ln at*;rw[<-LS.out]at SS;generalize hLN:((l.take (j+1)).foldl (Kv.step (s.rev+1)) s.l).length=lm at*;clear hLL;have HLN:=zh hLN;clear hLN;have LKS:Hid (x.drop=true->(Kv.find s.l x.key).isSome=true):=fun hd=>by
    have h1:=NL.out x HM.out;have h2:=Kv.rev_zero GD.out x.key
    cases hf:Kv.find s.l x.key with
    |some e=>rfl
    |none=>exact absurd ⟨hd,h2.2 hf⟩ h1
   generalize(Kv.find s.l x.key).isSome=z at*
   cases hd:x.drop with
   |true=>
    rw[hd]at p3 BN B2 CH;have SE:lm+1=ln:=by have:=SS.out LKS.out;rw[hd]at this;simp at this;omega
    have hsub:((ln:Int) -1)=((lm:Nat):Int):=by omega
    have HS:=zh hsub;clear SE hsub hd;go_wp2_with fail;exact⟨⟨j+1,zv,by go_num,by rw[HLN.out];have:=HS.out;go_num,B2.out⟩,by simp[intOf];omega⟩
   |false=>
    rw[hd]at p3 BN B2 CH
    cases z with
    |true=>
     have SE:lm=ln:=by have:=SS.out (fun _=>rfl);rw[hd]at this;simp at this;omega
     have HS:=zh SE;clear SE hd;go_wp2_with(go_at_call 210;(with_reducible refine CH.out.mono ?_);rintro e w2 ⟨rfl,hb2⟩;have B3:=zh (B2.out.trans (hb2.mono B2.out.size));clear hb2);exact⟨⟨j+1,zv,by go_num,by rw[HLN.out,HS.out],B3.out⟩,by simp[intOf];omega⟩
    |false=>
     have SE:lm=ln+1:=by have:=SS.out (fun h=>by rw[hd]at h;cases h);rw[hd]at this;simp at this;omega
     have HS:=zh SE;clear SE hd;go_wp2_with(go_at_call 210;(with_reducible refine CH.out.mono ?_);rintro e w2 ⟨rfl,hb2⟩;have B3:=zh (B2.out.trans (hb2.mono B2.out.size));clear hb2);exact⟨⟨j+1,zv,by go_num,by rw[HLN.out,HS.out];go_num,B3.out⟩,by simp[intOf];omega⟩
  ·have E:Hid (l.take j=l):=List.take_of_length_le (by have:=HN.out;omega)
   rw[E.out];have AF:Hid ((Kv.after s l).l.length=(l.foldl (Kv.step (s.rev+1)) s.l).length):=rfl;generalize(l.foldl (Kv.step (s.rev+1)) s.l).length=ln at*;go_wp2_with fail;go_ret;exact⟨by rw[AF.out];rfl,B.out⟩
open Go.Shelf
theorem job(w:World)(q oq:Nat)(cs:Array Value)(ty:TypeId)(mo:Option Nat)(s:Kv.St)(l:List Kv.Po)(n c:Nat)(A:Option Addr)(w0:World)(hk:KvIs w q oq cs ty mo s)(h:SlP w0 A n c l)(hb0:Below w0.heap.size w0 w)(hz:l.length<=70):
  Calls Tryz.prog 167 #[.pointer (some ⟨q,oq,none⟩),.slice A n c] w (KInt (Kv.doE s l:Nat) w):=by
 have hn:=h.len;have hmx:=h.max;have hcp:=h.cap;unfold maxLen at hmx;have HA:=zh h;have HN:=zh hn;have HZ:=zh hz;have B0:=zh hb0;have HK:=zh hk.ask;have GD:=zh hk.good;have B:=zh (Below.refl w.heap.size w);clear h hn hb0 hk hz;by_cases h0:n=0
 ·have NE:Hid (Kv.doE s l=1):=Kv.doE_right fun h=>by have:=h.1;have:=HN.out;omega
  subst h0;go_enter Tryz.func167,Tryz.ntmps167;go_wp2_with fail;go_ret;exact⟨by rw[NE.out];rfl,B.out⟩
 have hn0:((n:Int)==0)=false:=by rw[beq_eq_false_iff_ne];omega
 have CB:Hid (∀w1,Below w.heap.size w w1->Calls Tryz.prog 193 #[.slice A n c,.func (.func 194) #[] #[]] w1 (fun e w'=>e= .returned (.bool (l.any Kv.badB))/\Below w1.heap.size w1 w')):=fun w1 hb=>jcl 194 #[] Kv.badB (enters_of Tryz.func194 (by kernel_rfl) rfl) l n c A w0 w1 HA.out (B0.out.trans (hb.mono B0.out.size)) (bad_fn HA.out)
 cases hbad:l.any Kv.badB with
 |true=>
  rw[hbad]at CB;have NE:Hid (Kv.doE s l=1):=Kv.doE_right fun h=>by
   obtain⟨o,ho,hb⟩:=List.any_eq_true.1 hbad;exact Kv.badB_iff.1 hb (h.2.1 o ho)
  clear hbad;go_enter Tryz.func167,Tryz.ntmps167
  go_wp2_with(first
    |(go_at_call 193;(with_reducible refine(CB.out _ B.out).mono ?_);rintro e w1 ⟨rfl,hb⟩;have B:=zh (B.out.trans (hb.mono B.out.size));clear hb))
  go_ret;exact⟨by rw[NE.out];rfl,B.out⟩
 |false=>
 rw[hbad]at CB;have OK:Hid (∀o∈l,Kv.PoOk o):=fun o ho=>by
  have h1:=List.any_eq_false.1 hbad o ho;exact Classical.byContradiction fun h2=>h1 (Kv.badB_iff.2 h2)
 clear hbad;by_cases hpw:l.Pairwise fun a b=>a.key≠b.key
 case neg=>
  have CT:Hid (∀w1,Below w.heap.size w w1->Calls Tryz.prog 195 #[.slice A n c] w1 (fun e w'=>e= .returned (.bool true)/\Below w1.heap.size w1 w')):=fun w1 hb=>(jf6 l n c A w0 w1 HA.out (B0.out.trans (hb.mono B0.out.size)) HZ.out).mono fun e w' ⟨⟨x,h1,h2⟩,h3⟩=>⟨by rw[h1,h2.2 hpw],h3⟩;have NE:Hid (Kv.doE s l=1):=Kv.doE_right fun h=>hpw h.2.2;clear hpw;go_enter Tryz.func167,Tryz.ntmps167
  go_wp2_with(first
    |(go_at_call 193;(with_reducible refine(CB.out _ B.out).mono ?_);rintro e w1 ⟨rfl,hb⟩;have B:=zh (B.out.trans (hb.mono B.out.size));clear hb)
    |(go_at_call 195;(with_reducible refine(CT.out _ B.out).mono ?_);rintro e w1 ⟨rfl,hb⟩;have B:=zh (B.out.trans (hb.mono B.out.size));clear hb))
  go_ret;exact⟨by rw[NE.out];rfl,B.out⟩
 have CT:Hid (∀w1,Below w.heap.size w w1->Calls Tryz.prog 195 #[.slice A n c] w1 (fun e w'=>e= .returned (.bool false)/\Below w1.heap.size w1 w')):=fun w1 hb=>(jf6 l n c A w0 w1 HA.out (B0.out.trans (hb.mono B0.out.size)) HZ.out).mono fun e w' ⟨⟨x,h1,h2⟩,h3⟩=>⟨by
   rw[h1]
   cases x with
   |false=>rfl
   |true=>exact absurd hpw (h2.1 rfl),h3⟩
 have RT:Hid (Kv.Right l):=⟨by have:=HN.out;omega,OK.out,hpw⟩;clear hpw;have CO:Hid (∀w1,Below w.heap.size w w1->Calls Tryz.prog 193 #[.slice A n c,.func (.func 196) #[.pointer (some ⟨q,oq,none⟩)] #[]] w1 (fun e w'=>e= .returned (.bool (l.any (Kv.oddB s)))/\Below w1.heap.size w1 w')):=fun w1 hb=>jcl 196 #[.pointer (some ⟨q,oq,none⟩)] (Kv.oddB s) (enters_of Tryz.func196 (by kernel_rfl) rfl) l n c A w0 w1 HA.out (B0.out.trans (hb.mono B0.out.size)) (odd_fn HA.out (HK.out.on hb))
 cases hodd:l.any (Kv.oddB s)with
 |true=>
  rw[hodd]at CO;have NE:Hid (Kv.doE s l=7):=by
   obtain⟨o,ho,hb⟩:=List.any_eq_true.1 hodd;exact Kv.doE_odd RT.out ⟨o,ho,Kv.oddB_iff.1 hb⟩
  clear hodd;go_enter Tryz.func167,Tryz.ntmps167
  go_wp2_with(first
    |(go_at_call 193;(with_reducible refine(CB.out _ B.out).mono ?_);rintro e w1 ⟨rfl,hb⟩;have B:=zh (B.out.trans (hb.mono B.out.size));clear hb)
    |(go_at_call 195;(with_reducible refine(CT.out _ B.out).mono ?_);rintro e w1 ⟨rfl,hb⟩;have B:=zh (B.out.trans (hb.mono B.out.size));clear hb)
    |(go_at_call 193;(with_reducible refine(CO.out _ B.out).mono ?_);rintro e w1 ⟨rfl,hb⟩;have B:=zh (B.out.trans (hb.mono B.out.size));clear hb))
  go_ret;exact⟨by rw[NE.out];rfl,B.out⟩
 |false=>
 rw[hodd]at CO;have OD:Hid (∀o∈l,¬Kv.Odd s o):=fun o ho h=>List.any_eq_false.1 hodd o ho (Kv.oddB_iff.2 h);clear hodd;have CL:Hid (∀w1,Below w.heap.size w w1->Calls Tryz.prog 193 #[.slice A n c,.func (.func 197) #[.pointer (some ⟨q,oq,none⟩)] #[]] w1 (fun e w'=>e= .returned (.bool (l.any (Kv.lackB s)))/\Below w1.heap.size w1 w')):=fun w1 hb=>jcl 197 #[.pointer (some ⟨q,oq,none⟩)] (Kv.lackB s) (enters_of Tryz.func197 (by kernel_rfl) rfl) l n c A w0 w1 HA.out (B0.out.trans (hb.mono B0.out.size)) (lack_fn HA.out (HK.out.on hb))
 cases hlk:l.any (Kv.lackB s)with
 |true=>
  rw[hlk]at CL;have NE:Hid (Kv.doE s l=5):=by
   obtain⟨o,ho,hb⟩:=List.any_eq_true.1 hlk;exact Kv.doE_lacks RT.out OD.out ⟨o,ho,(Kv.lackB_iff GD.out).1 hb⟩
  clear hlk;go_enter Tryz.func167,Tryz.ntmps167
  go_wp2_with(first
    |(go_at_call 193;(with_reducible refine(CB.out _ B.out).mono ?_);rintro e w1 ⟨rfl,hb⟩;have B:=zh (B.out.trans (hb.mono B.out.size));clear hb)
    |(go_at_call 195;(with_reducible refine(CT.out _ B.out).mono ?_);rintro e w1 ⟨rfl,hb⟩;have B:=zh (B.out.trans (hb.mono B.out.size));clear hb)
    |(go_at_call 193;(with_reducible refine(CO.out _ B.out).mono ?_);rintro e w1 ⟨rfl,hb⟩;have B:=zh (B.out.trans (hb.mono B.out.size));clear hb)
    |(go_at_call 193;(with_reducible refine(CL.out _ B.out).mono ?_);rintro e w1 ⟨rfl,hb⟩;have B:=zh (B.out.trans (hb.mono B.out.size));clear hb))
  go_ret;exact⟨by rw[NE.out];rfl,B.out⟩
 |false=>
 rw[hlk]at CL;have LK:Hid (∀o∈l,¬Kv.Lacks s o):=fun o ho h=>List.any_eq_false.1 hlk o ho ((Kv.lackB_iff GD.out).2 h);clear hlk;have CN:Hid (∀w1,Below w.heap.size w w1->Calls Tryz.prog 198 #[.pointer (some ⟨q,oq,none⟩),.slice A n c] w1 (KInt ((Kv.after s l).l.length:Nat) w1)):=fun w1 hb=>jmf w1 _ mo s l n c A w0 (HK.out.on hb) HA.out (B0.out.trans (hb.mono B0.out.size)) RT.out LK.out HZ.out;by_cases hf:64<(Kv.after s l).l.length
 ·have NE:Hid (Kv.doE s l=4):=Kv.doE_full RT.out OD.out LK.out hf
  generalize(Kv.after s l).l.length=ln at*;have hg:decide ((64:Int)<(ln:Nat))=true:=decide_eq_true zv;go_enter Tryz.func167,Tryz.ntmps167
  go_wp2_with(first
    |(go_at_call 193;(with_reducible refine(CB.out _ B.out).mono ?_);rintro e w1 ⟨rfl,hb⟩;have B:=zh (B.out.trans (hb.mono B.out.size));clear hb)
    |(go_at_call 195;(with_reducible refine(CT.out _ B.out).mono ?_);rintro e w1 ⟨rfl,hb⟩;have B:=zh (B.out.trans (hb.mono B.out.size));clear hb)
    |(go_at_call 193;(with_reducible refine(CO.out _ B.out).mono ?_);rintro e w1 ⟨rfl,hb⟩;have B:=zh (B.out.trans (hb.mono B.out.size));clear hb)
    |(go_at_call 193;(with_reducible refine(CL.out _ B.out).mono ?_);rintro e w1 ⟨rfl,hb⟩;have B:=zh (B.out.trans (hb.mono B.out.size));clear hb)
    |(go_at_call 198;(with_reducible refine(CN.out _ B.out).mono ?_);rintro e w1 ⟨rfl,hb⟩;have B:=zh (B.out.trans (hb.mono B.out.size));clear hb))
  go_ret;exact⟨by rw[NE.out];rfl,B.out⟩
 ·have NE:Hid (Kv.doE s l=0):=Kv.doE_ok RT.out OD.out LK.out hf
  generalize(Kv.after s l).l.length=ln at*;have hg:decide ((64:Int)<(ln:Nat))=false:=decide_eq_false zv;go_enter Tryz.func167,Tryz.ntmps167
  go_wp2_with(first
    |(go_at_call 193;(with_reducible refine(CB.out _ B.out).mono ?_);rintro e w1 ⟨rfl,hb⟩;have B:=zh (B.out.trans (hb.mono B.out.size));clear hb)
    |(go_at_call 195;(with_reducible refine(CT.out _ B.out).mono ?_);rintro e w1 ⟨rfl,hb⟩;have B:=zh (B.out.trans (hb.mono B.out.size));clear hb)
    |(go_at_call 193;(with_reducible refine(CO.out _ B.out).mono ?_);rintro e w1 ⟨rfl,hb⟩;have B:=zh (B.out.trans (hb.mono B.out.size));clear hb)
    |(go_at_call 193;(with_reducible refine(CL.out _ B.out).mono ?_);rintro e w1 ⟨rfl,hb⟩;have B:=zh (B.out.trans (hb.mono B.out.size));clear hb)
    |(go_at_call 198;(with_reducible refine(CN.out _ B.out).mono ?_);rintro e w1 ⟨rfl,hb⟩;have B:=zh (B.out.trans (hb.mono B.out.size));clear hb))
  go_ret;exact⟨by rw[NE.out];rfl,B.out⟩
end Go.Proofs.YtkcdaigaclpfjaaGreatDoor
namespace Go.Proofs.YtkcdaigaclpfjaaGreatDoor
open Go.RowKit Go.Deep Go.Maps
structure jc2(w:World)(q oq:Nat)(cs:Array Value)(ty:TypeId)(m:Nat)(r:Int)(l:List Kv.En):Prop where
 row:w.heap[q]? =some (.cells cs ty (0,0))
 k0:cs[oq]? =some (.int .i64 r)
 k1:cs[oq+1]? =some (.map (some m))
 nos:jmc cs
 map:jbn Tryz.prog 9 w m l
theorem jc2.ne{w:World}{q oq m:Nat}{cs:Array Value}{ty:TypeId}{r:Int}{l:List Kv.En}(h:jc2 w q oq cs ty m r l):q≠m:=fun e=>by
 obtain⟨D,⟨es,clock,hb,_⟩,_⟩:=h.map;have:=h.row;rw[e,hb]at this;injection this with this
 cases this
theorem jc2.cells{w:World}{q oq m:Nat}{cs:Array Value}{ty:TypeId}{r:Int}{l:List Kv.En}(h:jc2 w q oq cs ty m r l):w.cell? ⟨q,oq,none⟩=some (.int .i64 r)/\w.cell? ⟨q,oq+1,none⟩=some (.map (some m))/\w.frozen? ⟨q,oq,none⟩=false/\q<w.heap.size:=
 ⟨by rw[cell_of_row w q oq _ _ _ h.row];exact h.k0,by rw[cell_of_row w q (oq+1) _ _ _ h.row];exact h.k1,frozen_of_row _ _ _ _ _ h.row,(Array.getElem?_eq_some_iff.1 h.row).1⟩
theorem jc2.on{w w':World}{q oq m:Nat}{cs:Array Value}{ty:TypeId}{r:Int}{l:List Kv.En}(h:jc2 w q oq cs ty m r l)(hb:Below w.heap.size w w'):jc2 w' q oq cs ty m r l:=⟨(hb.block q h.cells.2.2.2).trans h.row,h.k0,h.k1,h.nos,h.map.keep (hb.block m h.map.lt)⟩
theorem jc2.turned{w w':World}{q oq m:Nat}{cs:Array Value}{ty:TypeId}{r:Int}{l l':List Kv.En}(h:jc2 w q oq cs ty m r l)(ht:w.mapTurned w' m)(hm:jbn Tryz.prog 9 w' m l'):jc2 w' q oq cs ty m r l':=
 ⟨(ht.grown.block q h.cells.2.2.2 (fun e=>h.ne (by injection e))).trans h.row,h.k0,h.k1,h.nos,hm⟩
theorem jeg{w w':World}{b i:Nat}(h:w'.heap[b]? =w.heap[b]?):w'.cell? ⟨b,i,none⟩=w.cell? ⟨b,i,none⟩:=by unfold World.cell?;rw[h]
theorem SlR.poH{w:World}{b o n c:Nat}{l:List Kv.Po}(h:SlP w (some ⟨b,o,none⟩) n c l){j:Nat}{x:Kv.Po}(hx:l[j]? =some x){w':World}(hb:w'.heap[b]? =w.heap[b]?):
  w'.cell? ⟨b,o+j*4,none⟩=some (.string x.key)/\w'.cell? ⟨b,o+j*4+1,none⟩=some (.string x.val)/\w'.cell? ⟨b,o+j*4+2,none⟩=some (.int .i64 x.rev)/\w'.cell? ⟨b,o+j*4+3,none⟩=some (.bool x.drop):=by
 obtain⟨h0,h1,h2,h3⟩:=h.po hx (Below.refl _ _);exact⟨(jeg hb).trans h0,(jeg hb).trans h1,(jeg hb).trans h2,(jeg hb).trans h3⟩
theorem jf7(t k e:TypeId)(m:Option Nat)(w:World)(h:Tryz.prog.underlying t=some (.map k e)):(binOp .eql t (.map m) (.map none)).run Tryz.prog w= .ok (.bool m.isNone) w:=by
 simp only[binOp];simp[run_equal_map_nil w t k e m h]
theorem jim{w:World}{q oq b o n c:Nat}{cs:Array Value}{ty:TypeId}{mo:Option Nat}{s:Kv.St}{l:List Kv.Po}(hk:KvIs w q oq cs ty mo s)(h:SlP w (some ⟨b,o,none⟩) n c l)(hl:0<l.length):b≠q/\mo≠some b/\b<w.heap.size:=by
 obtain⟨h0,_⟩:=h.po (List.getElem?_eq_getElem hl) (Below.refl _ _);refine⟨fun e=> ?_,fun e=> ?_,(h.cell hl).1⟩
 ·subst e
  rw[cell_of_row _ _ _ _ _ _ hk.row]at h0;exact hk.nos _ _ h0
 ·subst e
  obtain⟨D,⟨es,clock,hb,_⟩,_⟩:=show jbn Tryz.prog 9 w b s.l from hk.map
  simp[World.cell?,hb]at h0
theorem jf8(w:World)(q oq:Nat)(cs:Array Value)(ty:TypeId)(m:Nat)(r:Int)(L:List Kv.En)(x:Kv.Po)(h:jc2 w q oq cs ty m r L)(hr:Kv.Rise L)(hl:L.length<=1000000)(hk:x.key.size<=maxLen):
  Calls Tryz.prog 168 #[.pointer (some ⟨q,oq,none⟩),opV x] w (fun e w'=>e= .returned (.tuple #[])/\jc2 w' q oq cs ty m r (Kv.step r L x)/\Kept (fun i=>i=m) w w'):=by
 have Q1:=heap_alloc_new w (.cells #[.string x.key,.string x.val,.int .i64 x.rev,.bool x.drop] 194);have BN:=zh ((Below.refl w.heap.size w).alloc (Nat.le_refl _) (.cells #[.string x.key,.string x.val,.int .i64 x.rev,.bool x.drop] 194));have M2:=zh (h.on BN.out);have KS:=zh hk;have RI:=zh hr;have LB:=zh hl;have QH:=zh Q1;clear h hk hr hl Q1;obtain⟨ws,hws⟩:∃ws,ws=w.alloc (.cells #[.string x.key,.string x.val,.int .i64 x.rev,.bool x.drop] 194):=⟨_,rfl⟩;obtain⟨g,hg⟩:∃g,g=w.heap.size:=⟨_,rfl⟩;rw[<-hws,<-hg]at QH;rw[<-hws]at BN M2;have c0:ws.cell? ⟨g,0,none⟩=some (.string x.key):=by rw[cell_of_row ws g 0 _ _ _ QH.out];rfl
 have c1:ws.cell? ⟨g,1,none⟩=some (.string x.val):=by rw[cell_of_row ws g 1 _ _ _ QH.out];rfl
 have c3:ws.cell? ⟨g,3,none⟩=some (.bool x.drop):=by rw[cell_of_row ws g 3 _ _ _ QH.out];rfl
 obtain⟨d0,d1,d2,d3⟩:=M2.out.cells;have M3:=zh (M2.out.on (Below.refl ws.heap.size ws).drew);have K3:=zh ((Kept.of_below (F:=fun i=>i=m) BN.out).trans (Kept.of_below (F:=fun _=>False) (Below.refl ws.heap.size ws).drew) fun _ _ hf=>hf.elim);have HWS:=zh hws;have HG:=zh hg
 cases hd:x.drop with
 |true=>
  have SE:Hid (Kv.step r L x=Kv.dropK L x.key):=by show _=_;unfold Kv.step;rw[if_pos hd]
  obtain⟨wd,hrun,hmd,htd⟩:=jrq Tryz.underlying9 Tryz.underlying87 M3.out.map RI.out x.key KS.out 0;have M4:=zh (M3.out.turned htd hmd);have K4:=zh (K3.out.trans (G:=fun i=>i=m) (Kept.of_grown htd.grown (fun k hk=>by injection hk with hk;exact hk.symm)) fun _ _ hi=>hi)
  rw[hd]at c3;clear hmd htd hws hg;rw[SE.out];unfold opV;obtain⟨key,val,rev,drop⟩:=x;simp only at*;obtain rfl:=hd;go_enter Tryz.func168,Tryz.ntmps168;go_upto_region 1 with fail
  rw[<-HWS.out,<-HG.out];clear HWS HG;go_wp2_with fail;go_region;go_wp2_with fail;go_end0;exact⟨rfl,M4.out,K4.out⟩
 |false=>
  have SE:Hid (Kv.step r L x=Kv.putK (Kv.dropK L x.key) ⟨x.key,x.val,r⟩):=by show _=_;unfold Kv.step;rw[if_neg (by rw[hd];simp)]
  obtain⟨wd,hrun,hmd,htd⟩:=put_run Tryz.underlying9 Tryz.underlying87 M3.out.map RI.out LB.out x.key x.val r KS.out;have M4:=zh (M3.out.turned htd hmd);have K4:=zh (K3.out.trans (G:=fun i=>i=m) (Kept.of_grown htd.grown (fun k hk=>by injection hk with hk;exact hk.symm)) fun _ _ hi=>hi)
  rw[hd]at c3;clear hmd htd hws hg;rw[SE.out];unfold opV;obtain⟨key,val,rev,drop⟩:=x;simp only at*;obtain rfl:=hd;go_enter Tryz.func168,Tryz.ntmps168;go_upto_region 1 with fail
  rw[<-HWS.out,<-HG.out];clear HWS HG;go_wp2_with fail;go_region;go_wp2_with fail;go_end0;exact⟨rfl,M4.out,K4.out⟩
def jj5(cs:Array Value)(oq:Nat)(r:Int)(mo:Option Nat):Array Value:=(cs.setIfInBounds (oq+1) (.map mo)).setIfInBounds oq (.int .i64 r)
theorem jmg{cs:Array Value}{oq:Nat}{r:Int}{mo:Option Nat}(h0:cs[oq]? =some (.int .i64 r))(h1:cs[oq+1]? =some (.map mo)):jj5 cs oq r mo=cs:=by unfold jj5;rw[jf5 h1,jf5 h0]
theorem joc{cs:Array Value}{oq:Nat}(r:Int){mo:Option Nat}(h1:cs[oq+1]? =some (.map mo)):jj5 cs oq r mo=cs.setIfInBounds oq (.int .i64 r):=by unfold jj5;rw[jf5 h1]
def KbDo(q oq:Nat)(cs:Array Value)(ty:TypeId)(mo:Option Nat)(s:Kv.St)(ops:List Kv.Po)(W:World)(e:Ending)(w':World):Prop:=
 ∃mo',e= .returned (.tuple #[.int .i64 (Kv.doN s ops),.int .i64 (Kv.doE s ops:Nat)])/\KvIs w' q oq (jj5 cs oq (Kv.doS s ops).rev mo') ty mo' (Kv.doS s ops)/\Kept (fun i=>i=q\/mo=some i) W w'/\∀m,mo'=some m->mo=some m\/W.heap.size<=m
theorem jrt(W:World)(q oq:Nat)(cs:Array Value)(ty:TypeId)(mo:Option Nat)(s:Kv.St)(n c:Nat)(A:Option Addr)(l:List Kv.Po)(hk:KvIs W q oq cs ty mo s)(hrv:s.rev<=1000)(h:SlP W A n c l)(hz:l.length<=70):
  Calls Tryz.prog 121 #[.pointer (some ⟨q,oq,none⟩),.slice A n c] W (KbDo q oq cs ty mo s l W):=by
 have hn:=h.len;have hmx:=h.max;have hcp:=h.cap;unfold maxLen at hmx;have hr0:=hk.good.rev0;have HA:=zh h;have HN:=zh hn;have HZ:=zh hz;have HK:=zh hk;have HK0:=zh hk.k0;have HK1:=zh hk.k1;have NS:=zh hk.nos;have STAY:∀{w':World},Below W.heap.size W w'->Kv.doE s l≠0->KbDo q oq cs ty mo s l W (.returned (.tuple #[.int .i64 0,.int .i64 (Kv.doE s l:Nat)])) w':=fun{w'} hb h0=>by
  refine⟨mo,by rw[(Kv.doS_no h0).2],?_,Kept.of_below hb,fun _ h=> .inl h⟩;rw[(Kv.doS_no h0).1,jmg HK0.out HK1.out];exact HK.out.on hb
 have ST:Hid (∀{w':World},Below W.heap.size W w'->Kv.doE s l≠0->KbDo q oq cs ty mo s l W (.returned (.tuple #[.int .i64 0,.int .i64 (Kv.doE s l:Nat)])) w'):=STAY;have CA:=zh (job W q oq cs ty mo s l n c A W HK.out HA.out (Below.refl _ _) HZ.out);have heq:=fun m w=>jf7 _ _ _ m w Tryz.underlying87;clear h hn hk hz STAY;by_cases h0:Kv.doE s l=0
 ·have H0:=zh h0
  rw[h0]at CA;clear h0
  cases mo with
  |some m=>
   go_enter Tryz.func121,Tryz.ntmps121;go_upto_region 4 with(go_at_call 167;(with_reducible refine CA.out.mono ?_);rintro e w2 ⟨rfl,hb2⟩;have B2:=zh hb2;clear hb2)
   obtain⟨c0,c1,f0,hq⟩:=(HK.out.on B2.out).cells;have MID:Hid (jc2 (w2.setCell ⟨q,oq,none⟩ (.int .i64 (s.rev+1))) q oq (cs.setIfInBounds oq (.int .i64 (s.rev+1))) ty m (s.rev+1) s.l):=⟨heap_setCell_same _ _ _ _ _ _ (HK.out.on B2.out).row,jj2 HK0.out,jhm HK1.out zv,NS.out.set _ (fun _ e=>by cases e),jbn.keep (HK.out.on B2.out).map (heap_setCell_other _ _ _ _ (by simpa using(HK.out.on B2.out).ne.symm))⟩;have KP:Hid (Kept (fun i=>i=q\/some m=some i) W (w2.setCell ⟨q,oq,none⟩ (.int .i64 (s.rev+1)))):=(Kept.of_below (F:=fun i=>i=q\/some m=some i) B2.out).trans (G:=fun i=>i=q) (Kept.of_grown (row:=some q) (jad _ _ _ _) (fun k hk=>by injection hk with hk;exact hk.symm)) fun i _ hi=> .inl hi
   have HM0:Hid (m<W.heap.size->some m=some m):=fun _=>rfl;go_wp2_with fail;generalize w2.setCell ⟨q,oq,none⟩ (.int .i64 (s.rev+1))=w3 at*;clear c0 c1 f0 hq;go_loopw [33] (fun i wr=>∃j:Nat,j<=n/\i= .int .i64 j/\jc2 wr q oq (cs.setIfInBounds oq (.int .i64 (s.rev+1))) ty m (s.rev+1) ((l.take j).foldl (Kv.step (s.rev+1)) s.l)/\Kept (fun i=>i=q\/some m=some i) W wr/\(m<W.heap.size->some m=some m)) (fun i _=>n -(intOf i).toNat)
   case atStart=>exact⟨0,zv,rfl,MID.out,KP.out,fun _=>rfl⟩
   case round=>
    obtain⟨j,hj,rfl,hm,hkp,hm0⟩:=hrel;have MD:=zh hm;have KE:=zh hkp;have HM1:=zh hm0;clear hm hkp hm0;by_cases hlt:j<n
    ·obtain⟨b1,o1,rfl⟩:=HA.out.addr (by have:=HN.out;omega)
     have EA:Hid (l[j]? =some (l[j]'(by have:=HN.out;omega))):=List.getElem?_eq_getElem _;generalize l[j]'(by have:=HN.out;omega)=x at*;have AP:=jim HK.out HA.out (by have:=HN.out;omega);obtain⟨p0,p1,p2,p3⟩:=HA.out.poH EA.out (KE.out.block b1 AP.2.2 (by rintro(e|e);exact AP.1 e;exact AP.2.1 e));have KS:=zh (HA.out.poOk (List.mem_of_getElem? EA.out)).1;have LS:=zh (Kv.steps_snoc (s.rev+1) EA.out s.l);have RI:=zh (Kv.steps_rise (r:=s.rev+1) (ops:=l.take j) HK.out.good.rise);have LB:Hid (((l.take j).foldl (Kv.step (s.rev+1)) s.l).length<=1000000):=by
      have h1:=Kv.steps_length (s.rev+1) (l.take j) s.l;rw[List.length_take]at h1;have:=HK.out.good.len;have:=HZ.out;show _<=_;omega
     generalize(l.take j).foldl (Kv.step (s.rev+1)) s.l=L at*;clear AP;have Q1:=zh (heap_alloc_new wr (.cells #[.string x.key,.string x.val,.int .i64 x.rev,.bool x.drop] 194));have BN:=zh ((Below.refl wr.heap.size wr).alloc (Nat.le_refl _) (.cells #[.string x.key,.string x.val,.int .i64 x.rev,.bool x.drop] 194));have M2:=zh (MD.out.on BN.out);have K2:=zh (KE.out.trans (Kept.of_below (F:=fun _=>False) BN.out) fun _ _ hf=>hf.elim);have CP:=zh (jf8 _ q oq _ ty m _ L x M2.out RI.out LB.out KS.out);rw[<-LS.out]at CP;go_wp2_with(go_at_call 168;(with_reducible refine CP.out.mono ?_);rintro e w4 ⟨rfl,hm4,hk4⟩;have M4:=zh hm4;have K4:=zh (K2.out.trans hk4 (fun i hi e=>by subst e;exact .inr rfl));clear hm4 hk4);exact⟨⟨j+1,zv,by go_num,M4.out,K4.out,by simp⟩,by simp[intOf];omega⟩
    ·have E:Hid (l.take j=l):=List.take_of_length_le (by have:=HN.out;omega)
     rw[E.out]at MD;obtain⟨d0,d1,d2,d3⟩:=MD.out.cells;go_wp2_with fail;have hok:=Kv.doS_ok H0.out;have hgd:=Kv.doS_good HK.out.good l;have hp:KbDo q oq cs ty (some m) s l W (.returned (.tuple #[.int .i64 (s.rev+1),.int .i64 0])) wr:=by
      refine⟨some m,by rw[hok.2,H0.out];rfl,?_,KE.out,fun _ h=> .inl h⟩;rw[hok.1]at hgd⊢;rw[joc _ HK1.out];exact⟨MD.out.row,MD.out.k0,MD.out.k1,MD.out.nos,MD.out.map,hgd⟩
     exact bodyPost_ret (v:= .tuple #[.int .i64 (s.rev+1),.int .i64 0]) (by simp[results,Tryz.results121,go_sem]) rfl hp
  |none=>
   go_enter Tryz.func121,Tryz.ntmps121;have hmm:=@run_makeMap Tryz.prog;go_upto_region 4 with(go_at_call 167;(with_reducible refine CA.out.mono ?_);rintro e w2 ⟨rfl,hb2⟩;have B2:=zh hb2;clear hb2)
   obtain⟨c0,c1,f0,hq⟩:=(HK.out.on B2.out).cells;have f1:w2.frozen? ⟨q,oq+1,none⟩=false:=frozen_of_row _ _ _ _ _ (HK.out.on B2.out).row;have BM:=zh ((Below.refl w2.heap.size w2).alloc (Nat.le_refl _) (.map #[] 0));have S0:=zh (jbn.made (P:=Tryz.prog) (kt:=9) w2);have RW:=zh ((HK.out.on B2.out).on BM.out).row;have EL:Hid (s.l=[]):=HK.out.map;have MID:Hid (jc2 ((w2.alloc (.map #[] 0)).setCell ⟨q,oq+1,none⟩ (.map (some w2.heap.size))) q oq (cs.setIfInBounds (oq+1) (.map (some w2.heap.size))) ty w2.heap.size s.rev s.l):=⟨heap_setCell_same _ _ _ _ _ _ RW.out,jhm HK0.out zv,jj2 HK1.out,NS.out.set _ (fun _ e=>by cases e),by rw[EL.out];exact S0.out.keep (heap_setCell_other _ _ _ _ (by simp;omega))⟩;have KP:Hid (Kept (fun i=>i=q\/none=some i) W ((w2.alloc (.map #[] 0)).setCell ⟨q,oq+1,none⟩ (.map (some w2.heap.size)))):=(Kept.of_below (F:=fun i=>i=q\/none=some i) (B2.out.trans (BM.out.mono B2.out.size))).trans (G:=fun i=>i=q) (Kept.of_grown (row:=some q) (jad _ _ _ _) (fun k hk=>by injection hk with hk;exact hk.symm)) fun i _ hi=> .inl hi
   have HM0:Hid (w2.heap.size<W.heap.size->none=some w2.heap.size):=fun h=>by have:=B2.out.size;omega
   have EW:Hid ((w2.alloc (.map #[] 0)).setCell ⟨q,oq+1,none⟩ (.map (some w2.heap.size))=(w2.setCell ⟨q,oq+1,none⟩ (.map (some w2.heap.size))).alloc (.map #[] 0)):=World.setCell_alloc_past _ _ _ _ hq;rw[EW.out]at MID KP;go_upto_region 6 with fail
   obtain⟨m,hm⟩:∃m,m=w2.heap.size:=⟨_,rfl⟩;rw[<-hm]at MID KP HM0⊢;clear hm hmm c0 c1 f0 f1 hq BM S0 RW EW;generalize(w2.setCell ⟨q,oq+1,none⟩ (.map (some m))).alloc (.map #[] 0)=w5 at*;obtain⟨c0,c1,f0,hq⟩:=MID.out.cells;have MID:Hid (jc2 (w5.setCell ⟨q,oq,none⟩ (.int .i64 (s.rev+1))) q oq (jj5 cs oq (s.rev+1) (some m)) ty m (s.rev+1) s.l):=⟨heap_setCell_same _ _ _ _ _ _ MID.out.row,jj2 MID.out.k0,jhm MID.out.k1 zv,MID.out.nos.set _ (fun _ e=>by cases e),MID.out.map.keep (heap_setCell_other _ _ _ _ (by simpa using MID.out.ne.symm))⟩;have KP:Hid (Kept (fun i=>i=q\/none=some i) W (w5.setCell ⟨q,oq,none⟩ (.int .i64 (s.rev+1)))):=KP.out.trans (G:=fun i=>i=q) (Kept.of_grown (row:=some q) (jad _ _ _ _) (fun k hk=>by injection hk with hk;exact hk.symm)) fun i _ hi=> .inl hi
   go_wp2_with fail;generalize w5.setCell ⟨q,oq,none⟩ (.int .i64 (s.rev+1))=w3 at*;clear c0 c1 f0 hq;go_loopw [33] (fun i wr=>∃j:Nat,j<=n/\i= .int .i64 j/\jc2 wr q oq (jj5 cs oq (s.rev+1) (some m)) ty m (s.rev+1) ((l.take j).foldl (Kv.step (s.rev+1)) s.l)/\Kept (fun i=>i=q\/none=some i) W wr/\(m<W.heap.size->none=some m)) (fun i _=>n -(intOf i).toNat)
   case atStart=>exact⟨0,zv,rfl,MID.out,KP.out,HM0.out⟩
   case round=>
    obtain⟨j,hj,rfl,hm,hkp,hm0⟩:=hrel;have MD:=zh hm;have KE:=zh hkp;have HM1:=zh hm0;clear hm hkp hm0;by_cases hlt:j<n
    ·obtain⟨b1,o1,rfl⟩:=HA.out.addr (by have:=HN.out;omega)
     have EA:Hid (l[j]? =some (l[j]'(by have:=HN.out;omega))):=List.getElem?_eq_getElem _;generalize l[j]'(by have:=HN.out;omega)=x at*;have AP:=jim HK.out HA.out (by have:=HN.out;omega);obtain⟨p0,p1,p2,p3⟩:=HA.out.poH EA.out (KE.out.block b1 AP.2.2 (by rintro(e|e);exact AP.1 e;exact AP.2.1 e));have KS:=zh (HA.out.poOk (List.mem_of_getElem? EA.out)).1;have LS:=zh (Kv.steps_snoc (s.rev+1) EA.out s.l);have RI:=zh (Kv.steps_rise (r:=s.rev+1) (ops:=l.take j) HK.out.good.rise);have LB:Hid (((l.take j).foldl (Kv.step (s.rev+1)) s.l).length<=1000000):=by
      have h1:=Kv.steps_length (s.rev+1) (l.take j) s.l;rw[List.length_take]at h1;have:=HK.out.good.len;have:=HZ.out;show _<=_;omega
     generalize(l.take j).foldl (Kv.step (s.rev+1)) s.l=L at*;clear AP;have Q1:=zh (heap_alloc_new wr (.cells #[.string x.key,.string x.val,.int .i64 x.rev,.bool x.drop] 194));have BN:=zh ((Below.refl wr.heap.size wr).alloc (Nat.le_refl _) (.cells #[.string x.key,.string x.val,.int .i64 x.rev,.bool x.drop] 194));have M2:=zh (MD.out.on BN.out);have K2:=zh (KE.out.trans (Kept.of_below (F:=fun _=>False) BN.out) fun _ _ hf=>hf.elim);have CP:=zh (jf8 _ q oq _ ty m _ L x M2.out RI.out LB.out KS.out);rw[<-LS.out]at CP;go_wp2_with(go_at_call 168;(with_reducible refine CP.out.mono ?_);rintro e w4 ⟨rfl,hm4,hk4⟩;have M4:=zh hm4;have K4:=zh (K2.out.trans hk4 (fun i hi e=>by subst e;exact .inr (HM1.out hi)));clear hm4 hk4);exact⟨⟨j+1,zv,by go_num,M4.out,K4.out,HM1.out⟩,by simp[intOf];omega⟩
    ·have E:Hid (l.take j=l):=List.take_of_length_le (by have:=HN.out;omega)
     rw[E.out]at MD;obtain⟨d0,d1,d2,d3⟩:=MD.out.cells;go_wp2_with fail;have hok:=Kv.doS_ok H0.out;have hgd:=Kv.doS_good HK.out.good l;have hp:KbDo q oq cs ty none s l W (.returned (.tuple #[.int .i64 (s.rev+1),.int .i64 0])) wr:=by
      refine⟨some m,by rw[hok.2,H0.out];rfl,?_,KE.out,fun k hk=> .inr ?_⟩
      ·rw[hok.1]at hgd⊢
       exact⟨MD.out.row,MD.out.k0,MD.out.k1,MD.out.nos,MD.out.map,hgd⟩
      ·injection hk with hk
       rcases Nat.lt_or_ge m W.heap.size with h|h
       ·exact absurd (HM1.out h) (by simp)
       ·omega
     exact bodyPost_ret (v:= .tuple #[.int .i64 (s.rev+1),.int .i64 0]) (by simp[results,Tryz.results121,go_sem]) rfl hp
 ·have H0:=zh h0
  obtain⟨z,hz⟩:∃z,z=Kv.doE s l:=⟨_,rfl⟩;rw[<-hz]at h0 CA;have hz0:((z:Int)==0)=false:=by rw[beq_eq_false_iff_ne];omega
  have HZ1:=zh hz;clear hz;go_enter Tryz.func121,Tryz.ntmps121;go_wp2_with(go_at_call 167;(with_reducible refine CA.out.mono ?_);rintro e w2 ⟨rfl,hb2⟩;have B2:=zh hb2;clear hb2);have hs:=ST.out B2.out H0.out;rw[<-HZ1.out]at hs;exact bodyPost_ret (v:= .tuple #[.int .i64 0,.int .i64 (z:Nat)]) (by simp[results,Tryz.results121,go_sem]) rfl hs
end Go.Proofs.YtkcdaigaclpfjaaGreatDoor
namespace Go.Proofs.YtkcdaigaclpfjaaGreatDoor
open Go.RowKit
theorem g_pow:Tryz.prog.globalNamed "internal/strconv.uint64pow10" =some 2:=by kernel_rfl
structure Tb(w:World):Prop where
 pow:Lib.TabIs Tryz.prog w "internal/strconv.uint64pow10" .u64 Lib.pow10Tab
theorem Tb.on{w w':World}(h:Tb w)(hb:Below w.heap.size w w'):Tb w':=⟨Joins.tab_stays g_pow h.pow hb (Nat.le_refl _)⟩
theorem jin(w:World)(k:Nat)(os:Array Obj):Below w.heap.size w (Go.Sort.grow (w.drewN k) os):=
 ⟨rfl,rfl,rfl,by show w.heap.size<=(w.heap++os).size;rw[Array.size_append];omega,fun j hj=>by show(w.heap++os)[j]? =_;rw[Array.getElem?_append_left hj]⟩
theorem jru(n:Int)(hn:Spc.i64 n)(w:World)(ht:Tb w):Calls Tryz.prog 169 #[.int .i64 n] w (APos w (.string (txt (Spc.digs n)))):=by
 refine(Tryz.strconv_Itoa n hn.1 hn.2 w ht.pow).mono ?_;rintro e w' ⟨rfl,k,os,rfl⟩;rw[Spc.itoa_txt];exact⟨rfl,jin _ _ _⟩
open Go
def jod{H:Type}:DataW H->List Value
 | .lit (.int k n)=>[.int k n]
 | .lit (.bool b)=>[.bool b]
 | .lit (.string l)=>[.string ⟨l.toArray⟩]
 |_=>[]
def jrv{H:Type}:DataW H->List Value
 | .agg ds=>ds.flatMap jod
 |d=>jod d
def leaf3{H:Type}:DataW H->List Value
 | .agg ds=>ds.flatMap jrv
 |d=>jrv d
section
variable{H:Type}{enc:TypeId×Value->H}{P:Program}{w:World}{base:Nat}{spare:Nat->Bool}{held:Bool}{t e:TypeId}
def joe(enc:TypeId×Value->H)(P:Program)(w:World)(base:Nat)(spare:Nat->Bool)(held:Bool)(t:TypeId)(L:DataW H->List Value):Prop:=
 ∀fuel cs x,DataW.trod enc P w base spare held fuel t cs=some x->cs=L x.1
theorem jof{k:IntKind}(he:P.underlying t=some (.int k)):joe enc P w base spare held t jod:=fun fuel cs x h=>by
 obtain⟨n,rfl,rfl,_⟩:=DataW.trod_int he h;rfl
theorem jog(he:P.underlying t=some .string):joe enc P w base spare held t jod:=fun fuel cs x h=>by
 cases fuel with
 |zero=>simp[DataW.trod]at h
 |succ m=>
  unfold DataW.trod at h;rw[he]at h;split at h<;>simp_all;obtain⟨_,h⟩:=h;subst h;rfl
theorem chunks{k n:Nat}:∀{cs:List Value},cs.length=n*k->∀{c:Nat->List Value},(∀i,i<n->(cs.drop (i*k)).take k=c i)->cs=(List.range n).flatMap c:=by
 induction n with
 |zero=>
  intro cs hl c _;rw[Nat.zero_mul]at hl;rw[List.length_eq_zero_iff.1 hl];rfl
 |succ n ih=>
  intro cs hl c hc;have h0:=hc 0 zv;rw[Nat.zero_mul,List.drop_zero]at h0;have hl2:(cs.drop k).length=n*k:=by rw[List.length_drop,hl,Nat.succ_mul];omega
  have h1:=ih hl2 (c:=fun i=>c (i+1)) (fun i hi=>by
   have:=hc (i+1) zv;rw[<-this,List.drop_drop,Nat.succ_mul,Nat.add_comm])
  rw[List.range_succ_eq_map,List.flatMap_cons,List.flatMap_map,<-h0]
  conv=>lhs;rw[<-List.take_append_drop k cs]
  rw[h1]
theorem jf9{n:Nat}{L L2:DataW H->List Value}(hL:∀ds,L2 (.agg ds)=ds.flatMap L)(he:joe enc P w base spare held e L)(ht:P.underlying t=some (.array n e))(hc:P.cellsOf t=n*P.cellsOf e):joe enc P w base spare held t L2:=fun fuel cs x h=>by
 obtain⟨xs,m,rfl,rfl,hl,hxl,hi⟩:=DataW.trod_array ht h;rw[hc]at hl;have h2:=chunks hl (c:=fun i=>L ((xs.map (·.1)).getD i .nil)) (fun i hi2=>by
  have h3:=hi i hi2;have h4:xs[i]? =some (xs[i]'zv):=List.getElem?_eq_getElem _;rw[h4]at h3;have h5:=he _ _ _ h3;rw[h5,List.getD_eq_getElem?_getD,List.getElem?_map,h4];rfl)
 show cs=L2 (.agg (xs.map (·.1)));rw[hL];rw[h2];have:∀(ds:List (DataW H)),(List.range ds.length).flatMap (fun i=>L (ds.getD i .nil))=ds.flatMap L:=by
  intro ds
  induction ds with
  |nil=>rfl
  |cons d ds ih=>
   rw[List.length_cons,List.range_succ_eq_map,List.flatMap_cons,List.flatMap_map,List.flatMap_cons]
   congr 1
 have h6:=this (xs.map (·.1));rw[List.length_map,hxl]at h6;exact h6
end
def jgr(P:Program)(w:World)(name:String)(cs:List Value):Prop:=w.var? P name=some cs.toArray
theorem jk3{P:Program}{W:World}{name:String}{d:DataW Unit}{l:List (String×DataW Unit)}{g:Nat}{t:TypeId}{L:DataW Unit->List Value}(hm:laidMet P l W)(hd:(name,d)∈l)(hg:P.globalNamed name=some g)(hty:(P.globals[g]?).map (·.type)=some t)
  (hT:∀w base spare held,joe (fun _=>()) P w base spare held t L):jgr P W name (L d):=by
 obtain⟨g',t',cs,fuel,p,h1,h2,h3,h4⟩:=Lib.laidMet.reads hm hd;rw[hg]at h1;obtain rfl:=Option.some.inj h1;rw[hty]at h2;obtain rfl:=Option.some.inj h2;have:=hT _ _ _ _ _ _ _ h4;unfold jgr;rw[h3,<-this]
theorem jgr.on{P:Program}{w w':World}{name:String}{cs:List Value}{g:Nat}(hg:P.globalNamed name=some g)(h:jgr P w name cs)(hb:Below w.heap.size w w'):jgr P w' name cs:=Joins.var_stays hg h hb (Nat.le_refl _)
theorem jgr.cell{P:Program}{w:World}{name:String}{cs:List Value}{g:Nat}(hg:P.globalNamed name=some g)(h:jgr P w name cs){i:Nat}{v:Value}(hi:cs[i]? =some v):w.cell? ⟨g,i,none⟩=some v:=by
 unfold jgr World.var? at h;rw[hg]at h;simp only[Option.bind_some]at h;split at h
 ·rename_i c T fr hh
  obtain rfl:=Option.some.inj h;rw[cell_of_row w g i _ _ _ hh];simpa using hi
 ·cases h
end Go.Proofs.YtkcdaigaclpfjaaGreatDoor
namespace Go.Proofs.YtkcdaigaclpfjaaGreatDoor
open Go.RowKit
theorem jj6:Tryz.prog.globalNamed "pacesetter/phase.leads" =some 1:=by kernel_rfl
theorem jhn:Tryz.prog.globalNamed "pacesetter/phase.words" =some 0:=by kernel_rfl
def jrw(p e:Int):Int:=if Ph.to_ p e= -1 then 0 else Ph.to_ p e
theorem jrx{p e:Int}(h:Ph.to_ p e= -1):jrw p e=0:=if_pos h
theorem joh{p e:Int}(h:Ph.to_ p e≠-1):jrw p e=Ph.to_ p e:=if_neg h
theorem to_pos{p e:Int}(h:Ph.to_ p e≠-1):Ph.to_ p e≠0:=by
 rcases Ph.pairs h with⟨rfl,rfl⟩|⟨rfl,rfl⟩|⟨rfl,rfl⟩|⟨rfl,rfl⟩|⟨rfl,rfl⟩|⟨rfl,rfl⟩|⟨rfl,rfl⟩|⟨rfl,rfl⟩|⟨rfl,rfl⟩|⟨rfl,rfl⟩|⟨rfl,rfl⟩|⟨rfl,rfl⟩
 all_goals decide
def joi:List Value:=[0,1,2,3,4,5].flatMap fun p=>[0,1,2,3,4,5,6,7,8].map fun e=> .int .i64 (jrw p e)
def joj:List Value:=[0,1,2,3,4,5,6,7,8].map fun e=> .string (Ph.word e)
structure PT(w:World):Prop where
 leads:jgr Tryz.prog w "pacesetter/phase.leads" joi
 words:jgr Tryz.prog w "pacesetter/phase.words" joj
theorem PT.on{w w':World}(h:PT w)(hb:Below w.heap.size w w'):PT w':=⟨h.leads.on jj6 hb,h.words.on jhn hb⟩
theorem jok(p e:Nat)(hp:p<6)(he:e<9):joi[p*9+e]? =some (.int .i64 (jrw p e)):=by
 rcases p with _|_|_|_|_|_|p
 all_goals first|omega|skip
 all_goals rcases e with _|_|_|_|_|_|_|_|_|e
 all_goals first|rfl|omega
theorem jio(p:Nat)(hp:p<9):joj[p]? =some (.string (Ph.word p)):=by
 rcases p with _|_|_|_|_|_|_|_|_|p
 all_goals first|rfl|omega
theorem jry(n:Int)(w:World):Calls Tryz.prog 171 #[.int .i64 n] w fun x w'=>x= .returned (.bool (decide (0<=n)&&decide (n<6)))/\w'=w:=by
 by_cases h1:0<=n
 ·by_cases h2:n<6
  ·rw[decide_eq_true h1,decide_eq_true h2]
   go_enter Tryz.func171,Tryz.ntmps171;go_wp2_with fail;go_ret;exact⟨rfl,rfl⟩
  ·rw[decide_eq_true h1,decide_eq_false h2]
   go_enter Tryz.func171,Tryz.ntmps171;go_wp2_with fail;go_ret;exact⟨rfl,rfl⟩
 ·rw[decide_eq_false h1]
  go_enter Tryz.func171,Tryz.ntmps171;go_wp2_with fail;go_ret;exact⟨rfl,rfl⟩
theorem jk4(n:Int)(w:World):Calls Tryz.prog 172 #[.int .i64 n] w fun x w'=>x= .returned (.bool (decide (0<=n)&&decide (n<9)))/\w'=w:=by
 by_cases h1:0<=n
 ·by_cases h2:n<9
  ·rw[decide_eq_true h1,decide_eq_true h2]
   go_enter Tryz.func172,Tryz.ntmps172;go_wp2_with fail;go_ret;exact⟨rfl,rfl⟩
  ·rw[decide_eq_true h1,decide_eq_false h2]
   go_enter Tryz.func172,Tryz.ntmps172;go_wp2_with fail;go_ret;exact⟨rfl,rfl⟩
 ·rw[decide_eq_false h1]
  go_enter Tryz.func172,Tryz.ntmps172;go_wp2_with fail;go_ret;exact⟨rfl,rfl⟩
theorem jol(p e:Int)(hp:i64P p)(he:i64P e)(w:World)(ht:PT w):Calls Tryz.prog 126 #[.int .i64 p,.int .i64 e] w (je7 w (.int .i64 (Ph.next p e)) (.bool (Ph.did p e))):=by
 have B:=zh (Below.refl w.heap.size w);have CI:=zh (fun n W=>jry n W);have CJ:=zh (fun n W=>jk4 n W);by_cases h1:0<=p/\p<6
 ·obtain⟨k,rfl⟩:=Int.eq_ofNat_of_zero_le h1.1
  by_cases h2:0<=e/\e<9
  ·obtain⟨j,rfl⟩:=Int.eq_ofNat_of_zero_le h2.1
   have hc:=ht.leads.cell jj6 (jok k j zv zv);have hi:=fun W=>CI.out (k:Int) W;have hj:=fun W=>CJ.out (j:Int) W;rw[decide_eq_true h1.1,decide_eq_true h1.2]at hi;rw[decide_eq_true h2.1,decide_eq_true h2.2]at hj;have HI:=zh hi;have HJ:=zh hj;have a1:=h1.1;have a2:=h1.2;have a3:=h2.1;have a4:=h2.2;clear hi hj CI CJ ht hp he h1 h2;by_cases hd:Ph.to_ (k:Nat) (j:Nat)= -1
   ·rw[(Ph.next_no hd).1,(Ph.next_no hd).2]
    rw[jrx hd]at hc;clear hd;go_enter Tryz.func126,Tryz.ntmps126
    go_wp2_with(first
     |(go_at_call 171;(with_reducible refine(HI.out _).mono ?_);rintro x w1 ⟨rfl,rfl⟩)
     |(go_at_call 172;(with_reducible refine(HJ.out _).mono ?_);rintro x w1 ⟨rfl,rfl⟩))
    go_ret2;exact⟨rfl,B.out⟩
   ·rw[(Ph.next_yes rfl hd).1,(Ph.next_yes rfl hd).2]
    have hq:(Ph.to_ (k:Nat) (j:Nat)==0)=false:=by rw[beq_eq_false_iff_ne];exact to_pos hd
    rw[joh hd]at hc;clear hd;generalize Ph.to_ (k:Nat) (j:Nat)=x at*;go_enter Tryz.func126,Tryz.ntmps126
    go_wp2_with(first
     |(go_at_call 171;(with_reducible refine(HI.out _).mono ?_);rintro x w1 ⟨rfl,rfl⟩)
     |(go_at_call 172;(with_reducible refine(HJ.out _).mono ?_);rintro x w1 ⟨rfl,rfl⟩))
    go_ret2;exact⟨rfl,B.out⟩
  ·have hf:=Ph.far (p:=(k:Nat)) (e:=e) (.inr zv)
   rw[(Ph.next_no hf).1,(Ph.next_no hf).2];have hi:=fun W=>CI.out (k:Int) W;have hj:=fun W=>CJ.out e W;rw[decide_eq_true h1.1,decide_eq_true h1.2]at hi;have hz:(decide (0<=e)&&decide (e<9))=false:=by rw[Bool.and_eq_false_iff,decide_eq_false_iff_not,decide_eq_false_iff_not];omega
   rw[hz]at hj;have HI:=zh hi;have HJ:=zh hj;clear hi hj CI CJ ht hp he h1 h2 hz hf;go_enter Tryz.func126,Tryz.ntmps126
   go_wp2_with(first
    |(go_at_call 171;(with_reducible refine(HI.out _).mono ?_);rintro x w1 ⟨rfl,rfl⟩)
    |(go_at_call 172;(with_reducible refine(HJ.out _).mono ?_);rintro x w1 ⟨rfl,rfl⟩))
   go_ret2;exact⟨rfl,B.out⟩
 ·have hf:=Ph.far (p:=p) (e:=e) (.inl zv)
  rw[(Ph.next_no hf).1,(Ph.next_no hf).2];have hi:=fun W=>CI.out p W;have hz:(decide (0<=p)&&decide (p<6))=false:=by rw[Bool.and_eq_false_iff,decide_eq_false_iff_not,decide_eq_false_iff_not];omega
  rw[hz]at hi;have HI:=zh hi;clear hi CI CJ ht hp he h1 hz hf;go_enter Tryz.func126,Tryz.ntmps126;go_wp2_with(go_at_call 171;(with_reducible refine(HI.out _).mono ?_);rintro x w1 ⟨rfl,rfl⟩);go_ret2;exact⟨rfl,B.out⟩
theorem jom{n:Int}(h: -1000<=n/\n<=1000):i64P n:=by unfold i64P;omega
theorem jon(p:Int)(w:World)(ht:PT w):Calls Tryz.prog 127 #[.int .i64 p] w (ja8 w (.string (Ph.word p))):=by
 have B:=zh (Below.refl w.heap.size w);have hi:=fun W=>jk4 p W;by_cases h1:0<=p/\p<9
 ·obtain⟨k,rfl⟩:=Int.eq_ofNat_of_zero_le h1.1
  have hc:=ht.words.cell jhn (jio k zv);rw[decide_eq_true h1.1,decide_eq_true h1.2]at hi;have HI:=zh hi;have a1:=h1.1;have a2:=h1.2;clear hi ht h1;generalize Ph.word (k:Nat)=u at*;go_enter Tryz.func127,Tryz.ntmps127;go_wp2_with(go_at_call 172;(with_reducible refine(HI.out _).mono ?_);rintro x w1 ⟨rfl,rfl⟩);go_ret;exact⟨rfl,B.out⟩
 ·rw[Ph.word_none zv]
  have hz:(decide (0<=p)&&decide (p<9))=false:=by rw[Bool.and_eq_false_iff,decide_eq_false_iff_not,decide_eq_false_iff_not];omega
  rw[hz]at hi;have HI:=zh hi;clear hi ht h1 hz;go_enter Tryz.func127,Tryz.ntmps127;go_wp2_with(go_at_call 172;(with_reducible refine(HI.out _).mono ?_);rintro x w1 ⟨rfl,rfl⟩);go_ret;exact⟨rfl,B.out⟩
theorem pof_any(t:ByteArray)(w:World)(ht:PT w):Calls Tryz.prog 125 #[.string t] w (je7 w (.int .i64 (Ph.of t)) (.bool (Ph.isWord t))):=by
 have HW:=zh (fun j (hj:j<9)=>ht.words.cell jhn (jio j hj));have B:=zh (Below.refl w.heap.size w);clear ht;go_enter Tryz.func125,Tryz.ntmps125;go_wp2_with fail;go_loopw [5] (fun i wr=>∃k:Nat,k<=9/\i= .int .i64 k/\(∀j,j<k->Ph.word (j:Nat)≠t)/\wr=w) (fun i _=>9 -(intOf i).toNat)
 case atStart=>exact⟨0,zv,rfl,fun j hj=>by omega,rfl⟩
 case round=>
  obtain⟨k,hk,rfl,hj,rfl⟩:=hrel;have HJ:=zh hj;clear hj;by_cases hlt:k<9
  ·have hi:(k:Int)<9:=by omega
   have hc:=HW.out k hlt;by_cases he:Ph.word (k:Nat)=t
   ·have hts:((Ph.word (k:Nat)).toList==t.toList)=true:=by rw[jbu];exact decide_eq_true he
    have EP:Hid (Ph.place t=k):=Ph.place_is t hlt he HJ.out;clear he;generalize Ph.word (k:Nat)=u at*;go_wp2_with fail;go_ret2;refine⟨?_,B.out⟩;have h1:Ph.of t=(k:Nat):=by unfold Ph.of;rw[EP.out,if_pos hlt]
    have h2:Ph.isWord t=true:=by unfold Ph.isWord;rw[EP.out];exact decide_eq_true hlt
    rw[h1,h2];rfl
   ·have hts:((Ph.word (k:Nat)).toList==t.toList)=false:=by rw[jbu];exact decide_eq_false he
    have HE:=zh he;clear he;generalize hu:Ph.word (k:Nat)=u at*;have HU:=zh hu;clear hu;go_wp2_with fail;refine⟨⟨k+1,zv,by go_num,fun j hj=> ?_,trivial⟩,by simp[intOf];omega⟩;by_cases e:j=k
    ·subst e;rw[HU.out];exact HE.out
    ·exact HJ.out j zv
  ·obtain rfl:k=9:=by omega
   have EP:Hid (Ph.place t=9):=Ph.place_none t HJ.out;go_wp2_with fail;go_ret2;refine⟨?_,B.out⟩;have h1:Ph.of t=0:=by unfold Ph.of;rw[EP.out,if_neg zv]
   have h2:Ph.isWord t=false:=by unfold Ph.isWord;rw[EP.out];exact decide_eq_false zv
   rw[h1,h2];rfl
theorem joo(p:Int)(w:World):Calls Tryz.prog 123 #[.int .i64 p] w (ja8 w (.bool (Ph.open_ p))):=by
 have B:=zh (Below.refl w.heap.size w);by_cases h:p=1\/p=2\/p=4
 ·rcases h with rfl|rfl|rfl
  all_goals
   go_enter Tryz.func123,Tryz.ntmps123;go_wp2_with fail;go_ret;exact⟨rfl,B.out⟩
 ·rw[show Ph.open_ p=false from by unfold Ph.open_;simp;omega]
  have q1:(p==1)=false:=by rw[beq_eq_false_iff_ne];omega
  have q2:(p==2)=false:=by rw[beq_eq_false_iff_ne];omega
  have q4:(p==4)=false:=by rw[beq_eq_false_iff_ne];omega
  clear h;go_enter Tryz.func123,Tryz.ntmps123;go_wp2_with fail;go_ret;exact⟨rfl,B.out⟩open Go.Maps
structure BT(w:World):Prop where
 pow:Tb w
 ph:PT w
theorem BT.on{w w':World}(h:BT w)(hb:Below w.heap.size w w'):BT w':=⟨h.pow.on hb,h.ph.on hb⟩
structure BdIs(w:World)(q:Nat)(s:Bk.St)(ru:Nat->Bk.Un)(rv:Int)(lo ko:Option Nat)(H:Value)(K:Kv.St):Prop where
 at_:BdAt w q s ru rv (.map lo) (.map ko) H
 ls:LM.Opt w lo (Ls.zOf (Bd.tab s).l) (Bd.tab s).l.length
 kv:MapO w ko K.l
 kg:Kv.Good K
 kr:K.rev=rv
 kb:rv<=s.vs.length
 dg:Bd.Digs K s.vs
 raw:Bd.Raw ru s.us
 h:OwF Bk.rcC 18 45 w 0 H s.h
 lk:∀m,lo=some m->ko≠some m
 lok:Bd.Lok s
section
variable{w w':World}{q:Nat}{s:Bk.St}{ru:Nat->Bk.Un}{rv:Int}{lo ko:Option Nat}{H:Value}{K:Kv.St}
theorem jmh{H:Value}{e:TypeId}{w:World}{B:Nat}{l:List Rc.R}(h:OwF Bk.rcC 18 e w B H l):∀t,H≠ .string t:=by
 obtain⟨A,c,rfl⟩:=h.form;intro t e
 cases e
theorem BdIs.lsIs(h:BdIs w q s ru rv lo ko H K):LsIs w q (Bd.cells s ru rv (.map lo) (.map ko) H) 91 lo (Bd.tab s):=by
 refine⟨h.at_.row,rfl,rfl,h.ls,Bd.tab_good h.lok,fun e he=> ?_,?_⟩
 ·have:=h.lok.ok.ep
  unfold Bd.tab at he;by_cases h0:s.ep=0
  ·simp[h0]at he
  ·simp only[if_neg h0,List.mem_singleton]at he
   subst he;show s.ep<=_;omega
 ·unfold Bd.tab
  show(if s.ep=0 then[]else[_]).length<=_;split<;>simp
theorem BdIs.kvIs(h:BdIs w q s ru rv lo ko H K):KvIs w q 2 (Bd.cells s ru rv (.map lo) (.map ko) H) 91 ko K:=
 ⟨h.at_.row,by rw[h.kr];rfl,rfl,Bd.nostr (fun t e=>by cases e) (fun t e=>by cases e) (jmh h.h),h.kv,h.kg⟩
theorem BdIs.qh(h:BdIs w q s ru rv lo ko H K):H.ownBlock≠some q:=by
 intro e;rcases h.h.2 with⟨rfl,_⟩|⟨g,cap,cur,rfl,hg,hh,r⟩
 ·cases e
 ·have e2:g=q:=by injection e
  subst e2;have:=h.at_.row;rw[hh]at this;injection this with this
  injection this with _ this
  exact absurd this (by decide)
theorem BdIs.ql(h:BdIs w q s ru rv lo ko H K):lo≠some q:=fun e=>(LsIs.ne (e▸h.lsIs)) rfl
theorem BdIs.qk(h:BdIs w q s ru rv lo ko H K):ko≠some q:=fun e=>(KvIs.ne (e▸h.kvIs)) rfl
theorem jmi{w:World}{m:Nat}{l:List Kv.En}(h:MapO w (some m) l):∃es clock,w.heap[m]? =some (.map es clock):=by
 obtain⟨D,⟨es,clock,hb,_⟩,_⟩:=show jbn Tryz.prog 9 w m l from h
 exact⟨es,clock,hb⟩
theorem BdIs.hl(h:BdIs w q s ru rv lo ko H K):∀m,lo=some m->H.ownBlock≠some m:=by
 intro m e e2;subst e;obtain⟨es,clock,hb⟩:=MapW.At.block (M:=LM) h.ls;rcases h.h.2 with⟨rfl,_⟩|⟨g,cap,cur,rfl,hg,hh,r⟩
 ·cases e2
 ·have e3:g=m:=by injection e2
  subst e3;rw[hh]at hb;injection hb with hb
  cases hb
theorem BdIs.hk(h:BdIs w q s ru rv lo ko H K):∀m,ko=some m->H.ownBlock≠some m:=by
 intro m e e2;subst e;obtain⟨es,clock,hb⟩:=jmi h.kv;rcases h.h.2 with⟨rfl,_⟩|⟨g,cap,cur,rfl,hg,hh,r⟩
 ·cases e2
 ·have e3:g=m:=by injection e2
  subst e3;rw[hh]at hb;injection hb with hb
  cases hb
theorem BdIs.keep(h:BdIs w q s ru rv lo ko H K)(h1:w'.heap[q]? =w.heap[q]?)(h2:∀m,lo=some m->w'.heap[m]? =w.heap[m]?)(h3:∀m,ko=some m->w'.heap[m]? =w.heap[m]?)(h4:∀m,H.ownBlock=some m->w'.heap[m]? =w.heap[m]?):BdIs w' q s ru rv lo ko H K:=
 {h with at_:=h.at_.keep h1,ls:=h.ls.keep h2,kv:=h.kv.keep h3,h:=h.h.keep h4}
theorem BdIs.lt(h:BdIs w q s ru rv lo ko H K):q<w.heap.size/\(∀m,lo=some m->m<w.heap.size)/\(∀m,ko=some m->m<w.heap.size)/\∀m,H.ownBlock=some m->m<w.heap.size:=
 ⟨h.at_.lt,fun m e=>by subst e;exact MapW.Opt.lt h.ls,fun m e=>by subst e;exact MapO.lt h.kv,fun m e=>(h.h.lt m e).2⟩
theorem BdIs.on(h:BdIs w q s ru rv lo ko H K)(hb:Below w.heap.size w w'):BdIs w' q s ru rv lo ko H K:=
 h.keep (hb.block q h.lt.1) (fun m e=>hb.block m (h.lt.2.1 m e)) (fun m e=>hb.block m (h.lt.2.2.1 m e)) (fun m e=>hb.block m (h.lt.2.2.2 m e))
def BdF(q:Nat)(lo ko:Option Nat)(H:Value)(i:Nat):Prop:=i=q\/lo=some i\/ko=some i\/H.ownBlock=some i
theorem BdIs.ltF(h:BdIs w q s ru rv lo ko H K):∀i,BdF q lo ko H i->i<w.heap.size:=by
 rintro i (rfl|e|e|e)
 ·exact h.lt.1
 ·exact h.lt.2.1 i e
 ·exact h.lt.2.2.1 i e
 ·exact h.lt.2.2.2 i e
end
def BdP:jn4:=fun w X q s=>∃ru rv lo ko H K,BdIs w q s ru rv lo ko H K/\(∀i,BdF q lo ko H i->X i)/\∀i,X i->i<w.heap.size
def jaw(q:Nat)(lo ko:Option Nat)(H:Value)(s':Bk.St)(v:Value)(W:World)(e:Ending)(w':World):Prop:=
 ∃ru' rv' lo' ko' H' K',e= .returned v/\BdIs w' q s' ru' rv' lo' ko' H' K'/\Kept (BdF q lo ko H) W w'/\∀i,BdF q lo' ko' H' i->BdF q lo ko H i\/W.heap.size<=i
section
variable{W W1 w':World}{X:Nat->Prop}{q:Nat}{s s':Bk.St}{ru:Nat->Bk.Un}{rv:Int}{lo ko:Option Nat}{H:Value}{K:Kv.St}{v:Value}{e:Ending}
theorem jaw.turn(hX:∀i,BdF q lo ko H i->X i)(hl:∀i,X i->i<W.heap.size)(h:jaw q lo ko H s' v W e w'):BTurn BdP X q s' v W e w':=by
 obtain⟨ru',rv',lo',ko',H',K',h1,h2,h3,h4⟩:=h;refine⟨fun i=>X i\/BdF q lo' ko' H' i,h1,⟨ru',rv',lo',ko',H',K',h2,fun i hi=> .inr hi,fun i hi=> ?_⟩,fun i hi=> ?_,h3.more fun i _ hi=>hX i hi⟩
 ·rcases hi with hi|hi
  ·exact Nat.lt_of_lt_of_le (hl i hi) h3.size
  ·exact h2.ltF i hi
 ·rcases hi with hi|hi
  ·exact .inl hi
  ·rcases h4 i hi with h5|h5
   ·exact .inl (hX i h5)
   ·exact .inr h5
theorem jaw.stay(h:BdIs W q s ru rv lo ko H K)(hb:Below W.heap.size W w')(v:Value):jaw q lo ko H s v W (.returned v) w':=
 ⟨ru,rv,lo,ko,H,K,rfl,h.on hb,Kept.of_below hb,fun _ hi=> .inl hi⟩
theorem jaw.ahead(hb:Below W.heap.size W W1)(h:jaw q lo ko H s' v W1 e w')(hl:∀i,BdF q lo ko H i->i<W.heap.size):jaw q lo ko H s' v W e w':=by
 obtain⟨ru',rv',lo',ko',H',K',h1,h2,h3,h4⟩:=h;exact⟨ru',rv',lo',ko',H',K',h1,h2,(Kept.of_below (F:=BdF q lo ko H) hb).trans h3 fun _ _ h=>h,fun i hi=>(h4 i hi).imp id (Nat.le_trans hb.size)⟩
theorem jaw.ret(h:jaw q lo ko H s' v W e w')(u:Value):jaw q lo ko H s' u W (.returned u) w':=by
 obtain⟨ru',rv',lo',ko',H',K',h1,h2,h3,h4⟩:=h;exact⟨ru',rv',lo',ko',H',K',rfl,h2,h3,h4⟩
end
end Go.Proofs.YtkcdaigaclpfjaaGreatDoor
