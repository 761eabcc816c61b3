import Derived.Test.YtabandbigckfkaaGreatDoorQa12
import Derived.Maps.OwnSet
import Derived.Maps.OwnOps
import Derived.Maps.RangeWalk
import Derived.StringKeys
import Derived.Laws.IdiomRangeMap
import Derived.Laws.Strings
set_option maxHeartbeats 6400000
set_option maxRecDepth 100000
set_option linter.unusedSimpArgs false
set_option linter.unusedVariables false
namespace Go.Proofs.YtabandbigckfkaaGreatDoor
open Go.RowKit
def jgk(L V H:Value)(b:Nat):Prop:=∃A n c o,(L= .slice A n c∨V= .slice A n c∨H= .slice A n c)∧A=some ⟨b,o,none⟩∧0<n
theorem jk9{W:World}{s:Bk.St}{L V H:Value}(h:BkRd W s L V H){b:Nat}(hr:jgk L V H b):b<W.heap.size:=by
 obtain⟨⟨A1,c1,e1,h1⟩,⟨A2,c2,e2,h2⟩,⟨A3,c3,e3,h3⟩⟩:=h;obtain⟨A,n,c,o,hx,ha,hp⟩:=hr;rcases hx with e|e|e
 ·rw[e1]at e;injection e with x1 x2 x3;subst x1 x2 x3
  obtain⟨b',o',e',hb,_⟩:=h1.rd hp;rw[ha]at e';injection e' with e';injection e' with e' _;omega
 ·rw[e2]at e;injection e with x1 x2 x3;subst x1 x2 x3
  obtain⟨b',o',e',hb,_⟩:=h2.rd hp;rw[ha]at e';injection e' with e';injection e' with e' _;omega
 ·rw[e3]at e;injection e with x1 x2 x3;subst x1 x2 x3
  obtain⟨b',o',e',hb,_⟩:=h3.rd hp;rw[ha]at e';injection e' with e';injection e' with e' _;omega
theorem jgl{W:World}{L V H L2 V2 H2:Value}(h:jfe W L V H L2 V2 H2){b:Nat}(hr:jgk L2 V2 H2 b):jgk L V H b∨W.heap.size≤b:=by
 obtain⟨A,n,c,o,hx,ha,hp⟩:=hr;obtain⟨h1,h2,h3⟩:=h;rcases hx with e|e|e
 ·rcases h1 with h|h
  ·exact .inl ⟨A,n,c,o,.inl (h▸e),ha,hp⟩
  ·exact .inr (h A n c b o e ha hp)
 ·rcases h2 with h|h
  ·exact .inl ⟨A,n,c,o,.inr (.inl (h▸e)),ha,hp⟩
  ·exact .inr (h A n c b o e ha hp)
 ·rcases h3 with h|h
  ·exact .inl ⟨A,n,c,o,.inr (.inr (h▸e)),ha,hp⟩
  ·exact .inr (h A n c b o e ha hp)
theorem jfv{w w':World}{g:Nat}{s:Bk.St}{L V H:Value}(h:BkRd w s L V H)(hg:w.grownBy w' (some g))(hn:¬jgk L V H g):BkRd w' s L V H:=
 h.kept hg fun A n c b o e1 e2 hp e3=>hn (e3▸⟨A,n,c,o,e1,e2,hp⟩)
theorem jbb(w:World)(g:Nat)(cs:Array Value):w.grownBy (w.setRow g cs) (some g):=⟨rfl,rfl,rfl,by rw[jau];exact Nat.le_refl _,fun k _ hk=>jas _ _ (fun e=>hk (by rw[e]))⟩
structure OnAt(w0 W:World)(g:Nat)(s:Bk.St)(L V H v:Value)(ls:List Rc.R):Prop where
 bk:BkAt W g s L V H
 rd:BkRd W s L V H
 row:OwF Bk.rcC 18 45 W w0.heap.size v ls
 far:∀k,v.ownBlock=some k→k≠g∧¬jgk L V H k
 below:Below w0.heap.size w0 W
 ng:w0.heap.size≤g
 gn:¬jgk L V H g
section
variable{w0 W W':World}{g:Nat}{s:Bk.St}{L V H v:Value}{ls:List Rc.R}
theorem OnAt.on(h:OnAt w0 W g s L V H v ls)(hb:Below W.heap.size W W'):OnAt w0 W' g s L V H v ls:=⟨h.bk.on hb,h.rd.on hb,h.row.below hb,h.far,h.below.trans (hb.mono h.below.size),h.ng,h.gn⟩
structure OnLow(n g:Nat)(L V H v:Value):Prop where
 g:g<n
 v:∀k,v.ownBlock=some k→k<n
 r:∀b,jgk L V H b→b<n
theorem OnAt.low(h:OnAt w0 W g s L V H v ls):OnLow W.heap.size g L V H v:=⟨h.bk.lt,fun k hk=>(h.row.lt k hk).2,fun b hb=>jk9 h.rd hb⟩
theorem OnAt.other(h:OnAt w0 W g s L V H v ls){n g8:Nat}(lo:OnLow n g L V H v)(hg:n≤g8)(cs:Array Value):OnAt w0 (W.setRow g8 cs) g s L V H v ls:=by
 have h1:=lo.g;have h2:=h.ng;exact⟨h.bk.keep (jas _ _ (by omega)),jfv h.rd (jbb W g8 cs) (fun hr=>by have:=lo.r _ hr;omega),h.row.kept (jbb W g8 cs) (fun e=>by have:=lo.v _ e;omega),h.far,h.below.trans ((Below.refl w0.heap.size W).grown (jbb W g8 cs) h.below.size fun k e=>by injection e with e;omega),h.ng,h.gn⟩
theorem OnAt.book(h:OnAt w0 W g s L V H v ls){W1:World}{s2:Bk.St}{L2 V2 H2:Value}(hr:BkRd W s2 L2 V2 H2)(hn:jfe W1 L V H L2 V2 H2)(lo:OnLow W1.heap.size g L V H v):OnAt w0 (W.setRow g (Bk.cells s2 L2 V2 H2)) g s2 L2 V2 H2 v ls:=by
 have gn:¬jgk L2 V2 H2 g:=fun hx=>by
  rcases jgl hn hx with h1|h1
  ·exact h.gn h1
  ·have:=lo.g;omega
 refine⟨h.bk.setRow _ _ _ _,jfv hr (jbb W g _) gn,h.row.kept (jbb W g _) (fun e=>(h.far _ e).1 rfl),fun k hk=>⟨(h.far k hk).1,fun hx=> ?_⟩,h.below.trans ((Below.refl w0.heap.size W).grown (jbb W g _) h.below.size fun k e=>by injection e with e;have:=h.ng;omega),h.ng,gn⟩
 rcases jgl hn hx with h1|h1
 ·exact(h.far k hk).2 h1
 ·have:=lo.v k hk;omega
theorem OnAt.push(h:OnAt w0 W g s L V H v ls){v2:Value}{l2:List Rc.R}(ho:OwF Bk.rcC 18 45 W' w0.heap.size v2 l2)(hb:Below w0.heap.size W W')(hg:W.grownBy W' v.ownBlock)(hv:v2.ownBlock=v.ownBlock∨∃k,v2.ownBlock=some k∧W.heap.size≤k):OnAt w0 W' g s L V H v2 l2:=by
 have hrd:BkRd W' s L V H:=by
  cases hk:v.ownBlock with
  |none=>rw[hk]at hg;exact h.rd.on ((Below.refl W.heap.size W).grown hg (Nat.le_refl _) fun k e=>by cases e)
  |some k=>rw[hk]at hg;exact jfv h.rd hg (h.far k hk).2
 refine⟨h.bk.keep (hg.block g h.bk.lt fun e=>(h.far g e.symm).1 rfl),hrd,ho,fun k hk=> ?_,h.below.trans hb,h.ng,h.gn⟩;rcases hv with e|⟨k2,e,hk2⟩
 ·exact h.far k (e▸hk)
 ·rw[e]at hk
  injection hk with hk
  subst hk;exact⟨fun e=>by have:=h.bk.lt;omega,fun hx=>by have:=jk9 h.rd hx;omega⟩
end
theorem jn2(m:Int)(A:Option Addr)(k c:Nat)(l:List Rc.R)(hin:∀r∈l,Rc.In r)(w:World)(hs:SlF Bk.rcC w A k c l)(hk:k≤1000):Calls Tryz.prog 40 #[.int .i64 m,.slice A k c] w (jea w k):=by
 have hz:=jbe;have CN:=zh (fun W=>jge m W);have CX:Hid (∀s,Bk.Ok s→∀r,Rc.In r→∀L V H W,BkRd W s L V H→Calls Tryz.prog 32 #[.agg (Bk.cells s L V H),.agg (Rc.cells r)] W (jim W)):=fun s ok r hr L V H W h=>jhx s ok r hr L V H W h;have CA:Hid (∀s,Bk.Ok s→∀r,Rc.In r→∀L V H W,BkRd W s L V H→Calls Tryz.prog 37 #[.agg (Bk.cells s L V H),.agg (Rc.cells r)] W (jb1 L V H W (Bk.app s r) (.int .i64 (Bk.chk s r)))):=fun s ok r hr L V H W h=>jgi s ok r hr L V H W h;have S0:=zh hs;have HI:=zh hin;have HK:=zh hs.len;have hcap:=hs.cap;have hmax:=hs.max;clear hs hin;go_enter Tryz.func40,Tryz.ntmps40;go_upto_region 2 with fail
 generalize hv0:Value.slice none 0 0=v0;have HV:=zh hv0;clear hv0;go_upto_region 3 with(first
  |(go_at_call 34;(with_reducible refine(CN.out _).mono ?_);rintro e w2 ⟨L,V,H,rfl,hrd,hb⟩;have B2:=zh hb;have RD:=zh hrd;have Z2:=zh (BkAt.zero w2);clear hb hrd)
  |((with_reducible show zW);refine jab rfl (.tmp 6) (.tmp 12) rfl rfl rfl Z2.out RD.out.one ?_))
 rw[World.setRow_alloc_new];have hA:OnAt w (w2.alloc (.cells (Bk.cells (Bk.new m) L V H) 40)) w2.heap.size (Bk.new m) L V H v0 []:=by
  have hb:Below w2.heap.size w2 (w2.alloc (.cells (Bk.cells (Bk.new m) L V H) 40)):=(Below.refl _ _).alloc (Nat.le_refl _) _;exact⟨BkAt.new _ _ _ _ _,RD.out.on hb,HV.out▸OwF.none_ _ _ _,fun k hk=>(by rw[←HV.out]at hk;cases hk),B2.out.trans (hb.mono B2.out.size),B2.out.size,fun hr=>by have:=jk9 RD.out hr;omega⟩
 generalize w2.alloc (.cells (Bk.cells (Bk.new m) L V H) 40)=w3 at*;generalize w2.heap.size=g at*;have A3:=zh hA;clear hA RD B2 CN HV;go_wp2_with fail;go_loopw [5,7] (fun v i wr=>∃(j:Nat) (ls:List Rc.R) (s:Bk.St) (L V H:Value),j≤k∧i= .int .i64 j∧ls.length=j∧(∀r∈ls,Rc.In r)∧Bk.Ok s∧OnAt w wr g s L V H v ls) (fun v i wr=>k -(intOf i).toNat)
 case atStart=>exact⟨0,[],_,L,V,H,by omega,rfl,rfl,fun r h=>(by cases h),Bk.new_ok m,A3.out⟩
 case round=>
  clear A3;obtain⟨j,ls,s,L,V,H,hj,rfl,hll,hli,hok,ho⟩:=hrel;have AA:=zh ho;have LI:=zh hli;have LL:=zh hll;have OK:=zh hok;clear ho hli hll hok;have i1:(0:Int)≤(j:Int):=by omega
  have i3:((k:Nat):Int)≤1000:=by omega
  by_cases hlt:j<k
  ·have hx:l[j]? =some (l[j]'(by have:=HK.out;omega)):=List.getElem?_eq_getElem _
   generalize l[j]'(by have:=HK.out;omega)=r at hx;have HR:Hid (Rc.In r):=HI.out r (List.mem_of_getElem? hx);obtain⟨b,o,rfl,hbl,hrg⟩:=jbi S0.out hx;have RG:=zh hrg;have HB:=zh hbl;have i2:(j:Int)<(k:Int):=by omega
   have LO:=zh AA.out.low;have HLT:=zh hlt;clear hx hrg hbl hlt;obtain⟨n8,hn8⟩:∃n8,n8=wr.heap.size:=⟨_,rfl⟩;have N8:=zh hn8;rw[←hn8]at LO;clear hn8;go_upto_region 6 with fail
   refine wp_region_held_drew (S:=fun W=>OnAt w W g s L V H u5 ls∧n8≤W.heap.size) (by kernel_rfl) ⟨AA.out.on (Below.refl _ _).drew,Nat.le_of_eq N8.out⟩ (fun hS=> ?_);refine tZ 0 (v:= .agg (Bk.cells s L V H)) rfl (fun W hW=>jk0 (.tmp 6) rfl g s L V H rfl hW.1.bk) hS ?_;refine tY 1 hS ?_;refine tY 2 hS ?_;refine tY 3 hS ?_;refine tZ 4 (v:= .agg (Rc.cells r)) rfl (fun W hW=>jcz (.tmp 22) rfl b (o+j*18) r (by simp[Act.eval,go_sem]) (jbs RG.out (hW.1.below.block b HB.out))) hS ?_;simp only[Act.put,zT,zO,zS];refine jdq 5 6 rfl rfl (by kernel_rfl) rfl rfl (fun K hK=> ?_) (fun K hK=> ?_)
   ·go_simp
    with_reducible refine(CX.out s OK.out r HR.out L V H _ hS.1.rd).mono ?_
    rintro e w5 ⟨r2,rfl,hr2,hb⟩;have hS2:=hS.1.on hb;have hn2:=Nat.le_trans hS.2 hb.size;have HR2:=zh hr2;clear hS hb hr2;have hS:=And.intro hS2 hn2;clear hS2 hn2;refine hK.out _ _ hS (fun _=> ?_);clear hK K;try simp only[Act.put,zT,zO,zS]
    refine rO 6 (fun K hK=> ?_);go_simp;have hb8:Below w5.heap.size w5 (w5.alloc (.cells #[.int .i64 0,.int .i64 0,.int .i64 0,.int .i64 0,.int .i64 0,.string ⟨#[]⟩,.int .i64 0,.int .i64 0,.int .i64 0,.int .i64 0,.int .i64 0,.int .i64 0,.int .i64 0,.int .i64 0,.int .i64 0,.int .i64 0,.int .i64 0,.int .i64 0] 45)):=(Below.refl _ _).alloc (Nat.le_refl _) _;have hS2:=hS.1.on hb8;have hn2:=Nat.le_trans hS.2 hb8.size;have hZ8:RcAt (w5.alloc (.cells #[.int .i64 0,.int .i64 0,.int .i64 0,.int .i64 0,.int .i64 0,.string ⟨#[]⟩,.int .i64 0,.int .i64 0,.int .i64 0,.int .i64 0,.int .i64 0,.int .i64 0,.int .i64 0,.int .i64 0,.int .i64 0,.int .i64 0,.int .i64 0,.int .i64 0] 45)) w5.heap.size Rc.none_:=⟨heap_alloc_new w5 _⟩;have hG8:n8≤w5.heap.size:=hS.2;obtain⟨g8,hg8⟩:∃g8,g8=w5.heap.size:=⟨_,rfl⟩;rw[←hg8]at hZ8 hG8;rw[←hg8];clear hg8 hb8;generalize w5.alloc (.cells #[.int .i64 0,.int .i64 0,.int .i64 0,.int .i64 0,.int .i64 0,.string ⟨#[]⟩,.int .i64 0,.int .i64 0,.int .i64 0,.int .i64 0,.int .i64 0,.int .i64 0,.int .i64 0,.int .i64 0,.int .i64 0,.int .i64 0,.int .i64 0,.int .i64 0] 45)=w8 at hS2 hZ8 hn2⊢;have Z8:=zh hZ8;have G8:=zh hG8;clear hS hZ8 hG8;have hS:=And.intro hS2 hn2;clear hS2 hn2;refine hK.out _ _ hS (fun _=> ?_);clear hK K;try simp only[Act.put,zT,zO,zS]
    refine rO 7 (fun K hK=> ?_);refine wp_store_row 45 (.tmp 8) (.tmp 24) rfl g8 (Rc.cells r2) rfl rfl 45 _ Z8.out.row (jal r2) rfl (Rc.one_cell r2) ?_;have hS2:=hS.1.other LO.out G8.out (Rc.cells r2);have hn2:n8≤(w8.setRow g8 (Rc.cells r2)).heap.size:=by rw[jau];exact hS.2
    have hZ2:RcAt (w8.setRow g8 (Rc.cells r2)) g8 r2:=⟨setRow_heap _ g8 _ _ _ _ Z8.out.row⟩;generalize w8.setRow g8 (Rc.cells r2)=wz at hS2 hn2 hZ2⊢;have ZZ:=zh hZ2;clear hS hZ2 Z8;have hS:=And.intro hS2 hn2;clear hS2 hn2;refine hK.out _ _ hS (fun _=> ?_);clear hK K;try simp only[Act.put,zT,zO,zS]
    refine wpAnyH_done (by kernel_rfl) ?_ _;have A5:=zh hS.1;have Z5:=ZZ;clear hS ZZ CX;obtain⟨bb,hbb⟩:∃bb,((j:Int)%9==8)=bb:=⟨_,rfl⟩
    cases bb with
    |true=>
     have RG5:=zh (jbs RG.out (A5.out.below.block b HB.out));go_upto_region 9 with(first
      |((with_reducible show zL 31);refine ja5 rfl (.tmp 30) rfl b (o+j*18) (by simp[Act.eval,go_sem]) r RG5.out ?_)
      |((with_reducible show zW);refine jac rfl (.tmp 8) (.tmp 31) rfl g8 r r2 rfl rfl Z5.out ?_))
     have A5:=zh (A5.out.other LO.out G8.out (Rc.cells r));have Z5:Hid (RcAt (wz.setRow g8 (Rc.cells r)) g8 r):=⟨setRow_heap _ g8 _ _ _ _ Z5.out.row⟩;clear RG5 RG HR2;generalize wz.setRow g8 (Rc.cells r)=w4 at*;go_upto_region 10 with(first
      |((with_reducible show zL 33);refine jaa rfl (.tmp 6) rfl rfl A5.out.bk ?_)
      |((with_reducible show zL 34);refine zR (.tmp 8) Z5.out ?_)
      |(go_at_call 37;(with_reducible refine(CA.out s OK.out r HR.out L V H _ A5.out.rd).mono ?_);rintro e w6 ⟨L2,V2,H2,rfl,hrd,hb,hnew⟩;have NW:=zh hnew;have RD6:=zh hrd;have LO9:=zh A5.out.low;have A6:=zh (A5.out.on hb);have Z6:=zh (RcAt.on Z5.out hb);have X6:=zh (BkAt.zero w6);clear hnew hrd hb A5 Z5)
      |((with_reducible show zW);refine jab rfl (.tmp 9) (.tmp 36) rfl rfl rfl X6.out RD6.out.one ?_))
     rw[World.setRow_alloc_new];have hb9:Below w6.heap.size w6 (w6.alloc (.cells (Bk.cells (Bk.app s r) L2 V2 H2) 40)):=(Below.refl _ _).alloc (Nat.le_refl _) _;have A7:=zh (A6.out.on hb9);have RD7:=zh (RD6.out.on hb9);have Z7:=zh (RcAt.on Z6.out hb9);have K9:=zh (BkAt.new w6 (Bk.app s r) L2 V2 H2);have NW7:=zh NW.out;clear hb9 A6 RD6 Z6 NW;generalize w6.alloc (.cells (Bk.cells (Bk.app s r) L2 V2 H2) 40)=w7 at*;generalize w6.heap.size=g9 at*;go_upto_region 11 with(first
      |((with_reducible show zL 38);refine jaa rfl (.tmp 9) rfl rfl K9.out ?_)
      |((with_reducible show zW);refine jab rfl (.tmp 6) (.tmp 38) rfl rfl rfl A7.out.bk RD7.out.one ?_))
     have A8:=zh (A7.out.book RD7.out NW7.out LO9.out);have Z8:Hid (RcAt (w7.setRow g (Bk.cells (Bk.app s r) L2 V2 H2)) g8 r):=⟨(jas _ _ (fun e=>by have:=LO.out.g;have:=G8.out;omega)).trans Z7.out.row⟩;have OK2:Hid (Bk.Ok (Bk.app s r)):=Bk.app_okay OK.out;clear A7 RD7 Z7 K9 NW7;generalize w7.setRow g (Bk.cells (Bk.app s r) L2 V2 H2)=w8 at*;generalize Bk.app s r=s2 at*
     go_wp2_with(first
      |((with_reducible show zL 40);refine zR (.tmp 8) Z8.out ?_)
      |((with_reducible show zB 41);refine jah Tryz.underlying28 jak (by omega) (by omega) rfl (.tmp 40) rfl (Rc.cells r) rfl rfl ?_)
      |(at_builtin;refine jad Bk.rcC_len Bk.rcC_one Tryz.underlying28 jak rfl (by omega) rfl (.tmp 39) (.tmp 41) rfl w.heap.size _ ls rfl A8.out.row r rfl (by have:=LL.out;unfold maxLen;omega) (by have:=LL.out;omega) A8.out.below.size ?_;intro v9 w9 ho9 hb9 hg9 hv9;have A9:=zh (A8.out.push ho9 hb9 hg9 hv9);clear ho9 hb9 hg9 hv9))
     refine⟨⟨j+1,ls++[r],s2,L2,V2,H2,by have:=HLT.out;omega,by go_num,by rw[List.length_append,List.length_singleton,LL.out],fun x hx=> ?_,OK2.out,A9.out⟩,by simp[intOf];have:=HLT.out;omega⟩;rcases List.mem_append.1 hx with hx|hx
     ·exact LI.out x hx
     ·rw[List.mem_singleton.1 hx];exact HR.out
    |false=>
     clear RG HR;go_upto_region 9 with fail
     go_upto_region 10 with(first
      |((with_reducible show zL 33);refine jaa rfl (.tmp 6) rfl rfl A5.out.bk ?_)
      |((with_reducible show zL 34);refine zR (.tmp 8) Z5.out ?_)
      |(go_at_call 37;(with_reducible refine(CA.out s OK.out r2 HR2.out L V H _ A5.out.rd).mono ?_);rintro e w6 ⟨L2,V2,H2,rfl,hrd,hb,hnew⟩;have NW:=zh hnew;have RD6:=zh hrd;have LO9:=zh A5.out.low;have A6:=zh (A5.out.on hb);have Z6:=zh (RcAt.on Z5.out hb);have X6:=zh (BkAt.zero w6);clear hnew hrd hb A5 Z5)
      |((with_reducible show zW);refine jab rfl (.tmp 9) (.tmp 36) rfl rfl rfl X6.out RD6.out.one ?_))
     rw[World.setRow_alloc_new];have hb9:Below w6.heap.size w6 (w6.alloc (.cells (Bk.cells (Bk.app s r2) L2 V2 H2) 40)):=(Below.refl _ _).alloc (Nat.le_refl _) _;have A7:=zh (A6.out.on hb9);have RD7:=zh (RD6.out.on hb9);have Z7:=zh (RcAt.on Z6.out hb9);have K9:=zh (BkAt.new w6 (Bk.app s r2) L2 V2 H2);have NW7:=zh NW.out;clear hb9 A6 RD6 Z6 NW;generalize w6.alloc (.cells (Bk.cells (Bk.app s r2) L2 V2 H2) 40)=w7 at*;generalize w6.heap.size=g9 at*;go_upto_region 11 with(first
      |((with_reducible show zL 38);refine jaa rfl (.tmp 9) rfl rfl K9.out ?_)
      |((with_reducible show zW);refine jab rfl (.tmp 6) (.tmp 38) rfl rfl rfl A7.out.bk RD7.out.one ?_))
     have A8:=zh (A7.out.book RD7.out NW7.out LO9.out);have Z8:Hid (RcAt (w7.setRow g (Bk.cells (Bk.app s r2) L2 V2 H2)) g8 r2):=⟨(jas _ _ (fun e=>by have:=LO.out.g;have:=G8.out;omega)).trans Z7.out.row⟩;have OK2:Hid (Bk.Ok (Bk.app s r2)):=Bk.app_okay OK.out;clear A7 RD7 Z7 K9 NW7;generalize w7.setRow g (Bk.cells (Bk.app s r2) L2 V2 H2)=w8 at*;generalize Bk.app s r2=s2 at*
     go_wp2_with(first
      |((with_reducible show zL 40);refine zR (.tmp 8) Z8.out ?_)
      |((with_reducible show zB 41);refine jah Tryz.underlying28 jak (by omega) (by omega) rfl (.tmp 40) rfl (Rc.cells r2) rfl rfl ?_)
      |(at_builtin;refine jad Bk.rcC_len Bk.rcC_one Tryz.underlying28 jak rfl (by omega) rfl (.tmp 39) (.tmp 41) rfl w.heap.size _ ls rfl A8.out.row r2 rfl (by have:=LL.out;unfold maxLen;omega) (by have:=LL.out;omega) A8.out.below.size ?_;intro v9 w9 ho9 hb9 hg9 hv9;have A9:=zh (A8.out.push ho9 hb9 hg9 hv9);clear ho9 hb9 hg9 hv9))
     refine⟨⟨j+1,ls++[r2],s2,L2,V2,H2,by have:=HLT.out;omega,by go_num,by rw[List.length_append,List.length_singleton,LL.out],fun x hx=> ?_,OK2.out,A9.out⟩,by simp[intOf];have:=HLT.out;omega⟩;rcases List.mem_append.1 hx with hx|hx
     ·exact LI.out x hx
     ·rw[List.mem_singleton.1 hx];exact HR2.out
   ·go_simp
    have hb8:Below wr.drew.heap.size wr.drew ((wr.alloc (.cells #[.int .i64 0,.int .i64 0,.int .i64 0,.int .i64 0,.int .i64 0,.string ⟨#[]⟩,.int .i64 0,.int .i64 0,.int .i64 0,.int .i64 0,.int .i64 0,.int .i64 0,.int .i64 0,.int .i64 0,.int .i64 0,.int .i64 0,.int .i64 0,.int .i64 0] 45)).drew):=(Below.refl wr.drew.heap.size wr.drew).alloc (Nat.le_refl _) _;have hS2:=hS.1.on hb8;have hn2:=Nat.le_trans hS.2 hb8.size;have hZ8:RcAt ((wr.alloc (.cells #[.int .i64 0,.int .i64 0,.int .i64 0,.int .i64 0,.int .i64 0,.string ⟨#[]⟩,.int .i64 0,.int .i64 0,.int .i64 0,.int .i64 0,.int .i64 0,.int .i64 0,.int .i64 0,.int .i64 0,.int .i64 0,.int .i64 0,.int .i64 0,.int .i64 0] 45)).drew) wr.heap.size Rc.none_:=⟨heap_alloc_new wr _⟩;have hG8:n8≤wr.heap.size:=hS.2;obtain⟨g8,hg8⟩:∃g8,g8=wr.heap.size:=⟨_,rfl⟩;rw[←hg8]at hZ8 hG8;rw[←hg8];clear hg8 hb8;generalize(wr.alloc (.cells #[.int .i64 0,.int .i64 0,.int .i64 0,.int .i64 0,.int .i64 0,.string ⟨#[]⟩,.int .i64 0,.int .i64 0,.int .i64 0,.int .i64 0,.int .i64 0,.int .i64 0,.int .i64 0,.int .i64 0,.int .i64 0,.int .i64 0,.int .i64 0,.int .i64 0] 45)).drew=w8 at hS2 hZ8 hn2⊢;have Z8:=zh hZ8;have G8:=zh hG8;clear hS hZ8 hG8;have hS:=And.intro hS2 hn2;clear hS2 hn2;refine hK.out _ _ hS (fun _=> ?_);clear hK K;try simp only[Act.put,zT,zO,zS]
    refine rO 5 (fun K hK=> ?_);go_simp
    with_reducible refine(CX.out s OK.out r HR.out L V H _ hS.1.rd).mono ?_
    rintro e w5 ⟨r2,rfl,hr2,hb⟩;have hS2:=hS.1.on hb;have hn2:=Nat.le_trans hS.2 hb.size;have HR2:=zh hr2;have Z8:=zh (RcAt.on Z8.out hb);clear hS hb hr2;have hS:=And.intro hS2 hn2;clear hS2 hn2;refine hK.out _ _ hS (fun _=> ?_);clear hK K;try simp only[Act.put,zT,zO,zS]
    refine rO 7 (fun K hK=> ?_);refine wp_store_row 45 (.tmp 8) (.tmp 24) rfl g8 (Rc.cells r2) rfl rfl 45 _ Z8.out.row (jal r2) rfl (Rc.one_cell r2) ?_;have hS2:=hS.1.other LO.out G8.out (Rc.cells r2);have hn2:n8≤(w5.setRow g8 (Rc.cells r2)).heap.size:=by rw[jau];exact hS.2
    have hZ2:RcAt (w5.setRow g8 (Rc.cells r2)) g8 r2:=⟨setRow_heap _ g8 _ _ _ _ Z8.out.row⟩;generalize w5.setRow g8 (Rc.cells r2)=wz at hS2 hn2 hZ2⊢;have ZZ:=zh hZ2;clear hS hZ2 Z8;have hS:=And.intro hS2 hn2;clear hS2 hn2;refine hK.out _ _ hS (fun _=> ?_);clear hK K;try simp only[Act.put,zT,zO,zS]
    refine wpAnyH_done (by kernel_rfl) ?_ _;have A5:=zh hS.1;have Z5:=ZZ;clear hS ZZ CX;obtain⟨bb,hbb⟩:∃bb,((j:Int)%9==8)=bb:=⟨_,rfl⟩
    cases bb with
    |true=>
     have RG5:=zh (jbs RG.out (A5.out.below.block b HB.out));go_upto_region 9 with(first
      |((with_reducible show zL 31);refine ja5 rfl (.tmp 30) rfl b (o+j*18) (by simp[Act.eval,go_sem]) r RG5.out ?_)
      |((with_reducible show zW);refine jac rfl (.tmp 8) (.tmp 31) rfl g8 r r2 rfl rfl Z5.out ?_))
     have A5:=zh (A5.out.other LO.out G8.out (Rc.cells r));have Z5:Hid (RcAt (wz.setRow g8 (Rc.cells r)) g8 r):=⟨setRow_heap _ g8 _ _ _ _ Z5.out.row⟩;clear RG5 RG HR2;generalize wz.setRow g8 (Rc.cells r)=w4 at*;go_upto_region 10 with(first
      |((with_reducible show zL 33);refine jaa rfl (.tmp 6) rfl rfl A5.out.bk ?_)
      |((with_reducible show zL 34);refine zR (.tmp 8) Z5.out ?_)
      |(go_at_call 37;(with_reducible refine(CA.out s OK.out r HR.out L V H _ A5.out.rd).mono ?_);rintro e w6 ⟨L2,V2,H2,rfl,hrd,hb,hnew⟩;have NW:=zh hnew;have RD6:=zh hrd;have LO9:=zh A5.out.low;have A6:=zh (A5.out.on hb);have Z6:=zh (RcAt.on Z5.out hb);have X6:=zh (BkAt.zero w6);clear hnew hrd hb A5 Z5)
      |((with_reducible show zW);refine jab rfl (.tmp 9) (.tmp 36) rfl rfl rfl X6.out RD6.out.one ?_))
     rw[World.setRow_alloc_new];have hb9:Below w6.heap.size w6 (w6.alloc (.cells (Bk.cells (Bk.app s r) L2 V2 H2) 40)):=(Below.refl _ _).alloc (Nat.le_refl _) _;have A7:=zh (A6.out.on hb9);have RD7:=zh (RD6.out.on hb9);have Z7:=zh (RcAt.on Z6.out hb9);have K9:=zh (BkAt.new w6 (Bk.app s r) L2 V2 H2);have NW7:=zh NW.out;clear hb9 A6 RD6 Z6 NW;generalize w6.alloc (.cells (Bk.cells (Bk.app s r) L2 V2 H2) 40)=w7 at*;generalize w6.heap.size=g9 at*;go_upto_region 11 with(first
      |((with_reducible show zL 38);refine jaa rfl (.tmp 9) rfl rfl K9.out ?_)
      |((with_reducible show zW);refine jab rfl (.tmp 6) (.tmp 38) rfl rfl rfl A7.out.bk RD7.out.one ?_))
     have A8:=zh (A7.out.book RD7.out NW7.out LO9.out);have Z8:Hid (RcAt (w7.setRow g (Bk.cells (Bk.app s r) L2 V2 H2)) g8 r):=⟨(jas _ _ (fun e=>by have:=LO.out.g;have:=G8.out;omega)).trans Z7.out.row⟩;have OK2:Hid (Bk.Ok (Bk.app s r)):=Bk.app_okay OK.out;clear A7 RD7 Z7 K9 NW7;generalize w7.setRow g (Bk.cells (Bk.app s r) L2 V2 H2)=w8 at*;generalize Bk.app s r=s2 at*
     go_wp2_with(first
      |((with_reducible show zL 40);refine zR (.tmp 8) Z8.out ?_)
      |((with_reducible show zB 41);refine jah Tryz.underlying28 jak (by omega) (by omega) rfl (.tmp 40) rfl (Rc.cells r) rfl rfl ?_)
      |(at_builtin;refine jad Bk.rcC_len Bk.rcC_one Tryz.underlying28 jak rfl (by omega) rfl (.tmp 39) (.tmp 41) rfl w.heap.size _ ls rfl A8.out.row r rfl (by have:=LL.out;unfold maxLen;omega) (by have:=LL.out;omega) A8.out.below.size ?_;intro v9 w9 ho9 hb9 hg9 hv9;have A9:=zh (A8.out.push ho9 hb9 hg9 hv9);clear ho9 hb9 hg9 hv9))
     refine⟨⟨j+1,ls++[r],s2,L2,V2,H2,by have:=HLT.out;omega,by go_num,by rw[List.length_append,List.length_singleton,LL.out],fun x hx=> ?_,OK2.out,A9.out⟩,by simp[intOf];have:=HLT.out;omega⟩;rcases List.mem_append.1 hx with hx|hx
     ·exact LI.out x hx
     ·rw[List.mem_singleton.1 hx];exact HR.out
    |false=>
     clear RG HR;go_upto_region 9 with fail
     go_upto_region 10 with(first
      |((with_reducible show zL 33);refine jaa rfl (.tmp 6) rfl rfl A5.out.bk ?_)
      |((with_reducible show zL 34);refine zR (.tmp 8) Z5.out ?_)
      |(go_at_call 37;(with_reducible refine(CA.out s OK.out r2 HR2.out L V H _ A5.out.rd).mono ?_);rintro e w6 ⟨L2,V2,H2,rfl,hrd,hb,hnew⟩;have NW:=zh hnew;have RD6:=zh hrd;have LO9:=zh A5.out.low;have A6:=zh (A5.out.on hb);have Z6:=zh (RcAt.on Z5.out hb);have X6:=zh (BkAt.zero w6);clear hnew hrd hb A5 Z5)
      |((with_reducible show zW);refine jab rfl (.tmp 9) (.tmp 36) rfl rfl rfl X6.out RD6.out.one ?_))
     rw[World.setRow_alloc_new];have hb9:Below w6.heap.size w6 (w6.alloc (.cells (Bk.cells (Bk.app s r2) L2 V2 H2) 40)):=(Below.refl _ _).alloc (Nat.le_refl _) _;have A7:=zh (A6.out.on hb9);have RD7:=zh (RD6.out.on hb9);have Z7:=zh (RcAt.on Z6.out hb9);have K9:=zh (BkAt.new w6 (Bk.app s r2) L2 V2 H2);have NW7:=zh NW.out;clear hb9 A6 RD6 Z6 NW;generalize w6.alloc (.cells (Bk.cells (Bk.app s r2) L2 V2 H2) 40)=w7 at*;generalize w6.heap.size=g9 at*;go_upto_region 11 with(first
      |((with_reducible show zL 38);refine jaa rfl (.tmp 9) rfl rfl K9.out ?_)
      |((with_reducible show zW);refine jab rfl (.tmp 6) (.tmp 38) rfl rfl rfl A7.out.bk RD7.out.one ?_))
     have A8:=zh (A7.out.book RD7.out NW7.out LO9.out);have Z8:Hid (RcAt (w7.setRow g (Bk.cells (Bk.app s r2) L2 V2 H2)) g8 r2):=⟨(jas _ _ (fun e=>by have:=LO.out.g;have:=G8.out;omega)).trans Z7.out.row⟩;have OK2:Hid (Bk.Ok (Bk.app s r2)):=Bk.app_okay OK.out;clear A7 RD7 Z7 K9 NW7;generalize w7.setRow g (Bk.cells (Bk.app s r2) L2 V2 H2)=w8 at*;generalize Bk.app s r2=s2 at*
     go_wp2_with(first
      |((with_reducible show zL 40);refine zR (.tmp 8) Z8.out ?_)
      |((with_reducible show zB 41);refine jah Tryz.underlying28 jak (by omega) (by omega) rfl (.tmp 40) rfl (Rc.cells r2) rfl rfl ?_)
      |(at_builtin;refine jad Bk.rcC_len Bk.rcC_one Tryz.underlying28 jak rfl (by omega) rfl (.tmp 39) (.tmp 41) rfl w.heap.size _ ls rfl A8.out.row r2 rfl (by have:=LL.out;unfold maxLen;omega) (by have:=LL.out;omega) A8.out.below.size ?_;intro v9 w9 ho9 hb9 hg9 hv9;have A9:=zh (A8.out.push ho9 hb9 hg9 hv9);clear ho9 hb9 hg9 hv9))
     refine⟨⟨j+1,ls++[r2],s2,L2,V2,H2,by have:=HLT.out;omega,by go_num,by rw[List.length_append,List.length_singleton,LL.out],fun x hx=> ?_,OK2.out,A9.out⟩,by simp[intOf];have:=HLT.out;omega⟩;rcases List.mem_append.1 hx with hx|hx
     ·exact LI.out x hx
     ·rw[List.mem_singleton.1 hx];exact HR2.out
  ·have i2:(k:Int)≤(j:Int):=by omega
   obtain⟨AF,cF,rfl⟩:=AA.out.row.form;have FIN:Hid (SlF Bk.rcC wr AF ls.length cF ls∧ls.length≤k∧Below w.heap.size w wr):=⟨AA.out.row.sl,by rw[LL.out];exact hj,AA.out.below⟩;clear hlt CX CA;go_wp2_with fail;go_ret;exact⟨AF,cF,ls,rfl,FIN.out.1,LI.out,FIN.out.2.1,FIN.out.2.2⟩
namespace Bk
def unC(u:Un):List Value:=[.int .i64 u.v,.int .i64 u.q,.bool u.d]
def units(s:St):List Un:=(List.range 16).map s.us
def viewC(s:St):Array Value:=#[.int .i64 s.ep,.int .i64 s.who,.int .i64 s.till,.int .i64 s.stable,.int .i64 s.from_,.int .i64 s.ph,.int .i64 s.step,.int .i64 s.since,.int .i64 s.begun,.int .i64 s.seq,.int .i64 s.sp.v,.int .i64 s.sp.d,.int .i64 s.sp.u,.int .i64 s.sp.n,.int .i64 s.sp.g,.int .i64 s.sp.a,.int .i64 s.sp.b,.int .i64 s.sp.c,.int .i64 s.sp.e,.int .i64 s.sp.w,.int .i64 s.sp.x,.int .i64 s.sp.k]
end Bk
abbrev jla(x:Int):Prop:= -9223372036854775808≤x∧x≤9223372036854775807
abbrev jji:=World→(Nat→Prop)→Nat→Bk.St→Prop
def BRet(v:Value)(w:World)(e:Ending)(w':World):Prop:=e= .returned v∧Below w.heap.size w w'
def BTurn(K:jji)(X:Nat→Prop)(q:Nat)(s':Bk.St)(v:Value)(w:World)(e:Ending)(w':World):Prop:=∃X',e= .returned v∧K w' X' q s'∧(∀i,X' i→X i∨w.heap.size≤i)∧Kept X w w'
def jdv{T:Type}(enc:T→List Value)(l:List T)(w:World)(e:Ending)(w':World):Prop:=∃A c,e= .returned (.slice A l.length c)∧SlF enc w' A l.length c l∧Below w.heap.size w w'∧∀b o,A=some ⟨b,o,none⟩→w.heap.size≤b
def jn3(K:jji)(s:Bk.St)(f:Value→Value)(w:World)(e:Ending)(w':World):Prop:=∃q X,e= .returned (f (.pointer (some ⟨q,0,none⟩)))∧K w' X q s∧(∀i,X i→w.heap.size≤i)∧Below w.heap.size w w'
structure BN:Prop where
 check:∀W r,Rc.In r→Calls Tryz.prog 33 #[.pointer none,.agg (Rc.cells r)] W (BRet (.int .i64 1) W)
 apply:∀W r,Rc.In r→Calls Tryz.prog 63 #[.pointer none,.agg (Rc.cells r)] W (BRet (.int .i64 1) W)
 view:∀W,Calls Tryz.prog 45 #[.pointer none] W (BRet (.agg (Bk.viewC Bk.none_)) W)
 units:∀W,Calls Tryz.prog 86 #[.pointer none] W (jdv Bk.unC [] W)
 digest:∀W n,jla n→Calls Tryz.prog 87 #[.pointer none,.int .i64 n] W (BRet (.tuple #[.string ⟨#[]⟩,.bool false]) W)
 versions:∀W,Calls Tryz.prog 89 #[.pointer none] W (jdv (fun n:Int=>[.int .i64 n]) [] W)
 history:∀W,Calls Tryz.prog 85 #[.pointer none] W (jdv Bk.rcC [] W)
 free:∀W n,jla n→Calls Tryz.prog 355 #[.pointer none,.int .i64 n] W (BRet (.bool false) W)
def BAt(K:jji)(w0:World)(F:Nat→Prop)(q:Nat)(s:Bk.St)(W:World):Prop:=∃X,K W X q s∧(∀i,X i→w0.heap.size≤i)∧(∀b,F b→¬X b∧b<W.heap.size)∧Below w0.heap.size w0 W
section
variable{K:jji}{w0 W W':World}{F:Nat→Prop}{q:Nat}{s:Bk.St}
def BRes(K:jji)(w0:World)(F:Nat→Prop)(q:Nat)(s':Bk.St)(x:Value)(W:World)(e:Ending)(w':World):Prop:=
 e= .returned x∧BAt K w0 F q s' w'∧∀b,F b→w'.heap[b]? =W.heap[b]?
end
open Go.Maps Go.WideMaps
structure MapW(P:Program)(kt et t:TypeId)(K V:Type) where
 kv:K→Value
 kl:K→Lit
 ok:K→Prop
 ev:V→Value
 ed:V→DataW Unit
 R:Value→Option (DataW Unit×List MemPlace)
 zero:V
 keyed:Keyed P kt
 ty:P.underlying t=some (.map kt et)
 key:∀k,ok k→keyOf P kt (kv k)=some (kl k)
 inv:∀v z,keyOf P kt v=some z→∃k,v=kv k∧z=kl k∧ok k
 inj:∀k k',kl k=kl k'→k=k'
 isKey:∀k,WideAt.IsKeyLit (kl k)
 rd:∀v,R (ev v)=some (ed v,[])
 rinv:∀x z,R x=some z→∃v,x=ev v∧z=(ed v,[])
 einj:∀v v',ed v=ed v'→v=v'
 hz:∀w,(zeroValue et).run P w= .ok (ev zero) w
namespace MapW
variable{P:Program}{kt et t:TypeId}{K V:Type}(M:MapW P kt et t K V)
structure Dat(D:DataW Unit)(f:K→Option V)(n:Nat):Prop where
 has:∀k,Maps.has D (M.kl k)=(f k).isSome
 at_:∀k v,f k=some v→∀z,D.atKey (M.kl k) z=M.ed v
 size:Maps.size D=n
 tidy:Tidy D
def At(w:World)(b:Nat)(f:K→Option V)(n:Nat):Prop:=∃D,w.ownsMap P kt M.R b n D∧M.Dat D f n
noncomputable def set(f:K→Option V)(k:K)(o:Option V):K→Option V:=by
 classical exact fun k'=>if k'=k then o else f k'
theorem set_same(f:K→Option V)(k:K)(o:Option V):set f k o k=o:=by unfold set;simp
theorem set_other(f:K→Option V){k k':K}(o:Option V)(h:k'≠k):set f k o k'=f k':=by unfold set;simp[h]
variable{M}
theorem owns_tight{w:World}{b n:Nat}{D:DataW Unit}(h:w.ownsMap P kt M.R b n D):w.ownsMap P kt M.R b (Maps.size D) D:=by
 obtain⟨es,clock,hb,F,_,rfl⟩:=h;refine⟨es,clock,hb,F,?_,rfl⟩;simp[Maps.size,length_sorted]
theorem At.of{w:World}{b n m:Nat}{D:DataW Unit}{f:K→Option V}(h:w.ownsMap P kt M.R b m D)(hd:M.Dat D f n):M.At w b f n:=⟨D,by rw[←hd.size];exact owns_tight h,hd⟩
theorem At.made(w:World):M.At (w.alloc (.map #[] 0)) w.heap.size (fun _=>none) 0:=⟨_,World.ownsMap_made w P kt M.R,fun _=>rfl,fun _ _ h=>(by cases h),rfl,tidy_empty⟩
theorem At.lt{w:World}{b n:Nat}{f:K→Option V}(h:M.At w b f n):b<w.heap.size:=by
 obtain⟨D,h1,_⟩:=h;exact h1.lt
theorem At.keep{w w':World}{b n:Nat}{f:K→Option V}(h:M.At w b f n)(hb:w'.heap[b]? =w.heap[b]?):M.At w' b f n:=by
 obtain⟨D,⟨es,clock,h1,h2⟩,hd⟩:=h;exact⟨D,⟨es,clock,hb.trans h1,h2⟩,hd⟩
theorem At.on{w w':World}{b n:Nat}{f:K→Option V}(h:M.At w b f n)(hb:Below w.heap.size w w'):M.At w' b f n:=h.keep (hb.block b h.lt)
theorem At.block{w:World}{b n:Nat}{f:K→Option V}(h:M.At w b f n):∃es clock,w.heap[b]? =some (.map es clock):=by
 obtain⟨D,⟨es,clock,h1,_⟩,_⟩:=h;exact⟨es,clock,h1⟩
theorem Dat.look{D:DataW Unit}{f:K→Option V}{n:Nat}(h:M.Dat D f n)(k:K):D.atKey (M.kl k) (M.ed M.zero)=M.ed ((f k).getD M.zero):=by
 cases hf:f k with
 |none=>
  have:=h.has k;rw[hf]at this;exact Maps.atKey_of_not_has this _
 |some v=>exact h.at_ k v hf _
theorem Dat.put{D:DataW Unit}{f:K→Option V}{n:Nat}(h:M.Dat D f n)(k:K)(v:V):M.Dat (D.put (M.kl k) (M.ed v)) (set f k (some v)) (if(f k).isSome then n else n+1):=by
 refine⟨fun k'=> ?_,fun k' u hu z=> ?_,?_,h.tidy.put (M.isKey k) _⟩
 ·by_cases hk:k'=k
  ·subst hk;rw[set_same];exact has_put_same h.tidy.isMap (M.isKey _) _
  ·rw[set_other _ _ hk,has_put_other (fun e=>hk (M.inj _ _ e))];exact h.has k'
 ·by_cases hk:k'=k
  ·subst hk
   rw[set_same]at hu;obtain rfl:=Option.some.inj hu;exact atKey_put_same h.tidy.isMap (M.isKey _) _ _
  ·rw[set_other _ _ hk]at hu
   rw[atKey_put_other (fun e=>hk (M.inj _ _ e))];exact h.at_ k' u hu z
 ·have h1:=size_put (k:=M.kl k) h.tidy (M.ed v)
  rw[h.has k,h.size]at h1;exact h1
theorem At.look{w:World}{b n:Nat}{f:K→Option V}(h:M.At w b f n)(k:K)(hk:M.ok k):(Instr.lookup t (.map (some b)) (M.kv k) false).run P w= .ok (M.ev ((f k).getD M.zero)) w:=by
 obtain⟨D,h1,hd⟩:=h;obtain⟨v,ps,hrun,hv⟩:=h1.lookup M.keyed M.ty (M.hz w) (M.rd M.zero) (M.key k hk);obtain⟨u,rfl,hu⟩:=M.rinv _ _ hv;have h2:=hd.look k;have h3:D.atKey (M.kl k) (M.ed M.zero)=M.ed u:=congrArg Prod.fst hu;rw[M.einj _ _ (h2.symm.trans h3)];exact hrun
theorem At.look_ok{w:World}{b n:Nat}{f:K→Option V}(h:M.At w b f n)(k:K)(hk:M.ok k):(Instr.lookup t (.map (some b)) (M.kv k) true).run P w= .ok (.tuple #[M.ev ((f k).getD M.zero),.bool (f k).isSome]) w:=by
 obtain⟨D,h1,hd⟩:=h;obtain⟨v,ps,hrun,hv⟩:=h1.look_ok M.keyed M.ty (M.hz w) (M.rd M.zero) (M.key k hk);obtain⟨u,rfl,hu⟩:=M.rinv _ _ hv;have h2:=hd.look k;have h3:D.atKey (M.kl k) (M.ed M.zero)=M.ed u:=congrArg Prod.fst hu;rw[hd.has k]at hrun;rw[M.einj _ _ (h2.symm.trans h3)];exact hrun
theorem At.put{w:World}{b n:Nat}{f:K→Option V}(h:M.At w b f n)(hn:n<maxLen)(k:K)(v:V)(hk:M.ok k):
  ∃w',(Instr.mapUpdate t (.map (some b)) (M.kv k) (M.ev v)).run P w= .ok () w'∧M.At w' b (set f k (some v)) (if(f k).isSome then n else n+1)∧w.mapTurned w' b:=by
 obtain⟨D,h1,hd⟩:=h;obtain⟨w',hrun,h2,h3⟩:=h1.store M.keyed M.ty hn (M.key k hk) (M.rd v);exact⟨w',hrun,At.of h2 (hd.put k v),h3⟩
variable(M)
def Opt(w:World)(mo:Option Nat)(f:K→Option V)(n:Nat):Prop:=
 match mo with
 |none=>(∀k,f k=none)∧n=0
 |some m=>M.At w m f n
variable{M}
theorem Opt.look{w:World}{mo:Option Nat}{n:Nat}{f:K→Option V}(h:M.Opt w mo f n)(k:K)(hk:M.ok k):(Instr.lookup t (.map mo) (M.kv k) false).run P w= .ok (M.ev ((f k).getD M.zero)) w:=by
 cases mo with
 |some m=>exact At.look h k hk
 |none=>rw[h.1 k];exact Maps.look_nil false M.keyed M.ty (M.hz w) (M.key k hk)
theorem Opt.keep{w w':World}{mo:Option Nat}{n:Nat}{f:K→Option V}(h:M.Opt w mo f n)(hk:∀m,mo=some m→w'.heap[m]? =w.heap[m]?):M.Opt w' mo f n:=by
 cases mo with
 |some m=>exact At.keep h (hk m rfl)
 |none=>exact h
theorem Opt.lt{w:World}{m n:Nat}{f:K→Option V}(h:M.Opt w (some m) f n):m<w.heap.size:=At.lt (M:=M) h
theorem Opt.on{w w':World}{mo:Option Nat}{n:Nat}{f:K→Option V}(h:M.Opt w mo f n)(hb:Below w.heap.size w w'):M.Opt w' mo f n:=h.keep fun m e=>by subst e;exact hb.block m (Opt.lt h)
def Coll(M:MapW P kt et t K V)(f:K→Option V)(q:K→V→Prop)(left:Lit→Bool)(ks:List K):Prop:=ks.Nodup∧∀k,k∈ks↔(∃v,f k=some v∧q k v)∧left (M.kl k)=false
theorem Coll.start{D:DataW Unit}{f:K→Option V}{n:Nat}(h:M.Dat D f n)(q:K→V→Prop):M.Coll f q (Maps.has D) []:=by
 refine⟨List.nodup_nil,fun k=> ?_⟩;simp only[List.not_mem_nil,false_iff,not_and];rintro⟨v,hv,_⟩ h2;have:=h.has k;rw[hv,h2]at this
 cases this
theorem same_kl{k x:K}[Decidable (k=x)]:(M.kl k).sameKey (M.kl x)=decide (k=x):=by
 by_cases h:k=x
 ·subst h;rw[WideAt.sameKey_self (M.isKey k)];simp
 ·rw[Maps.sameKey_ne (fun e=>h (M.inj _ _ e))];simp[h]
theorem Coll.all{f:K→Option V}{q:K→V→Prop}{left:Lit→Bool}{ks:List K}(h:M.Coll f q left ks)(hl:∀z,left z=false):ks.Nodup∧∀k,k∈ks↔∃v,f k=some v∧q k v:=
 ⟨h.1,fun k=>by rw[h.2 k];simp[hl]⟩
variable{w:World}{ops:Array Oper}{rest:List Oper}{o:Oper}{a:Act}{Q:Exit→Act→World→Prop}
end MapW
end Go.Proofs.YtabandbigckfkaaGreatDoor
namespace Go.Proofs.YtabandbigckfkaaGreatDoor.Kv
theorem bl_irrefl:∀x:List UInt8,Op.bytesLess x x=false
 |[]=>rfl
 |a::x=>by simp[Op.bytesLess,bl_irrefl x]
theorem bl_trans:∀x y z:List UInt8,Op.bytesLess x y=true→Op.bytesLess y z=true→Op.bytesLess x z=true
 |_,_,[],_,h=>by cases ‹List UInt8›<;>simp[Op.bytesLess]at h
 |[],_,_::_,_,_=>rfl
 |_::_,[],_::_,h,_=>by simp[Op.bytesLess]at h
 |a::x,b::y,c::z,h1,h2=>by
  simp only[Op.bytesLess,Bool.or_eq_true,decide_eq_true_eq,Bool.and_eq_true,beq_iff_eq]at h1 h2⊢;rcases h1 with h1|⟨rfl,h1⟩
  ·rcases h2 with h2|⟨rfl,h2⟩
   ·exact .inl (UInt8.lt_trans h1 h2)
   ·exact .inl h1
  ·rcases h2 with h2|⟨rfl,h2⟩
   ·exact .inl h2
   ·exact .inr ⟨rfl,bl_trans x y z h1 h2⟩
theorem bl_tri:∀x y:List UInt8,Op.bytesLess x y=false→Op.bytesLess y x=false→x=y
 |[],[],_,_=>rfl
 |[],_::_,h,_=>by simp[Op.bytesLess]at h
 |_::_,[],_,h=>by simp[Op.bytesLess]at h
 |a::x,b::y,h1,h2=>by
  simp only[Op.bytesLess,Bool.or_eq_false_iff,decide_eq_false_iff_not,Bool.and_eq_false_iff,beq_eq_false_iff_ne]at h1 h2;have hab:a=b:=UInt8.le_antisymm (UInt8.not_lt.1 h2.1) (UInt8.not_lt.1 h1.1);subst hab;rw[bl_tri x y (h1.2.resolve_left fun h=>h rfl) (h2.2.resolve_left fun h=>h rfl)]
def lt(a b:ByteArray):Prop:=Op.bytesLess a.toList b.toList=true
instance (a b:ByteArray):Decidable (lt a b):=inferInstanceAs (Decidable (_=true))
theorem teq{a b:ByteArray}:(a.toList==b.toList)=true↔a=b:=by
 rw[beq_iff_eq];constructor
 ·intro h
  rw[ByteArray.toList_eq,ByteArray.toList_eq]at h;exact ByteArray.ext (Array.ext' h)
 ·rintro rfl;rfl
theorem tne{a b:ByteArray}:(a.toList==b.toList)=false↔a≠b:=by
 rw[←Bool.not_eq_true,teq]
theorem lt_irrefl(a:ByteArray):¬lt a a:=by unfold lt;rw[bl_irrefl];simp
theorem lt_ne{a b:ByteArray}(h:lt a b):a≠b:=fun e=>lt_irrefl b (e▸h)
theorem lt_trans{a b c:ByteArray}(h1:lt a b)(h2:lt b c):lt a c:=bl_trans _ _ _ h1 h2
theorem lt_asymm{a b:ByteArray}(h1:lt a b):¬lt b a:=fun h2=>lt_irrefl _ (lt_trans h1 h2)
theorem lt_tri{a b:ByteArray}(h1:¬lt a b)(h2:a≠b):lt b a:=by
 unfold lt at*;by_cases h:Op.bytesLess b.toList a.toList=true
 ·exact h
 ·exact absurd (teq.1 (beq_iff_eq.2 (bl_tri _ _ (by simpa using h1) (by simpa using h)))) h2
theorem gt_eq(a b:ByteArray):(!(Op.bytesLess a.toList b.toList|| a.toList==b.toList))=true↔lt b a:=by
 simp only[Bool.not_eq_true',Bool.or_eq_false_iff,tne];constructor
 ·rintro⟨h1,h2⟩
  exact lt_tri (by unfold lt;rw[h1];simp) h2
 ·intro h
  exact⟨by simpa[lt]using lt_asymm h,fun e=>lt_ne h e.symm⟩
structure Po where
 key:ByteArray
 val:ByteArray
 rev:Int
 drop:Bool
structure En where
 key:ByteArray
 val:ByteArray
 rev:Int
structure St where
 l:List En
 rev:Int
def St.none:St:=⟨[],0⟩
def find(l:List En)(k:ByteArray):Option En:=l.find? fun e=>e.key.toList==k.toList
def valOf(l:List En)(k:ByteArray):ByteArray:=match find l k with|some e=>e.val|Option.none=>⟨#[]⟩
def revOf(l:List En)(k:ByteArray):Int:=match find l k with|some e=>e.rev|Option.none=>0
def keysOf(l:List En):List ByteArray:=l.map (·.key)
def since(s:St)(r:Int):List ByteArray:=((s.l.filter fun e=>decide (r<e.rev)).map (·.key))
def Rise(l:List En):Prop:=l.Pairwise fun a b=>lt a.key b.key
structure Good(s:St):Prop where
 rise:Rise s.l
 rev0:0≤s.rev
 revs:∀e∈s.l,1≤e.rev∧e.rev≤s.rev
 len:s.l.length≤64
 size:∀e∈s.l,1≤e.key.size∧e.key.size≤64∧e.val.size≤64
theorem Good.none_:Good St.none:=⟨List.Pairwise.nil,Int.le_refl _,by simp[St.none],by simp[St.none],by simp[St.none]⟩
theorem find_nil(k:ByteArray):find [] k=none:=rfl
theorem find_cons(e:En)(l:List En)(k:ByteArray):find (e::l) k=if e.key=k then some e else find l k:=by
 unfold find;by_cases h:e.key=k
 ·rw[if_pos h,List.find?_cons_of_pos (p:=fun e:En=>e.key.toList==k.toList) (teq.2 h)]
 ·rw[if_neg h,List.find?_cons_of_neg (p:=fun e:En=>e.key.toList==k.toList) (fun h2=>h (teq.1 h2))]
theorem find_some{l:List En}{k:ByteArray}{e:En}(h:find l k=some e):e∈l∧e.key=k:=by
 unfold find at h;exact⟨List.mem_of_find?_eq_some h,teq.1 (List.find?_some (p:=fun e:En=>e.key.toList==k.toList) h)⟩
theorem find_none{l:List En}{k:ByteArray}:find l k=none↔∀e∈l,e.key≠k:=by
 unfold find;rw[List.find?_eq_none];exact⟨fun h e he hk=>h e he (teq.2 hk),fun h e he hk=>h e he (teq.1 hk)⟩
theorem find_mem{l:List En}(h:Rise l){e:En}(he:e∈l):find l e.key=some e:=by
 induction l with
 |nil=>cases he
 |cons a l ih=>
  rw[find_cons];rcases List.mem_cons.1 he with rfl|he
  ·rw[if_pos rfl]
  ·have hr:=List.pairwise_cons.1 h
   rw[if_neg (lt_ne (hr.1 e he)),ih hr.2 he]
def PoOk(o:Po):Prop:=1≤o.key.size∧o.key.size≤64∧o.val.size≤64
def Right(ops:List Po):Prop:=0<ops.length∧(∀o∈ops,PoOk o)∧ops.Pairwise fun a b=>a.key≠b.key
def dropK(l:List En)(k:ByteArray):List En:=l.filter fun e=> !(e.key.toList==k.toList)
def putK(l:List En)(e:En):List En:=(l.takeWhile fun x=> !(!(Op.bytesLess x.key.toList e.key.toList|| x.key.toList==e.key.toList)))++e::(l.dropWhile fun x=> !(!(Op.bytesLess x.key.toList e.key.toList|| x.key.toList==e.key.toList)))
def step(r:Int)(l:List En)(o:Po):List En:=if o.drop then dropK l o.key else putK (dropK l o.key) ⟨o.key,o.val,r⟩
def after(s:St)(ops:List Po):St:=⟨ops.foldl (step (s.rev+1)) s.l,s.rev+1⟩
def Odd(s:St)(o:Po):Prop:=0≤o.rev∧o.rev≠revOf s.l o.key
def Lacks(s:St)(o:Po):Prop:=o.drop=true∧revOf s.l o.key=0
open Classical in
noncomputable def doE(s:St)(ops:List Po):Nat:=
 if¬Right ops then 1 else if∃o∈ops,Odd s o then 7 else if∃o∈ops,Lacks s o then 5 else if 64<(after s ops).l.length then 4 else 0
open Classical in
noncomputable def doS(s:St)(ops:List Po):St:=if doE s ops=0 then after s ops else s
open Classical in
noncomputable def doN(s:St)(ops:List Po):Int:=if doE s ops=0 then s.rev+1 else 0
theorem doE_right{s:St}{ops:List Po}(h:¬Right ops):doE s ops=1:=by unfold doE;rw[if_pos h]
theorem doE_odd{s:St}{ops:List Po}(h1:Right ops)(h2:∃o∈ops,Odd s o):doE s ops=7:=by unfold doE;rw[if_neg (fun h=>h h1),if_pos h2]
theorem doE_lacks{s:St}{ops:List Po}(h1:Right ops)(h2:∀o∈ops,¬Odd s o)(h3:∃o∈ops,Lacks s o):doE s ops=5:=by
 unfold doE;rw[if_neg (fun h=>h h1),if_neg (fun⟨o,ho,h⟩=>h2 o ho h),if_pos h3]
theorem doE_full{s:St}{ops:List Po}(h1:Right ops)(h2:∀o∈ops,¬Odd s o)(h3:∀o∈ops,¬Lacks s o)(h4:64<(after s ops).l.length):doE s ops=4:=by
 unfold doE;rw[if_neg (fun h=>h h1),if_neg (fun⟨o,ho,h⟩=>h2 o ho h),if_neg (fun⟨o,ho,h⟩=>h3 o ho h),if_pos h4]
theorem doE_ok{s:St}{ops:List Po}(h1:Right ops)(h2:∀o∈ops,¬Odd s o)(h3:∀o∈ops,¬Lacks s o)(h4:¬64<(after s ops).l.length):doE s ops=0:=by
 unfold doE;rw[if_neg (fun h=>h h1),if_neg (fun⟨o,ho,h⟩=>h2 o ho h),if_neg (fun⟨o,ho,h⟩=>h3 o ho h),if_neg h4]
theorem doE_zero{s:St}{ops:List Po}(h:doE s ops=0):Right ops∧(∀o∈ops,¬Odd s o)∧(∀o∈ops,¬Lacks s o)∧(after s ops).l.length≤64:=by
 unfold doE at h;split at h
 ·omega
 ·rename_i h1
  split at h
  ·omega
  ·rename_i h2
   split at h
   ·omega
   ·rename_i h3
    split at h
    ·omega
    ·rename_i h4
     exact⟨Classical.not_not.1 h1,fun o ho h=>h2 ⟨o,ho,h⟩,fun o ho h=>h3 ⟨o,ho,h⟩,by omega⟩
theorem doS_ok{s:St}{ops:List Po}(h:doE s ops=0):doS s ops=after s ops∧doN s ops=s.rev+1:=by unfold doS doN;rw[if_pos h,if_pos h];exact⟨rfl,rfl⟩
theorem doS_no{s:St}{ops:List Po}(h:doE s ops≠0):doS s ops=s∧doN s ops=0:=by unfold doS doN;rw[if_neg h,if_neg h];exact⟨rfl,rfl⟩
theorem mem_dropK{l:List En}{k:ByteArray}{e:En}:e∈dropK l k↔e∈l∧e.key≠k:=by
 unfold dropK;rw[List.mem_filter,Bool.not_eq_true',tne]
theorem dropK_rise{l:List En}(h:Rise l)(k:ByteArray):Rise (dropK l k):=List.Pairwise.filter _ h
theorem dropK_cons(e:En)(l:List En)(k:ByteArray):dropK (e::l) k=if e.key=k then dropK l k else e::dropK l k:=by
 unfold dropK;by_cases h:e.key=k
 ·rw[if_pos h,List.filter_cons_of_neg (by rw[teq.2 h];simp)]
 ·rw[if_neg h,List.filter_cons_of_pos (by rw[tne.2 h];rfl)]
theorem find_dropK(l:List En)(k k':ByteArray):find (dropK l k) k'=if k'=k then none else find l k':=by
 induction l with
 |nil=>rw[show dropK [] k=[]from rfl,find_nil];split<;>rfl
 |cons e l ih=>
  rw[dropK_cons,find_cons];by_cases h:e.key=k
  ·rw[if_pos h,ih]
   by_cases h2:k'=k
   ·rw[if_pos h2,if_pos h2]
   ·rw[if_neg h2,if_neg h2,if_neg (fun e'=>h2 (by rw[←e',h]))]
  ·rw[if_neg h,find_cons,ih]
   by_cases h2:k'=k
   ·rw[if_pos h2,if_pos h2,if_neg (by rw[h2];exact h)]
   ·rw[if_neg h2,if_neg h2]
def low(k:ByteArray)(x:En):Bool:= !(!(Op.bytesLess x.key.toList k.toList|| x.key.toList==k.toList))
theorem low_false{k:ByteArray}{x:En}:low k x=false↔lt k x.key:=by
 unfold low;rw[Bool.not_eq_false',gt_eq]
theorem putK_cons(x:En)(l:List En)(e:En):putK (x::l) e=if lt e.key x.key then e::x::l else x::putK l e:=by
 have hd:∀l,putK l e=(l.takeWhile (low e.key))++e::(l.dropWhile (low e.key)):=fun _=>rfl;rw[hd,hd];by_cases h:lt e.key x.key
 ·rw[if_pos h,List.takeWhile_cons_of_neg (by rw[low_false.2 h];simp),List.dropWhile_cons_of_neg (by rw[low_false.2 h];simp)]
  rfl
 ·have:low e.key x=true:=by rw[←Bool.not_eq_false,low_false];exact h
  rw[if_neg h,List.takeWhile_cons_of_pos this,List.dropWhile_cons_of_pos this];rfl
theorem putK_nil(e:En):putK [] e=[e]:=rfl
theorem mem_putK{l:List En}{e x:En}:x∈putK l e↔x=e∨x∈l:=by
 induction l with
 |nil=>simp[putK_nil]
 |cons a l ih=>
  rw[putK_cons];split
  ·simp
  ·rw[List.mem_cons,ih,List.mem_cons]
   constructor
   ·rintro(h|h|h)
    ·exact .inr (.inl h)
    ·exact .inl h
    ·exact .inr (.inr h)
   ·rintro(h|h|h)
    ·exact .inr (.inl h)
    ·exact .inl h
    ·exact .inr (.inr h)
theorem putK_length(l:List En)(e:En):(putK l e).length=l.length+1:=by
 induction l with
 |nil=>rfl
 |cons a l ih=>rw[putK_cons];split<;>simp[ih]
theorem putK_rise{l:List En}{e:En}(h:Rise l)(hne:∀x∈l,x.key≠e.key):Rise (putK l e):=by
 induction l with
 |nil=>exact List.pairwise_singleton _ _
 |cons a l ih=>
  have hr:=List.pairwise_cons.1 h;rw[putK_cons];split
  ·rename_i h1
   refine List.pairwise_cons.2 ⟨fun x hx=> ?_,h⟩;rcases List.mem_cons.1 hx with rfl|hx
   ·exact h1
   ·exact lt_trans h1 (hr.1 x hx)
  ·rename_i h1
   refine List.pairwise_cons.2 ⟨fun x hx=> ?_,ih hr.2 fun x hx=>hne x (List.mem_cons_of_mem _ hx)⟩;rcases mem_putK.1 hx with rfl|hx
   ·exact lt_tri h1 (hne a (List.mem_cons_self ..)).symm
   ·exact hr.1 x hx
theorem find_putK{l:List En}{e:En}(hne:∀x∈l,x.key≠e.key)(k:ByteArray):find (putK l e) k=if e.key=k then some e else find l k:=by
 induction l with
 |nil=>rw[putK_nil,find_cons]
 |cons a l ih=>
  rw[putK_cons];split
  ·rw[find_cons]
  ·rw[find_cons,ih fun x hx=>hne x (List.mem_cons_of_mem _ hx),find_cons]
   by_cases h2:a.key=k
   ·rw[if_pos h2,if_pos h2,if_neg (fun e'=>hne a (List.mem_cons_self ..) (h2.trans e'.symm))]
   ·rw[if_neg h2,if_neg h2]
theorem step_rise{r:Int}{l:List En}(h:Rise l)(o:Po):Rise (step r l o):=by
 unfold step;split
 ·exact dropK_rise h _
 ·exact putK_rise (dropK_rise h _) fun x hx=>(mem_dropK.1 hx).2
theorem find_step(r:Int)(l:List En)(o:Po)(k:ByteArray):find (step r l o) k=if o.key=k then(if o.drop then none else some ⟨o.key,o.val,r⟩)else find l k:=by
 unfold step;split
 ·rw[find_dropK]
  by_cases h:o.key=k
  ·rw[if_pos h,if_pos h.symm]
  ·rw[if_neg h,if_neg (fun e=>h e.symm)]
 ·rw[find_putK (e:=⟨o.key,o.val,r⟩) (fun x hx=>(mem_dropK.1 hx).2),find_dropK]
  by_cases h:o.key=k
  ·rw[if_pos h,if_pos h]
  ·rw[if_neg h,if_neg h,if_neg (fun e=>h e.symm)]
theorem mem_step{r:Int}{l:List En}{o:Po}{x:En}(h:x∈step r l o):x∈l∨x=⟨o.key,o.val,r⟩∧o.drop=false:=by
 unfold step at h;split at h
 ·exact .inl (mem_dropK.1 h).1
 ·rename_i hd
  rcases mem_putK.1 h with h|h
  ·exact .inr ⟨h,by simpa using hd⟩
  ·exact .inl (mem_dropK.1 h).1
theorem steps_rise{r:Int}{ops:List Po}{l:List En}(h:Rise l):Rise (ops.foldl (step r) l):=by
 induction ops generalizing l with
 |nil=>exact h
 |cons o ops ih=>exact ih (step_rise h o)
theorem mem_steps{r:Int}{ops:List Po}{l:List En}{x:En}(h:x∈ops.foldl (step r) l):x∈l∨∃o∈ops,x=⟨o.key,o.val,r⟩:=by
 induction ops generalizing l with
 |nil=>exact .inl h
 |cons o ops ih=>
  rcases ih h with h|⟨p,hp,h⟩
  ·rcases mem_step h with h|⟨h,_⟩
   ·exact .inl h
   ·exact .inr ⟨o,List.mem_cons_self ..,h⟩
  ·exact .inr ⟨p,List.mem_cons_of_mem _ hp,h⟩
theorem find_steps_other{r:Int}{ops:List Po}{l:List En}{k:ByteArray}(h:∀o∈ops,o.key≠k):find (ops.foldl (step r) l) k=find l k:=by
 induction ops generalizing l with
 |nil=>rfl
 |cons o ops ih=>
  rw[List.foldl_cons,ih fun p hp=>h p (List.mem_cons_of_mem _ hp),find_step,if_neg (h o (List.mem_cons_self ..))]
theorem find_steps{r:Int}{ops:List Po}{l:List En}(h:ops.Pairwise fun a b=>a.key≠b.key){o:Po}(ho:o∈ops):find (ops.foldl (step r) l) o.key=if o.drop then none else some ⟨o.key,o.val,r⟩:=by
 induction ops generalizing l with
 |nil=>cases ho
 |cons p ops ih=>
  have hp:=List.pairwise_cons.1 h;rw[List.foldl_cons];rcases List.mem_cons.1 ho with rfl|ho
  ·rw[find_steps_other fun q hq=>(hp.1 q hq).symm,find_step,if_pos rfl]
  ·exact ih hp.2 ho
theorem after_good{s:St}{ops:List Po}(hs:Good s)(hr:Right ops)(hl:(after s ops).l.length≤64):Good (after s ops):=by
 refine⟨steps_rise hs.rise,?_,?_,hl,?_⟩
 ·show 0≤s.rev+1
  have:=hs.rev0;omega
 ·intro e he
  show 1≤e.rev∧e.rev≤s.rev+1;have:=hs.rev0;rcases mem_steps he with he|⟨o,ho,rfl⟩
  ·have:=hs.revs e he;omega
  ·show 1≤s.rev+1∧s.rev+1≤s.rev+1
   omega
 ·intro e he
  rcases mem_steps he with he|⟨o,ho,rfl⟩
  ·exact hs.size e he
  ·exact hr.2.1 o ho
theorem doS_good{s:St}(hs:Good s)(ops:List Po):Good (doS s ops):=by
 by_cases h:doE s ops=0
 ·rw[(doS_ok h).1]
  have:=doE_zero h;exact after_good hs this.1 this.2.2.2
 ·rw[(doS_no h).1];exact hs
theorem rev_range{s:St}(hs:Good s)(k:ByteArray):0≤revOf s.l k∧revOf s.l k≤s.rev:=by
 unfold revOf;split
 ·rename_i e h
  have:=hs.revs e (find_some h).1;omega
 ·have:=hs.rev0;omega
theorem rev_zero{s:St}(hs:Good s)(k:ByteArray):revOf s.l k=0↔find s.l k=none:=by
 unfold revOf;split
 ·rename_i e h
  have:=hs.revs e (find_some h).1;rw[h];constructor
  ·intro h;omega
  ·intro h;cases h
 ·rename_i h;rw[h];simp
theorem again{s:St}{ops:List Po}(hs:Good s)(h:doE s ops=0)(hp:∃o∈ops,0≤o.rev∧o.drop=false):doE (after s ops) ops≠0:=by
 obtain⟨o,ho,h0,hd⟩:=hp;have hz:=doE_zero h;intro h2;refine(doE_zero h2).2.1 o ho ⟨h0,?_⟩;have e:o.rev=revOf s.l o.key:=Classical.not_not.1 fun hne=>hz.2.1 o ho ⟨h0,hne⟩;have:=(rev_range hs o.key).2;have e2:revOf (after s ops).l o.key=s.rev+1:=by
  unfold revOf;rw[show find (after s ops).l o.key=_ from find_steps hz.1.2.2 ho,hd];rfl
 rw[e2];omega
theorem since_zero{s:St}(hs:Good s):since s 0=keysOf s.l:=by
 unfold since keysOf;rw[List.filter_eq_self.2 fun e he=>by have:=hs.revs e he;simp;omega]
end Go.Proofs.YtabandbigckfkaaGreatDoor.Kv
