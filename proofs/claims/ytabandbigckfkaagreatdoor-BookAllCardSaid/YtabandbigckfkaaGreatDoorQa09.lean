import Derived.Test.YtabandbigckfkaaGreatDoorQa08
set_option maxHeartbeats 6400000
set_option maxRecDepth 100000
set_option linter.unusedSimpArgs false
set_option linter.unusedVariables false
namespace Go.Proofs.YtabandbigckfkaaGreatDoor
open Go.RowKit
theorem jep(m:Int)(A:Option Addr)(k c:Nat)(l:List Rc.R)(hin:∀r∈l,Rc.In r)(w:World)(hs:SlF Bk.rcC w A k c l)(hk:k≤100000):Calls Tryz.prog 41 #[.int .i64 m,.slice A k c] w (jhi w (Bk.all m l) (.int .i64 (Bk.allN m l:Nat))):=by
 have hz:=jbe;have CN:=zh (fun W=>jge m W);have CA:Hid (∀s,Bk.Ok s→∀r,Rc.In r→∀L V H W,BkRd W s L V H→Calls Tryz.prog 37 #[.agg (Bk.cells s L V H),.agg (Rc.cells r)] W (jhi W (Bk.app s r) (.int .i64 (Bk.chk s r)))):=fun s ok r hr L V H W h=>(jgi s ok r hr L V H W h).mono fun _ _ ⟨L2,V2,H2,h1,h2,h3,_⟩=>⟨L2,V2,H2,h1,h2,h3⟩;have X0:=zh (BkAt.zero w);have B0:=zh ((Below.refl w.heap.size w).alloc (Nat.le_refl _) (.cells Bk.zeros 40));have S0:=zh hs;have HI:=zh hin;have HK:=zh hs.len;have hcap:=hs.cap;clear hs hin;go_enter Tryz.func41,Tryz.ntmps41;go_upto_region 1 with fail
 obtain⟨n,hn⟩:∃n,n=w.heap.size:=⟨_,rfl⟩;rw[←hn]at X0⊢;have NB:=zh (Nat.le_of_eq hn.symm);clear hn;generalize w.alloc (.cells Bk.zeros 40)=w1 at*;go_upto_region 2 with(first
  |(go_at_call 34;(with_reducible refine(CN.out _).mono ?_);rintro e w2 ⟨L,V,H,rfl,hrd,hb⟩;have X0:=zh (X0.out.on hb);have B2:=zh (B0.out.trans (hb.mono B0.out.size));have RD:=zh hrd;have Z2:=zh (BkAt.zero w2);clear hb hrd)
  |((with_reducible show zW);refine jab rfl (.tmp 6) (.tmp 12) rfl rfl rfl Z2.out RD.out.one ?_))
 have hA:jdu w ((w2.alloc (.cells Bk.zeros 40)).setRow w2.heap.size (Bk.cells (Bk.new m) L V H)) n w2.heap.size (Bk.new m) L V H:=by
  have hb:Below w2.heap.size w2 (w2.alloc (.cells Bk.zeros 40)):=(Below.refl _ _).alloc (Nat.le_refl _) _;have h0:jdu w (w2.alloc (.cells Bk.zeros 40)) n w2.heap.size Bk.none_ (.slice none 0 0) (.slice none 0 0) (.slice none 0 0):=⟨X0.out.on hb,Z2.out,jik _ rfl rfl rfl,B2.out.trans (hb.mono B2.out.size),NB.out,X0.out.lt⟩;exact h0.row (RD.out.on hb)
 generalize(w2.alloc (.cells Bk.zeros 40)).setRow w2.heap.size (Bk.cells (Bk.new m) L V H)=w3 at*;generalize w2.heap.size=g at*;have A3:=zh hA;clear hA X0 B2 RD Z2 B0 CN;go_wp2_with fail;go_loopw [7,8] (fun q i wr=>∃(j:Nat) (L V H:Value),j≤k∧i= .int .i64 j∧q= .int .i64 (Bk.cnt (Bk.new m) (l.take j):Nat)∧jdu w wr n g (Bk.run (Bk.new m) (l.take j)) L V H) (fun _ i _=>k -(intOf i).toNat)
 case atStart=>exact⟨0,L,V,H,by omega,rfl,rfl,A3.out⟩
 case round=>
  clear A3;obtain⟨j,L,V,H,hj,rfl,rfl,ha⟩:=hrel;have AA:=zh ha;clear ha;by_cases hlt:j<k
  ·have hx:l[j]? =some (l[j]'(by have:=HK.out;omega)):=List.getElem?_eq_getElem _
   have HT:=zh (Bk.take_run (Bk.new m) l (k:=j) (by have:=HK.out;omega));generalize l[j]'(by have:=HK.out;omega)=r at hx HT;have HR:Hid (Rc.In r):=HI.out r (List.mem_of_getElem? hx);have OK:Hid (Bk.Ok (Bk.run (Bk.new m) (l.take j))):=Bk.run_ok _ (Bk.new_ok m);have CL:Hid (Bk.cnt (Bk.new m) (l.take j)≤100000):=by
    have:=Bk.cnt_le (Bk.new m) (l.take j);rw[List.length_take]at this;show _≤_;omega
   obtain⟨b,o,rfl,hbl,hrg⟩:=jbi S0.out hx;have RG:=zh hrg;have HB:=zh hbl;have i1:(0:Int)≤(j:Int):=by omega
   have i2:(j:Int)<(k:Int):=by omega
   have hzz:∀w:World,(zeroValue 40).run Tryz.prog w= .ok (.agg Bk.zeros) w:=jbe;clear hx hrg hbl hlt;generalize Bk.run (Bk.new m) (l.take j)=s at*;generalize Bk.cnt (Bk.new m) (l.take j)=cn at*;go_upto_region 6 with fail
   refine wp_region_held_drew (S:=fun W=>jdu w W n g s L V H) (by kernel_rfl) (AA.out.on (Below.refl _ _).drew) (fun hS=> ?_);refine tZ 0 (v:= .agg (Bk.cells s L V H)) rfl (fun W hW=>jk0 (.tmp 6) rfl g s L V H rfl hW.bk) hS ?_;refine tY 1 hS ?_;refine tY 2 hS ?_;refine tY 3 hS ?_;refine tZ 4 (v:= .agg (Rc.cells r)) rfl (fun W hW=>jcz (.tmp 23) rfl b (o+j*18) r (by simp[Act.eval,go_sem]) (jbs RG.out (hW.below.block b HB.out))) hS ?_;simp only[Act.put,zT,zO,zS];refine jdq 5 9 rfl rfl (by kernel_rfl) rfl rfl (fun K hK=> ?_) (fun K hK=> ?_)
   ·go_simp
    with_reducible refine(CA.out s OK.out r HR.out L V H _ hS.rd).mono ?_
    rintro e w5 ⟨L2,V2,H2,rfl,hrd,hb⟩;have hS2:=hS.on hb;have RD2:=zh hrd;clear hS hb hrd;have hS:=hS2;clear hS2;refine hK.out _ _ hS (fun _=> ?_);clear hK K;refine tY 6 hS ?_;refine tY 7 hS ?_;refine tY 8 hS ?_;simp only[Act.put,zT,zO,zS];refine rO 9 (fun K hK=> ?_);go_simp;have hb9:Below w5.heap.size w5 (w5.alloc (.cells Bk.zeros 40)):=(Below.refl _ _).alloc (Nat.le_refl _) _;have hS2:=hS.on hb9;have hZ9:=BkAt.zero w5;have hG9:g<w5.heap.size:=hS.bk.lt;have hR9:=RD2.out.on hb9;obtain⟨g9,hg9⟩:∃g9,g9=w5.heap.size:=⟨_,rfl⟩;rw[←hg9]at hZ9 hG9;rw[←hg9];clear hg9 hb9;generalize w5.alloc (.cells Bk.zeros 40)=w9 at hS2 hZ9 hR9⊢;have Z9:=zh hZ9;have G9:=zh hG9;have RD2:=zh hR9;clear hR9;clear hS hZ9 hG9;have hS:=hS2;clear hS2;refine hK.out _ _ hS (fun _=> ?_);clear hK K;try simp only[Act.put,zT,zO,zS]
    refine rO 10 (fun K hK=> ?_);refine wp_store_row 40 (.tmp 9) (.tmp 26) rfl g9 (Bk.cells (Bk.app s r) L2 V2 H2) rfl rfl 40 _ Z9.out.row (jcn _ L2 V2 H2) rfl RD2.out.one ?_;have hS2:=hS.other Z9.out jax G9.out (Bk.cells (Bk.app s r) L2 V2 H2);have hZ2:=Z9.out.setRow (Bk.app s r) L2 V2 H2;have hR2:=RD2.out.setRow Z9.out jax (Bk.cells (Bk.app s r) L2 V2 H2);generalize w9.setRow g9 (Bk.cells (Bk.app s r) L2 V2 H2)=wz at hS2 hZ2 hR2⊢;have ZZ:=zh hZ2;have RZ:=zh hR2;clear hS hZ2 hR2;have hS:=hS2;clear hS2;refine hK.out _ _ hS (fun _=> ?_);clear hK K;refine tY 11 hS ?_;simp only[Act.put,zT,zO,zS];refine wpAnyH_done (by kernel_rfl) ?_ _;have AZ:=zh hS;clear hS;by_cases hc:Bk.chk s r=0
    ·rw[hc]
     have HC:=zh hc;have hcw:wrap64 ((cn:Int)+1)=(cn:Int)+1:=IntWalk.wrap64_in _ ⟨by omega,by have:=CL.out;omega⟩;clear hc
     go_wp2_with(first
      |((with_reducible show zL 28);refine jaa rfl (.tmp 9) rfl rfl ZZ.out ?_)
      |((with_reducible show zW);refine jab rfl (.tmp 6) (.tmp 28) rfl rfl rfl AZ.out.bk RZ.out.one ?_))
     exact⟨⟨j+1,L2,V2,H2,by omega,by go_num,int_eq (by rw[HT.out.2,if_pos HC.out];omega),by rw[HT.out.1];exact AZ.out.row RZ.out⟩,by simp[intOf];omega⟩
    ·have q1:(Bk.chk s r==0)=false:=by rw[beq_eq_false_iff_ne];exact hc
     have HC:=zh hc;clear hc;generalize Bk.chk s r=cx at*
     go_wp2_with(first
      |((with_reducible show zL 28);refine jaa rfl (.tmp 9) rfl rfl ZZ.out ?_)
      |((with_reducible show zW);refine jab rfl (.tmp 6) (.tmp 28) rfl rfl rfl AZ.out.bk RZ.out.one ?_))
     exact⟨⟨j+1,L2,V2,H2,by omega,by go_num,by rw[HT.out.2,if_neg HC.out];rfl,by rw[HT.out.1];exact AZ.out.row RZ.out⟩,by simp[intOf];omega⟩
   ·go_simp
    have hb9:Below wr.drew.heap.size wr.drew (wr.alloc (.cells Bk.zeros 40)).drew:=(Below.refl wr.drew.heap.size wr.drew).alloc (Nat.le_refl _) _;have hS2:=hS.on hb9;have hZ9:BkAt (wr.alloc (.cells Bk.zeros 40)).drew wr.heap.size Bk.none_ (.slice none 0 0) (.slice none 0 0) (.slice none 0 0):=⟨heap_alloc_new wr _⟩;have hG9:g<wr.heap.size:=hS.bk.lt;obtain⟨g9,hg9⟩:∃g9,g9=wr.heap.size:=⟨_,rfl⟩;rw[←hg9]at hZ9 hG9;rw[←hg9];clear hg9 hb9;generalize(wr.alloc (.cells Bk.zeros 40)).drew=w9 at hS2 hZ9⊢;have Z9:=zh hZ9;have G9:=zh hG9;clear hS hZ9 hG9;have hS:=hS2;clear hS2;refine hK.out _ _ hS (fun _=> ?_);clear hK K;try simp only[Act.put,zT,zO,zS]
    refine rO 5 (fun K hK=> ?_);go_simp
    with_reducible refine(CA.out s OK.out r HR.out L V H _ hS.rd).mono ?_
    rintro e w5 ⟨L2,V2,H2,rfl,hrd,hb⟩;have hS2:=hS.on hb;have RD2:=zh hrd;have Z9:=zh (Z9.out.on hb);clear hS hb hrd;have hS:=hS2;clear hS2;refine hK.out _ _ hS (fun _=> ?_);clear hK K;refine tY 6 hS ?_;refine tY 7 hS ?_;refine tY 8 hS ?_;simp only[Act.put,zT,zO,zS];refine rO 10 (fun K hK=> ?_);refine wp_store_row 40 (.tmp 9) (.tmp 26) rfl g9 (Bk.cells (Bk.app s r) L2 V2 H2) rfl rfl 40 _ Z9.out.row (jcn _ L2 V2 H2) rfl RD2.out.one ?_;have hS2:=hS.other Z9.out jax G9.out (Bk.cells (Bk.app s r) L2 V2 H2);have hZ2:=Z9.out.setRow (Bk.app s r) L2 V2 H2;have hR2:=RD2.out.setRow Z9.out jax (Bk.cells (Bk.app s r) L2 V2 H2);generalize w5.setRow g9 (Bk.cells (Bk.app s r) L2 V2 H2)=wz at hS2 hZ2 hR2⊢;have ZZ:=zh hZ2;have RZ:=zh hR2;clear hS hZ2 hR2;have hS:=hS2;clear hS2;refine hK.out _ _ hS (fun _=> ?_);clear hK K;refine tY 11 hS ?_;simp only[Act.put,zT,zO,zS];refine wpAnyH_done (by kernel_rfl) ?_ _;have AZ:=zh hS;clear hS;by_cases hc:Bk.chk s r=0
    ·rw[hc]
     have HC:=zh hc;have hcw:wrap64 ((cn:Int)+1)=(cn:Int)+1:=IntWalk.wrap64_in _ ⟨by omega,by have:=CL.out;omega⟩;clear hc
     go_wp2_with(first
      |((with_reducible show zL 28);refine jaa rfl (.tmp 9) rfl rfl ZZ.out ?_)
      |((with_reducible show zW);refine jab rfl (.tmp 6) (.tmp 28) rfl rfl rfl AZ.out.bk RZ.out.one ?_))
     exact⟨⟨j+1,L2,V2,H2,by omega,by go_num,int_eq (by rw[HT.out.2,if_pos HC.out];omega),by rw[HT.out.1];exact AZ.out.row RZ.out⟩,by simp[intOf];omega⟩
    ·have q1:(Bk.chk s r==0)=false:=by rw[beq_eq_false_iff_ne];exact hc
     have HC:=zh hc;clear hc;generalize Bk.chk s r=cx at*
     go_wp2_with(first
      |((with_reducible show zL 28);refine jaa rfl (.tmp 9) rfl rfl ZZ.out ?_)
      |((with_reducible show zW);refine jab rfl (.tmp 6) (.tmp 28) rfl rfl rfl AZ.out.bk RZ.out.one ?_))
     exact⟨⟨j+1,L2,V2,H2,by omega,by go_num,by rw[HT.out.2,if_neg HC.out];rfl,by rw[HT.out.1];exact AZ.out.row RZ.out⟩,by simp[intOf];omega⟩
  ·obtain rfl:j=k:=by omega
   have hT:l.take j=l:=List.take_of_length_le (by rw[←HK.out];exact Nat.le_refl _);rw[hT]at AA⊢;have CL:Hid (Bk.cnt (Bk.new m) l≤100000):=by
    have:=Bk.cnt_le (Bk.new m) l;have:=HK.out;show _≤_;omega
   go_wp2_with(first
    |((with_reducible show zL 33);refine jaa rfl (.tmp 6) rfl rfl AA.out.bk ?_)
    |((with_reducible show zW);refine jab rfl (.tmp 4) (.tmp 33) rfl rfl rfl AA.out.res AA.out.rd.one ?_))
   exact bodyPost_ret (ja0 Tryz.results41 _ rfl (AA.out.res.setRow _ _ _ _)) rfl ⟨L,V,H,rfl,AA.out.rd.setRow AA.out.res jax _,below_setRow AA.out.below NB.out _⟩
end Go.Proofs.YtabandbigckfkaaGreatDoor
namespace Go.Proofs.YtabandbigckfkaaGreatDoor
open Go.RowKit
open Classical in
theorem jeq(a b:Rc.R)(W:World):(binOp .neq 45 (.agg (Rc.cells a)) (.agg (Rc.cells b))).run Tryz.prog W= .ok (.bool (!decide (a=b))) W:=by
 have h:=rec_neq a b W;unfold Rc.val at h;have e:Rc.same a b=decide (a=b):=by rw[Bool.eq_iff_iff,Rc.same_iff,decide_eq_true_iff]
 rw[h,e]
def jb2(p:Prop)(w:World)(e:Ending)(w':World):Prop:=(∃x:Bool,e= .returned (.bool x)∧(x=true↔p))∧Below w.heap.size w w'
theorem jer{T:Type}{a b:List T}(hl:a.length=b.length)(h:∀k,k<a.length→a[k]? =b[k]?):a=b:=by
 refine List.ext_getElem? fun k=> ?_;rcases Nat.lt_or_ge k a.length with h1|h1
 ·exact h k h1
 ·rw[List.getElem?_eq_none h1,List.getElem?_eq_none (by omega)]
theorem jc0(A1 A2:Option Addr)(n m c1 c2:Nat)(a b:List Rc.R)(w:World)(h1:SlF Bk.rcC w A1 n c1 a)(h2:SlF Bk.rcC w A2 m c2 b)(hn:n≤100000):Calls Tryz.prog 31 #[.slice A1 n c1,.slice A2 m c2] w (jb2 (a=b) w):=by
 have S1:=zh h1;have S2:=zh h2;have L1:=zh h1.len;have L2:=zh h2.len;have hc1:=h1.cap;have hc2:=h2.cap;clear h1 h2;by_cases hnm:n=m
 case neg=>
  have q0:((n:Int) !=(m:Int))=true:=by rw[bne_iff_ne];omega
  go_enter Tryz.func31,Tryz.ntmps31;go_wp2_with fail;go_ret;exact⟨⟨false,rfl,by simp;rintro rfl;exact hnm (L1.out.trans L2.out.symm)⟩,Below.refl _ _⟩
 case pos=>
  subst hnm;go_enter Tryz.func31,Tryz.ntmps31;go_wp2_with fail;go_loopw [5] (fun i wr=>∃j:Nat,j≤n∧i= .int .i64 j∧(∀k,k<j→a[k]? =b[k]?)∧Below w.heap.size w wr) (fun i _=>n -(intOf i).toNat)
  case atStart=>exact⟨0,by omega,rfl,fun k hk=>by omega,Below.refl _ _⟩
  case round=>
   obtain⟨j,hj,rfl,hk,hbr⟩:=hrel;have HK:=zh hk;have B:=zh hbr;clear hk hbr;by_cases hlt:j<n
   ·have hx:a[j]? =some (a[j]'(by have:=L1.out;omega)):=List.getElem?_eq_getElem _
    have hy:b[j]? =some (b[j]'(by have:=L2.out;omega)):=List.getElem?_eq_getElem _;generalize a[j]'(by have:=L1.out;omega)=x at hx;generalize b[j]'(by have:=L2.out;omega)=y at hy;obtain⟨b1,o1,rfl,hl1,hr1⟩:=jbi S1.out hx;obtain⟨b2,o2,rfl,hl2,hr2⟩:=jbi S2.out hy;have EX:=zh hx;have EY:=zh hy;have R1:=zh hr1;have R2:=zh hr2;have H1:=zh hl1;have H2:=zh hl2;have i1:(0:Int)≤(j:Int):=by omega
    have i2:(j:Int)<(n:Int):=by omega
    have hgd:=jf9;obtain⟨q,hq⟩:∃q:Bool,q=true↔x≠y:=by
     classical exact⟨decide (x≠y),decide_eq_true_iff⟩
    have hne:∀W,(binOp .neq 45 (.agg (Rc.cells x)) (.agg (Rc.cells y))).run Tryz.prog W= .ok (.bool q) W:=fun W=>by
     classical
     rw[jeq,show(!decide (x=y))=q from by rw[Bool.eq_iff_iff,hq];simp]
    have HQ:=zh hq;clear hx hy hr1 hr2 hl1 hl2 hq;go_upto_region 6 with fail
    refine wp_region_held_drew (S:=fun W=>Below w.heap.size w W) (by kernel_rfl) B.out.drew (fun hS=> ?_);refine tY 0 hS ?_;refine tY 1 hS ?_;refine tY 2 hS ?_;refine tZ 3 (v:= .agg (Rc.cells x)) rfl (fun W hW=>jcz (.tmp 19) rfl b1 (o1+j*18) x (by simp[Act.eval,go_sem]) (jbs R1.out (hW.block b1 H1.out))) hS ?_;refine tY 4 hS ?_;refine tY 5 hS ?_;simp only[Act.put,zT,zO,zS];refine tY 6 hS ?_;refine tZ 7 (v:= .agg (Rc.cells y)) rfl (fun W hW=>jcz (.tmp 23) rfl b2 (o2+j*18) y (by simp[Act.eval,go_sem]) (jbs R2.out (hW.block b2 H2.out))) hS ?_;refine tY 8 hS ?_;simp only[Act.put,zT,zO,zS];refine wpAnyH_done (by kernel_rfl) ?_ _
    cases q with
    |true=>
     have HN:Hid (x≠y):=HQ.out.1 rfl;go_wp2_with fail;go_ret;refine⟨⟨false,rfl,?_⟩,hS⟩;simp only[Bool.false_eq_true,false_iff];intro e;have e2:=EX.out;rw[e,EY.out]at e2;exact HN.out (Option.some.inj e2).symm
    |false=>
     have HE:Hid (x=y):=by
      show x=y
      classical
      exact Decidable.byContradiction fun h=>by have:=HQ.out.2 h;cases this
     go_wp2_with fail;refine⟨⟨j+1,by omega,by go_num,fun k hk=> ?_,hS⟩,by simp[intOf];omega⟩;rcases Nat.lt_or_ge k j with h|h
     ·exact HK.out k h
     ·rw[show k=j by omega,EX.out,EY.out,HE.out]
   ·obtain rfl:j=n:=by omega
    go_wp2_with fail;go_ret;exact⟨⟨true,rfl,by simp;exact jer (by rw[←L1.out,←L2.out]) fun k hk=>HK.out k (by rw[L1.out];exact hk)⟩,B.out⟩
end Go.Proofs.YtabandbigckfkaaGreatDoor
namespace Go.Proofs.YtabandbigckfkaaGreatDoor
open Go.RowKit
namespace Bk
def unSame(a b:Un):Bool:=(a.v==b.v)&&((a.q==b.q)&&((a.d==b.d)&&true))
theorem unSame_iff{a b:Un}:unSame a b=true↔a=b:=by
 unfold unSame;simp only[Bool.and_eq_true,beq_iff_eq,and_true];constructor
 ·rintro⟨h1,h2,h3⟩
  cases a;cases b
  simp only at h1 h2 h3;subst h1 h2 h3;rfl
 ·rintro rfl;simp
def uC(u:Nat→Un):Array Value:=#[.int .i64 (u 0).v,.int .i64 (u 0).q,.bool (u 0).d,.int .i64 (u 1).v,.int .i64 (u 1).q,.bool (u 1).d,.int .i64 (u 2).v,.int .i64 (u 2).q,.bool (u 2).d,.int .i64 (u 3).v,.int .i64 (u 3).q,.bool (u 3).d,.int .i64 (u 4).v,.int .i64 (u 4).q,.bool (u 4).d,.int .i64 (u 5).v,.int .i64 (u 5).q,.bool (u 5).d,.int .i64 (u 6).v,.int .i64 (u 6).q,.bool (u 6).d,.int .i64 (u 7).v,.int .i64 (u 7).q,.bool (u 7).d,.int .i64 (u 8).v,.int .i64 (u 8).q,.bool (u 8).d,.int .i64 (u 9).v,.int .i64 (u 9).q,.bool (u 9).d,.int .i64 (u 10).v,.int .i64 (u 10).q,.bool (u 10).d,.int .i64 (u 11).v,.int .i64 (u 11).q,.bool (u 11).d,.int .i64 (u 12).v,.int .i64 (u 12).q,.bool (u 12).d,.int .i64 (u 13).v,.int .i64 (u 13).q,.bool (u 13).d,.int .i64 (u 14).v,.int .i64 (u 14).q,.bool (u 14).d,.int .i64 (u 15).v,.int .i64 (u 15).q,.bool (u 15).d]
def usSame(u t:Nat→Un):Bool:=(Bk.unSame (u 0) (t 0)&&(Bk.unSame (u 1) (t 1)&&(Bk.unSame (u 2) (t 2)&&(Bk.unSame (u 3) (t 3)&&(Bk.unSame (u 4) (t 4)&&(Bk.unSame (u 5) (t 5)&&(Bk.unSame (u 6) (t 6)&&(Bk.unSame (u 7) (t 7)&&(Bk.unSame (u 8) (t 8)&&(Bk.unSame (u 9) (t 9)&&(Bk.unSame (u 10) (t 10)&&(Bk.unSame (u 11) (t 11)&&(Bk.unSame (u 12) (t 12)&&(Bk.unSame (u 13) (t 13)&&(Bk.unSame (u 14) (t 14)&&(Bk.unSame (u 15) (t 15)&&true))))))))))))))))
theorem usSame_iff{u t:Nat→Un}:usSame u t=true↔∀i,i<16→u i=t i:=by
 unfold usSame;simp only[Bool.and_eq_true,unSame_iff,and_true];constructor
 ·rintro⟨h0,h1,h2,h3,h4,h5,h6,h7,h8,h9,h10,h11,h12,h13,h14,h15⟩ i hi
  rcases i with _|_|_|_|_|_|_|_|_|_|_|_|_|_|_|_|i
  all_goals first|assumption|omega
 ·intro h
  exact⟨h 0 (by omega),h 1 (by omega),h 2 (by omega),h 3 (by omega),h 4 (by omega),h 5 (by omega),h 6 (by omega),h 7 (by omega),h 8 (by omega),h 9 (by omega),h 10 (by omega),h 11 (by omega),h 12 (by omega),h 13 (by omega),h 14 (by omega),h 15 (by omega)⟩
end Bk
theorem jk1:Tryz.prog.underlying 37=some (.struct (Tryz.prog.fieldsOf 37)):=by kernel_rfl
theorem jnw:Tryz.prog.stoodInHeld 37=false:=by kernel_rfl
theorem jnx:Tryz.prog.cellsOf 37=3:=by kernel_rfl
theorem jck:Tryz.prog.underlying 38=some (.array 16 37):=by kernel_rfl
theorem jk2:(Tryz.prog.info? 37).map (fun i=>(i.zero,i.size,i.bytes))=some (some (.agg #[.int .i64 0,.int .i64 0,.bool false]),3,24):=by kernel_rfl
theorem jbg(a b:Bk.Un)(d:Nat)(W:World):(Op.equalIn (d+2) 37 (.agg #[.int .i64 a.v,.int .i64 a.q,.bool a.d]) (.agg #[.int .i64 b.v,.int .i64 b.q,.bool b.d])).run Tryz.prog W= .ok (Bk.unSame a b) W:=by
 rw[run_equalIn_agg W (d+1) 37 _ _ jk1 jnw];have hi:∀x y,(Op.equalIn (d+1) 3 (.int .i64 x) (.int .i64 y)).run Tryz.prog W= .ok (x==y) W:=fun x y=>run_equalIn_int W d 3 .i64 .i64 x y Tryz.underlying3;have hb:∀x y,(Op.equalIn (d+1) 4 (.bool x) (.bool y)).run Tryz.prog W= .ok (x==y) W:=fun x y=>run_equalIn_bool' W d 4 x y Tryz.underlying4;simp only[Program.fieldsOf,Tryz.underlying37];unfold Bk.unSame;refine jag (by decide) ?_ ?_ (hi _ _) (jag (by decide) ?_ ?_ (hi _ _) (jag (by decide) ?_ ?_ (hb _ _) jdp))
 all_goals simp[go_sem,Sem.run_bind,Result.andThen]
theorem jk3(u t:Nat→Bk.Un)(d:Nat)(W:World):(Op.equalIn (d+4) 38 (.agg (Bk.uC u)) (.agg (Bk.uC t))).run Tryz.prog W= .ok (Bk.usSame u t) W:=by
 obtain⟨i0,hi0,hz0,hz1,hz2⟩:=info_parts jk2;rw[run_equalIn_array W (d+3) _ _ jck hi0,jnx,show List.range 16=[0,1,2,3,4,5,6,7,8,9,10,11,12,13,14,15]from rfl];unfold Bk.usSame Bk.uC;exact(jar (by simp[go_sem,Sem.run_bind,Result.andThen]) (by simp[go_sem,Sem.run_bind,Result.andThen]) (jbg (u 0) (t 0) (d+1) W) (jar (by simp[go_sem,Sem.run_bind,Result.andThen]) (by simp[go_sem,Sem.run_bind,Result.andThen]) (jbg (u 1) (t 1) (d+1) W) (jar (by simp[go_sem,Sem.run_bind,Result.andThen]) (by simp[go_sem,Sem.run_bind,Result.andThen]) (jbg (u 2) (t 2) (d+1) W) (jar (by simp[go_sem,Sem.run_bind,Result.andThen]) (by simp[go_sem,Sem.run_bind,Result.andThen]) (jbg (u 3) (t 3) (d+1) W) (jar (by simp[go_sem,Sem.run_bind,Result.andThen]) (by simp[go_sem,Sem.run_bind,Result.andThen]) (jbg (u 4) (t 4) (d+1) W) (jar (by simp[go_sem,Sem.run_bind,Result.andThen]) (by simp[go_sem,Sem.run_bind,Result.andThen]) (jbg (u 5) (t 5) (d+1) W) (jar (by simp[go_sem,Sem.run_bind,Result.andThen]) (by simp[go_sem,Sem.run_bind,Result.andThen]) (jbg (u 6) (t 6) (d+1) W) (jar (by simp[go_sem,Sem.run_bind,Result.andThen]) (by simp[go_sem,Sem.run_bind,Result.andThen]) (jbg (u 7) (t 7) (d+1) W) (jar (by simp[go_sem,Sem.run_bind,Result.andThen]) (by simp[go_sem,Sem.run_bind,Result.andThen]) (jbg (u 8) (t 8) (d+1) W) (jar (by simp[go_sem,Sem.run_bind,Result.andThen]) (by simp[go_sem,Sem.run_bind,Result.andThen]) (jbg (u 9) (t 9) (d+1) W) (jar (by simp[go_sem,Sem.run_bind,Result.andThen]) (by simp[go_sem,Sem.run_bind,Result.andThen]) (jbg (u 10) (t 10) (d+1) W) (jar (by simp[go_sem,Sem.run_bind,Result.andThen]) (by simp[go_sem,Sem.run_bind,Result.andThen]) (jbg (u 11) (t 11) (d+1) W) (jar (by simp[go_sem,Sem.run_bind,Result.andThen]) (by simp[go_sem,Sem.run_bind,Result.andThen]) (jbg (u 12) (t 12) (d+1) W) (jar (by simp[go_sem,Sem.run_bind,Result.andThen]) (by simp[go_sem,Sem.run_bind,Result.andThen]) (jbg (u 13) (t 13) (d+1) W) (jar (by simp[go_sem,Sem.run_bind,Result.andThen]) (by simp[go_sem,Sem.run_bind,Result.andThen]) (jbg (u 14) (t 14) (d+1) W) (jar (by simp[go_sem,Sem.run_bind,Result.andThen]) (by simp[go_sem,Sem.run_bind,Result.andThen]) (jbg (u 15) (t 15) (d+1) W) jki))))))))))))))))
theorem us_neq(u t:Nat→Bk.Un)(W:World):(binOp .neq 38 (.agg (Bk.uC u)) (.agg (Bk.uC t))).run Tryz.prog W= .ok (.bool (!Bk.usSame u t)) W:=by
 have h:=jk3 u t 9996 W;rw[run_neq_struct,h];rfl
theorem jb3(u:Nat→Bk.Un):(Tryz.prog.info? 38).map (·.size)=some (Bk.uC u).toList.length:=by kernel_rfl
theorem jd9{w:World}{g:Nat}{s:Bk.St}{L V H:Value}(h:BkAt w g s L V H):w.rangeAt g 25 (Bk.uC s.us).toList:=by
 intro j v hv;have hj:j<48:=(List.getElem?_eq_some_iff.1 hv).1;rw[cell_of_row w g _ _ _ _ h.row];rcases j with _|_|_|_|_|_|_|_|_|_|_|_|_|_|_|_|_|_|_|_|_|_|_|_|_|_|_|_|_|_|_|_|_|_|_|_|_|_|_|_|_|_|_|_|_|_|_|_|j
 all_goals first|exact hv|omega
structure Bk.Like(a b:Bk.St):Prop where
 ep:a.ep=b.ep
 who:a.who=b.who
 till:a.till=b.till
 stable:a.stable=b.stable
 from_:a.from_=b.from_
 ph:a.ph=b.ph
 step:a.step=b.step
 since:a.since=b.since
 begun:a.begun=b.begun
 seq:a.seq=b.seq
 sp:a.sp=b.sp
 us:∀i,i<16→a.us i=b.us i
 vs:a.vs=b.vs
 h:a.h=b.h
theorem jaw{P:Program}{ops:Array Oper}{rest:List Oper}{op:Oper}{a:Act}{w:World}{Q:Exit→Act→World→Prop}(hgd:Region.wanted op (yielded ops a.tmps)=true)(ty:TypeId)(x:Operand)(ho:op.op= .load ty x)
  (b o:Nat) (hx:a.eval x= .pointer (some ⟨b,o,none⟩)) (cs:Array Value) (d:TypeDesc) (hc:w.rangeAt b o cs.toList)
  (hu:P.underlying ty=some d) (hd:d.isRow=true) (hi:(P.info? ty).map (·.size)=some cs.toList.length)
  (h:wpList P ops Q rest (a.put op.dst (.agg cs)) w):wpList P ops Q (op::rest) a w:=by
 simp only[wpList,hgd,if_true];refine .inl (wp_load_mid ty x ho b o hx cs.toList d hc hu hd hi ?_);rw[Array.toArray_toList];exact h
theorem jil:Tryz.prog.eqGuardType Tryz.prog.depth 38=false:=by kernel_rfl
structure jk4(w0 W:World)(n:Nat)(a b:Bk.St)(L V H L2 V2 H2:Value):Prop where
 fa:BkAt W n a L V H
 fb:BkAt W (n+1) b L2 V2 H2
 ra:BkRd W a L V H
 rb:BkRd W b L2 V2 H2
 below:Below w0.heap.size w0 W
theorem jk4.on{w0 W W':World}{n:Nat}{a b:Bk.St}{L V H L2 V2 H2:Value}(h:jk4 w0 W n a b L V H L2 V2 H2)(hb:Below W.heap.size W W'):jk4 w0 W' n a b L V H L2 V2 H2:=⟨h.fa.on hb,h.fb.on hb,h.ra.on hb,h.rb.on hb,h.below.trans (hb.mono h.below.size)⟩
theorem jcl{z:Bool}{p:Prop}(h:z=false→p):z=true∨(z=false∧p):=by
 cases z with
 |true=>exact .inl rfl
 |false=>exact .inr ⟨rfl,h rfl⟩
theorem rbeq_no(a b:Bk.St)(L V H L2 V2 H2:Value)(w:World)(h1:BkRd w a L V H)(h2:BkRd w b L2 V2 H2)(hx:¬(a.ep=b.ep∧a.who=b.who∧a.till=b.till∧a.stable=b.stable∧a.from_=b.from_∧a.ph=b.ph∧a.step=b.step∧a.since=b.since∧a.begun=b.begun∧a.seq=b.seq∧a.sp=b.sp∧(∀i,i<16→a.us i=b.us i)∧a.vs.length=b.vs.length)):Calls Tryz.prog 91 #[.agg (Bk.cells a L V H),.agg (Bk.cells b L2 V2 H2)] w (jb2 (Bk.Like a b) w):=by
 have NO:Hid (¬Bk.Like a b):=fun e=>hx ⟨e.ep,e.who,e.till,e.stable,e.from_,e.ph,e.step,e.since,e.begun,e.seq,e.sp,e.us,by rw[e.vs]⟩;obtain⟨AV,cV,rfl,_⟩:=h1.v;obtain⟨AV2,cV2,rfl,_⟩:=h2.v;obtain⟨z0,q0⟩:∃z,(a.ep !=b.ep)=z:=⟨_,rfl⟩;obtain⟨z1,q1⟩:∃z,(a.who !=b.who)=z:=⟨_,rfl⟩;obtain⟨z2,q2⟩:∃z,(a.till !=b.till)=z:=⟨_,rfl⟩;obtain⟨z3,q3⟩:∃z,(a.stable !=b.stable)=z:=⟨_,rfl⟩;obtain⟨z4,q4⟩:∃z,(a.from_ !=b.from_)=z:=⟨_,rfl⟩;obtain⟨z5,q5⟩:∃z,(a.ph !=b.ph)=z:=⟨_,rfl⟩;obtain⟨z6,q6⟩:∃z,(a.step !=b.step)=z:=⟨_,rfl⟩;obtain⟨z7,q7⟩:∃z,(a.since !=b.since)=z:=⟨_,rfl⟩;obtain⟨z8,q8⟩:∃z,(a.begun !=b.begun)=z:=⟨_,rfl⟩;obtain⟨z9,q9⟩:∃z,(a.seq !=b.seq)=z:=⟨_,rfl⟩;obtain⟨z10,q10⟩:∃z,(!Spc.same a.sp b.sp)=z:=⟨_,rfl⟩;obtain⟨z11,q11⟩:∃z,(!Bk.usSame a.us b.us)=z:=⟨_,rfl⟩;obtain⟨z12,q12⟩:∃z,((a.vs.length:Int) !=(b.vs.length:Int))=z:=⟨_,rfl⟩;have hgs:=jbh;have hgu:=jil;have hsp:∀W,(binOp .neq 35 (.agg #[.int .i64 a.sp.v,.int .i64 a.sp.d,.int .i64 a.sp.u,.int .i64 a.sp.n,.int .i64 a.sp.g,.int .i64 a.sp.a,.int .i64 a.sp.b,.int .i64 a.sp.c,.int .i64 a.sp.e,.int .i64 a.sp.w,.int .i64 a.sp.x,.int .i64 a.sp.k]) (.agg #[.int .i64 b.sp.v,.int .i64 b.sp.d,.int .i64 b.sp.u,.int .i64 b.sp.n,.int .i64 b.sp.g,.int .i64 b.sp.a,.int .i64 b.sp.b,.int .i64 b.sp.c,.int .i64 b.sp.e,.int .i64 b.sp.w,.int .i64 b.sp.x,.int .i64 b.sp.k])).run Tryz.prog W= .ok (.bool z10) W:=fun W=>by rw[←q10];exact jbz a.sp b.sp W
 have hus:∀W,(binOp .neq 38 (.agg (Bk.uC a.us)) (.agg (Bk.uC b.us))).run Tryz.prog W= .ok (.bool z11) W:=fun W=>by rw[←q11];exact us_neq a.us b.us W
 have D:z0=true∨(z0=false∧(z1=true∨(z1=false∧(z2=true∨(z2=false∧(z3=true∨(z3=false∧(z4=true∨(z4=false∧(z5=true∨(z5=false∧(z6=true∨(z6=false∧(z7=true∨(z7=false∧(z8=true∨(z8=false∧(z9=true∨(z9=false∧(z10=true∨(z10=false∧(z11=true∨(z11=false∧(z12=true)))))))))))))))))))))))):=by
  refine jcl fun y0=>(jcl fun y1=>(jcl fun y2=>(jcl fun y3=>(jcl fun y4=>(jcl fun y5=>(jcl fun y6=>(jcl fun y7=>(jcl fun y8=>(jcl fun y9=>(jcl fun y10=>(jcl fun y11=> ?_)))))))))));refine Decidable.byContradiction fun h=>hx ⟨?_,?_,?_,?_,?_,?_,?_,?_,?_,?_,?_,?_,?_⟩
  ·rw[y0,bne_eq_false_iff_eq]at q0;exact q0
  ·rw[y1,bne_eq_false_iff_eq]at q1;exact q1
  ·rw[y2,bne_eq_false_iff_eq]at q2;exact q2
  ·rw[y3,bne_eq_false_iff_eq]at q3;exact q3
  ·rw[y4,bne_eq_false_iff_eq]at q4;exact q4
  ·rw[y5,bne_eq_false_iff_eq]at q5;exact q5
  ·rw[y6,bne_eq_false_iff_eq]at q6;exact q6
  ·rw[y7,bne_eq_false_iff_eq]at q7;exact q7
  ·rw[y8,bne_eq_false_iff_eq]at q8;exact q8
  ·rw[y9,bne_eq_false_iff_eq]at q9;exact q9
  ·exact Spc.same_iff.1 (by rw[y10]at q10;simpa using q10)
  ·exact Bk.usSame_iff.1 (by rw[y11]at q11;simpa using q11)
  ·have h12:z12=false:=by simpa using h
   rw[h12,bne_eq_false_iff_eq]at q12;omega
 clear hx q10 q11;obtain⟨W,hW⟩:∃W,W=(w.alloc (.cells (Bk.cells a L (.slice AV a.vs.length cV) H) 40)).alloc (.cells (Bk.cells b L2 (.slice AV2 b.vs.length cV2) H2) 40):=⟨_,rfl⟩;obtain⟨r1,r2,hb,hs⟩:=ja7 hW;have TB:=zh (jk4.mk ⟨r1⟩ ⟨r2⟩ (h1.on hb) (h2.on hb) hb);clear r1 r2 hs hb h1 h2;go_enter Tryz.func91,Tryz.ntmps91;go_upto_region 1 with fail
 rw[←hW];clear hW;obtain⟨n,hn⟩:∃n,n=w.heap.size:=⟨_,rfl⟩;rw[←hn]at TB⊢;clear hn;obtain⟨_,_,b2,b3,b4,b5,b6,b7,b8,b9,b10,b11,b12,b13,b14,b15,b16,b17,b18,b19,b20,b21,b22,b23,b24,_,_⟩:=TB.out.fa.cs;obtain⟨_,_,c2,c3,c4,c5,c6,c7,c8,c9,c10,c11,c12,c13,c14,c15,c16,c17,c18,c19,c20,c21,c22,c23,c24,_,_⟩:=TB.out.fb.cs;rcases D with rfl|⟨rfl,rfl|⟨rfl,rfl|⟨rfl,rfl|⟨rfl,rfl|⟨rfl,rfl|⟨rfl,rfl|⟨rfl,rfl|⟨rfl,rfl|⟨rfl,rfl|⟨rfl,rfl|⟨rfl,rfl|⟨rfl,rfl⟩⟩⟩⟩⟩⟩⟩⟩⟩⟩⟩⟩
 all_goals
  go_wp2_with(first
   |((with_reducible show zL 83);refine jaw (by rfl) 38 (.tmp 82) rfl n 25 rfl (Bk.uC a.us) _ (jd9 TB.out.fa) jck rfl (jb3 _) ?_)
   |((with_reducible show zL 85);refine jaw (by rfl) 38 (.tmp 84) rfl (n+1) 25 rfl (Bk.uC b.us) _ (jd9 TB.out.fb) jck rfl (jb3 _) ?_))
  go_ret;exact⟨⟨false,rfl,by simpa using NO.out⟩,TB.out.below⟩
namespace Bk
def vnSame(a b:Vn):Bool:=(a.n==b.n)&&((a.t.toList==b.t.toList)&&true)
theorem vnSame_iff{a b:Vn}:vnSame a b=true↔a=b:=by
 unfold vnSame;simp only[Bool.and_eq_true,beq_iff_eq,and_true];constructor
 ·rintro⟨h1,h2⟩
  cases a;cases b
  simp only at h1 h2;have h3:=jcg.1 (beq_iff_eq.2 h2);subst h1 h3;rfl
 ·rintro rfl;simp
end Bk
theorem jk5:Tryz.prog.underlying 132=some (.struct (Tryz.prog.fieldsOf 132)):=by kernel_rfl
theorem jny:Tryz.prog.stoodInHeld 132=false:=by kernel_rfl
theorem jnz:Tryz.prog.eqGuardType Tryz.prog.depth 132=false:=by kernel_rfl
theorem vn_neq(a b:Bk.Vn)(W:World):(binOp .neq 132 (.agg #[.int .i64 a.n,.string a.t]) (.agg #[.int .i64 b.n,.string b.t])).run Tryz.prog W= .ok (.bool (!Bk.vnSame a b)) W:=by
 have h:(Op.equalIn 10000 132 (.agg #[.int .i64 a.n,.string a.t]) (.agg #[.int .i64 b.n,.string b.t])).run Tryz.prog W= .ok (Bk.vnSame a b) W:=by
  rw[run_equalIn_agg W 9999 132 _ _ jk5 jny];have hi:∀x y,(Op.equalIn 9999 3 (.int .i64 x) (.int .i64 y)).run Tryz.prog W= .ok (x==y) W:=fun x y=>run_equalIn_int W 9998 3 .i64 .i64 x y Tryz.underlying3;have ht:∀x y,(Op.equalIn 9999 9 (.string x) (.string y)).run Tryz.prog W= .ok (x.toList==y.toList) W:=fun x y=>run_equalIn_string W 9998 9 x y Tryz.underlying9;simp only[Program.fieldsOf,Tryz.underlying132];unfold Bk.vnSame;refine jag (by decide) ?_ ?_ (hi _ _) (jag (by decide) ?_ ?_ (ht _ _) jdp)
  all_goals simp[go_sem,Sem.run_bind,Result.andThen]
 rw[run_neq_struct,h];rfl
theorem jn0(a b:Bk.St)(L V H L2 V2 H2:Value)(w:World)(h1:BkRd w a L V H)(h2:BkRd w b L2 V2 H2)(e0:a.ep=b.ep)(e1:a.who=b.who)(e2:a.till=b.till)(e3:a.stable=b.stable)(e4:a.from_=b.from_)(e5:a.ph=b.ph)(e6:a.step=b.step)(e7:a.since=b.since)(e8:a.begun=b.begun)(e9:a.seq=b.seq)(e10:a.sp=b.sp)(e11:∀i,i<16→a.us i=b.us i)(hx:a.vs.length=b.vs.length)(hl:a.h.length≤1000)(hvl:a.vs.length≤1000):Calls Tryz.prog 91 #[.agg (Bk.cells a L V H),.agg (Bk.cells b L2 V2 H2)] w (jb2 (Bk.Like a b) w):=by
 have q0:(a.ep !=b.ep)=false:=by rw[bne_eq_false_iff_eq];exact e0
 have q1:(a.who !=b.who)=false:=by rw[bne_eq_false_iff_eq];exact e1
 have q2:(a.till !=b.till)=false:=by rw[bne_eq_false_iff_eq];exact e2
 have q3:(a.stable !=b.stable)=false:=by rw[bne_eq_false_iff_eq];exact e3
 have q4:(a.from_ !=b.from_)=false:=by rw[bne_eq_false_iff_eq];exact e4
 have q5:(a.ph !=b.ph)=false:=by rw[bne_eq_false_iff_eq];exact e5
 have q6:(a.step !=b.step)=false:=by rw[bne_eq_false_iff_eq];exact e6
 have q7:(a.since !=b.since)=false:=by rw[bne_eq_false_iff_eq];exact e7
 have q8:(a.begun !=b.begun)=false:=by rw[bne_eq_false_iff_eq];exact e8
 have q9:(a.seq !=b.seq)=false:=by rw[bne_eq_false_iff_eq];exact e9
 have hgs:=jbh;have hsp:∀W,(binOp .neq 35 (.agg #[.int .i64 a.sp.v,.int .i64 a.sp.d,.int .i64 a.sp.u,.int .i64 a.sp.n,.int .i64 a.sp.g,.int .i64 a.sp.a,.int .i64 a.sp.b,.int .i64 a.sp.c,.int .i64 a.sp.e,.int .i64 a.sp.w,.int .i64 a.sp.x,.int .i64 a.sp.k]) (.agg #[.int .i64 b.sp.v,.int .i64 b.sp.d,.int .i64 b.sp.u,.int .i64 b.sp.n,.int .i64 b.sp.g,.int .i64 b.sp.a,.int .i64 b.sp.b,.int .i64 b.sp.c,.int .i64 b.sp.e,.int .i64 b.sp.w,.int .i64 b.sp.x,.int .i64 b.sp.k])).run Tryz.prog W= .ok (.bool false) W:=fun W=>by
  have:=jbz a.sp b.sp W;rw[show(!Spc.same a.sp b.sp)=false from by rw[Spc.same_iff.2 e10];rfl]at this;exact this
 have hgu:=jil;have hus:∀W,(binOp .neq 38 (.agg (Bk.uC a.us)) (.agg (Bk.uC b.us))).run Tryz.prog W= .ok (.bool false) W:=fun W=>by
  have:=us_neq a.us b.us W;rw[show(!Bk.usSame a.us b.us)=false from by rw[Bk.usSame_iff.2 e11];rfl]at this;exact this
 have qv:((a.vs.length:Int) !=(b.vs.length:Int))=false:=by rw[bne_eq_false_iff_eq];omega
 obtain⟨AV,cV,rfl,hv1⟩:=h1.v;obtain⟨AV2,cV2,rfl,hv2⟩:=h2.v;obtain⟨AH,cH,rfl,hh1⟩:=h1.h;obtain⟨AH2,cH2,rfl,hh2⟩:=h2.h;have SV1:=zh hv1;have SV2:=zh hv2;have SH1:=zh hh1;have SH2:=zh hh2;have HL:=zh hl;have HVL:=zh hvl;have HVE:=zh hx;have hcv1:=hv1.cap;have hcv2:=hv2.cap;have LK:Hid (Bk.Like a b↔a.vs=b.vs∧a.h=b.h):=⟨fun e=>⟨e.vs,e.h⟩,fun e=>⟨e0,e1,e2,e3,e4,e5,e6,e7,e8,e9,e10,e11,e.1,e.2⟩⟩;clear hx e0 e1 e2 e3 e4 e5 e6 e7 e8 e9 e10 e11 hv1 hv2 hh1 hh2 hl hvl;obtain⟨W,hW⟩:∃W,W=(w.alloc (.cells (Bk.cells a L (.slice AV a.vs.length cV) (.slice AH a.h.length cH)) 40)).alloc (.cells (Bk.cells b L2 (.slice AV2 b.vs.length cV2) (.slice AH2 b.h.length cH2)) 40):=⟨_,rfl⟩;obtain⟨r1,r2,hb,hs⟩:=ja7 hW;have TB:=zh (jk4.mk ⟨r1⟩ ⟨r2⟩ (h1.on hb) (h2.on hb) hb);clear r1 r2 hs hb h1 h2;go_enter Tryz.func91,Tryz.ntmps91;go_upto_region 1 with fail
 rw[←hW];clear hW;obtain⟨n,hn⟩:∃n,n=w.heap.size:=⟨_,rfl⟩;rw[←hn]at TB⊢;clear hn;have b2:=TB.out.fa.cs.c2;have c2:=TB.out.fb.cs.c2;have b3:=TB.out.fa.cs.c3;have b4:=TB.out.fa.cs.c4;have b5:=TB.out.fa.cs.c5;have b6:=TB.out.fa.cs.c6;have b7:=TB.out.fa.cs.c7;have b8:=TB.out.fa.cs.c8;have b9:=TB.out.fa.cs.c9;have b10:=TB.out.fa.cs.c10;have b11:=TB.out.fa.cs.c11;have b12:=TB.out.fa.cs.c12;have b13:=TB.out.fa.cs.c13;have b14:=TB.out.fa.cs.c14;have b15:=TB.out.fa.cs.c15;have b16:=TB.out.fa.cs.c16;have b17:=TB.out.fa.cs.c17;have b18:=TB.out.fa.cs.c18;have b19:=TB.out.fa.cs.c19;have b20:=TB.out.fa.cs.c20;have b21:=TB.out.fa.cs.c21;have b22:=TB.out.fa.cs.c22;have b23:=TB.out.fa.cs.c23;have b24:=TB.out.fa.cs.c24;have c3:=TB.out.fb.cs.c3;have c4:=TB.out.fb.cs.c4;have c5:=TB.out.fb.cs.c5;have c6:=TB.out.fb.cs.c6;have c7:=TB.out.fb.cs.c7;have c8:=TB.out.fb.cs.c8;have c9:=TB.out.fb.cs.c9;have c10:=TB.out.fb.cs.c10;have c11:=TB.out.fb.cs.c11;have c12:=TB.out.fb.cs.c12;have c13:=TB.out.fb.cs.c13;have c14:=TB.out.fb.cs.c14;have c15:=TB.out.fb.cs.c15;have c16:=TB.out.fb.cs.c16;have c17:=TB.out.fb.cs.c17;have c18:=TB.out.fb.cs.c18;have c19:=TB.out.fb.cs.c19;have c20:=TB.out.fb.cs.c20;have c21:=TB.out.fb.cs.c21;have c22:=TB.out.fb.cs.c22;have c23:=TB.out.fb.cs.c23;have c24:=TB.out.fb.cs.c24;go_upto_region 4 with(first
  |((with_reducible show zL 83);refine jaw (by rfl) 38 (.tmp 82) rfl n 25 rfl (Bk.uC a.us) _ (jd9 TB.out.fa) jck rfl (jb3 _) ?_)
  |((with_reducible show zL 85);refine jaw (by rfl) 38 (.tmp 84) rfl (n+1) 25 rfl (Bk.uC b.us) _ (jd9 TB.out.fb) jck rfl (jb3 _) ?_))
 clear b3 c3 b4 c4 b5 c5 b6 c6 b7 c7 b8 c8 b9 c9 b10 c10 b11 c11 b12 c12 b13 c13 b14 c14 b15 c15 b16 c16 b17 c17 b18 c18 b19 c19 b20 c20 b21 c21 b22 c22 b23 c23 b24 c24 q0 q1 q2 q3 q4 q5 q6 q7 q8 q9 hgs hsp hgu hus qv;go_loopw [5] (fun i wr=>∃j:Nat,j≤a.vs.length∧i= .int .i64 j∧(∀k,k<j→a.vs[k]? =b.vs[k]?)∧Below W.heap.size W wr) (fun i _=>a.vs.length -(intOf i).toNat)
 case atStart=>exact⟨0,by omega,rfl,fun k hk=>by omega,Below.refl _ _⟩
 case round=>
  obtain⟨j,hj,rfl,hk,hbr⟩:=hrel;have HK:=zh hk;have B:=zh hbr;have TX:=zh (TB.out.on hbr);have hve:=HVE.out;have hvl2:=HVL.out;clear hk hbr b2 c2;have b2:=TX.out.fa.cs.c2;have c2:=TX.out.fb.cs.c2;by_cases hlt:j<a.vs.length
  ·have hx:a.vs[j]? =some (a.vs[j]'hlt):=List.getElem?_eq_getElem _
   have hy:b.vs[j]? =some (b.vs[j]'(by omega)):=List.getElem?_eq_getElem _;generalize a.vs[j]'hlt=x at hx;generalize b.vs[j]'(by omega)=y at hy;have EX:=zh hx;have EY:=zh hy;obtain⟨b1,o1,rfl,hl1,hr1⟩:=(SV1.out.on (TX.out.below)).at_ Bk.vnC_len hx;obtain⟨b4,o4,rfl,hl4,hr4⟩:=(SV2.out.on (TX.out.below)).at_ Bk.vnC_len hy;have x0:wr.cell? ⟨b1,o1+j*2,none⟩=some (.int .i64 x.n):=hr1 0 _ rfl;have x1:wr.cell? ⟨b1,o1+j*2+1,none⟩=some (.string x.t):=hr1 1 _ rfl;have y0:wr.cell? ⟨b4,o4+j*2,none⟩=some (.int .i64 y.n):=hr4 0 _ rfl;have y1:wr.cell? ⟨b4,o4+j*2+1,none⟩=some (.string y.t):=hr4 1 _ rfl;have hgd:=jnz;obtain⟨q,hq⟩:∃q:Bool,q=true↔x≠y:=by
    classical exact⟨decide (x≠y),decide_eq_true_iff⟩
   have hne:∀W,(binOp .neq 132 (.agg #[.int .i64 x.n,.string x.t]) (.agg #[.int .i64 y.n,.string y.t])).run Tryz.prog W= .ok (.bool q) W:=fun W=>by
    rw[vn_neq,show(!Bk.vnSame x y)=q from by rw[Bool.eq_iff_iff,hq,Bool.not_eq_true',←Bool.not_eq_true,Bk.vnSame_iff]]
   have HQ:=zh hq;clear hx hy hr1 hr4 hl1 hl4 hq;have bz:j<b.vs.length:=by omega
   go_wp2_with fail;go_region
   cases q with
   |true=>
    have HN:Hid (x≠y):=HQ.out.1 rfl;go_wp2_with fail;go_ret;refine⟨⟨false,rfl,?_⟩,(TX.out.below).drew⟩;simp only[Bool.false_eq_true,false_iff];intro e;have e2:=EX.out;rw[(LK.out.1 e).1,EY.out]at e2;exact HN.out (Option.some.inj e2).symm
   |false=>
    have HE:Hid (x=y):=by
     show x=y;exact Classical.byContradiction fun h=>by have:=HQ.out.2 h;cases this
    go_wp2_with fail;refine⟨⟨j+1,by omega,by go_num,fun k hk=> ?_,B.out.drew⟩,by simp[intOf];omega⟩;rcases Nat.lt_or_ge k j with h|h
    ·exact HK.out k h
    ·rw[show k=j by omega,EX.out,EY.out,HE.out]
  ·obtain rfl:j=a.vs.length:=by omega
   have b73:=TX.out.fa.cs.c73;have c73:=TX.out.fb.cs.c73;have HVS:Hid (a.vs=b.vs):=jer HVE.out fun k hk=>HK.out k hk;have CS:=zh (fun W (hb:Below w.heap.size w W)=>jc0 AH AH2 a.h.length b.h.length cH cH2 a.h b.h W (SH1.out.on hb) (SH2.out.on hb) (by have:=HL.out;omega));go_wp2_with(go_at_call 31;(with_reducible refine(CS.out _ TX.out.below).mono ?_);rintro e w2 ⟨⟨z,rfl,hz⟩,hb⟩;have HZ:=zh hz;have BB:=zh (TX.out.below.trans (hb.mono TX.out.below.size));clear hz hb);go_ret;exact⟨⟨z,rfl,HZ.out.trans ⟨fun e=>LK.out.2 ⟨HVS.out,e⟩,fun e=>(LK.out.1 e).2⟩⟩,BB.out⟩
open Classical in
theorem jn1(a b:Bk.St)(ha:Bk.Ok a)(L V H L2 V2 H2:Value)(w:World)(h1:BkRd w a L V H)(h2:BkRd w b L2 V2 H2):Calls Tryz.prog 91 #[.agg (Bk.cells a L V H),.agg (Bk.cells b L2 V2 H2)] w (jb2 (Bk.Like a b) w):=by
 by_cases hx:a.ep=b.ep∧a.who=b.who∧a.till=b.till∧a.stable=b.stable∧a.from_=b.from_∧a.ph=b.ph∧a.step=b.step∧a.since=b.since∧a.begun=b.begun∧a.seq=b.seq∧a.sp=b.sp∧(∀i,i<16→a.us i=b.us i)∧a.vs.length=b.vs.length
 case neg=>exact rbeq_no a b L V H L2 V2 H2 w h1 h2 hx
 obtain⟨e0,e1,e2,e3,e4,e5,e6,e7,e8,e9,e10,e11,e12⟩:=hx;exact jn0 a b L V H L2 V2 H2 w h1 h2 e0 e1 e2 e3 e4 e5 e6 e7 e8 e9 e10 e11 e12 (by have:=ha.hl;omega) (by have:=ha.vl;omega)
namespace Bk
def but{T:Type}(l:List T)(i:Nat):List T:=l.take i++l.drop (i+1)
theorem but_length{T:Type}{l:List T}{i:Nat}(h:i<l.length):(but l i).length+1=l.length:=by unfold but;rw[List.length_append,List.length_take,List.length_drop];omega
theorem but_mem{T:Type}{l:List T}{i:Nat}{x:T}(h:x∈but l i):x∈l:=by
 rcases List.mem_append.1 h with h|h
 ·exact List.mem_of_mem_take h
 ·exact List.mem_of_mem_drop h
def Idle(m:Int)(want:St)(odd:Int)(l:List Rc.R)(i:Nat):Prop:=(∃r,l[i]? =some r∧r.kind=1)∧Like (all m (but l i)) want∧((but l i).length:Int) -(allN m (but l i):Nat)=odd
open Classical in
noncomputable def cgo(m:Int)(want:St)(odd:Int):Nat→Nat→List Rc.R→List Rc.R
 |0,_,l=>l
 |f+1,i,l=>if Idle m want odd l i then cgo m want odd f i (but l i)else cgo m want odd f (i+1) l
noncomputable def compact(m:Int)(l:List Rc.R):List Rc.R:=cgo m (all m l) ((l.length:Int) -(allN m l:Nat)) l.length 0 l
theorem cgo_yes{m:Int}{want:St}{odd:Int}{l:List Rc.R}{i:Nat}(hi:i<l.length)(h:Idle m want odd l i):cgo m want odd (l.length -i) i l=cgo m want odd ((but l i).length -i) i (but l i):=by
 have:=but_length hi;rw[show l.length -i=((but l i).length -i)+1 by omega];exact if_pos h
theorem cgo_no{m:Int}{want:St}{odd:Int}{l:List Rc.R}{i:Nat}(hi:i<l.length)(h:¬Idle m want odd l i):cgo m want odd (l.length -i) i l=cgo m want odd (l.length -(i+1)) (i+1) l:=by
 rw[show l.length -i=(l.length -(i+1))+1 by omega];exact if_neg h
end Bk
theorem jjd(A:Option Addr)(n c k:Nat)(hk:k≤c)(W:World):
  (Instr.slice 28 (.slice A n c) none (some (.int .i64 (k:Int))) none).run Tryz.prog W= .ok (.slice A k c) W:=by
 rw[run_slice_h _ 28 A n c (by kernel_rfl) IntKind.i64 (k:Int) (by omega) (by omega),rcElem];simp[Result.andThen,sliced];intro _
 cases A with
 |none=>rfl
 |some a=>simp[Addr.add]
def Bk.vlen:Value→Nat
 | .slice _ n _=>n
 |_=>0
theorem Bk.vlen_is(A:Option Addr)(n c:Nat):Bk.vlen (.slice A n c)=n:=rfl
structure jje(w0 W:World)(g:Nat)(s:Bk.St)(L V H:Value)(v:Value)(out:List Rc.R):Prop where
 bk:BkAt W g s L V H
 rd:BkRd W s L V H
 row:OwF Bk.rcC 18 45 W w0.heap.size v out
 below:Below w0.heap.size w0 W
theorem jje.on{w0 W W':World}{g:Nat}{s:Bk.St}{L V H v:Value}{out:List Rc.R}(h:jje w0 W g s L V H v out)(hb:Below W.heap.size W W'):jje w0 W' g s L V H v out:=⟨h.bk.on hb,h.rd.on hb,h.row.below hb,h.below.trans (hb.mono h.below.size)⟩
theorem jgj(m:Int)(A:Option Addr)(k c:Nat)(l:List Rc.R)(hin:∀r∈l,Rc.In r)(w:World)(hs:SlF Bk.rcC w A k c l)(hk:k≤100000):Calls Tryz.prog 44 #[.int .i64 m,.slice A k c] w (fun e w'=>∃A' c',e= .returned (.slice A' (Bk.compact m l).length c')∧SlF Bk.rcC w' A' (Bk.compact m l).length c' (Bk.compact m l)∧Below w.heap.size w w'):=by
 have hz:=jbe;have CA:Hid (∀A k c l W,(∀r∈l,Rc.In r)→SlF Bk.rcC W A k c l→k≤100000→Calls Tryz.prog 41 #[.int .i64 m,.slice A k c] W (jhi W (Bk.all m l) (.int .i64 (Bk.allN m l:Nat)))):=fun A k c l W h1 h2 h3=>jep m A k c l h1 W h2 h3;have S0:=zh hs;have HI:=zh hin;have HK:=zh hs.len;have HK2:=zh hk;have hcap:=hs.cap;have hov:OwF Bk.rcC 18 45 w w.heap.size (.slice none 0 0) []:=OwF.none_ _ _ _;have AN:Hid (Bk.allN m l≤k):=by show _≤_;rw[hs.len];exact Bk.cnt_le _ _
 clear hs hin;go_enter Tryz.func44,Tryz.ntmps44;go_upto_region 2 with fail
 generalize hv0:Value.slice none 0 0=v0 at hov⊢;have OV:=zh hov;clear hov hv0;go_upto_region 3 with(at_builtin;refine jao Bk.rcC_len Bk.rcC_one Tryz.underlying28 jak rfl (by omega) rfl (.tmp 14) (.tmp 15) rfl w.heap.size v0 [] l rfl OV.out rfl S0.out (by have:=HK.out;simp;unfold maxLen;omega) (by have:=HK.out;simp;omega) (Nat.le_refl _) ?_;intro v1 w1 ho1 hb1 _ _;have O1:=zh ho1;have B1:=zh hb1;clear ho1 hb1)
 go_upto_region 4 with(first
  |(go_at_call 41;(with_reducible refine(CA.out _ _ _ l _ HI.out (S0.out.on B1.out) HK2.out).mono ?_);rintro e w2 ⟨L,V,H,rfl,hrd,hb⟩;have O1:=zh (O1.out.below hb);have B2:=zh (B1.out.trans (hb.mono B1.out.size));have RD:=zh hrd;have Z2:=zh (BkAt.zero w2);clear hb hrd)
  |((with_reducible show zW);refine jab rfl (.tmp 6) (.tmp 21) rfl rfl rfl Z2.out RD.out.one ?_))
 have hC:jje w ((w2.alloc (.cells Bk.zeros 40)).setRow w2.heap.size (Bk.cells (Bk.all m l) L V H)) w2.heap.size (Bk.all m l) L V H v1 l:=by
  have hb:Below w2.heap.size w2 (w2.alloc (.cells Bk.zeros 40)):=(Below.refl _ _).alloc (Nat.le_refl _) _;have hO:Only w2.heap.size _ ((w2.alloc (.cells Bk.zeros 40)).setRow w2.heap.size (Bk.cells (Bk.all m l) L V H)):=(Only.refl _ _).row _;refine⟨Z2.out.setRow _ _ _ _,hO.rd (RD.out.on hb) Z2.out jax,(O1.out.below hb).keep fun b he=>hO.block b ?_,hO.below (B2.out.trans (hb.mono B2.out.size)) B2.out.size⟩;have:=(O1.out.lt b he).2;omega
 generalize(w2.alloc (.cells Bk.zeros 40)).setRow w2.heap.size (Bk.cells (Bk.all m l) L V H)=w3 at*;generalize w2.heap.size=g at*;have C3:=zh hC;have HAN:=AN.out;have hod:wrap64 ((k:Int) -(Bk.allN m l:Nat))=(k:Int) -(Bk.allN m l:Nat):=IntWalk.wrap64_in _ ⟨by omega,by omega⟩;obtain⟨odd,hodd⟩:∃odd:Int,odd=(k:Int) -(Bk.allN m l:Nat):=⟨_,rfl⟩;replace hod:wrap64 ((k:Int) -(Bk.allN m l:Nat))=odd:=hod.trans hodd.symm;have HOD:Hid (odd=(l.length:Int) -(Bk.allN m l:Nat)∧0≤odd∧odd≤100000):=by
  have:=HK.out;show _∧_∧_;omega
 clear hodd hC O1 B1 B2 RD Z2 OV HAN;obtain⟨want,hwant⟩:∃want,want=Bk.all m l:=⟨_,rfl⟩;have HW:=zh hwant;clear hwant;go_upto_region 6 with fail
 rw[hod];clear hod;go_loopw [5,9] (fun v i wr=>∃(j:Nat) (out:List Rc.R),j≤out.length∧out.length≤k∧i= .int .i64 j∧(∀r∈out,r∈l)∧Bk.cgo m want odd (out.length -j) j out=Bk.compact m l∧jje w wr g (Bk.all m l) L V H v out) (fun v i wr=>Bk.vlen v -(intOf i).toNat)
 case atStart=>
  refine⟨0,l,by omega,by rw[←HK.out];exact Nat.le_refl _,rfl,fun r h=>h,?_,C3.out⟩;unfold Bk.compact;rw[HW.out,HOD.out.1];rfl
 case round=>
  clear C3;obtain⟨j,out,hj,hol,rfl,hmem,hgo,hc⟩:=hrel;obtain⟨AO,cO,rfl⟩:=hc.row.form;have CC:=zh hc;have HM:=zh hmem;have CCw:=zh hc.below.size;have HG:=zh hgo;have hk2:=HK2.out;have hcO:=hc.row.len.2.1;clear hc hmem hgo;by_cases hlt:j<out.length
  ·have hx:out[j]? =some (out[j]'hlt):=List.getElem?_eq_getElem _
   generalize out[j]'hlt=r at hx;obtain⟨b,o,rfl,hbl,hrg⟩:=jbi CC.out.row.sl hx;have EX:=zh hx;have RG:=zh hrg;have HB:=zh hbl;have GL:=zh CC.out.bk.lt;have BL:=zh (Bk.but_length hlt);have hw1:wrap64 ((j:Int)+1)=(j:Int)+1:=IntWalk.wrap64_in _ ⟨by omega,by omega⟩;have hs1:∀W,(Instr.slice 28 (.slice (some ⟨b,o,none⟩) out.length cO) none (some (.int .i64 (j:Int))) none).run Tryz.prog W= .ok (.slice (some ⟨b,o,none⟩) j cO) W:=fun W=>jjd _ _ _ j (by omega) W;obtain⟨A2,c2,hA2,hs2⟩:∃A2 c2,(A2=(if cO=j+1 then some ⟨b,o,none⟩else(some ⟨b,o,none⟩:Option Addr).map fun x=>x.add ((j+1)*18))∧c2=cO -(j+1))∧∀W,(Instr.slice 28 (.slice (some ⟨b,o,none⟩) out.length cO) (some (.int .i64 ((j:Int)+1))) none none).run Tryz.prog W= .ok (.slice A2 (out.length -(j+1)) c2) W:=⟨_,_,⟨rfl,rfl⟩,jem _ _ _ (j+1) (by omega)⟩;have SD:Hid (∀W,SlF Bk.rcC W (some ⟨b,o,none⟩) out.length cO out→SlF Bk.rcC W A2 (out.length -(j+1)) c2 (out.drop (j+1))):=fun W h=>by
    rw[hA2.1,hA2.2];exact h.drop Bk.rcC_len (by omega) (jfu ((j+1)*18))
   have ST:Hid (∀W,SlF Bk.rcC W (some ⟨b,o,none⟩) out.length cO out→SlF Bk.rcC W (some ⟨b,o,none⟩) j cO (out.take j)):=fun W h=>h.take Bk.rcC_len (by omega);have HLT:=zh hlt;clear hx hrg hbl hA2;go_upto_region 8 with fail
   have hov:OwF Bk.rcC 18 45 wr wr.heap.size (.slice none 0 0) []:=OwF.none_ _ _ _;generalize hv2:Value.slice none 0 0=r0 at hov⊢;have OV:=zh hov;clear hov hv2;go_upto_region 9 with(at_builtin;refine jao Bk.rcC_len Bk.rcC_one Tryz.underlying28 jak rfl (by omega) rfl (.tmp 31) (.tmp 34) rfl wr.heap.size r0 [] (out.take j) rfl OV.out rfl (ST.out _ CC.out.row.sl) (by rw[List.length_take];simp;unfold maxLen;omega) (by rw[List.length_take];simp;omega) (Nat.le_refl _) ?_;intro v8 w8 ho8 hb8 _ _;have O8:=zh ho8;have B8:=zh hb8;have CC8:=zh (CC.out.on hb8);clear ho8 hb8)
   go_upto_region 10 with(at_builtin;refine jao Bk.rcC_len Bk.rcC_one Tryz.underlying28 jak rfl (by omega) rfl (.tmp 36) (.tmp 40) rfl wr.heap.size v8 ([]++out.take j) (out.drop (j+1)) rfl O8.out rfl (SD.out _ CC8.out.row.sl) (by rw[List.nil_append,List.length_take,List.length_drop];unfold maxLen;omega) (by rw[List.nil_append,List.length_take,List.length_drop];omega) B8.out.size ?_;intro v9 w9 ho9 hb9 _ _;have O9:=zh ho9;have CC:=zh (CC.out.on (B8.out.trans hb9));have WL:=zh CCw.out;clear ho9 hb9)
   clear hs1 hs2 hw1;have O9:Hid (OwF Bk.rcC 18 45 w9 wr.heap.size v9 (Bk.but out j)):=by
    have:=O9.out;rw[List.nil_append]at this;exact this
   obtain⟨A9,c9,rfl⟩:=O9.out.form;have hbt:(Bk.but out j).length≤100000:=by have:=BL.out;omega
   have INB:Hid (∀r∈Bk.but out j,Rc.In r):=fun r h=>HI.out r (HM.out r (Bk.but_mem h));have AN9:Hid (Bk.allN m (Bk.but out j)≤(Bk.but out j).length):=Bk.cnt_le _ _;have INC:Hid (∀r∈Bk.but out j,r∈l):=fun r h=>HM.out r (Bk.but_mem h);obtain⟨bt,hbtE⟩:∃bt,bt=Bk.but out j:=⟨_,rfl⟩;rw[←hbtE]at O9 hbt INB AN9 INC BL⊢;have BT:=zh hbtE;clear hbtE;go_upto_region 11 with(first
    |(go_at_call 41;(with_reducible refine(CA.out _ _ _ bt _ INB.out O9.out.sl hbt).mono ?_);rintro e wa ⟨L9,V9,H9,rfl,hrd,hb⟩;have O9:=zh (O9.out.below hb);have CC:=zh (CC.out.on hb);have RD:=zh hrd;have Z9:=zh (BkAt.zero wa);clear hb hrd)
    |((with_reducible show zW);refine jab rfl (.tmp 11) (.tmp 46) rfl rfl rfl Z9.out RD.out.one ?_))
   have hbA:Below wa.heap.size wa (wa.alloc (.cells Bk.zeros 40)):=(Below.refl _ _).alloc (Nat.le_refl _) _;have hOA:Only wa.heap.size (wa.alloc (.cells Bk.zeros 40)) ((wa.alloc (.cells Bk.zeros 40)).setRow wa.heap.size (Bk.cells (Bk.all m bt) L9 V9 H9)):=(Only.refl _ _).row _;have hga:g<wa.heap.size:=CC.out.bk.lt;have hCA:jje w ((wa.alloc (.cells Bk.zeros 40)).setRow wa.heap.size (Bk.cells (Bk.all m bt) L9 V9 H9)) g (Bk.all m l) L V H (.slice (some ⟨b,o,none⟩) out.length cO) out:=by
    have h1:=CC.out.on hbA;refine⟨hOA.bk h1.bk (by omega),hOA.rd h1.rd Z9.out jax,h1.row.keep fun b9 he=>hOA.block b9 ?_,hOA.below h1.below CC.out.below.size⟩;have:=(CC.out.row.lt b9 he).2;omega
   have hOB:OwF Bk.rcC 18 45 ((wa.alloc (.cells Bk.zeros 40)).setRow wa.heap.size (Bk.cells (Bk.all m bt) L9 V9 H9)) wr.heap.size (.slice A9 bt.length c9) bt:=by
    refine(O9.out.below hbA).keep fun b9 he=>hOA.block b9 ?_;have:=(O9.out.lt b9 he).2;omega
   have hRB:BkRd ((wa.alloc (.cells Bk.zeros 40)).setRow wa.heap.size (Bk.cells (Bk.all m bt) L9 V9 H9)) (Bk.all m bt) L9 V9 H9:=hOA.rd (RD.out.on hbA) Z9.out jax;have hXB:=Z9.out.setRow (Bk.all m bt) L9 V9 H9;generalize(wa.alloc (.cells Bk.zeros 40)).setRow wa.heap.size (Bk.cells (Bk.all m bt) L9 V9 H9)=wb at*;generalize wa.heap.size=ga at*;have CB:=zh hCA;have OB:=zh hOB;have RB:=zh hRB;have XB:=zh hXB;clear hbA hOA hga hCA hOB hRB hXB;have CE:=zh (jn1 (Bk.all m bt) (Bk.all m l) (Bk.all_ok m bt) L9 V9 H9 L V H wb RB.out CB.out.rd);go_upto_region 12 with(first
    |((with_reducible show zL 48);refine jaa rfl (.tmp 11) rfl rfl XB.out ?_)
    |((with_reducible show zL 49);refine jaa rfl (.tmp 6) rfl rfl CB.out.bk ?_)
    |(go_at_call 91;(with_reducible refine CE.out.mono ?_);rintro e we ⟨⟨z,rfl,hz⟩,hb⟩;have HZ:=zh hz;have CB:=zh (CB.out.on hb);have OB:=zh (OB.out.below hb);clear hz hb))
   have k0:we.cell? ⟨b,o+j*18,none⟩=some (.int .i64 r.kind):=by
    obtain⟨b',o',e1,_,e3⟩:=jbi CB.out.row.sl EX.out;injection e1 with e1;injection e1 with e1 e2;subst e1 e2
    exact e3 0 _ rfl
   have han:=AN9.out;have hw3:wrap64 ((bt.length:Int) -(Bk.allN m bt:Nat))=(bt.length:Int) -(Bk.allN m bt:Nat):=IntWalk.wrap64_in _ ⟨by omega,by omega⟩;have ID:Hid (Bk.Idle m (Bk.all m l) odd out j↔r.kind=1∧z=true∧(bt.length:Int) -(Bk.allN m bt:Nat)=odd):=by
    show _↔_;unfold Bk.Idle;rw[←BT.out,HZ.out];constructor
    ·rintro⟨⟨r',h1,h2⟩,h3,h4⟩
     rw[EX.out]at h1;rw[Option.some.inj h1];exact⟨h2,h3,h4⟩
    ·rintro⟨h2,h3,h4⟩
     exact⟨⟨r,EX.out,h2⟩,h3,h4⟩
   have hlt:=HLT.out;by_cases hid:r.kind=1∧z=true∧(bt.length:Int) -(Bk.allN m bt:Nat)=odd
   ·have GY:Hid (Bk.cgo m want odd (bt.length -j) j bt=Bk.compact m l):=by
     show _=_;rw[←HG.out,HW.out,Bk.cgo_yes HLT.out (ID.out.2 hid),BT.out]
    obtain⟨h1,h2,h3⟩:=hid;subst h2;have hq:((bt.length:Int) -(Bk.allN m bt:Nat)==odd)=true:=by rw[beq_iff_eq];exact h3
    rw[h1]at k0;clear h1 h3;go_wp2_with fail;exact⟨⟨j,bt,by have:=BL.out;omega,by have:=BL.out;omega,rfl,INC.out,GY.out,CB.out.bk,CB.out.rd,OB.out.lower (by exact WL.out),CB.out.below⟩,by have:=BL.out;rw[Bk.vlen_is,Bk.vlen_is];simp[intOf];omega⟩
   ·have GN:Hid (Bk.cgo m want odd (out.length -(j+1)) (j+1) out=Bk.compact m l):=by
     show _=_;rw[←HG.out,HW.out,Bk.cgo_no HLT.out (fun h=>hid (ID.out.1 h))]
    have fin:∀(q1 q2:Bool),True:=fun _ _=>trivial;by_cases h1:r.kind=1
    ·rw[h1]at k0
     cases z with
     |true=>
      have hq:((bt.length:Int) -(Bk.allN m bt:Nat)==odd)=false:=by rw[beq_eq_false_iff_ne];exact fun h=>hid ⟨h1,rfl,h⟩
      clear hid h1 fin;go_wp2_with fail;exact⟨⟨j+1,out,by omega,by omega,by go_num,HM.out,GN.out,CB.out⟩,by rw[Bk.vlen_is];simp[intOf];omega⟩
     |false=>
      clear hid h1 fin;go_wp2_with fail;exact⟨⟨j+1,out,by omega,by omega,by go_num,HM.out,GN.out,CB.out⟩,by rw[Bk.vlen_is];simp[intOf];omega⟩
    ·have hq:(r.kind==1)=false:=by rw[beq_eq_false_iff_ne];exact h1
     clear hid h1 fin;go_wp2_with fail;exact⟨⟨j+1,out,by omega,by omega,by go_num,HM.out,GN.out,CB.out⟩,by rw[Bk.vlen_is];simp[intOf];omega⟩
  ·obtain rfl:j=out.length:=by omega
   have HF:Hid (out=Bk.compact m l):=by
    show _=_;rw[←HG.out,Nat.sub_self];rfl
   go_wp2_with fail;go_ret;rw[←HF.out];exact⟨AO,cO,rfl,CC.out.row.sl,CC.out.below⟩
end Go.Proofs.YtabandbigckfkaaGreatDoor
