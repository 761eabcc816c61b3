import Derived.Test.YtabandbigckfkaaGreatDoorQa26
import Derived.Handed
import Derived.HandedShaped
import Derived.Stop.LaidErr
import Derived.Shelf.Vars
import Derived.MakeChecks
import Derived.Lay
set_option maxHeartbeats 6400000
set_option maxRecDepth 100000
set_option linter.unusedSimpArgs false
set_option linter.unusedVariables false
namespace Go.Proofs.YtabandbigckfkaaGreatDoor
open Go.RowKit Go.Deep Go.Maps
structure Two(w0:World)(F:Nat→Prop)(qa:Nat)(a:Bk.St)(qb:Nat)(b:Bk.St)(W:World):Prop where
 bd:∃X Y,BdP W X qa a∧BdP W Y qb b∧(∀i,X i→w0.heap.size≤i)∧(∀i,Y i→w0.heap.size≤i)∧(∀i,X i→¬Y i)∧∀i,F i→¬X i∧¬Y i∧i<W.heap.size
 below:Below w0.heap.size w0 W
section
variable{w0 W W':World}{F G:Nat→Prop}{qa qb:Nat}{a b:Bk.St}
theorem Two.on(h:Two w0 F qa a qb b W)(hb:Below W.heap.size W W'):Two w0 F qa a qb b W':=by
 obtain⟨⟨X,Y,h1,h2,h3,h4,h5,h6⟩,h7⟩:=h;exact⟨⟨X,Y,jbw h1 hb,jbw h2 hb,h3,h4,h5,fun i hi=>⟨(h6 i hi).1,(h6 i hi).2.1,Nat.lt_of_lt_of_le (h6 i hi).2.2 hb.size⟩⟩,h7.trans (hb.mono h7.size)⟩
theorem Two.swap(h:Two w0 F qa a qb b W):Two w0 F qb b qa a W:=by
 obtain⟨⟨X,Y,h1,h2,h3,h4,h5,h6⟩,h7⟩:=h;exact⟨⟨Y,X,h2,h1,h4,h3,fun i hy hx=>h5 i hx hy,fun i hi=>⟨(h6 i hi).2.1,(h6 i hi).1,(h6 i hi).2.2⟩⟩,h7⟩
theorem Two.fst(h:Two w0 F qa a qb b W):BP w0 (fun _=>False) qa a W:=by
 obtain⟨⟨X,Y,h1,h2,h3,h4,h5,h6⟩,h7⟩:=h;exact⟨X,h1,h3,fun _ h=>h.elim,h7⟩
theorem Two.snd(h:Two w0 F qa a qb b W):BP w0 (fun _=>False) qb b W:=h.swap.fst
theorem Two.none_(h:Two w0 F qa a qb b W):Two w0 (fun _=>False) qa a qb b W:=by
 obtain⟨⟨X,Y,h1,h2,h3,h4,h5,h6⟩,h7⟩:=h;exact⟨⟨X,Y,h1,h2,h3,h4,h5,fun _ h=>h.elim⟩,h7⟩
theorem Two.one(h:Two w0 F qa a qb b W)(hb:Below W.heap.size W W'){g:Nat}(h8:W.heap.size≤g)(h9:g<W'.heap.size):Two w0 (fun i=>i=g) qa a qb b W':=by
 obtain⟨⟨X,Y,h1,h2,h3,h4,h5,h6⟩,h7⟩:=h.on hb;obtain⟨X0,Y0,g1,g2,g3,g4,g5,g6⟩:=h.bd;refine⟨⟨X0,Y0,jbw g1 hb,jbw g2 hb,g3,g4,g5,fun i hi=> ?_⟩,h7⟩;subst hi;exact⟨fun hx=>by have:=jdo g1 _ hx;omega,fun hy=>by have:=jdo g2 _ hy;omega,h9⟩
def TwoRes(w0:World)(F:Nat→Prop)(qa:Nat)(a:Bk.St)(qb:Nat)(b:Bk.St)(x:Int)(W:World)(e:Ending)(w':World):Prop:=e= .returned (.int .i64 x)∧Two w0 F qa a qb b w'∧∀i,F i→w'.heap[i]? =W.heap[i]?
theorem Two.appA(h:Two w0 F qa a qb b W)(ht:BT W){r:Rc.R}(hr:Rc.In r):Calls Tryz.prog 63 #[.pointer (some ⟨qa,0,none⟩),.agg (Rc.cells r)] W (TwoRes w0 F qa (Bk.app a r) qb b (Bk.chk a r) W):=by
 obtain⟨⟨X,Y,h1,h2,h3,h4,h5,h6⟩,h7⟩:=h;refine(jg5 h1 ht r hr).mono fun e w' hp=> ?_;obtain⟨X',e1,e2,e3,e4⟩:=hp;refine⟨e1,⟨⟨X',Y,e2,jf3 h2 e4.size fun i hi=>e4.block i (jdo h2 i hi) fun hx=>h5 i hx hi,fun i hi=> ?_,h4,fun i hi hy=> ?_,fun i hi=>⟨fun hx=> ?_,(h6 i hi).2.1,Nat.lt_of_lt_of_le (h6 i hi).2.2 e4.size⟩⟩,h7.trans (e4.below h7.size h3)⟩,fun i hi=>e4.block i (h6 i hi).2.2 (h6 i hi).1⟩
 ·rcases e3 i hi with h|h
  ·exact h3 i h
  ·exact Nat.le_trans h7.size h
 ·rcases e3 i hi with h|h
  ·exact h5 i h hy
  ·have:=jdo h2 i hy;omega
 ·rcases e3 i hx with h|h
  ·exact(h6 i hi).1 h
  ·have:=(h6 i hi).2.2;omega
theorem Two.appB(h:Two w0 F qa a qb b W)(ht:BT W){r:Rc.R}(hr:Rc.In r):Calls Tryz.prog 63 #[.pointer (some ⟨qb,0,none⟩),.agg (Rc.cells r)] W (TwoRes w0 F qa a qb (Bk.app b r) (Bk.chk b r) W):=
 (h.swap.appA ht hr).mono fun e w' ⟨h1,h2,h3⟩=>⟨h1,h2.swap,h3⟩
theorem Two.same(h:Two w0 F qa a qb b W)(ht:BT W):Calls Tryz.prog 26 #[.pointer (some ⟨qa,0,none⟩),.pointer (some ⟨qb,0,none⟩)] W (jb2 (Bk.Like a b) W):=jng h.fst h.snd ht
theorem two_of(h1:BP w0 (fun _=>False) qa a W)(h2:BP W (fun _=>False) qb b W'):Two w0 (fun _=>False) qa a qb b W':=by
 obtain⟨X,g1,g2,g3,g4⟩:=h1;obtain⟨Y,k1,k2,k3,k4⟩:=h2;exact⟨⟨X,Y,jbw g1 k4,k1,g2,fun i hi=>Nat.le_trans g4.size (k2 i hi),fun i hx hy=>by have:=jdo g1 i hx;have:=k2 i hy;omega,fun _ h=>h.elim⟩,g4.trans (k4.mono g4.size)⟩
end
theorem jf7(s:Bk.St)(l:List Rc.R):Bk.refs s l≤l.length:=by unfold Bk.refs;omega
theorem jih{w0 W:World}{F:Nat→Prop}{q:Nat}{s:Bk.St}(h:BP w0 F q s W)(ht:BT W)(r:Rc.R)(hr:Rc.In r)(A:Option Addr)(n c:Nat)(l:List Rc.R)(hs:SlF Bk.rcC W A n c l)(hin:∀r∈l,Rc.In r)(hn:n≤1000)(m:Int)(hm:s.m=min (max m 0) 1048576)(R:Int)(hR:Bk.chk s r=0→R=Bk.refs (Bk.app s r) l):
  Calls Tryz.prog 90 #[.pointer (some ⟨q,0,none⟩),.agg (Rc.cells r),.slice A n c,.int .i64 m,.int .i64 R] W (jb2 (Bk.Lack s r l) W):=by
 have hb1:Below W.heap.size W (W.alloc (.cells (Rc.cells r) 45)):=(Below.refl _ _).alloc (Nat.le_refl _) _;have RA:=zh (RcAt.new W r);have B1:=zh hb1;have D1:=zh (jby h hb1);have T1:=zh (ht.on hb1);have S1:=zh (hs.on hb1);have HI:=zh hin;have HR:=zh hr;have HL:=zh hs.len;have HRR:=zh hR;have hcap:=hs.cap;have SM:Hid ({s with m:=min (max m 0) 1048576}=s):=by show _=_;rw[←hm]
 clear h ht hs hin hr hR hm hb1;go_enter Tryz.func90,Tryz.ntmps90;go_upto_region 1 with fail
 obtain⟨g,hg⟩:∃g,g=W.heap.size:=⟨_,rfl⟩;rw[←hg]at RA⊢;clear hg;generalize W.alloc (.cells (Rc.cells r) 45)=w1 at*;have CT:=zh (fun X (hX:Below w1.heap.size w1 X)=>jou (jby D1.out hX) m);rw[SM.out]at CT;clear SM;go_upto_region 2 with(first
  |(go_at_call 159;(with_reducible refine(CT.out _ (ja9 P2.out)).mono ?_);rintro e w3 ⟨qb,rfl,hp⟩;have TW:=zh (two_of P2.out hp);clear hp P2)
  |(go_at_call 159;(with_reducible refine(CT.out _ (Below.refl _ _)).mono ?_);rintro e w2 ⟨qa,rfl,hp⟩;have P2:=zh hp;clear hp))
 clear CT D1;have RA2:=zh (RA.out.on TW.out.below);have CA:=zh (TW.out.appA (T1.out.on TW.out.below) HR.out);by_cases hc:Bk.chk s r=0
 case neg=>
  have q1:(Bk.chk s r !=0)=true:=by simpa using hc
  have NO:Hid (¬Bk.Lack s r l):=fun h=>absurd h.1 hc;clear hc;generalize Bk.chk s r=z at*
  go_wp2_with(first
   |((with_reducible show zL 23);refine zR (.tmp 6) RA2.out ?_)
   |(go_at_call 63;(with_reducible refine CA.out.mono ?_);rintro e w4 ⟨rfl,h1,_⟩;have B9:=zh (B1.out.trans (h1.below.mono B1.out.size));clear h1))
  go_ret;exact⟨⟨false,rfl,by simp only[Bool.false_eq_true,false_iff];exact NO.out⟩,B9.out⟩
 have q1:(Bk.chk s r !=0)=false:=by simp[hc]
 have HC:=zh hc;obtain⟨a,ha⟩:∃a,a=Bk.app s r:=⟨_,rfl⟩;have HE:Hid (R=Bk.refs a l):=by show R=_;rw[ha];exact HRR.out hc
 have LE:Hid (Bk.Lack s r l↔(Bk.refs s (l.take l.length) -Bk.refs a (l.take l.length)=0∧Bk.Like (Bk.run a (l.take l.length)) (Bk.run s (l.take l.length)))):=by rw[ha];exact Bk.lack_end hc
 have LM:Hid (∀j:Nat,Bk.refs a l -Bk.refs a (l.take j)<Bk.refs s (l.take j) -Bk.refs a (l.take j)→¬Bk.Lack s r l∧Bk.refs s (l.take j) -Bk.refs a (l.take j)≠0):=by rw[ha];exact fun j h=>Bk.lack_more j h
 have LK:Hid (∀j:Nat,Bk.Like (Bk.run a (l.take j)) (Bk.run s (l.take j))→(Bk.Lack s r l↔Bk.refs s (l.take j) -Bk.refs a (l.take j)=0)):=by rw[ha];exact fun j h=>Bk.lack_like hc j h
 rw[←ha]at CA;clear HRR hc ha HC;generalize Bk.chk s r=z at*;generalize Bk.Lack s r l=LACK at*;go_upto_region 4 with(first
  |((with_reducible show zL 23);refine zR (.tmp 6) RA2.out ?_)
  |(go_at_call 63;(with_reducible refine CA.out.mono ?_);rintro e w4 ⟨rfl,h1,_⟩;have TW3:=zh h1;clear h1))
 clear q1 RA2 CA;have T3:=zh (T1.out.on TW3.out.below);have e0:=HE.out;obtain⟨RR,hRR⟩:∃RR,RR=Bk.refs a l:=⟨_,rfl⟩;rw[←hRR]at HE LM e0;have BR:Hid (0≤RR∧RR≤1000):=by show _∧_;rw[hRR];have:=Bk.refs_nonneg a l;have:=jf7 a l;have:=HL.out;omega
 clear hRR;have e1:=HE.out;subst e1;clear HE e0;have TK:Hid (∀(t:Bk.St) (j:Nat),0≤Bk.refs t (l.take j)∧Bk.refs t (l.take j)≤1000):=fun t j=>⟨Bk.refs_nonneg _ _,by have:=jf7 t (l.take j);rw[List.length_take]at this;have:=HL.out;omega⟩;go_wp2_with fail;go_loopw [4,13,28] (fun u v i wr=>∃j:Nat,j≤n∧u= .int .i64 (R -Bk.refs a (l.take j))∧v= .int .i64 (Bk.refs s (l.take j) -Bk.refs a (l.take j))∧i= .int .i64 j∧Two w1 (fun _=>False) qa (Bk.run a (l.take j)) qb (Bk.run s (l.take j)) wr) (fun _ _ i _=>n -(intOf i).toNat)
 case atStart=>exact⟨0,Nat.zero_le _,by show _=Value.int .i64 (R -0);rw[Int.sub_zero],rfl,rfl,TW3.out⟩
 case round=>
  clear TW3;obtain⟨j,hj,rfl,rfl,rfl,ht⟩:=hrel;have TW:=zh ht;clear ht;have b1:=TK.out a j;have b2:=TK.out s j;have b3:=BR.out;generalize hrr:R -Bk.refs a (l.take j)=rr at*;generalize hmm:Bk.refs s (l.take j) -Bk.refs a (l.take j)=mm at*;have HRR:=zh hrr;have HMM:=zh hmm;have LMj:=zh (LM.out j);have LKj:=zh (LK.out j);rw[HMM.out]at LKj;rw[HMM.out,HRR.out]at LMj;have rb: -1000≤rr∧rr≤1000:=by omega
  have mb: -1000≤mm∧mm≤1000:=by omega
  clear b1 b2 b3 hrr hmm;have i1:(0:Int)≤(j:Int):=by omega
  by_cases hlt:j<n
  ·have hlt2:j<l.length:=by have:=HL.out;omega
   have hx:l[j]? =some (l[j]'hlt2):=List.getElem?_eq_getElem _;have FA:=zh (Bk.refs_take a l hlt2);have FS:=zh (Bk.refs_take s l hlt2);have GA:=zh (Bk.take_run a l hlt2).1;have GS:=zh (Bk.take_run s l hlt2).1;generalize l[j]'hlt2=x at hx FA FS GA GS;have HX:Hid (Rc.In x):=HI.out x (List.mem_of_getElem? hx);obtain⟨b,o,rfl,hbl,hrg⟩:=jbi (S1.out.on TW.out.below) hx;have RG:=zh hrg;have i2:(j:Int)<(n:Nat):=by omega
   have HLT:=zh hlt;clear hx hbl hrg hlt hlt2;have TT:=zh (T1.out.on TW.out.below);generalize Bk.run a (l.take j)=sa at*;generalize Bk.run s (l.take j)=sb at*;go_upto_region 8 with(first
    |((with_reducible show zL 31);refine ja5 rfl (.tmp 30) rfl b (o+j*18) (by simp[Act.eval,go_sem]) x RG.out ?_)
    |((with_reducible show zW);refine jac rfl (.tmp 15) (.tmp 31) rfl wr.heap.size x Rc.none_ rfl rfl ⟨heap_alloc_new wr _⟩ ?_))
   rw[World.setRow_alloc_new];have RX:=zh (RcAt.new wr x);have hb:Below wr.heap.size wr (wr.alloc (.cells (Rc.cells x) 45)):=(Below.refl _ _).alloc (Nat.le_refl _) _;have TX:=zh (TW.out.one hb (Nat.le_refl _) (Array.getElem?_eq_some_iff.1 RX.out.row).1);have TT2:=zh (TT.out.on hb);clear RG TW TT;obtain⟨gx,hgx⟩:∃g,g=wr.heap.size:=⟨_,rfl⟩;rw[←hgx]at RX TX⊢;clear hgx hb;generalize wr.alloc (.cells (Rc.cells x) 45)=w5 at*;have CS:=zh (TX.out.same TT2.out);by_cases hA:rr<mm
   ·have q2:mm>rr:=hA
    obtain⟨no,hne⟩:=LMj.out hA;have q3:(mm==0)=false:=by simpa using hne
    have NO:=zh no;have B9:=zh (B1.out.trans (TX.out.below.mono B1.out.size));clear hA hne no;go_wp2_with fail;go_ret;exact⟨⟨false,rfl,by simp only[Bool.false_eq_true,false_iff];exact NO.out⟩,B9.out⟩
   ·have q2:mm≤rr:=by omega
    clear hA;by_cases hB:Bk.Like sa sb
    ·have HB:=zh hB
     have LL:=zh (LKj.out hB);clear hB;by_cases hm0:mm=0
     ·have q3:(mm==0)=true:=by simp[hm0]
      have YES:Hid LACK:=LL.out.2 hm0;clear hm0
      go_wp2_with(first
       |(go_at_call 26;(with_reducible refine CS.out.mono ?_);rintro e w6 ⟨⟨zz,rfl,hz⟩,hb⟩;obtain rfl:zz=true:=hz.2 HB.out;have TX2:=zh (TX.out.on hb);have TT3:=zh (TT2.out.on hb);have CS2:=zh (TX2.out.same TT3.out);have B8:=zh (B1.out.trans (TX2.out.below.mono B1.out.size));clear hz hb CS)
       |(go_at_call 26;(with_reducible refine CS2.out.mono ?_);rintro e w7 ⟨⟨zz,rfl,hz⟩,hb⟩;obtain rfl:zz=true:=hz.2 HB.out;have B9:=zh (B8.out.trans (hb.mono B8.out.size));clear hz hb CS2))
      go_ret;exact⟨⟨true,rfl,by simp only[true_iff];exact YES.out⟩,B9.out⟩
     ·have q3:(mm==0)=false:=by simpa using hm0
      have NO:Hid (¬LACK):=fun h=>hm0 (LL.out.1 h);clear hm0;go_wp2_with(go_at_call 26;(with_reducible refine CS.out.mono ?_);rintro e w6 ⟨⟨zz,rfl,hz⟩,hb⟩;obtain rfl:zz=true:=hz.2 HB.out;have TX2:=zh (TX.out.on hb);have TT3:=zh (TT2.out.on hb);have CS2:=zh (TX2.out.same TT3.out);have B8:=zh (B1.out.trans (TX2.out.below.mono B1.out.size));clear hz hb CS);go_ret;exact⟨⟨false,rfl,by simp only[Bool.false_eq_true,false_iff];exact NO.out⟩,by first|exact B8.out|exact B9.out⟩
    ·have HB:=zh hB
     clear hB;have C1:=zh (fun X (h:Two w1 (fun i=>i=gx) qa sa qb sb X) (ht:BT X)=>h.appA ht HX.out);have C2:=zh (fun X (h:Two w1 (fun i=>i=gx) qa (Bk.app sa x) qb sb X) (ht:BT X)=>h.appB ht HX.out);obtain⟨z1,hz1⟩:∃z,z=Bk.chk sa x:=⟨_,rfl⟩;obtain⟨z2,hz2⟩:∃z,z=Bk.chk sb x:=⟨_,rfl⟩;rw[←hz1]at FA C1;rw[←hz2]at FS C2;clear hz1 hz2;have hw1:wrap64 (rr -1)=rr -1:=IntWalk.wrap64_in _ ⟨by omega,by omega⟩;have hw2:IntKind.i64.wrap (rr -1)=rr -1:=IntWalk.i64_in _ ⟨by omega,by omega⟩;have hw3:wrap64 (mm -1)=mm -1:=IntWalk.wrap64_in _ ⟨by omega,by omega⟩;have hw4:IntKind.i64.wrap (mm -1)=mm -1:=IntWalk.i64_in _ ⟨by omega,by omega⟩;have hw5:wrap64 (mm+1)=mm+1:=IntWalk.wrap64_in _ ⟨by omega,by omega⟩;have hw6:IntKind.i64.wrap (mm+1)=mm+1:=IntWalk.i64_in _ ⟨by omega,by omega⟩;have hw7:wrap64 (mm -1+1)=mm -1+1:=IntWalk.wrap64_in _ ⟨by omega,by omega⟩;have hw8:IntKind.i64.wrap (mm -1+1)=mm -1+1:=IntWalk.i64_in _ ⟨by omega,by omega⟩;have hw9:wrap64 mm=mm:=IntWalk.wrap64_in _ ⟨by omega,by omega⟩;have hw10:IntKind.i64.wrap mm=mm:=IntWalk.i64_in _ ⟨by omega,by omega⟩;have RM:=zh (And.intro rb mb);clear rb mb;go_upto_region 9 with(go_at_call 26;(with_reducible refine CS.out.mono ?_);rintro e w6 ⟨⟨zz,rfl,hz⟩,hb⟩;obtain rfl:zz=false:=Bool.eq_false_iff.2 (fun h=>HB.out (hz.1 h));have TX2:=zh (TX.out.on hb);have RX2:=zh (RX.out.on hb);have TT3:=zh (TT2.out.on hb);clear hz hb CS TX RX TT2)
     by_cases h1:z1=0
     ·have q4:(z1 !=0)=false:=by simp[h1]
      rw[if_pos h1]at FA;clear h1;by_cases h2:z2=0
      ·have q5:(z2 !=0)=false:=by simp[h2]
       rw[if_pos h2]at FS;clear h2
       go_wp2_with(first
        |((with_reducible show zL 41);refine zR (.tmp 15) RX2.out ?_)
        |(go_at_call 63;(with_reducible refine(C1.out _ TX2.out TT3.out).mono ?_);rintro e w7 ⟨rfl,h1,h2⟩;have T7:=zh h1;have RX3:Hid (RcAt w7 gx x):=⟨(h2 gx rfl).trans RX2.out.row⟩;have TT7:=zh (T1.out.on h1.below);clear h1 h2 TX2 RX2)
        |((with_reducible show zL 49);refine zR (.tmp 15) RX3.out ?_)
        |(go_at_call 63;(with_reducible refine(C2.out _ T7.out TT7.out).mono ?_);rintro e w8 ⟨rfl,h1,h2⟩;have T8:=zh h1.none_;clear h1 h2 T7))
       have h4:=HLT.out;have h5:=FA.out;have h6:=FS.out;have h7:=HRR.out;have h8:=HMM.out;exact⟨⟨j+1,by omega,by first|(congr 1;omega)|skip,by first|(congr 1;omega)|skip,by go_num,by rw[GA.out,GS.out];exact T8.out⟩,by simp[intOf];omega⟩
      ·have q5:(z2 !=0)=true:=by simpa using h2
       rw[if_neg h2]at FS;clear h2
       go_wp2_with(first
        |((with_reducible show zL 41);refine zR (.tmp 15) RX2.out ?_)
        |(go_at_call 63;(with_reducible refine(C1.out _ TX2.out TT3.out).mono ?_);rintro e w7 ⟨rfl,h1,h2⟩;have T7:=zh h1;have RX3:Hid (RcAt w7 gx x):=⟨(h2 gx rfl).trans RX2.out.row⟩;have TT7:=zh (T1.out.on h1.below);clear h1 h2 TX2 RX2)
        |((with_reducible show zL 49);refine zR (.tmp 15) RX3.out ?_)
        |(go_at_call 63;(with_reducible refine(C2.out _ T7.out TT7.out).mono ?_);rintro e w8 ⟨rfl,h1,h2⟩;have T8:=zh h1.none_;clear h1 h2 T7))
       have h4:=HLT.out;have h5:=FA.out;have h6:=FS.out;have h7:=HRR.out;have h8:=HMM.out;exact⟨⟨j+1,by omega,by first|(congr 1;omega)|skip,by first|(congr 1;omega)|skip,by go_num,by rw[GA.out,GS.out];exact T8.out⟩,by simp[intOf];omega⟩
     ·have q4:(z1 !=0)=true:=by simpa using h1
      rw[if_neg h1]at FA;clear h1;by_cases h2:z2=0
      ·have q5:(z2 !=0)=false:=by simp[h2]
       rw[if_pos h2]at FS;clear h2
       go_wp2_with(first
        |((with_reducible show zL 41);refine zR (.tmp 15) RX2.out ?_)
        |(go_at_call 63;(with_reducible refine(C1.out _ TX2.out TT3.out).mono ?_);rintro e w7 ⟨rfl,h1,h2⟩;have T7:=zh h1;have RX3:Hid (RcAt w7 gx x):=⟨(h2 gx rfl).trans RX2.out.row⟩;have TT7:=zh (T1.out.on h1.below);clear h1 h2 TX2 RX2)
        |((with_reducible show zL 49);refine zR (.tmp 15) RX3.out ?_)
        |(go_at_call 63;(with_reducible refine(C2.out _ T7.out TT7.out).mono ?_);rintro e w8 ⟨rfl,h1,h2⟩;have T8:=zh h1.none_;clear h1 h2 T7))
       have h4:=HLT.out;have h5:=FA.out;have h6:=FS.out;have h7:=HRR.out;have h8:=HMM.out;exact⟨⟨j+1,by omega,by first|(congr 1;omega)|skip,by first|(congr 1;omega)|skip,by go_num,by rw[GA.out,GS.out];exact T8.out⟩,by simp[intOf];omega⟩
      ·have q5:(z2 !=0)=true:=by simpa using h2
       rw[if_neg h2]at FS;clear h2
       go_wp2_with(first
        |((with_reducible show zL 41);refine zR (.tmp 15) RX2.out ?_)
        |(go_at_call 63;(with_reducible refine(C1.out _ TX2.out TT3.out).mono ?_);rintro e w7 ⟨rfl,h1,h2⟩;have T7:=zh h1;have RX3:Hid (RcAt w7 gx x):=⟨(h2 gx rfl).trans RX2.out.row⟩;have TT7:=zh (T1.out.on h1.below);clear h1 h2 TX2 RX2)
        |((with_reducible show zL 49);refine zR (.tmp 15) RX3.out ?_)
        |(go_at_call 63;(with_reducible refine(C2.out _ T7.out TT7.out).mono ?_);rintro e w8 ⟨rfl,h1,h2⟩;have T8:=zh h1.none_;clear h1 h2 T7))
       have h4:=HLT.out;have h5:=FA.out;have h6:=FS.out;have h7:=HRR.out;have h8:=HMM.out;exact⟨⟨j+1,by omega,by first|(congr 1;omega)|skip,by first|(congr 1;omega)|skip,by go_num,by rw[GA.out,GS.out];exact T8.out⟩,by simp[intOf];omega⟩
  ·obtain rfl:j=n:=by omega
   have i2:((j:Nat):Int)≤(j:Nat):=Int.le_refl _;have TT:=zh (T1.out.on TW.out.below);have LE2:=zh LE.out;rw[←HL.out,HMM.out]at LE2;have CS:=zh (TW.out.same TT.out);have B8:=zh (B1.out.trans (TW.out.below.mono B1.out.size));clear hlt;by_cases hm0:mm=0
   ·have q3:(mm==0)=true:=by simp[hm0]
    have HM0:=zh hm0;clear hm0;go_wp2_with(go_at_call 26;(with_reducible refine CS.out.mono ?_);rintro e w6 ⟨⟨zz,rfl,hz⟩,hb⟩;have HZ:=zh hz;have B9:=zh (B8.out.trans (hb.mono B8.out.size));clear hz hb CS);go_ret;refine⟨⟨_,rfl,?_⟩,B9.out⟩;rw[LE2.out];exact⟨fun h=>⟨HM0.out,HZ.out.1 h⟩,fun h=>HZ.out.2 h.2⟩
   ·have q3:(mm==0)=false:=by simpa using hm0
    have NO:Hid (¬LACK):=fun h=>hm0 (LE2.out.1 h).1;clear hm0;go_wp2_with fail;go_ret;exact⟨⟨false,rfl,by simp only[Bool.false_eq_true,false_iff];exact NO.out⟩,B8.out⟩
end Go.Proofs.YtabandbigckfkaaGreatDoor
namespace Go.Proofs.YtabandbigckfkaaGreatDoor
open Go.RowKit
theorem jed{w0 W W':World}{q:Nat}{s:Bk.St}{v v2:Value}{B:Nat}{l2:List Rc.R}(h:BP w0 (fun b=>v.ownBlock=some b) q s W)(hg:W.grownBy W' v.ownBlock)(ho:OwF Bk.rcC 18 45 W' B v2 l2)(hv:v2.ownBlock=v.ownBlock∨∃k,v2.ownBlock=some k∧W.heap.size≤k)(hl:∀k,v.ownBlock=some k→w0.heap.size≤k):BP w0 (fun b=>v2.ownBlock=some b) q s W':=by
 obtain⟨X,h1,h2,h3,h4⟩:=h;refine⟨X,jf3 h1 hg.size fun i hi=>hg.block i (jdo h1 i hi) fun e=>(h3 i e.symm).1 hi,h2,fun b hb=>⟨fun hx=> ?_,(ho.lt b hb).2⟩,h4.grown hg h4.size hl⟩;rcases hv with e|⟨k,e,hk⟩
 ·exact(h3 b (e▸hb)).1 hx
 ·rw[e]at hb
  injection hb with hb
  subst hb;have:=jdo h1 _ hx;omega
theorem jfp{a:Act}{oi:Oper}(x:Operand)(ho:oi.op= .load 45 x)(g:Nat)(r:Rc.R)(hx:a.eval x= .pointer (some ⟨g,0,none⟩)){W:World}(h:RcAt W g r):(execOp a.eval oi).run Tryz.prog W= .ok (.value (.agg (Rc.cells r))) W:=by
 unfold execOp;simp only[ho,hx,Instr.loadAt,Instr.sureAddr,Sem.run_bind,Sem.run_pure,Result.andThen_ok,run_loadVar_row (P:=Tryz.prog) W g 45 45 (Rc.cells r) (0,0) _ h.row jai rfl (by kernel_rfl)]
theorem jd3(m:Int)(A:Option Addr)(k c:Nat)(l:List Rc.R)(hin:∀r∈l,Rc.In r)(w:World)(hs:SlF Bk.rcC w A k c l)(hk:k≤1000)(ht:BT w):Calls Tryz.prog 43 #[.int .i64 m,.slice A k c] w (jdv Bk.rcC (Bk.compact m l) w):=by
 have CL:=zh (jec m A k c l hin w hs (by omega) ht);have S0:=zh hs;have HI:=zh hin;have HL:=zh hs.len;have T0:=zh ht;have CN:=zh (fun X=>bp_new X m);have hcap:=hs.cap;rw[Bk.compact_dgo];obtain⟨Z,hZ⟩:∃Z,Z=Bk.dgo (Bk.new m) l:=⟨_,rfl⟩;rw[←hZ];have HZ:=zh hZ.symm;clear hZ;have RN:Hid ((k:Int) -(Bk.allN m l:Nat)=Bk.refs (Bk.new m) l):=by show _=_;rw[HL.out];rfl
 have RB:Hid (0≤Bk.refs (Bk.new m) l∧Bk.refs (Bk.new m) l≤1000):=⟨Bk.refs_nonneg _ _,by have:=jf7 (Bk.new m) l;have:=HL.out;omega⟩;have NM:Hid ((Bk.new m).m=min (max m 0) 1048576):=rfl;unfold jn3 at CL;generalize hr0:Bk.refs (Bk.new m) l=r0 at*;have HR0:=zh hr0;have e0:=RN.out;have rb:=RB.out;generalize hap:Bk.allN m l=ap at*;have hw1:wrap64 ((k:Int) -(ap:Int))=r0:=by rw[e0];exact IntWalk.wrap64_in _ ⟨by omega,by omega⟩
 have hw2:IntKind.i64.wrap ((k:Int) -(ap:Int))=r0:=by rw[e0];exact IntWalk.i64_in _ ⟨by omega,by omega⟩
 clear hs hin ht e0 rb hr0 hap RN;go_enter Tryz.func43,Tryz.ntmps43;go_upto_region 3 with(go_at_call 25;(with_reducible refine CL.out.mono ?_);rintro e w1 hp;obtain⟨q1,X1,rfl,_,_,hb⟩:=hp;have B1:=zh hb;clear hb CL)
 clear hw1 hw2;go_upto_region 4 with(go_at_call 65;(with_reducible refine(CN.out _).mono ?_);rintro e w2 ⟨q,rfl,hd⟩;have D2:=zh hd;clear hd CN)
 go_upto_region 5 with fail
 generalize hv0:Value.slice none 0 0=v0;have HV:=zh hv0;clear hv0;go_wp2_with fail;go_loopw [7,9,26] (fun u v i wr=>∃(j:Nat) (s:Bk.St) (kept:List Rc.R),j≤k∧u= .int .i64 (Bk.refs s (l.drop j))∧i= .int .i64 j∧kept++Bk.dgo s (l.drop j)=Z∧s.m=min (max m 0) 1048576∧kept.length≤j∧BP w1 (fun b=>v.ownBlock=some b) q s wr∧OwF Bk.rcC 18 45 wr w1.heap.size v kept) (fun _ _ i _=>k -(intOf i).toNat)
 case atStart=>exact⟨0,Bk.new m,[],Nat.zero_le _,by rw[List.drop_zero,HR0.out],rfl,HZ.out,NM.out,Nat.le_refl _,jdy D2.out (fun b hb=>by rw[←HV.out]at hb;cases hb),HV.out▸OwF.none_ _ _ _⟩
 case round=>
  clear D2;obtain⟨j,s,kept,hj,rfl,rfl,hi,hm,hkl,hd,ho⟩:=hrel;have D:=zh hd;have O:=zh ho;have INV:=zh hi;have SM:=zh hm;have KL:=zh hkl;clear hd ho hi hm hkl;have i1:(0:Int)≤(j:Int):=by omega
  by_cases hlt:j<k
  ·have hlt2:j<l.length:=by have:=HL.out;omega
   have hx:l[j]? =some (l[j]'hlt2):=List.getElem?_eq_getElem _;have DR:Hid (l.drop j=l[j]'hlt2::l.drop (j+1)):=List.drop_eq_getElem_cons hlt2;generalize l[j]'hlt2=x at hx DR;rw[DR.out]at INV;have RF:=zh (Bk.refs_cons s x (l.drop (j+1)));have RNN:=zh (And.intro (Bk.refs_nonneg s (l.drop j)) (Nat.le_trans (Nat.le_of_eq rfl) (Nat.le_refl k)));have RLE:Hid (Bk.refs s (l.drop j)≤1000):=by have:=jf7 s (l.drop j);rw[List.length_drop]at this;have:=HL.out;show _≤_;omega
   have HX:Hid (Rc.In x):=HI.out x (List.mem_of_getElem? hx);have B0:=zh (B1.out.trans ((ja9 D.out).mono B1.out.size));obtain⟨b,o,rfl,hbl,hrg⟩:=jbi (S0.out.on B0.out) hx;have RG:=zh hrg;obtain⟨A5,c5,hA5,hsl⟩:∃A5 c5,(A5=(if c=j+1 then(some ⟨b,o,none⟩:Option Addr)else(some ⟨b,o,none⟩:Option Addr).map fun x=>x.add ((j+1)*18))∧c5=c -(j+1))∧∀W,(Instr.slice 28 (.slice (some ⟨b,o,none⟩) k c) (some (.int .i64 ((j:Int)+1))) none none).run Tryz.prog W= .ok (.slice A5 (k -(j+1)) c5) W:=⟨_,_,⟨rfl,rfl⟩,jem (some ⟨b,o,none⟩) k c (j+1) (by omega)⟩;have SD:Hid (SlF Bk.rcC w A5 (k -(j+1)) c5 (l.drop (j+1))):=by
    rw[hA5.1,hA5.2];exact S0.out.drop Bk.rcC_len (by omega) (jfu ((j+1)*18))
   clear hA5;have i2:(j:Int)<(k:Nat):=by omega
   have k3:(k:Int)≤1000:=by omega
   have hw3:wrap64 ((j:Int)+1)=(j:Int)+1:=IntWalk.wrap64_in _ ⟨by omega,by omega⟩;have hw4:IntKind.i64.wrap ((j:Int)+1)=(j:Int)+1:=IntWalk.i64_in _ ⟨by omega,by omega⟩;have HLT:=zh hlt;have HDI:Hid (∀r∈l.drop (j+1),Rc.In r):=fun r hr=>HI.out r (List.mem_of_mem_drop hr);have DLE:Hid (k -(j+1)≤1000):=by show _≤_;omega
   generalize hrest:l.drop (j+1)=rest at*;have HREST:=zh hrest;rw[←DR.out]at RF;obtain⟨rr,hrr⟩:∃rr,rr=Bk.refs s (l.drop j):=⟨_,rfl⟩;rw[←hrr]at RF RLE RNN⊢;clear hx hbl hrg hlt hlt2 hrest hrr;go_upto_region 8 with(first
    |((with_reducible show zL 30);refine ja5 rfl (.tmp 29) rfl b (o+j*18) (by simp[Act.eval,go_sem]) x RG.out ?_)
    |((with_reducible show zW);refine jac rfl (.tmp 11) (.tmp 30) rfl wr.heap.size x Rc.none_ rfl rfl ⟨heap_alloc_new wr _⟩ ?_))
   rw[World.setRow_alloc_new];have RX:=zh (RcAt.new wr x);have hb:Below wr.heap.size wr (wr.alloc (.cells (Rc.cells x) 45)):=(Below.refl _ _).alloc (Nat.le_refl _) _;have D5:=zh (bp_more D.out hb);have O5:=zh (O.out.below hb);have G5:Hid (wr.heap.size≤wr.heap.size∧wr.heap.size<(wr.alloc (.cells (Rc.cells x) 45)).heap.size):=⟨Nat.le_refl _,(Array.getElem?_eq_some_iff.1 RX.out.row).1⟩;clear RG D O hb;generalize wr.alloc (.cells (Rc.cells x) 45)=w5 at*;obtain⟨gx,hgx⟩:∃g,g=wr.heap.size:=⟨_,rfl⟩;obtain⟨n5,hn5⟩:∃g,g=wr.heap.size:=⟨_,rfl⟩;rw[←hn5]at D5;have G5b:Hid (n5≤gx∧gx<w5.heap.size):=by show _∧_;rw[hn5,hgx];exact G5.out
   rw[←hgx]at RX⊢;clear hgx hn5 G5;have ON:Hid (∀X,Below w5.heap.size w5 X→BP w1 (fun b=>u9.ownBlock=some b∨(n5≤b∧b<w5.heap.size)) q s X∧RcAt X gx x∧OwF Bk.rcC 18 45 X w1.heap.size u9 kept∧Below w.heap.size w X):=fun X hX=>⟨jby D5.out hX,RX.out.on hX,O5.out.below hX,B1.out.trans ((ja9 (jby D5.out hX)).mono B1.out.size)⟩;clear D5 RX O5;by_cases hk1:x.kind=1
   ·have q1:(x.kind==1)=true:=by simp[hk1]
    have HK:=zh hk1;clear hk1;have CM:Hid (∀X,Below w5.heap.size w5 X→Calls Tryz.prog 90 #[.pointer (some ⟨q,0,none⟩),.agg (Rc.cells x),.slice A5 (k -(j+1)) c5,.int .i64 m,.int .i64 rr] X (jb2 (Bk.Lack s x rest) X)):=fun X hX=>jih (ON.out X hX).1 (T0.out.on (ON.out X hX).2.2.2) x HX.out A5 (k -(j+1)) c5 rest (SD.out.on (ON.out X hX).2.2.2) HDI.out DLE.out m SM.out rr (fun h=>by have:=RF.out;rw[if_pos h]at this;omega);by_cases hL:Bk.Lack s x rest
    ·have LK:=zh hL
     clear hL;refine wp_region_held_drew (S:=fun X=>Below w5.heap.size w5 X) (by kernel_rfl) (Below.refl _ _).drew (fun hS=> ?_);refine tY 0 hS ?_;refine tZ 1 rfl (by intro W hW;have e0:=(ON.out W hW).2.1.cs.c0;have lg:=(ON.out W hW).2.1.cs.lt;go_simp;(try with_reducible rfl)) hS ?_;refine tY 2 hS ?_;refine tY 3 hS ?_;refine tY 4 hS ?_;refine tZ 5 (v:= .agg (Rc.cells x)) rfl (fun W hW=>jfp (.tmp 11) rfl gx x rfl (ON.out W hW).2.1) hS ?_;simp only[Act.put,zT,zO,zS];refine tY 6 hS ?_;refine tY 7 hS ?_;refine tY 8 hS ?_;refine tY 9 hS ?_;refine tY 10 hS ?_;refine tY 11 hS ?_;simp only[Act.put,zT,zO,zS];refine rO 12 (fun K hK=> ?_);go_simp
     with_reducible refine(CM.out _ hS).mono ?_
     rintro e wm ⟨⟨zz,rfl,hz⟩,hb⟩;obtain rfl:zz=true:=hz.2 LK.out;clear hz;replace hS:=hS.trans (hb.mono hS.size);clear hb;refine hK.out _ _ hS (fun _=> ?_);clear hK K;refine tY 13 hS ?_;simp only[Act.put,zT,zO,zS];refine wpAnyH_done (by kernel_rfl) ?_ _;have D6:=zh (ON.out _ hS).1;have O6:=zh (ON.out _ hS).2.2.1;clear hS ON;go_wp2_with fail;have h4:=HLT.out;have h5:=RF.out;have h6:=LK.out.2.2;rw[if_pos LK.out.1]at h5;refine⟨⟨j+1,s,kept,by omega,?_,by go_num,?_,SM.out,by have:=KL.out;omega,jdy D6.out (fun b hb=> .inl hb),O6.out⟩,by simp[intOf];omega⟩
     ·rw[HREST.out];congr 1;omega
     ·rw[HREST.out]
      have h7:=INV.out;rw[Bk.dgo,if_pos ⟨HK.out,LK.out⟩]at h7;exact h7
    ·have LK:=zh hL
     have NL:Hid (¬(x.kind=1∧Bk.Lack s x rest)):=fun h=>LK.out h.2;clear hL;refine wp_region_held_drew (S:=fun X=>Below w5.heap.size w5 X) (by kernel_rfl) (Below.refl _ _).drew (fun hS=> ?_);refine tY 0 hS ?_;refine tZ 1 rfl (by intro W hW;have e0:=(ON.out W hW).2.1.cs.c0;have lg:=(ON.out W hW).2.1.cs.lt;go_simp;(try with_reducible rfl)) hS ?_;refine tY 2 hS ?_;refine tY 3 hS ?_;refine tY 4 hS ?_;refine tZ 5 (v:= .agg (Rc.cells x)) rfl (fun W hW=>jfp (.tmp 11) rfl gx x rfl (ON.out W hW).2.1) hS ?_;simp only[Act.put,zT,zO,zS];refine tY 6 hS ?_;refine tY 7 hS ?_;refine tY 8 hS ?_;refine tY 9 hS ?_;refine tY 10 hS ?_;refine tY 11 hS ?_;simp only[Act.put,zT,zO,zS];refine rO 12 (fun K hK=> ?_);go_simp
     with_reducible refine(CM.out _ hS).mono ?_
     rintro e wm ⟨⟨zz,rfl,hz⟩,hb⟩;obtain rfl:zz=false:=Bool.eq_false_iff.2 (fun h=>LK.out (hz.1 h));clear hz;replace hS:=hS.trans (hb.mono hS.size);clear hb;refine hK.out _ _ hS (fun _=> ?_);clear hK K;refine tY 13 hS ?_;simp only[Act.put,zT,zO,zS];refine wpAnyH_done (by kernel_rfl) ?_ _;have D6:=zh (ON.out _ hS).1;have RX:=zh (ON.out _ hS).2.1;have O6:=zh (ON.out _ hS).2.2.1;clear hS ON;have CA:=zh (jiw D6.out (T0.out.on (B1.out.trans ((ja9 D6.out).mono B1.out.size))) HX.out);have KB:Hid (kept.length≤1000):=by have:=KL.out;have:=HLT.out;show _≤_;omega
     have rb1:=RNN.out.1;have rb2:=RLE.out;have hw5:wrap64 (rr -1)=rr -1:=IntWalk.wrap64_in _ ⟨by omega,by omega⟩;have hw6:IntKind.i64.wrap (rr -1)=rr -1:=IntWalk.i64_in _ ⟨by omega,by omega⟩;clear rb1 rb2;have AM:Hid ((Bk.app s x).m=min (max m 0) 1048576):=Bk.app_m.trans SM.out;have INV2:Hid ((kept++[x])++Bk.dgo (Bk.app s x) rest=Z):=by
      have h7:=INV.out;rw[Bk.dgo,if_neg NL.out]at h7;show _=_;rw[List.append_assoc];exact h7
     obtain⟨z,hz⟩:∃z,z=Bk.chk s x:=⟨_,rfl⟩;rw[←hz]at CA RF;clear hz;by_cases hc:z=0
     ·have q2:(z !=0)=false:=by simp[hc]
      rw[if_pos hc]at RF;clear hc
      go_wp2_with(first
       |((with_reducible show zL 46);refine zR (.tmp 11) RX.out ?_)
       |(go_at_call 63;(with_reducible refine CA.out.mono ?_);rintro e w7 ⟨rfl,h1,h2⟩;have D7:=zh (jdy (G:=fun b=>u9.ownBlock=some b) h1 (fun b hb=> .inl hb));have RX7:Hid (RcAt w7 gx x):=⟨(h2 gx (.inr G5b.out)).trans RX.out.row⟩;have O7:=zh (O6.out.keep fun b hb=>h2 b (.inl hb));clear h1 h2 D6 O6 RX)
       |((with_reducible show zL 52);refine zR (.tmp 11) RX7.out ?_)
       |((with_reducible show zB 53);refine jah Tryz.underlying28 jak (by omega) (by omega) rfl (.tmp 52) rfl (Rc.cells x) rfl rfl ?_)
       |(at_builtin;refine jad Bk.rcC_len Bk.rcC_one Tryz.underlying28 jak rfl (by omega) rfl (.tmp 51) (.tmp 53) rfl w1.heap.size _ kept rfl O7.out x rfl (by have:=KB.out;unfold maxLen;omega) (by have:=KB.out;omega) (ja9 D7.out).size ?_;intro v9 w9 ho9 hb9 hg9 hv9;have O9:=zh ho9;have D9:=zh (jed D7.out hg9 ho9 hv9 (fun k e=>(O7.out.lt k e).1));clear ho9 hb9 hg9 hv9 D7 O7 RX7))
      have h4:=HLT.out;have h5:=RF.out;exact⟨⟨j+1,Bk.app s x,kept++[x],by omega,by rw[HREST.out];congr 1;omega,by go_num,by rw[HREST.out];exact INV2.out,AM.out,by rw[List.length_append,List.length_singleton];have:=KL.out;omega,D9.out,O9.out⟩,by simp[intOf];omega⟩
     ·have q2:(z !=0)=true:=by simpa using hc
      rw[if_neg hc]at RF;clear hc
      go_wp2_with(first
       |((with_reducible show zL 46);refine zR (.tmp 11) RX.out ?_)
       |(go_at_call 63;(with_reducible refine CA.out.mono ?_);rintro e w7 ⟨rfl,h1,h2⟩;have D7:=zh (jdy (G:=fun b=>u9.ownBlock=some b) h1 (fun b hb=> .inl hb));have RX7:Hid (RcAt w7 gx x):=⟨(h2 gx (.inr G5b.out)).trans RX.out.row⟩;have O7:=zh (O6.out.keep fun b hb=>h2 b (.inl hb));clear h1 h2 D6 O6 RX)
       |((with_reducible show zL 52);refine zR (.tmp 11) RX7.out ?_)
       |((with_reducible show zB 53);refine jah Tryz.underlying28 jak (by omega) (by omega) rfl (.tmp 52) rfl (Rc.cells x) rfl rfl ?_)
       |(at_builtin;refine jad Bk.rcC_len Bk.rcC_one Tryz.underlying28 jak rfl (by omega) rfl (.tmp 51) (.tmp 53) rfl w1.heap.size _ kept rfl O7.out x rfl (by have:=KB.out;unfold maxLen;omega) (by have:=KB.out;omega) (ja9 D7.out).size ?_;intro v9 w9 ho9 hb9 hg9 hv9;have O9:=zh ho9;have D9:=zh (jed D7.out hg9 ho9 hv9 (fun k e=>(O7.out.lt k e).1));clear ho9 hb9 hg9 hv9 D7 O7 RX7))
      have h4:=HLT.out;have h5:=RF.out;exact⟨⟨j+1,Bk.app s x,kept++[x],by omega,by rw[HREST.out];congr 1;omega,by go_num,by rw[HREST.out];exact INV2.out,AM.out,by rw[List.length_append,List.length_singleton];have:=KL.out;omega,D9.out,O9.out⟩,by simp[intOf];omega⟩
   ·have q1:(x.kind==1)=false:=by simp[hk1]
    have NL:Hid (¬(x.kind=1∧Bk.Lack s x rest)):=fun h=>hk1 h.1;clear hk1;refine wp_region_held_drew (S:=fun X=>Below w5.heap.size w5 X) (by kernel_rfl) (Below.refl _ _).drew (fun hS=> ?_);refine tY 0 hS ?_;refine tZ 1 rfl (by intro W hW;have e0:=(ON.out W hW).2.1.cs.c0;have lg:=(ON.out W hW).2.1.cs.lt;go_simp;(try with_reducible rfl)) hS ?_;refine tY 2 hS ?_;refine tY 3 hS ?_;refine tN 4 hS ?_;refine tN 5 hS ?_;simp only[Act.put,zT,zO,zS];refine tN 6 hS ?_;refine tN 7 hS ?_;refine tN 8 hS ?_;refine tN 9 hS ?_;refine tN 10 hS ?_;refine tN 11 hS ?_;simp only[Act.put,zT,zO,zS];refine tN 12 hS ?_;refine tY 13 hS ?_;simp only[Act.put,zT,zO,zS];refine wpAnyH_done (by kernel_rfl) ?_ _;have D6:=zh (ON.out _ hS).1;have RX:=zh (ON.out _ hS).2.1;have O6:=zh (ON.out _ hS).2.2.1;clear hS ON;have CA:=zh (jiw D6.out (T0.out.on (B1.out.trans ((ja9 D6.out).mono B1.out.size))) HX.out);have KB:Hid (kept.length≤1000):=by have:=KL.out;have:=HLT.out;show _≤_;omega
    have rb1:=RNN.out.1;have rb2:=RLE.out;have hw5:wrap64 (rr -1)=rr -1:=IntWalk.wrap64_in _ ⟨by omega,by omega⟩;have hw6:IntKind.i64.wrap (rr -1)=rr -1:=IntWalk.i64_in _ ⟨by omega,by omega⟩;clear rb1 rb2;have AM:Hid ((Bk.app s x).m=min (max m 0) 1048576):=Bk.app_m.trans SM.out;have INV2:Hid ((kept++[x])++Bk.dgo (Bk.app s x) rest=Z):=by
     have h7:=INV.out;rw[Bk.dgo,if_neg NL.out]at h7;show _=_;rw[List.append_assoc];exact h7
    obtain⟨z,hz⟩:∃z,z=Bk.chk s x:=⟨_,rfl⟩;rw[←hz]at CA RF;clear hz;by_cases hc:z=0
    ·have q2:(z !=0)=false:=by simp[hc]
     rw[if_pos hc]at RF;clear hc
     go_wp2_with(first
      |((with_reducible show zL 46);refine zR (.tmp 11) RX.out ?_)
      |(go_at_call 63;(with_reducible refine CA.out.mono ?_);rintro e w7 ⟨rfl,h1,h2⟩;have D7:=zh (jdy (G:=fun b=>u9.ownBlock=some b) h1 (fun b hb=> .inl hb));have RX7:Hid (RcAt w7 gx x):=⟨(h2 gx (.inr G5b.out)).trans RX.out.row⟩;have O7:=zh (O6.out.keep fun b hb=>h2 b (.inl hb));clear h1 h2 D6 O6 RX)
      |((with_reducible show zL 52);refine zR (.tmp 11) RX7.out ?_)
      |((with_reducible show zB 53);refine jah Tryz.underlying28 jak (by omega) (by omega) rfl (.tmp 52) rfl (Rc.cells x) rfl rfl ?_)
      |(at_builtin;refine jad Bk.rcC_len Bk.rcC_one Tryz.underlying28 jak rfl (by omega) rfl (.tmp 51) (.tmp 53) rfl w1.heap.size _ kept rfl O7.out x rfl (by have:=KB.out;unfold maxLen;omega) (by have:=KB.out;omega) (ja9 D7.out).size ?_;intro v9 w9 ho9 hb9 hg9 hv9;have O9:=zh ho9;have D9:=zh (jed D7.out hg9 ho9 hv9 (fun k e=>(O7.out.lt k e).1));clear ho9 hb9 hg9 hv9 D7 O7 RX7))
     have h4:=HLT.out;have h5:=RF.out;exact⟨⟨j+1,Bk.app s x,kept++[x],by omega,by rw[HREST.out];congr 1;omega,by go_num,by rw[HREST.out];exact INV2.out,AM.out,by rw[List.length_append,List.length_singleton];have:=KL.out;omega,D9.out,O9.out⟩,by simp[intOf];omega⟩
    ·have q2:(z !=0)=true:=by simpa using hc
     rw[if_neg hc]at RF;clear hc
     go_wp2_with(first
      |((with_reducible show zL 46);refine zR (.tmp 11) RX.out ?_)
      |(go_at_call 63;(with_reducible refine CA.out.mono ?_);rintro e w7 ⟨rfl,h1,h2⟩;have D7:=zh (jdy (G:=fun b=>u9.ownBlock=some b) h1 (fun b hb=> .inl hb));have RX7:Hid (RcAt w7 gx x):=⟨(h2 gx (.inr G5b.out)).trans RX.out.row⟩;have O7:=zh (O6.out.keep fun b hb=>h2 b (.inl hb));clear h1 h2 D6 O6 RX)
      |((with_reducible show zL 52);refine zR (.tmp 11) RX7.out ?_)
      |((with_reducible show zB 53);refine jah Tryz.underlying28 jak (by omega) (by omega) rfl (.tmp 52) rfl (Rc.cells x) rfl rfl ?_)
      |(at_builtin;refine jad Bk.rcC_len Bk.rcC_one Tryz.underlying28 jak rfl (by omega) rfl (.tmp 51) (.tmp 53) rfl w1.heap.size _ kept rfl O7.out x rfl (by have:=KB.out;unfold maxLen;omega) (by have:=KB.out;omega) (ja9 D7.out).size ?_;intro v9 w9 ho9 hb9 hg9 hv9;have O9:=zh ho9;have D9:=zh (jed D7.out hg9 ho9 hv9 (fun k e=>(O7.out.lt k e).1));clear ho9 hb9 hg9 hv9 D7 O7 RX7))
     have h4:=HLT.out;have h5:=RF.out;exact⟨⟨j+1,Bk.app s x,kept++[x],by omega,by rw[HREST.out];congr 1;omega,by go_num,by rw[HREST.out];exact INV2.out,AM.out,by rw[List.length_append,List.length_singleton];have:=KL.out;omega,D9.out,O9.out⟩,by simp[intOf];omega⟩
  ·obtain rfl:j=k:=by omega
   have i2:((j:Nat):Int)≤(j:Nat):=Int.le_refl _;have B0:=zh (B1.out.trans ((ja9 D.out).mono B1.out.size));have HE:Hid (kept=Z):=by
    have h:=INV.out;rw[List.drop_of_length_le (by have:=HL.out;omega)]at h;show _=_;rw[←h];exact(List.append_nil _).symm
   have he:=HE.out;clear hlt HE INV HZ;subst he;obtain⟨AF,cF,rfl⟩:=O.out.form;go_wp2_with fail;go_ret;exact⟨AF,cF,rfl,O.out.sl,B0.out,fun b o e=>by subst e;exact Nat.le_trans B1.out.size (O.out.lt b rfl).1⟩
theorem jfq{w:World}{g:Nat}{cs:Array Value}{t:TypeId}(h:w.heap[g]? =some (.cells cs t (0,0))):w.rangeAt g 0 cs.toList:=by
 intro j u hu;rw[cell_of_row w g _ _ _ _ h,Nat.zero_add];simpa using hu
theorem jiy(s:Bk.St)(L V H:Value):(Tryz.prog.info? 40).map (·.size)=some (Bk.cells s L V H).toList.length:=by rw[Array.length_toList];exact jcn s L V H
theorem jhd(m:Int)(A:Option Addr)(k c:Nat)(l:List Rc.R)(hin:∀r∈l,Rc.In r)(raw:Bool)(W:World)(hs:SlF Bk.rcC W A k c l)(ht:BT W):Calls Tryz.prog 10 #[.int .i64 m,.slice A k c,.bool raw] W (BRet (.bool true) W):=by
 have T0:=zh ht;have S0:=zh hs;have hz:=jbe;have CLV:=zh (jm1 W ht);have CSH:Hid (∀w,SlF Bk.rcC w A k c l→Calls Tryz.prog 39 #[.slice A k c,.int .i64 30] w (jea w 30)):=fun w h=>jhw A k c 30 l hin w h (by omega);have CON:Hid (∀w A k c l,SlF Bk.rcC w A k c l→(∀r∈l,Rc.In r)→k≤1000→Calls Tryz.prog 40 #[.int .i64 m,.slice A k c] w (jea w k)):=fun w A k c l h1 h2 h3=>jn2 m A k c l h2 w h1 h3;have CNW:=zh (fun w=>bp_new w m);clear ht hs hin;go_enter Tryz.func10,Tryz.ntmps10
 cases raw with
 |true=>
  go_upto_region 6 with(first
   |(go_at_call 38;(with_reducible refine CLV.out.mono ?_);rintro e w1 ⟨rfl,hb⟩;have B1:=zh hb;have S1:=zh (S0.out.on hb);clear hb)
   |(go_at_call 39;(with_reducible refine(CSH.out _ S1.out).mono ?_);rintro e w2 ⟨A2,c2,l2,rfl,h1,h2,h3,h4⟩;have S2:=zh h1;have I2:=zh h2;have N2:=zh h3;have B2:=zh (B1.out.trans (h4.mono B1.out.size));clear h1 h2 h3 h4))
  have NX:Hid (l2.length≤30):=N2.out;have hc2:=S2.out.cap;have TX:=zh (T0.out.on B2.out);have CAL:=zh (jec m A2 l2.length c2 l2 I2.out _ S2.out (by have:=NX.out;omega) TX.out);go_upto_region 7 with(go_at_call 25;(with_reducible refine CAL.out.mono ?_);rintro e w4 hp;obtain⟨q,rfl,hd⟩:=jie hp;have D4:=zh hd;clear hp hd CAL)
  have CRL:=zh (jep m A2 l2.length c2 l2 I2.out _ (S2.out.on (ja9 D4.out)) (by have:=NX.out;omega));go_upto_region 8 with(first
   |(go_at_call 41;(with_reducible refine CRL.out.mono ?_);rintro e w5 ⟨L,V,H,rfl,hrd,hb⟩;have RD:=zh hrd;have D5:=zh (jby D4.out hb);have Z5:=zh (BkAt.zero w5);clear hrd hb D4 CRL)
   |((with_reducible show zW);refine jab rfl (.tmp 9) (.tmp 30) rfl rfl rfl Z5.out RD.out.one ?_))
  rw[World.setRow_alloc_new];have hb6:Below w5.heap.size w5 (w5.alloc (.cells (Bk.cells (Bk.all m l2) L V H) 40)):=(Below.refl _ _).alloc (Nat.le_refl _) _;have G6:=zh (BkAt.new w5 (Bk.all m l2) L V H);have D6:=zh (jby D5.out hb6);have RD6:=zh (RD.out.on hb6);clear D5 RD Z5 hb6;generalize w5.alloc (.cells (Bk.cells (Bk.all m l2) L V H) 40)=w6 at*;generalize w5.heap.size=g6 at*;have ON:Hid (∀X,Below w6.heap.size w6 X→BT X∧SlF Bk.rcC X A2 l2.length c2 l2∧Below W.heap.size W X):=fun X hX=>by
   have h:=ja9 (jby D6.out hX);exact⟨TX.out.on h,S2.out.on h,B2.out.trans (h.mono B2.out.size)⟩
  have CLK:=zh (fun X (hX:Below w6.heap.size w6 X)=>jfm (Bk.Like.refl (Bk.all m l2)) L V H (jby D6.out hX) (ON.out X hX).1 (RD6.out.on hX));have CC:=zh (fun X (hX:Below w6.heap.size w6 X)=>jd3 m A2 l2.length c2 l2 I2.out X (ON.out X hX).2.1 (by have:=NX.out;omega) (ON.out X hX).1);have CR:=zh (fun X (hX:Below w6.heap.size w6 X)=>jgj m A2 l2.length c2 l2 I2.out X (ON.out X hX).2.1 (by have:=NX.out;omega));have LC:Hid ((Bk.compact m l2).length≤100000):=by have:=(Bk.compact_keeps m l2).2.2;have:=NX.out;show _≤_;omega
  unfold jdv at CC;generalize Bk.allN m l2=ap at*;generalize Bk.all m l2=sa at*;obtain⟨cl,hcl⟩:∃cl,cl=Bk.compact m l2:=⟨_,rfl⟩;rw[←hcl]at CC CR LC;clear hcl
  go_wp2_with(first
   |((with_reducible show zL 41);refine jaw (by rfl) 40 (.tmp 9) rfl g6 0 rfl (Bk.cells _ _ _ _) _ (jfq G6.out.row) jcb rfl (jiy _ _ _ _) ?_)
   |(go_at_call 42;(with_reducible refine(CLK.out _ (Below.refl _ _)).mono ?_);rintro e w7 ⟨rfl,hb⟩;have B7:=zh hb;clear hb)
   |(go_at_call 43;(with_reducible refine(CC.out _ B7.out).mono ?_);rintro e w8 ⟨A8,c8,rfl,h1,h2,_⟩;have S8:=zh h1;have B8:=zh (B7.out.trans (h2.mono B7.out.size));clear h1 h2)
   |(go_at_call 44;(with_reducible refine(CR.out _ B8.out).mono ?_);rintro e w9 ⟨A9,c9,rfl,h1,h2⟩;have S9:=zh h1;have S8b:=zh (S8.out.on h2);have B8b:=zh (B8.out.trans (h2.mono B8.out.size));clear h1 h2)
   |(go_at_call 31;(with_reducible refine(jc0 A8 A9 cl.length cl.length c8 c9 cl cl _ S8b.out S9.out LC.out).mono ?_);rintro e w10 ⟨⟨zz,rfl,hzz⟩,hb⟩;obtain rfl:zz=true:=hzz.2 rfl;have B9:=zh ((ON.out _ B8b.out).2.2.trans (hb.mono (ON.out _ B8b.out).2.2.size));clear hzz hb))
  go_ret;exact⟨rfl,B9.out⟩
 |false=>
  go_upto_region 6 with(first
   |(go_at_call 38;(with_reducible refine CLV.out.mono ?_);rintro e w1 ⟨rfl,hb⟩;have B1:=zh hb;have S1:=zh (S0.out.on hb);clear hb)
   |(go_at_call 39;(with_reducible refine(CSH.out _ S1.out).mono ?_);rintro e w2 ⟨A2,c2,l2,rfl,h1,h2,h3,h4⟩;have S2:=zh h1;have I2:=zh h2;have N2:=zh h3;have B2:=zh (B1.out.trans (h4.mono B1.out.size));clear h1 h2 h3 h4)
   |(go_at_call 40;(with_reducible refine(CON.out _ _ _ _ _ S2.out I2.out (by have:=N2.out;omega)).mono ?_);rintro e w3 ⟨A3,c3,l3,rfl,h1,h2,h3,h4⟩;have S3:=zh h1;have I3:=zh h2;have N3:=zh (Nat.le_trans h3 N2.out);have B3:=zh (B2.out.trans (h4.mono B2.out.size));clear h1 h2 h3 h4))
  have NX:Hid (l3.length≤30):=N3.out;have hc3:=S3.out.cap;have TX:=zh (T0.out.on B3.out);have CAL:=zh (jec m A3 l3.length c3 l3 I3.out _ S3.out (by have:=NX.out;omega) TX.out);go_upto_region 7 with(go_at_call 25;(with_reducible refine CAL.out.mono ?_);rintro e w4 hp;obtain⟨q,rfl,hd⟩:=jie hp;have D4:=zh hd;clear hp hd CAL)
  have CRL:=zh (jep m A3 l3.length c3 l3 I3.out _ (S3.out.on (ja9 D4.out)) (by have:=NX.out;omega));go_upto_region 8 with(first
   |(go_at_call 41;(with_reducible refine CRL.out.mono ?_);rintro e w5 ⟨L,V,H,rfl,hrd,hb⟩;have RD:=zh hrd;have D5:=zh (jby D4.out hb);have Z5:=zh (BkAt.zero w5);clear hrd hb D4 CRL)
   |((with_reducible show zW);refine jab rfl (.tmp 9) (.tmp 30) rfl rfl rfl Z5.out RD.out.one ?_))
  rw[World.setRow_alloc_new];have hb6:Below w5.heap.size w5 (w5.alloc (.cells (Bk.cells (Bk.all m l3) L V H) 40)):=(Below.refl _ _).alloc (Nat.le_refl _) _;have G6:=zh (BkAt.new w5 (Bk.all m l3) L V H);have D6:=zh (jby D5.out hb6);have RD6:=zh (RD.out.on hb6);clear D5 RD Z5 hb6;generalize w5.alloc (.cells (Bk.cells (Bk.all m l3) L V H) 40)=w6 at*;generalize w5.heap.size=g6 at*;have ON:Hid (∀X,Below w6.heap.size w6 X→BT X∧SlF Bk.rcC X A3 l3.length c3 l3∧Below W.heap.size W X):=fun X hX=>by
   have h:=ja9 (jby D6.out hX);exact⟨TX.out.on h,S3.out.on h,B3.out.trans (h.mono B3.out.size)⟩
  have CLK:=zh (fun X (hX:Below w6.heap.size w6 X)=>jfm (Bk.Like.refl (Bk.all m l3)) L V H (jby D6.out hX) (ON.out X hX).1 (RD6.out.on hX));have CC:=zh (fun X (hX:Below w6.heap.size w6 X)=>jd3 m A3 l3.length c3 l3 I3.out X (ON.out X hX).2.1 (by have:=NX.out;omega) (ON.out X hX).1);have CR:=zh (fun X (hX:Below w6.heap.size w6 X)=>jgj m A3 l3.length c3 l3 I3.out X (ON.out X hX).2.1 (by have:=NX.out;omega));have LC:Hid ((Bk.compact m l3).length≤100000):=by have:=(Bk.compact_keeps m l3).2.2;have:=NX.out;show _≤_;omega
  unfold jdv at CC;generalize Bk.allN m l3=ap at*;generalize Bk.all m l3=sa at*;obtain⟨cl,hcl⟩:∃cl,cl=Bk.compact m l3:=⟨_,rfl⟩;rw[←hcl]at CC CR LC;clear hcl
  go_wp2_with(first
   |((with_reducible show zL 41);refine jaw (by rfl) 40 (.tmp 9) rfl g6 0 rfl (Bk.cells _ _ _ _) _ (jfq G6.out.row) jcb rfl (jiy _ _ _ _) ?_)
   |(go_at_call 42;(with_reducible refine(CLK.out _ (Below.refl _ _)).mono ?_);rintro e w7 ⟨rfl,hb⟩;have B7:=zh hb;clear hb)
   |(go_at_call 43;(with_reducible refine(CC.out _ B7.out).mono ?_);rintro e w8 ⟨A8,c8,rfl,h1,h2,_⟩;have S8:=zh h1;have B8:=zh (B7.out.trans (h2.mono B7.out.size));clear h1 h2)
   |(go_at_call 44;(with_reducible refine(CR.out _ B8.out).mono ?_);rintro e w9 ⟨A9,c9,rfl,h1,h2⟩;have S9:=zh h1;have S8b:=zh (S8.out.on h2);have B8b:=zh (B8.out.trans (h2.mono B8.out.size));clear h1 h2)
   |(go_at_call 31;(with_reducible refine(jc0 A8 A9 cl.length cl.length c8 c9 cl cl _ S8b.out S9.out LC.out).mono ?_);rintro e w10 ⟨⟨zz,rfl,hzz⟩,hb⟩;obtain rfl:zz=true:=hzz.2 rfl;have B9:=zh ((ON.out _ B8b.out).2.2.trans (hb.mono (ON.out _ B8b.out).2.2.size));clear hzz hb))
  go_ret;exact⟨rfl,B9.out⟩
end Go.Proofs.YtabandbigckfkaaGreatDoor
namespace Go.Proofs.YtabandbigckfkaaGreatDoor
open Go
variable{H:Type}{enc:TypeId×Value→H}
theorem jde{a:Assume}{C:Checked}{os:Os}{f:FuncId}{fn:Func}{s:ChangeSpec}{conds:List PathCond}{apart fresh handsOn again:Bool}{X:World→Array Value→Prop}
  (hX:∀(w w':World) (args:Array Value),w.heap=w'.heap→X w args→X w' args)
  (own:ownKnob C.prog.godebug=none) (started:os.Started) (noInit:C.prog.inits.idxOf? f=none) (hfn:C.prog.funcs[f]? =some fn)
  (witness:∃(w:World) (tape:Tape) (i:Input),w.os=os∧(w.forCall tape i).Shaped C.prog∧i.vars=[]∧Input.okWide C.prog (w.forCall tape i) .any w.heap.size f i∧
   ((s.pre enc C.prog fn conds apart (w.forCall tape i).memory i.args∧X (w.forCall tape i).memory i.args)∧sizedMet enc C.prog fn (OpenSpec.ofChange s) apart (w.forCall tape i).memory i.args)∧a.holds C.prog (lone (Frame.enter C.prog f i.args .normal) [] (w.forCall tape i)))
  (contract:∀(W:World) (base:Nat) (args:Array Value) (ds gs:List (DataW H)) (before:List MemPlace),
   (∀(j:Nat) t v,fn.params[j]? =some t→args[j]? =some v→Value.okWide C.prog W .any base t v)→
   DataW.Whole enc C.prog fn.params.toList s.vars apart W args.toList ds gs before→
   X W args→W.ShapedOpen C.prog→
   Calls C.prog f args W fun e W'=>∃v,e= .returned v∧s.post enc C.prog fn apart fresh handsOn again W args v W'):
  ReturnsInHanded a C os f .any (fun w args=>(s.pre enc C.prog fn conds apart w args∧X w args)∧sizedMet enc C.prog fn (OpenSpec.ofChange s) apart w args) (s.post enc C.prog fn apart fresh handsOn again):=by
 refine returnsInHanded_of_calls own started noInit witness ?_;intro w tape i _ hsh _ hok hpre _;obtain⟨_,_,_,fn',hfn',_,_,_,_,hval⟩:=hok;have e:fn'=fn:=Option.some.inj (hfn'.symm.trans hfn);subst e;obtain⟨⟨⟨ds,gs,before,hw,_⟩,hx⟩,_⟩:=hpre;have hw':=DataW.Whole.of_heap (w':=w.forCall tape i) (by rfl) hw;refine(contract (w.forCall tape i) w.heap.size i.args ds gs before hval hw' (hX _ _ _ (by rfl) hx) hsh).mono fun e W' ⟨v,he,hp⟩=> ?_;subst he;exact ChangeSpec.post_blind hp
open Go.RowKit
theorem jke:leaf3 (Rows.laid_pacesetter_phase_leads:DataW Unit)=jls:=by kernel_rfl
theorem jkf:job (Rows.laid_pacesetter_phase_words:DataW Unit)=jlt:=by kernel_rfl
theorem jov:Rows.laid_internal_strconv_uint64pow10=(Lib.tabData .u64 Lib.pow10Tab:DataW Unit):=by kernel_rfl
theorem tb_ofE{W:World}(hL:laidMetH Tryz.prog Rows.bookAllRow.laid W)(_:W.ShapedOpen Tryz.prog):BT W:=by
 rw[MakeChecks.laidMetH_plain _ _ _ (by kernel_rfl)]at hL;refine⟨⟨?_⟩,?_,?_⟩
 ·have h3:=hL.tail.tail
  exact Lib.tabIs_of_head (n:=20) (t:=367) (e:=312) g_pow (by kernel_rfl) (by kernel_rfl) Tryz.underlying312 (by kernel_rfl) (by kernel_rfl) (jov▸h3)
 ·have:=jiq (name:= "pacesetter/phase.leads") (d:=Rows.laid_pacesetter_phase_leads) (L:=leaf3) (t:=295) hL (by simp[Rows.bookAllRow]) jh7 (by kernel_rfl)
   (fun _ _ _ _=>je0 (fun _=>rfl) (je0 (n:=9) (e:=3) (L:=jln) (fun _=>rfl) (jlp Tryz.underlying3) Tryz.underlying294 (by kernel_rfl)) Tryz.underlying295 (by kernel_rfl))
  rw[jke]at this;exact this
 ·have:=jiq (name:= "pacesetter/phase.words") (d:=Rows.laid_pacesetter_phase_words) (L:=job) (t:=293) hL (by simp[Rows.bookAllRow]) jfz (by kernel_rfl)
   (fun _ _ _ _=>je0 (fun _=>rfl) (jlq Tryz.underlying9) Tryz.underlying293 (by kernel_rfl))
  rw[jkf]at this;exact this
end Go.Proofs.YtabandbigckfkaaGreatDoor
