import Derived.Test.YtkinlcfhojjalaaGreatDoorQz26
import Derived.Test.YtkinlcfhojjalaaGreatDoorQz31
import Derived.Test.YtkinlcfhojjalaaGreatDoorQz29
set_option maxHeartbeats 6400000
set_option maxRecDepth 100000
set_option linter.all false
namespace Go.Proofs.YtkinlcfhojjalaaGreatDoor
open Go.RowKit Go.Deep Go.Maps
def TwOwn(l:List Rc.R)(w:World)(e:Ending)(w':World):Prop:=∃A c,e= .returned (.slice A l.length c)/\OwF Bk.rcC 18 56 w' w.heap.size (.slice A l.length c) l/\zF w w'
theorem jor(w:World)(A:Option Addr)(n c:Nat)(l:List Rc.R)(hs:SlF Bk.rcC w A n c l)(hn:n<=1000):Calls Tryz.prog 204 #[.slice A n c] w (TwOwn l w):=by
 have hl:=hs.len;have hcap:=hs.cap;have hmax:=hs.max;have hc63:(c:Int)<=9223372036854775807:=by unfold maxLen at hmax;omega
 have hnil:=fun W a n c=>Lib.run_eql_slice_nil (P:=Tryz.prog) W 22 56 a n c 0 0 Tryz.underlying22
 cases A with
 |none=>
  obtain⟨rfl,rfl,rfl⟩:=slnil hs;clear hl hcap hmax hc63 hs hn;go_in;go_wp2;go_ret;exact⟨none,0,rfl,OwF.none_ _ _ _,zD⟩
 |some ad=>
  have O0:=zh (ju9 (enc:=Bk.rcC) (k:=18) (e:=56) w);have hb1:zF w (w.alloc (.cells #[] 56)):=zE;have S1:=zh (hs.on hb1);have B1:=zh hb1;have HN:=zh hn;have HL:=zh hl;clear hs hn hl hb1 hmax;go_in;go_upto_region 3 with fail
  go_wp2_with(at_builtin;refine jb0 Bk.rcC_len Bk.rcC_one Tryz.underlying22 ja0 rfl zv rfl (.tmp 5) (.tmp 6) rfl w.heap.size _ [] l rfl O0.o rfl S1.o (by have:=HN.o;have:=HL.o;simp;unfold maxLen;omega) (by have:=HN.o;have:=HL.o;simp;omega) (by have:=B1.o.size;omega) ?_;intro v1 w1 ho1 hb1 _ _;have O1:=zh ho1;have B2:=zh hb1;clear ho1 hb1);go_ret;obtain⟨A9,c9,hf⟩:=O1.o.form;have ho:=O1.o;rw[hf]at ho⊢;rw[List.nil_append]at ho⊢;exact⟨A9,c9,rfl,ho,B1.o.trans B2.o⟩
theorem jsx(q:Nat)(s:Bk.St)(ru:Nat->Bk.Un)(rv:Int)(lo ko:Option Nat)(H:Value)(K:Kv.St)(w:World)(h:BdIs w q s ru rv lo ko H K):Calls Tryz.prog 158 #[.pointer (some ⟨q,0,none⟩)] w (TwOwn s.h w):=by
 have A0:=zh h.at_;obtain⟨A,c,hH⟩:=h.form;have b74:=A0.o.cs.c74;rw[hH]at b74;have lq:=A0.o.lt;have hs:=h.h;rw[hH]at hs;have CC:=zh (jor w A s.h.length c s.h hs.sl (by have:=h.lok.ok.hl;omega));clear h hH hs;obtain⟨l,hl⟩:∃l,l=s.h:=zx;rw[<-hl]at CC b74⊢;clear hl;generalize hn:l.length=n at b74;have HN:=zh hn;rw[HN.o]at CC;clear hn;go_in;go_wp2_with(go_at_call 204;refine CC.o.mono ?_;rintro e w1 hp;obtain⟨A9,c9,rfl,p1,p2⟩:=hp;have P1:=zh p1;have P2:=zh p2;clear p1 p2);go_ret;exact⟨A9,c9,rfl,P1.o,P2.o⟩
theorem jos{a:Act}{oi:Oper}(t:TypeId)(parts:Array (Nat×Operand))(ho:oi.op= .build t parts)(cells:Array Value)(hf:Tryz.prog.built t (parts.map fun(i,x)=>(i,a.eval x)).toList=some cells){W:World}:(execOp a.eval oi).run Tryz.prog W= .ok (.value (.agg cells)) W:=by
 unfold execOp;simp only[ho,Sem.run_bind,run_build W t _ cells hf,Result.andThen_ok];rfl
theorem ji2{w w':World}{mo:Option Nat}{n:Nat}{f:ByteArray->Option (Int×Int×Int)}(h:LM.Opt w mo f n)(hb:zF w w'):LM.Opt w' mo f n:=
 h.keep fun b e=>hb.block b (by subst e;exact MapW.Opt.lt h)
theorem jot{s:Bk.St}(h:Bd.Lok s)(m:Int):Bd.Lok {s with m:=min (max m 0) 1048576}:=
 ⟨{h.ok with m:=⟨by show 0<=min (max m 0) 1048576;omega,by show min (max m 0) 1048576<=1048576;omega⟩},h.t1⟩
theorem jvr{w0 W:World}{F:Nat->Prop}{q:Nat}{s:Bk.St}(h:BP w0 F q s W)(m:Int):Calls Tryz.prog 99 #[.pointer (some ⟨q,0,none⟩),.int .i64 m] W (fun e w'=>∃q2,e= .returned (.pointer (some ⟨q2,0,none⟩))/\BP W (fun _=>False) q2 {s with m:=min (max m 0) 1048576} w'):=by
 obtain⟨X,⟨ru,rv,lo0,ko0,H,K,h1,_⟩,_⟩:=h;have LK:=zh (jot h1.lok m);have RW:=zh h1.raw;have CL:=zh (fun X=>twl_any s h1.lok m X);have CD:=zh (fun X (h:zF W X)=>twd_any q s ru rv lo0 ko0 H K X (h1.on h));have CH:=zh (fun X (h:zF W X)=>jsx q s ru rv lo0 ko0 H K X (h1.on h));have VR:=zh (fun X (h:zF W X)=>jdx (h1.on h).at_);have UR:=zh (fun X (h:zF W X)=>jh9 (h1.on h).at_);have LT:=zh (fun X (h:zF W X)=>(h1.on h).lt.1);clear h1;unfold jl4 at CL;unfold jsj at CD;unfold TwOwn at CH;obtain⟨M,hM⟩:∃M,M=min (max m 0) 1048576:=zx;rw[<-hM]at LK CL⊢;clear hM;go_in;go_upto_region 1 with fail
 refine wp_region_held_drew (S:=fun X=>zF W X) zk zD.drew (fun hS=> ?_);refine tY 0 hS ?_;refine tZ 1 rfl (by intro W hW;have lq:=LT.o W hW;go_simp;(try with_reducible rfl)) hS ?_;refine tZ 2 rfl (by intro W hW;have lq:=LT.o W hW;go_simp;(try with_reducible rfl)) hS ?_;refine tZ 3 (v:= .agg (Bk.viewC s)) rfl (fun W hW=>ja4 59 (.tmp 7) rfl q 4 (Bk.viewC s) _ rfl (VR.o W hW) jau rfl (jbe s)) hS ?_;refine tY 4 hS ?_;refine tY 6 hS ?_;simp only[Act.put,zT,zO,zS];refine tY 8 hS ?_;refine tZ 9 rfl (by intro W hW;have lq:=LT.o W hW;go_simp;(try with_reducible rfl)) hS ?_;refine tZ 10 rfl (by intro W hW;have lq:=LT.o W hW;go_simp;(try with_reducible rfl)) hS ?_;refine tZ 11 (v:= .agg (Bk.viewC s)) rfl (fun W hW=>ja4 59 (.tmp 15) rfl q 4 (Bk.viewC s) _ rfl (VR.o W hW) jau rfl (jbe s)) hS ?_;refine tY 12 hS ?_;refine tZ 13 rfl (by intro W hW;have lq:=LT.o W hW;go_simp;(try with_reducible rfl)) hS ?_;simp only[Act.put,zT,zO,zS];refine tZ 14 rfl (by intro W hW;have lq:=LT.o W hW;go_simp;(try with_reducible rfl)) hS ?_;refine tZ 15 (v:= .agg (Bk.uC ru)) rfl (fun W hW=>ja4 36 (.tmp 19) rfl q 26 (Bk.uC ru) _ rfl (UR.o W hW) jft rfl (jec ru)) hS ?_;refine tY 16 hS ?_;simp only[Act.put,zT,zO,zS];refine rO 5 (fun K hK=> ?_);go_simp
 refine(CL.o _).mono ?_
 rintro e w1 ⟨lo,rfl,p1,p2,hb⟩;have L1:=zh p1;have L2:=zh p2;clear p1 p2;have SZ1:Hid (W.heap.size<=_):=hS.size;have hS2:=hS.trans (hb.mono hS.size);have HB1:=zh hb;have HS1:=zh hS2;clear hS hb;have hS:=hS2;clear hS2;refine hK.out _ _ hS (fun _=> ?_);clear hK K;try simp only[Act.put,zT,zO,zS]
 refine rO 7 (fun K hK=> ?_);go_simp
 refine(CD.o _ hS).mono ?_
 rintro e w2 ⟨ko,K2,rfl,p1,p2,p3,p4,p5,hb⟩;have K1:=zh p1;have K5:=zh p5;have KK:=zh (And.intro p2 (And.intro p3 p4));clear p1 p2 p3 p4 p5;have hS2:=hS.trans (hb.mono hS.size);have HB2:=zh hb;have HS2:=zh hS2;clear hS hb;have hS:=hS2;clear hS2;refine hK.out _ _ hS (fun _=> ?_);clear hK K;try simp only[Act.put,zT,zO,zS]
 refine rO 17 (fun K hK=> ?_);go_simp
 refine(CH.o _ hS).mono ?_
 rintro e w3 ⟨A9,c9,rfl,p1,hb⟩;have O1:=zh p1;clear p1;have hS2:=hS.trans (hb.mono hS.size);have HB3:=zh hb;have HS3:=zh hS2;clear hS hb;have hS:=hS2;clear hS2;refine hK.out _ _ hS (fun _=> ?_);clear hK K;refine tZ 18 (v:= .agg (Bd.cells {s with m:=M} ru K2.rev (.map lo) (.map ko) (.slice A9 s.h.length c9))) rfl (fun W hW=>jos 83 _ rfl _ zk) hS ?_
 simp only[Act.put,zT,zO,zS];refine rO 19 (fun K hK=> ?_);go_simp;have hb:zF w3 (w3.alloc (.cells (Bd.cells {s with m:=M} ru K2.rev (.map lo) (.map ko) (.slice A9 s.h.length c9)) 83)):=zE
 have R4:=zh (heap_alloc_new w3 (.cells (Bd.cells {s with m:=M} ru K2.rev (.map lo) (.map ko) (.slice A9 s.h.length c9)) 83))
 generalize w3.alloc (.cells (Bd.cells {s with m:=M} ru K2.rev (.map lo) (.map ko) (.slice A9 s.h.length c9)) 83)=w4 at*
 obtain⟨q2,hq2⟩:∃q2,q2=w3.heap.size:=zx;rw[<-hq2]at R4⊢;have HQ2:=zh hq2;clear hq2;have hS2:=hS.trans (hb.mono hS.size);have HB4:=zh hb;have HS4:=zh hS2;clear hS hb;have hS:=hS2;clear hS2;refine hK.out _ _ hS (fun _=> ?_);clear hK K;refine tY 20 hS ?_;simp only[Act.put,zT,zO,zS];refine wpAnyH_done zk ?_ _;clear hS;go_wp2;go_ret;have s1:=HS1.o.size;have s2:=HS2.o.size;have s3:=HS3.o.size;have l1:=ji2 L1.o HB2.o;have l2:=ji2 (ji2 l1 HB3.o) HB4.o;have BI:BdIs w4 q2 {s with m:=M} ru K2.rev lo ko (.slice A9 s.h.length c9) K2:=⟨⟨R4.o⟩,l2,(K1.o.on HB3.o).on HB4.o,KK.o.1,rfl,KK.o.2.1,KK.o.2.2,RW.o,(O1.o.below HB4.o).lower (Nat.zero_le _),fun b e e2=>by
  have h1:=K5.o b e2;subst e;have h2:=MapW.Opt.lt L1.o;omega,LK.o⟩
 refine⟨q2,rfl,BdF q2 lo ko (.slice A9 s.h.length c9),⟨ru,K2.rev,lo,ko,.slice A9 s.h.length c9,K2,BI,fun _ h=>h,BI.ltF⟩,fun i hi=> ?_,fun b hb=>hb.elim,HS4.o⟩;rcases hi with rfl|e|e|e
 ·rw[HQ2.o];exact s3
 ·have:=L2.o i e;have:=SZ1.o;omega
 ·have:=K5.o i e;omega
 ·have:=(O1.o.lt i e).1;omega
structure Two(w0:World)(F:Nat->Prop)(qa:Nat)(a:Bk.St)(qb:Nat)(b:Bk.St)(W:World):Prop where
 bd:∃X Y,BdP W X qa a/\BdP W Y qb b/\(∀i,X i->w0.heap.size<=i)/\(∀i,Y i->w0.heap.size<=i)/\(∀i,X i->¬Y i)/\∀i,F i->¬X i/\¬Y i/\i<W.heap.size
 below:zF w0 W
section
variable{w0 W W':World}{F G:Nat->Prop}{qa qb:Nat}{a b:Bk.St}
theorem Two.on(h:Two w0 F qa a qb b W)(hb:zF W W'):Two w0 F qa a qb b W':=by
 obtain⟨⟨X,Y,h1,h2,h3,h4,h5,h6⟩,h7⟩:=h;exact⟨⟨X,Y,jb9 h1 hb,jb9 h2 hb,h3,h4,h5,fun i hi=>⟨(h6 i hi).1,(h6 i hi).2.1,Nat.lt_of_lt_of_le (h6 i hi).2.2 hb.size⟩⟩,h7.trans (hb.mono h7.size)⟩
theorem Two.swap(h:Two w0 F qa a qb b W):Two w0 F qb b qa a W:=by
 obtain⟨⟨X,Y,h1,h2,h3,h4,h5,h6⟩,h7⟩:=h;exact⟨⟨Y,X,h2,h1,h4,h3,fun i hy hx=>h5 i hx hy,fun i hi=>⟨(h6 i hi).2.1,(h6 i hi).1,(h6 i hi).2.2⟩⟩,h7⟩
theorem Two.fst(h:Two w0 F qa a qb b W):BP w0 (fun _=>False) qa a W:=by
 obtain⟨⟨X,Y,h1,h2,h3,h4,h5,h6⟩,h7⟩:=h;exact⟨X,h1,h3,fun _ h=>h.elim,h7⟩
theorem Two.snd(h:Two w0 F qa a qb b W):BP w0 (fun _=>False) qb b W:=h.swap.fst
theorem Two.none_(h:Two w0 F qa a qb b W):Two w0 (fun _=>False) qa a qb b W:=by
 obtain⟨⟨X,Y,h1,h2,h3,h4,h5,h6⟩,h7⟩:=h;exact⟨⟨X,Y,h1,h2,h3,h4,h5,fun _ h=>h.elim⟩,h7⟩
theorem Two.one(h:Two w0 F qa a qb b W)(hb:zF W W'){g:Nat}(h8:W.heap.size<=g)(h9:g<W'.heap.size):Two w0 (fun i=>i=g) qa a qb b W':=by
 obtain⟨⟨X,Y,h1,h2,h3,h4,h5,h6⟩,h7⟩:=h.on hb;obtain⟨X0,Y0,g1,g2,g3,g4,g5,g6⟩:=h.bd;refine⟨⟨X0,Y0,jb9 g1 hb,jb9 g2 hb,g3,g4,g5,fun i hi=> ?_⟩,h7⟩;subst hi;exact⟨fun hx=>by have:=jcz g1 _ hx;omega,fun hy=>by have:=jcz g2 _ hy;omega,h9⟩
def TwoRes(w0:World)(F:Nat->Prop)(qa:Nat)(a:Bk.St)(qb:Nat)(b:Bk.St)(x:Int)(W:World)(e:Ending)(w':World):Prop:=e= .returned (.int .i64 x)/\Two w0 F qa a qb b w'/\∀i,F i->w'.heap[i]? =W.heap[i]?
theorem Two.appA(h:Two w0 F qa a qb b W)(ht:BT W){r:Rc.R}(hr:Rc.In r):Calls Tryz.prog 37 #[.pointer (some ⟨qa,0,none⟩),.agg (Rc.cells r)] W (TwoRes w0 F qa (Bk.app a r) qb b (Bk.chk a r) W):=by
 obtain⟨⟨X,Y,h1,h2,h3,h4,h5,h6⟩,h7⟩:=h;refine(jkc h1 ht r hr).mono fun e w' hp=> ?_;obtain⟨X',e1,e2,e3,e4⟩:=hp;refine⟨e1,⟨⟨X',Y,e2,je4 h2 e4.size fun i hi=>e4.block i (jcz h2 i hi) fun hx=>h5 i hx hi,fun i hi=> ?_,h4,fun i hi hy=> ?_,fun i hi=>⟨fun hx=> ?_,(h6 i hi).2.1,Nat.lt_of_lt_of_le (h6 i hi).2.2 e4.size⟩⟩,h7.trans (e4.below h7.size h3)⟩,fun i hi=>e4.block i (h6 i hi).2.2 (h6 i hi).1⟩
 ·rcases e3 i hi with h|h
  ·exact h3 i h
  ·exact Nat.le_trans h7.size h
 ·rcases e3 i hi with h|h
  ·exact h5 i h hy
  ·have:=jcz h2 i hy;omega
 ·rcases e3 i hx with h|h
  ·exact(h6 i hi).1 h
  ·have:=(h6 i hi).2.2;omega
theorem Two.appB(h:Two w0 F qa a qb b W)(ht:BT W){r:Rc.R}(hr:Rc.In r):Calls Tryz.prog 37 #[.pointer (some ⟨qb,0,none⟩),.agg (Rc.cells r)] W (TwoRes w0 F qa a qb (Bk.app b r) (Bk.chk b r) W):=
 (h.swap.appA ht hr).mono fun e w' ⟨h1,h2,h3⟩=>⟨h1,h2.swap,h3⟩
theorem Two.same(h:Two w0 F qa a qb b W)(ht:BT W):Calls Tryz.prog 10 #[.pointer (some ⟨qa,0,none⟩),.pointer (some ⟨qb,0,none⟩)] W (jeb (Bk.Like a b) W):=jhf h.fst h.snd ht
theorem two_of(h1:BP w0 (fun _=>False) qa a W)(h2:BP W (fun _=>False) qb b W'):Two w0 (fun _=>False) qa a qb b W':=by
 obtain⟨X,g1,g2,g3,g4⟩:=h1;obtain⟨Y,k1,k2,k3,k4⟩:=h2;exact⟨⟨X,Y,jb9 g1 k4,k1,g2,fun i hi=>Nat.le_trans g4.size (k2 i hi),fun i hx hy=>by have:=jcz g1 i hx;have:=k2 i hy;omega,fun _ h=>h.elim⟩,g4.trans (k4.mono g4.size)⟩
end
theorem ji3(s:Bk.St)(l:List Rc.R):Bk.refs s l<=l.length:=by unfold Bk.refs;omega
theorem jl6{w0 W:World}{F:Nat->Prop}{q:Nat}{s:Bk.St}(h:BP w0 F q s W)(ht:BT W)(r:Rc.R)(hr:Rc.In r)(A:Option Addr)(n c:Nat)(l:List Rc.R)(hs:SlF Bk.rcC W A n c l)(hin:∀r∈l,Rc.In r)(hn:n<=1000)(m:Int)(hm:s.m=min (max m 0) 1048576)(R:Int)(hR:Bk.chk s r=0->R=Bk.refs (Bk.app s r) l):
  Calls Tryz.prog 55 #[.pointer (some ⟨q,0,none⟩),.agg (Rc.cells r),.slice A n c,.int .i64 m,.int .i64 R] W (jeb (Bk.Lack s r l) W):=by
 have hb1:zF W (W.alloc (.cells (Rc.cells r) 56)):=zE;have RA:=zh (RcAt.new W r);have B1:=zh hb1;have D1:=zh (jbf h hb1);have T1:=zh (ht.on hb1);have S1:=zh (hs.on hb1);have HI:=zh hin;have HR:=zh hr;have HL:=zh hs.len;have HRR:=zh hR;have hcap:=hs.cap;have SM:Hid ({s with m:=min (max m 0) 1048576}=s):=by show _=_;rw[<-hm]
 clear h ht hs hin hr hR hm hb1;go_in;go_upto_region 1 with fail
 obtain⟨g,hg⟩:∃g,g=W.heap.size:=zx;rw[<-hg]at RA⊢;clear hg;generalize W.alloc (.cells (Rc.cells r) 56)=w1 at*;have CT:=zh (fun X (hX:zF w1 X)=>jvr (jbf D1.o hX) m);rw[SM.o]at CT;clear SM;go_upto_region 2 with(first
  |(go_at_call 99;refine(CT.o _ (jar P2.o)).mono ?_;rintro e w3 ⟨qb,rfl,hp⟩;have TW:=zh (two_of P2.o hp);clear hp P2)
  |(go_at_call 99;refine(CT.o _ zD).mono ?_;rintro e w2 ⟨qa,rfl,hp⟩;have P2:=zh hp;clear hp))
 clear CT D1;have RA2:=zh (RA.o.on TW.o.below);have CA:=zh (TW.o.appA (T1.o.on TW.o.below) HR.o);by_cases hc:Bk.chk s r=0
 case neg=>
  have q1:(Bk.chk s r !=0)=true:=by simpa using hc
  have NO:Hid (¬Bk.Lack s r l):=fun h=>absurd h.1 hc;clear hc;generalize Bk.chk s r=z at*
  go_wp2_with(first
   |((with_reducible show zL 23);refine zR (.tmp 6) RA2.o ?_)
   |(go_at_call 37;refine CA.o.mono ?_;rintro e w4 ⟨rfl,h1,_⟩;have B9:=zh (B1.o.trans (h1.below.mono B1.o.size));clear h1))
  go_ret;exact⟨⟨false,rfl,by simp only[Bool.false_eq_true,false_iff];exact NO.o⟩,B9.o⟩
 have q1:(Bk.chk s r !=0)=false:=by simp[hc]
 have HC:=zh hc;obtain⟨a,ha⟩:∃a,a=Bk.app s r:=zx;have HE:Hid (R=Bk.refs a l):=by show R=_;rw[ha];exact HRR.o hc
 have LE:Hid (Bk.Lack s r l↔(Bk.refs s (l.take l.length) -Bk.refs a (l.take l.length)=0/\Bk.Like (Bk.run a (l.take l.length)) (Bk.run s (l.take l.length)))):=by rw[ha];exact Bk.lack_end hc
 have LM:Hid (∀j:Nat,Bk.refs a l -Bk.refs a (l.take j)<Bk.refs s (l.take j) -Bk.refs a (l.take j)->¬Bk.Lack s r l/\Bk.refs s (l.take j) -Bk.refs a (l.take j)≠0):=by rw[ha];exact fun j h=>Bk.lack_more j h
 have LK:Hid (∀j:Nat,Bk.Like (Bk.run a (l.take j)) (Bk.run s (l.take j))->(Bk.Lack s r l↔Bk.refs s (l.take j) -Bk.refs a (l.take j)=0)):=by rw[ha];exact fun j h=>Bk.lack_like hc j h
 rw[<-ha]at CA;clear HRR hc ha HC;generalize Bk.chk s r=z at*;generalize Bk.Lack s r l=LACK at*;go_upto_region 4 with(first
  |((with_reducible show zL 23);refine zR (.tmp 6) RA2.o ?_)
  |(go_at_call 37;refine CA.o.mono ?_;rintro e w4 ⟨rfl,h1,_⟩;have TW3:=zh h1;clear h1))
 clear q1 RA2 CA;have T3:=zh (T1.o.on TW3.o.below);have e0:=HE.o;obtain⟨RR,hRR⟩:∃RR,RR=Bk.refs a l:=zx;rw[<-hRR]at HE LM e0;have BR:Hid (0<=RR/\RR<=1000):=by show _/\_;rw[hRR];have:=Bk.refs_nonneg a l;have:=ji3 a l;have:=HL.o;omega
 clear hRR;have e1:=HE.o;subst e1;clear HE e0;have TK:Hid (∀(t:Bk.St) (j:Nat),0<=Bk.refs t (l.take j)/\Bk.refs t (l.take j)<=1000):=fun t j=>⟨Bk.refs_nonneg _ _,by have:=ji3 t (l.take j);rw[List.length_take]at this;have:=HL.o;omega⟩;go_wp2_with fail;go_loopw [4,13,28] (fun u v i wr=>∃j:Nat,j<=n/\u= .int .i64 (R -Bk.refs a (l.take j))/\v= .int .i64 (Bk.refs s (l.take j) -Bk.refs a (l.take j))/\i= .int .i64 j/\Two w1 (fun _=>False) qa (Bk.run a (l.take j)) qb (Bk.run s (l.take j)) wr) (fun _ _ i _=>n -(intOf i).toNat)
 case atStart=>exact⟨0,Nat.zero_le _,by show _=Value.int .i64 (R -0);rw[Int.sub_zero],rfl,rfl,TW3.o⟩
 case round=>
  clear TW3;obtain⟨j,hj,rfl,rfl,rfl,ht⟩:=hrel;have TW:=zh ht;clear ht;have b1:=TK.o a j;have b2:=TK.o s j;have b3:=BR.o;generalize hrr:R -Bk.refs a (l.take j)=rr at*;generalize hmm:Bk.refs s (l.take j) -Bk.refs a (l.take j)=mm at*;have HRR:=zh hrr;have HMM:=zh hmm;have LMj:=zh (LM.o j);have LKj:=zh (LK.o j);rw[HMM.o]at LKj;rw[HMM.o,HRR.o]at LMj;have rb: -1000<=rr/\rr<=1000:=by omega
  have mb: -1000<=mm/\mm<=1000:=by omega
  clear b1 b2 b3 hrr hmm;have i1:(0:Int)<=(j:Int):=by omega
  by_cases hlt:j<n
  ·have hlt2:j<l.length:=by have:=HL.o;omega
   have hx:l[j]? =some (l[j]'hlt2):=List.getElem?_eq_getElem _;have FA:=zh (Bk.refs_take a l hlt2);have FS:=zh (Bk.refs_take s l hlt2);have GA:=zh (Bk.take_run a l hlt2).1;have GS:=zh (Bk.take_run s l hlt2).1;generalize l[j]'hlt2=x at hx FA FS GA GS;have HX:Hid (Rc.In x):=HI.o x (List.mem_of_getElem? hx);obtain⟨b,o,rfl,hbl,hrg⟩:=jc3 (S1.o.on TW.o.below) hx;have RG:=zh hrg;have i2:(j:Int)<(n:Nat):=by omega
   have HLT:=zh hlt;clear hx hbl hrg hlt hlt2;have TT:=zh (T1.o.on TW.o.below);generalize Bk.run a (l.take j)=sa at*;generalize Bk.run s (l.take j)=sb at*;go_upto_region 8 with(first
    |((with_reducible show zL 31);refine jbm rfl (.tmp 30) rfl b (o+j*18) (by simp[Act.eval,go_sem]) x RG.o ?_)
    |((with_reducible show zW);refine jaa rfl (.tmp 15) (.tmp 31) rfl wr.heap.size x Rc.none_ rfl rfl ⟨heap_alloc_new wr _⟩ ?_))
   rw[World.setRow_alloc_new];have RX:=zh (RcAt.new wr x);have hb:zF wr (wr.alloc (.cells (Rc.cells x) 56)):=zE;have TX:=zh (TW.o.one hb zl (zg RX.o.row).1);have TT2:=zh (TT.o.on hb);clear RG TW TT;obtain⟨gx,hgx⟩:∃g,g=wr.heap.size:=zx;rw[<-hgx]at RX TX⊢;clear hgx hb;generalize wr.alloc (.cells (Rc.cells x) 56)=w5 at*;have CS:=zh (TX.o.same TT2.o);by_cases hA:rr<mm
   ·have q2:mm>rr:=hA
    obtain⟨no,hne⟩:=LMj.o hA;have q3:(mm==0)=false:=by simpa using hne
    have NO:=zh no;have B9:=zh (B1.o.trans (TX.o.below.mono B1.o.size));clear hA hne no;go_wp2;go_ret;exact⟨⟨false,rfl,by simp only[Bool.false_eq_true,false_iff];exact NO.o⟩,B9.o⟩
   ·have q2:mm<=rr:=by omega
    clear hA;by_cases hB:Bk.Like sa sb
    ·have HB:=zh hB
     have LL:=zh (LKj.o hB);clear hB;by_cases hm0:mm=0
     ·have q3:(mm==0)=true:=by simp[hm0]
      have YES:Hid LACK:=LL.o.2 hm0;clear hm0
      go_wp2_with(first
       |(go_at_call 10;refine CS.o.mono ?_;rintro e w6 ⟨⟨zz,rfl,hz⟩,hb⟩;obtain rfl:zz=true:=hz.2 HB.o;have TX2:=zh (TX.o.on hb);have TT3:=zh (TT2.o.on hb);have CS2:=zh (TX2.o.same TT3.o);have B8:=zh (B1.o.trans (TX2.o.below.mono B1.o.size));clear hz hb CS)
       |(go_at_call 10;refine CS2.o.mono ?_;rintro e w7 ⟨⟨zz,rfl,hz⟩,hb⟩;obtain rfl:zz=true:=hz.2 HB.o;have B9:=zh (B8.o.trans (hb.mono B8.o.size));clear hz hb CS2))
      go_ret;exact⟨⟨true,rfl,by simp only[true_iff];exact YES.o⟩,B9.o⟩
     ·have q3:(mm==0)=false:=by simpa using hm0
      have NO:Hid (¬LACK):=fun h=>hm0 (LL.o.1 h);clear hm0;go_wp2_with(go_at_call 10;refine CS.o.mono ?_;rintro e w6 ⟨⟨zz,rfl,hz⟩,hb⟩;obtain rfl:zz=true:=hz.2 HB.o;have TX2:=zh (TX.o.on hb);have TT3:=zh (TT2.o.on hb);have CS2:=zh (TX2.o.same TT3.o);have B8:=zh (B1.o.trans (TX2.o.below.mono B1.o.size));clear hz hb CS);go_ret;exact⟨⟨false,rfl,by simp only[Bool.false_eq_true,false_iff];exact NO.o⟩,by first|exact B8.o|exact B9.o⟩
    ·have HB:=zh hB
     clear hB;have C1:=zh (fun X (h:Two w1 (fun i=>i=gx) qa sa qb sb X) (ht:BT X)=>h.appA ht HX.o);have C2:=zh (fun X (h:Two w1 (fun i=>i=gx) qa (Bk.app sa x) qb sb X) (ht:BT X)=>h.appB ht HX.o);obtain⟨z1,hz1⟩:∃z,z=Bk.chk sa x:=zx;obtain⟨z2,hz2⟩:∃z,z=Bk.chk sb x:=zx;rw[<-hz1]at FA C1;rw[<-hz2]at FS C2;clear hz1 hz2;have hw1:wrap64 (rr -1)=rr -1:=IntWalk.wrap64_in _ ⟨zv,zv⟩;have hw2:IntKind.i64.wrap (rr -1)=rr -1:=IntWalk.i64_in _ ⟨zv,zv⟩;have hw3:wrap64 (mm -1)=mm -1:=IntWalk.wrap64_in _ ⟨zv,zv⟩;have hw4:IntKind.i64.wrap (mm -1)=mm -1:=IntWalk.i64_in _ ⟨zv,zv⟩;have hw5:wrap64 (mm+1)=mm+1:=IntWalk.wrap64_in _ ⟨zv,zv⟩;have hw6:IntKind.i64.wrap (mm+1)=mm+1:=IntWalk.i64_in _ ⟨zv,zv⟩;have hw7:wrap64 (mm -1+1)=mm -1+1:=IntWalk.wrap64_in _ ⟨zv,zv⟩;have hw8:IntKind.i64.wrap (mm -1+1)=mm -1+1:=IntWalk.i64_in _ ⟨zv,zv⟩;have hw9:wrap64 mm=mm:=IntWalk.wrap64_in _ ⟨zv,zv⟩;have hw10:IntKind.i64.wrap mm=mm:=IntWalk.i64_in _ ⟨zv,zv⟩;have RM:=zh (And.intro rb mb);clear rb mb;go_upto_region 9 with(go_at_call 10;refine CS.o.mono ?_;rintro e w6 ⟨⟨zz,rfl,hz⟩,hb⟩;obtain rfl:zz=false:=Bool.eq_false_iff.2 (fun h=>HB.o (hz.1 h));have TX2:=zh (TX.o.on hb);have RX2:=zh (RX.o.on hb);have TT3:=zh (TT2.o.on hb);clear hz hb CS TX RX TT2)
     by_cases h1:z1=0
     ·have q4:(z1 !=0)=false:=by simp[h1]
      rw[if_pos h1]at FA;clear h1;by_cases h2:z2=0
      ·have q5:(z2 !=0)=false:=by simp[h2]
       rw[if_pos h2]at FS;clear h2
       go_wp2_with(first
        |((with_reducible show zL 41);refine zR (.tmp 15) RX2.o ?_)
        |(go_at_call 37;refine(C1.o _ TX2.o TT3.o).mono ?_;rintro e w7 ⟨rfl,h1,h2⟩;have T7:=zh h1;have RX3:Hid (RcAt w7 gx x):=⟨(h2 gx rfl).trans RX2.o.row⟩;have TT7:=zh (T1.o.on h1.below);clear h1 h2 TX2 RX2)
        |((with_reducible show zL 49);refine zR (.tmp 15) RX3.o ?_)
        |(go_at_call 37;refine(C2.o _ T7.o TT7.o).mono ?_;rintro e w8 ⟨rfl,h1,h2⟩;have T8:=zh h1.none_;clear h1 h2 T7))
       have h4:=HLT.o;have h5:=FA.o;have h6:=FS.o;have h7:=HRR.o;have h8:=HMM.o;exact⟨⟨j+1,zv,by first|(congr 1;omega)|skip,by first|(congr 1;omega)|skip,by go_num,by rw[GA.o,GS.o];exact T8.o⟩,by simp[intOf];omega⟩
      ·have q5:(z2 !=0)=true:=by simpa using h2
       rw[if_neg h2]at FS;clear h2
       go_wp2_with(first
        |((with_reducible show zL 41);refine zR (.tmp 15) RX2.o ?_)
        |(go_at_call 37;refine(C1.o _ TX2.o TT3.o).mono ?_;rintro e w7 ⟨rfl,h1,h2⟩;have T7:=zh h1;have RX3:Hid (RcAt w7 gx x):=⟨(h2 gx rfl).trans RX2.o.row⟩;have TT7:=zh (T1.o.on h1.below);clear h1 h2 TX2 RX2)
        |((with_reducible show zL 49);refine zR (.tmp 15) RX3.o ?_)
        |(go_at_call 37;refine(C2.o _ T7.o TT7.o).mono ?_;rintro e w8 ⟨rfl,h1,h2⟩;have T8:=zh h1.none_;clear h1 h2 T7))
       have h4:=HLT.o;have h5:=FA.o;have h6:=FS.o;have h7:=HRR.o;have h8:=HMM.o;exact⟨⟨j+1,zv,by first|(congr 1;omega)|skip,by first|(congr 1;omega)|skip,by go_num,by rw[GA.o,GS.o];exact T8.o⟩,by simp[intOf];omega⟩
     ·have q4:(z1 !=0)=true:=by simpa using h1
      rw[if_neg h1]at FA;clear h1;by_cases h2:z2=0
      ·have q5:(z2 !=0)=false:=by simp[h2]
       rw[if_pos h2]at FS;clear h2
       go_wp2_with(first
        |((with_reducible show zL 41);refine zR (.tmp 15) RX2.o ?_)
        |(go_at_call 37;refine(C1.o _ TX2.o TT3.o).mono ?_;rintro e w7 ⟨rfl,h1,h2⟩;have T7:=zh h1;have RX3:Hid (RcAt w7 gx x):=⟨(h2 gx rfl).trans RX2.o.row⟩;have TT7:=zh (T1.o.on h1.below);clear h1 h2 TX2 RX2)
        |((with_reducible show zL 49);refine zR (.tmp 15) RX3.o ?_)
        |(go_at_call 37;refine(C2.o _ T7.o TT7.o).mono ?_;rintro e w8 ⟨rfl,h1,h2⟩;have T8:=zh h1.none_;clear h1 h2 T7))
       have h4:=HLT.o;have h5:=FA.o;have h6:=FS.o;have h7:=HRR.o;have h8:=HMM.o;exact⟨⟨j+1,zv,by first|(congr 1;omega)|skip,by first|(congr 1;omega)|skip,by go_num,by rw[GA.o,GS.o];exact T8.o⟩,by simp[intOf];omega⟩
      ·have q5:(z2 !=0)=true:=by simpa using h2
       rw[if_neg h2]at FS;clear h2
       go_wp2_with(first
        |((with_reducible show zL 41);refine zR (.tmp 15) RX2.o ?_)
        |(go_at_call 37;refine(C1.o _ TX2.o TT3.o).mono ?_;rintro e w7 ⟨rfl,h1,h2⟩;have T7:=zh h1;have RX3:Hid (RcAt w7 gx x):=⟨(h2 gx rfl).trans RX2.o.row⟩;have TT7:=zh (T1.o.on h1.below);clear h1 h2 TX2 RX2)
        |((with_reducible show zL 49);refine zR (.tmp 15) RX3.o ?_)
        |(go_at_call 37;refine(C2.o _ T7.o TT7.o).mono ?_;rintro e w8 ⟨rfl,h1,h2⟩;have T8:=zh h1.none_;clear h1 h2 T7))
       have h4:=HLT.o;have h5:=FA.o;have h6:=FS.o;have h7:=HRR.o;have h8:=HMM.o;exact⟨⟨j+1,zv,by first|(congr 1;omega)|skip,by first|(congr 1;omega)|skip,by go_num,by rw[GA.o,GS.o];exact T8.o⟩,by simp[intOf];omega⟩
  ·obtain rfl:j=n:=by omega
   have i2:((j:Nat):Int)<=(j:Nat):=Int.le_refl _;have TT:=zh (T1.o.on TW.o.below);have LE2:=zh LE.o;rw[<-HL.o,HMM.o]at LE2;have CS:=zh (TW.o.same TT.o);have B8:=zh (B1.o.trans (TW.o.below.mono B1.o.size));clear hlt;by_cases hm0:mm=0
   ·have q3:(mm==0)=true:=by simp[hm0]
    have HM0:=zh hm0;clear hm0;go_wp2_with(go_at_call 10;refine CS.o.mono ?_;rintro e w6 ⟨⟨zz,rfl,hz⟩,hb⟩;have HZ:=zh hz;have B9:=zh (B8.o.trans (hb.mono B8.o.size));clear hz hb CS);go_ret;refine⟨⟨_,rfl,?_⟩,B9.o⟩;rw[LE2.o];exact⟨fun h=>⟨HM0.o,HZ.o.1 h⟩,fun h=>HZ.o.2 h.2⟩
   ·have q3:(mm==0)=false:=by simpa using hm0
    have NO:Hid (¬LACK):=fun h=>hm0 (LE2.o.1 h).1;clear hm0;go_wp2;go_ret;exact⟨⟨false,rfl,by simp only[Bool.false_eq_true,false_iff];exact NO.o⟩,B8.o⟩
open Go.RowKit
theorem jgb{w0 W W':World}{q:Nat}{s:Bk.St}{v v2:Value}{B:Nat}{l2:List Rc.R}(h:BP w0 (fun b=>v.ownBlock=some b) q s W)(hg:W.grownBy W' v.ownBlock)(ho:OwF Bk.rcC 18 56 W' B v2 l2)(hv:v2.ownBlock=v.ownBlock\/∃k,v2.ownBlock=some k/\W.heap.size<=k)(hl:∀k,v.ownBlock=some k->w0.heap.size<=k):BP w0 (fun b=>v2.ownBlock=some b) q s W':=by
 obtain⟨X,h1,h2,h3,h4⟩:=h;refine⟨X,je4 h1 hg.size fun i hi=>hg.block i (jcz h1 i hi) fun e=>(h3 i e.symm).1 hi,h2,fun b hb=>⟨fun hx=> ?_,(ho.lt b hb).2⟩,h4.grown hg h4.size hl⟩;rcases hv with e|⟨k,e,hk⟩
 ·exact(h3 b (e▸hb)).1 hx
 ·rw[e]at hb
  injection hb with hb
  subst hb;have:=jcz h1 _ hx;omega
theorem jia{a:Act}{oi:Oper}(x:Operand)(ho:oi.op= .load 56 x)(g:Nat)(r:Rc.R)(hx:a.eval x= .pointer (some ⟨g,0,none⟩)){W:World}(h:RcAt W g r):(execOp a.eval oi).run Tryz.prog W= .ok (.value (.agg (Rc.cells r))) W:=by
 unfold execOp;simp only[ho,hx,Instr.loadAt,Instr.sureAddr,Sem.run_bind,Sem.run_pure,Result.andThen_ok,run_loadVar_row (P:=Tryz.prog) W g 56 56 (Rc.cells r) (0,0) _ h.row jag rfl zk]
theorem zz5{p:Prop}(h:p:=by
 refine tY 13 hS ?_;simp only[Act.put,zT,zO,zS];refine wpAnyH_done zk ?_ _;have D6:=zh (ON.o _ hS).1;have RX:=zh (ON.o _ hS).2.1;have O6:=zh (ON.o _ hS).2.2.1;clear hS ON;have CA:=zh (jm5 D6.o (T0.o.on (B1.o.trans ((jar D6.o).mono B1.o.size))) HX.o);have KB:Hid (kept.length<=1000):=by have:=KL.o;have:=HLT.o;show _<=_;omega
 have rb1:=RNN.o.1;have rb2:=RLE.o;have hw5:wrap64 (rr -1)=rr -1:=IntWalk.wrap64_in _ ⟨zv,zv⟩;have hw6:IntKind.i64.wrap (rr -1)=rr -1:=IntWalk.i64_in _ ⟨zv,zv⟩;clear rb1 rb2;have AM:Hid ((Bk.app s x).m=min (max m 0) 1048576):=Bk.app_m.trans SM.o;have INV2:Hid ((kept++[x])++Bk.dgo (Bk.app s x) rest=Z):=by
  have h7:=INV.o;rw[Bk.dgo,if_neg NL.o]at h7;show _=_;rw[List.append_assoc];exact h7
 obtain⟨z,hz⟩:∃z,z=Bk.chk s x:=zx;rw[<-hz]at CA RF;clear hz;by_cases hc:z=0
 ·have q2:(z !=0)=false:=by simp[hc]
  rw[if_pos hc]at RF;clear hc
  go_wp2_with(first
   |((with_reducible show zL 46);refine zR (.tmp 11) RX.o ?_)
   |(go_at_call 37;refine CA.o.mono ?_;rintro e w7 ⟨rfl,h1,h2⟩;have D7:=zh (jbh (G:=fun b=>u9.ownBlock=some b) h1 (fun b hb=> .inl hb));have RX7:Hid (RcAt w7 gx x):=⟨(h2 gx (.inr G5b.o)).trans RX.o.row⟩;have O7:=zh (O6.o.keep fun b hb=>h2 b (.inl hb));clear h1 h2 D6 O6 RX)
   |((with_reducible show zL 52);refine zR (.tmp 11) RX7.o ?_)
   |((with_reducible show zB 53);refine jap Tryz.underlying22 ja0 zv zv rfl (.tmp 52) rfl (Rc.cells x) rfl rfl ?_)
   |(at_builtin;refine jaf Bk.rcC_len Bk.rcC_one Tryz.underlying22 ja0 rfl zv rfl (.tmp 51) (.tmp 53) rfl w1.heap.size _ kept rfl O7.o x rfl (by have:=KB.o;unfold maxLen;omega) (by have:=KB.o;omega) (jar D7.o).size ?_;intro v9 w9 ho9 hb9 hg9 hv9;have O9:=zh ho9;have D9:=zh (jgb D7.o hg9 ho9 hv9 (fun k e=>(O7.o.lt k e).1));clear ho9 hb9 hg9 hv9 D7 O7 RX7))
  have h4:=HLT.o;have h5:=RF.o;exact⟨⟨j+1,Bk.app s x,kept++[x],zv,by rw[HREST.o];congr 1;omega,by go_num,by rw[HREST.o];exact INV2.o,AM.o,by rw[zA,List.length_singleton];have:=KL.o;omega,D9.o,O9.o⟩,by simp[intOf];omega⟩
 ·have q2:(z !=0)=true:=by simpa using hc
  rw[if_neg hc]at RF;clear hc
  go_wp2_with(first
   |((with_reducible show zL 46);refine zR (.tmp 11) RX.o ?_)
   |(go_at_call 37;refine CA.o.mono ?_;rintro e w7 ⟨rfl,h1,h2⟩;have D7:=zh (jbh (G:=fun b=>u9.ownBlock=some b) h1 (fun b hb=> .inl hb));have RX7:Hid (RcAt w7 gx x):=⟨(h2 gx (.inr G5b.o)).trans RX.o.row⟩;have O7:=zh (O6.o.keep fun b hb=>h2 b (.inl hb));clear h1 h2 D6 O6 RX)
   |((with_reducible show zL 52);refine zR (.tmp 11) RX7.o ?_)
   |((with_reducible show zB 53);refine jap Tryz.underlying22 ja0 zv zv rfl (.tmp 52) rfl (Rc.cells x) rfl rfl ?_)
   |(at_builtin;refine jaf Bk.rcC_len Bk.rcC_one Tryz.underlying22 ja0 rfl zv rfl (.tmp 51) (.tmp 53) rfl w1.heap.size _ kept rfl O7.o x rfl (by have:=KB.o;unfold maxLen;omega) (by have:=KB.o;omega) (jar D7.o).size ?_;intro v9 w9 ho9 hb9 hg9 hv9;have O9:=zh ho9;have D9:=zh (jgb D7.o hg9 ho9 hv9 (fun k e=>(O7.o.lt k e).1));clear ho9 hb9 hg9 hv9 D7 O7 RX7))
  have h4:=HLT.o;have h5:=RF.o;exact⟨⟨j+1,Bk.app s x,kept++[x],zv,by rw[HREST.o];congr 1;omega,by go_num,by rw[HREST.o];exact INV2.o,AM.o,by rw[zA,List.length_singleton];have:=KL.o;omega,D9.o,O9.o⟩,by simp[intOf];omega⟩):p:=h
theorem jkn(m:Int)(A:Option Addr)(k c:Nat)(l:List Rc.R)(hin:∀r∈l,Rc.In r)(w:World)(hs:SlF Bk.rcC w A k c l)(hk:k<=1000)(ht:BT w):Calls Tryz.prog 24 #[.int .i64 m,.slice A k c] w (jnx Bk.rcC (Bk.dgo (Bk.new m) l) w):=by
 have CL:=zh (jm4 m A k c l hin w hs zv ht);have S0:=zh hs;have HI:=zh hin;have HL:=zh hs.len;have T0:=zh ht;have CN:=zh (fun X=>bp_new X m);have hcap:=hs.cap;obtain⟨Z,hZ⟩:∃Z,Z=Bk.dgo (Bk.new m) l:=zx;rw[<-hZ];have HZ:=zh hZ.symm;clear hZ;have RN:Hid ((k:Int) -(Bk.allN m l:Nat)=Bk.refs (Bk.new m) l):=by show _=_;rw[HL.o];rfl
 have RB:Hid (0<=Bk.refs (Bk.new m) l/\Bk.refs (Bk.new m) l<=1000):=⟨Bk.refs_nonneg _ _,by have:=ji3 (Bk.new m) l;have:=HL.o;omega⟩;have NM:Hid ((Bk.new m).m=min (max m 0) 1048576):=rfl;unfold BMade at CL;generalize hr0:Bk.refs (Bk.new m) l=r0 at*;have HR0:=zh hr0;have e0:=RN.o;have rb:=RB.o;generalize hap:Bk.allN m l=ap at*;have hw1:wrap64 ((k:Int) -(ap:Int))=r0:=by rw[e0];exact IntWalk.wrap64_in _ ⟨zv,zv⟩
 have hw2:IntKind.i64.wrap ((k:Int) -(ap:Int))=r0:=by rw[e0];exact IntWalk.i64_in _ ⟨zv,zv⟩
 clear hs hin ht e0 rb hr0 hap RN;go_in;go_upto_region 3 with(go_at_call 20;refine CL.o.mono ?_;rintro e w1 hp;obtain⟨q1,X1,rfl,_,_,hb⟩:=hp;have B1:=zh hb;clear hb CL)
 clear hw1 hw2;go_upto_region 4 with(go_at_call 49;refine(CN.o _).mono ?_;rintro e w2 ⟨q,rfl,hd⟩;have D2:=zh hd;clear hd CN)
 go_upto_region 5 with fail
 generalize hv0:Value.slice none 0 0=v0;have HV:=zh hv0;clear hv0;go_wp2_with fail;go_loopw [7,9,26] (fun u v i wr=>∃(j:Nat) (s:Bk.St) (kept:List Rc.R),j<=k/\u= .int .i64 (Bk.refs s (l.drop j))/\i= .int .i64 j/\kept++Bk.dgo s (l.drop j)=Z/\s.m=min (max m 0) 1048576/\kept.length<=j/\BP w1 (fun b=>v.ownBlock=some b) q s wr/\OwF Bk.rcC 18 56 wr w1.heap.size v kept) (fun _ _ i _=>k -(intOf i).toNat)
 case atStart=>exact⟨0,Bk.new m,[],Nat.zero_le _,by rw[List.drop_zero,HR0.o],rfl,HZ.o,NM.o,zl,jbh D2.o (fun b hb=>by rw[<-HV.o]at hb;cases hb),HV.o▸OwF.none_ _ _ _⟩
 case round=>
  clear D2;obtain⟨j,s,kept,hj,rfl,rfl,hi,hm,hkl,hd,ho⟩:=hrel;have D:=zh hd;have O:=zh ho;have INV:=zh hi;have SM:=zh hm;have KL:=zh hkl;clear hd ho hi hm hkl;have i1:(0:Int)<=(j:Int):=by omega
  by_cases hlt:j<k
  ·have hlt2:j<l.length:=by have:=HL.o;omega
   have hx:l[j]? =some (l[j]'hlt2):=List.getElem?_eq_getElem _;have DR:Hid (l.drop j=l[j]'hlt2::l.drop (j+1)):=List.drop_eq_getElem_cons hlt2;generalize l[j]'hlt2=x at hx DR;rw[DR.o]at INV;have RF:=zh (Bk.refs_cons s x (l.drop (j+1)));have RNN:=zh (And.intro (Bk.refs_nonneg s (l.drop j)) (Nat.le_trans (Nat.le_of_eq rfl) (Nat.le_refl k)));have RLE:Hid (Bk.refs s (l.drop j)<=1000):=by have:=ji3 s (l.drop j);rw[List.length_drop]at this;have:=HL.o;show _<=_;omega
   have HX:Hid (Rc.In x):=HI.o x (List.mem_of_getElem? hx);have B0:=zh (B1.o.trans ((jar D.o).mono B1.o.size));obtain⟨b,o,rfl,hbl,hrg⟩:=jc3 (S0.o.on B0.o) hx;have RG:=zh hrg;obtain⟨A5,c5,hA5,hsl⟩:∃A5 c5,(A5=(if c=j+1 then(some ⟨b,o,none⟩:Option Addr)else(some ⟨b,o,none⟩:Option Addr).map fun x=>x.add ((j+1)*18))/\c5=c -(j+1))/\∀W,(Instr.slice 22 (.slice (some ⟨b,o,none⟩) k c) (some (.int .i64 ((j:Int)+1))) none none).run Tryz.prog W= .ok (.slice A5 (k -(j+1)) c5) W:=⟨_,_,⟨rfl,rfl⟩,jjp (some ⟨b,o,none⟩) k c (j+1) zv⟩;have SD:Hid (SlF Bk.rcC w A5 (k -(j+1)) c5 (l.drop (j+1))):=by
    rw[hA5.1,hA5.2];exact S0.o.drop Bk.rcC_len zv (jmu ((j+1)*18))
   clear hA5;have i2:(j:Int)<(k:Nat):=by omega
   have k3:(k:Int)<=1000:=by omega
   have hw3:wrap64 ((j:Int)+1)=(j:Int)+1:=IntWalk.wrap64_in _ ⟨zv,zv⟩;have hw4:IntKind.i64.wrap ((j:Int)+1)=(j:Int)+1:=IntWalk.i64_in _ ⟨zv,zv⟩;have HLT:=zh hlt;have HDI:Hid (∀r∈l.drop (j+1),Rc.In r):=fun r hr=>HI.o r (List.mem_of_mem_drop hr);have DLE:Hid (k -(j+1)<=1000):=by show _<=_;omega
   generalize hrest:l.drop (j+1)=rest at*;have HREST:=zh hrest;rw[<-DR.o]at RF;obtain⟨rr,hrr⟩:∃rr,rr=Bk.refs s (l.drop j):=zx;rw[<-hrr]at RF RLE RNN⊢;clear hx hbl hrg hlt hlt2 hrest hrr;go_upto_region 8 with(first
    |((with_reducible show zL 30);refine jbm rfl (.tmp 29) rfl b (o+j*18) (by simp[Act.eval,go_sem]) x RG.o ?_)
    |((with_reducible show zW);refine jaa rfl (.tmp 11) (.tmp 30) rfl wr.heap.size x Rc.none_ rfl rfl ⟨heap_alloc_new wr _⟩ ?_))
   rw[World.setRow_alloc_new];have RX:=zh (RcAt.new wr x);have hb:zF wr (wr.alloc (.cells (Rc.cells x) 56)):=zE;have D5:=zh (jiw D.o hb);have O5:=zh (O.o.below hb);have G5:Hid (wr.heap.size<=wr.heap.size/\wr.heap.size<(wr.alloc (.cells (Rc.cells x) 56)).heap.size):=⟨zl,(zg RX.o.row).1⟩;clear RG D O hb;generalize wr.alloc (.cells (Rc.cells x) 56)=w5 at*;obtain⟨gx,hgx⟩:∃g,g=wr.heap.size:=zx;obtain⟨n5,hn5⟩:∃g,g=wr.heap.size:=zx;rw[<-hn5]at D5;have G5b:Hid (n5<=gx/\gx<w5.heap.size):=by show _/\_;rw[hn5,hgx];exact G5.o
   rw[<-hgx]at RX⊢;clear hgx hn5 G5;have ON:Hid (∀X,zF w5 X->BP w1 (fun b=>u9.ownBlock=some b\/(n5<=b/\b<w5.heap.size)) q s X/\RcAt X gx x/\OwF Bk.rcC 18 56 X w1.heap.size u9 kept/\zF w X):=fun X hX=>⟨jbf D5.o hX,RX.o.on hX,O5.o.below hX,B1.o.trans ((jar (jbf D5.o hX)).mono B1.o.size)⟩;clear D5 RX O5;by_cases hk1:x.kind=1
   ·have q1:(x.kind==1)=true:=by simp[hk1]
    have HK:=zh hk1;clear hk1;have CM:Hid (∀X,zF w5 X->Calls Tryz.prog 55 #[.pointer (some ⟨q,0,none⟩),.agg (Rc.cells x),.slice A5 (k -(j+1)) c5,.int .i64 m,.int .i64 rr] X (jeb (Bk.Lack s x rest) X)):=fun X hX=>jl6 (ON.o X hX).1 (T0.o.on (ON.o X hX).2.2.2) x HX.o A5 (k -(j+1)) c5 rest (SD.o.on (ON.o X hX).2.2.2) HDI.o DLE.o m SM.o rr (fun h=>by have:=RF.o;rw[if_pos h]at this;omega);by_cases hL:Bk.Lack s x rest
    ·have LK:=zh hL
     clear hL;refine wp_region_held_drew (S:=fun X=>zF w5 X) zk zD.drew (fun hS=> ?_);refine tY 0 hS ?_;refine tZ 1 rfl (by intro W hW;have e0:=(ON.o W hW).2.1.cs.c0;have lg:=(ON.o W hW).2.1.cs.lt;go_simp;(try with_reducible rfl)) hS ?_;refine tY 2 hS ?_;refine tY 3 hS ?_;refine tY 4 hS ?_;refine tZ 5 (v:= .agg (Rc.cells x)) rfl (fun W hW=>jia (.tmp 11) rfl gx x rfl (ON.o W hW).2.1) hS ?_;simp only[Act.put,zT,zO,zS];refine tY 6 hS ?_;refine tY 7 hS ?_;refine tY 8 hS ?_;refine tY 9 hS ?_;refine tY 10 hS ?_;refine tY 11 hS ?_;simp only[Act.put,zT,zO,zS];refine rO 12 (fun K hK=> ?_);go_simp
     refine(CM.o _ hS).mono ?_
     rintro e wm ⟨⟨zz,rfl,hz⟩,hb⟩;obtain rfl:zz=true:=hz.2 LK.o;clear hz;replace hS:=hS.trans (hb.mono hS.size);clear hb;refine hK.out _ _ hS (fun _=> ?_);clear hK K;refine tY 13 hS ?_;simp only[Act.put,zT,zO,zS];refine wpAnyH_done zk ?_ _;have D6:=zh (ON.o _ hS).1;have O6:=zh (ON.o _ hS).2.2.1;clear hS ON;go_wp2_with fail;have h4:=HLT.o;have h5:=RF.o;have h6:=LK.o.2.2;rw[if_pos LK.o.1]at h5;refine⟨⟨j+1,s,kept,zv,?_,by go_num,?_,SM.o,by have:=KL.o;omega,jbh D6.o (fun b hb=> .inl hb),O6.o⟩,by simp[intOf];omega⟩
     ·rw[HREST.o];congr 1;omega
     ·rw[HREST.o]
      have h7:=INV.o;rw[Bk.dgo,if_pos ⟨HK.o,LK.o⟩]at h7;exact h7
    ·have LK:=zh hL
     have NL:Hid (¬(x.kind=1/\Bk.Lack s x rest)):=fun h=>LK.o h.2;clear hL;refine wp_region_held_drew (S:=fun X=>zF w5 X) zk zD.drew (fun hS=> ?_);refine tY 0 hS ?_;refine tZ 1 rfl (by intro W hW;have e0:=(ON.o W hW).2.1.cs.c0;have lg:=(ON.o W hW).2.1.cs.lt;go_simp;(try with_reducible rfl)) hS ?_;refine tY 2 hS ?_;refine tY 3 hS ?_;refine tY 4 hS ?_;refine tZ 5 (v:= .agg (Rc.cells x)) rfl (fun W hW=>jia (.tmp 11) rfl gx x rfl (ON.o W hW).2.1) hS ?_;simp only[Act.put,zT,zO,zS];refine tY 6 hS ?_;refine tY 7 hS ?_;refine tY 8 hS ?_;refine tY 9 hS ?_;refine tY 10 hS ?_;refine tY 11 hS ?_;simp only[Act.put,zT,zO,zS];refine rO 12 (fun K hK=> ?_);go_simp
     refine(CM.o _ hS).mono ?_
     rintro e wm ⟨⟨zz,rfl,hz⟩,hb⟩;obtain rfl:zz=false:=Bool.eq_false_iff.2 (fun h=>LK.o (hz.1 h));clear hz;replace hS:=hS.trans (hb.mono hS.size);clear hb;refine hK.out _ _ hS (fun _=> ?_);clear hK K;exact zz5
   ·have q1:(x.kind==1)=false:=by simp[hk1]
    have NL:Hid (¬(x.kind=1/\Bk.Lack s x rest)):=fun h=>hk1 h.1;clear hk1;refine wp_region_held_drew (S:=fun X=>zF w5 X) zk zD.drew (fun hS=> ?_);refine tY 0 hS ?_;refine tZ 1 rfl (by intro W hW;have e0:=(ON.o W hW).2.1.cs.c0;have lg:=(ON.o W hW).2.1.cs.lt;go_simp;(try with_reducible rfl)) hS ?_;refine tY 2 hS ?_;refine tY 3 hS ?_;refine tN 4 hS ?_;refine tN 5 hS ?_;simp only[Act.put,zT,zO,zS];refine tN 6 hS ?_;refine tN 7 hS ?_;refine tN 8 hS ?_;refine tN 9 hS ?_;refine tN 10 hS ?_;refine tN 11 hS ?_;simp only[Act.put,zT,zO,zS];refine tN 12 hS ?_;exact zz5
  ·obtain rfl:j=k:=by omega
   have i2:((j:Nat):Int)<=(j:Nat):=Int.le_refl _;have B0:=zh (B1.o.trans ((jar D.o).mono B1.o.size));have HE:Hid (kept=Z):=by
    have h:=INV.o;rw[List.drop_of_length_le (by have:=HL.o;omega)]at h;show _=_;rw[<-h];exact(List.append_nil _).symm
   have he:=HE.o;clear hlt HE INV HZ;subst he;obtain⟨AF,cF,rfl⟩:=O.o.form;go_wp2;go_ret;exact⟨AF,cF,rfl,O.o.sl,B0.o,fun b o e=>by subst e;exact Nat.le_trans B1.o.size (O.o.lt b rfl).1⟩