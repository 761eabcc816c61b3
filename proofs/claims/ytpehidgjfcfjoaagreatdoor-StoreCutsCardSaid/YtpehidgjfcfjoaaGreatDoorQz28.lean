import Derived.Test.YtpehidgjfcfjoaaGreatDoorQz27
import Derived.Laws.MakeOwn
set_option maxHeartbeats 6400000
set_option maxRecDepth 100000
set_option linter.unusedSimpArgs false
set_option linter.unusedVariables false
namespace Go.Proofs.YtpehidgjfcfjoaaGreatDoor
open Go.RowKit Cdc
theorem juq(s:ByteArray)(w:World)(hs:s.size<=1000000):
  ∃c W',(convert 9 43 (.string s)).run Tryz.prog w= .ok (.slice (some ⟨w.heap.size,0,none⟩) s.size c) W'/\Sl W' (some ⟨w.heap.size,0,none⟩) s.size c (sb s)/\Below w.heap.size w W':=by
 refine⟨_,_,Lib.run_convert_string_bytes w 9 43 5 s Tryz.underlying9 Tryz.underlying43 Tryz.underlying5,⟨⟨jhw s,fun _=>⟨w.heap.size,0,rfl,?_,fun j hj=> ?_⟩⟩,(ja9 s).symm,grownCap_ge _ _ _ _,grownCap_le_maxLen _ _ _ _ (by unfold maxLen;omega),fun h=>by cases h⟩,rfl,rfl,rfl,?_,fun k hk=>Lib.bytesWorld_at_old _ _ _ _ hk⟩
 ·rw[Lib.bytesWorld_size];omega
 ·rw[ja9]at hj
  rw[Nat.zero_add,Lib.bytesWorld_cell _ _ _ _ hj,jal (by simpa using hj),jal (by rw[ja9];exact hj)];simp[sb]
 ·rw[Lib.bytesWorld_size];omega
def mayB(n:Int):Bool:=decide (sz n≠0)
theorem jlf(n:Int)(w:World):
  Calls Tryz.prog 144 #[.int .i64 n] w fun e w'=>e= .returned (.bool (mayB n))/\w=w':=by
 by_cases h0:n<0
 ·have HB:Hid (mayB n=false):=decide_eq_false (by rw[jt6 (.inl h0)];omega)
  go_in;go_wp2;go_ret;exact⟨jb8 HB.out.symm,rfl⟩
 ·have h0':0<=n:=by omega
  by_cases h1:4611686018427387903<n
  ·have HB:Hid (mayB n=false):=decide_eq_false (by rw[jt6 (.inr h1)];omega)
   have h2:decide (n<=4611686018427387903)=false:=decide_eq_false zv;clear h1;go_in;go_wp2;go_ret;exact⟨jb8 HB.out.symm,rfl⟩
  ·have HB:Hid (mayB n=true):=decide_eq_true (by
    unfold sz;rw[if_pos zv];have:=digs_pos n.toNat;omega)
   have h2:decide (n<=4611686018427387903)=true:=decide_eq_true zv;clear h1;go_in;go_wp2;go_ret;exact⟨jb8 HB.out.symm,rfl⟩
theorem jez(n:Nat)(w:World)(hn:n<4611686018427387904):
  Calls Tryz.prog 146 #[.int .i64 n] w (jh8 w.heap.size (digs n) w):=by
 have h9:=digs_nine (n:=n) zv;have HN:=zh hn;clear hn;go_in;go_wp2_with fail;go_loopw [0,3] (fun a v wr=>∃(m:Nat) (l':List Nat),a= .int .i64 m/\(m:Int)<=4611686018427387903/\OwnB wr w.heap.size v l'/\l'++digs m=digs n/\Below w.heap.size w wr) (fun a _ _=>(intOf a).toNat)
 case atStart=>exact⟨n,[],rfl,by have:=HN.out;omega,⟨World.ownsRow_nil _ _ _ _,by simp⟩,rfl,Below.refl _ _⟩
 case round=>
  obtain⟨m,l',rfl,hm,hO,hfull,hb⟩:=hrel;have O:=zh hO;clear hO;have BB:=zh hb;clear hb;have FF:Hid (l'++digs m=[]++digs n):=hfull;clear hfull;have hlen:l'.length<=9:=by have h2:=FF.out;have h3:=congrArg List.length h2;rw[List.length_append,List.nil_append]at h3;omega
  by_cases hlt:128<=m
  ·go_wp2_with(at_builtin;refine jbb rfl (.tmp 6) (.tmp 11) rfl w.heap.size _ l' rfl O.out _ (m%128+128) zv zv rfl zv BB.out.size ?_;intro v1 w1 ho1 hb1;have O1:=zh ho1;have B1:=zh (BB.out.trans hb1);clear ho1 hb1)
   go_roundw
   case rel=>exact⟨m/128,_,by go_num,zv,O1.out,jl6 FF.out hlt,B1.out⟩
   case measure=>simp[intOf];omega
  ·go_wp2_with(at_builtin;refine jbb rfl (.tmp 15) (.tmp 18) rfl w.heap.size _ l' rfl O.out _ m zv zv rfl zv BB.out.size ?_;intro v1 w1 ho1 hb1;have O1:=zh ho1;have B1:=zh (BB.out.trans hb1);clear ho1 hb1)
   go_ret;exact⟨v1,rfl,by have:=jl7 FF.out zv;rw[List.nil_append]at this;rw[<-this];exact O1.out,B1.out⟩
theorem OwnB.join{w:World}{B n m:Nat}{v:Value}{l l2:List Nat}(h:w.ownsRow B 5 1 v (n+m) (vals l++vals l2))(hn:n=l.length)(hm:m=l2.length)(h1:∀y∈l,y<256)(h2:∀y∈l2,y<256):OwnB w B v (l++l2):=by
 subst hn;subst hm;refine⟨?_,?_⟩
 ·rw[jbf,List.length_append];exact h
 ·intro y hy
  exact(List.mem_append.1 hy).elim (h1 y) (h2 y)
theorem jf2(n c m d:Nat)(A D:Option Addr)(l l2:List Nat)(w:World)(hs:Sl w A n c l)(ht:Sl w D m d l2)(hn:n<=1000000)(hm:m<=1000000):
  Calls Tryz.prog 145 #[.slice A n c,.slice D m d] w (jh8 w.heap.size (l++l2) w):=by
 obtain⟨i0,hi0,hz0,hz1,hz2⟩:=info_parts jbz;have I0:=zh hi0;clear hi0;have I1:=zh hz0;clear hz0;have I2:=zh hz1;clear hz1;have I3:=zh hz2;clear hz2;have S:=zh hs;clear hs;have T:=zh ht;clear ht;go_in
 go_wp2_with(first
  |(at_builtin;refine jao rfl (.tmp 6) (.tmp 7) _ rfl w.heap.size 5 i0 _ Tryz.underlying43 I0.out I1.out I2.out I3.out rfl (.slice none 0 0) 0 [] rfl (World.ownsRow_nil _ _ _ _) w.heap.size n c A l rfl S.out.rd S.out.len S.out.nil zv (Nat.le_refl _) ?_;intro v1 w1 hown1 hg1;have O1:=zh hown1;have B1:=zh ((Below.refl w.heap.size w).grown hg1 (Nat.le_refl _) (by simp[Value.ownBlock]));clear hown1 hg1)
  |(at_builtin;refine jao rfl (.tmp 9) (.tmp 10) _ rfl w.heap.size 5 i0 _ Tryz.underlying43 I0.out I1.out I2.out I3.out rfl v1 (0+n) ([]++vals l) rfl O1.out w1.heap.size m d D l2 rfl (T.out.rd.on B1.out) T.out.len T.out.nil zv B1.out.size ?_;intro v2 w2 hown2 hg2;have O2:=zh hown2;have G2:=zh hg2;clear hown2 hg2))
 go_ret;have hO:=O2.out;rw[Nat.zero_add,List.nil_append]at hO;exact⟨v2,rfl,OwnB.join hO S.out.len T.out.len S.out.rd.1 T.out.rd.1,B1.out.grown G2.out B1.out.size (jaz O1.out)⟩
def jrl(l:List Nat)(err:Int)(w:World)(e:Ending)(w':World):Prop:=
 ∃A c,e= .returned (.tuple #[.slice A l.length c,.int .i64 err])/\Sl w' A l.length c l/\Below w.heap.size w w'
theorem jih(n c:Nat)(x:Int)(A:Option Addr)(l:List Nat)(w:World)(hs:Sl w A n c l)(hn:n<=1000000):
  Calls Tryz.prog 86 #[.slice A n c,.int .i64 x] w (jrl (numL l x) (numE x) w):=by
 have S:=zh hs;clear hs;have M:=zh (jlf x w);by_cases hz:sz x=0
 ·have HM:Hid (mayB x=false):=decide_eq_false zv
  rw[show numL l x=l from by unfold numL;rw[if_pos hz],show numE x=1 from by unfold numE;rw[if_pos hz]];rw[HM.out]at M;clear hz;go_in;go_wp2_with fail
  (with_reducible refine M.out.mono ?_)
  rintro e w1 ⟨rfl,rfl⟩;go_wp2;go_ret2;have:=S.out.len;subst this;exact⟨A,c,rfl,S.out,Below.refl _ _⟩
 ·have HM:Hid (mayB x=true):=decide_eq_true hz
  rw[show numL l x=l++digs x.toNat from by unfold numL;rw[if_neg hz],show numE x=0 from by unfold numE;rw[if_neg hz]];rw[HM.out]at M;obtain⟨m,rfl,hm⟩:=jjl hz;rw[Int.toNat_natCast];have HQ:=zh hm;clear hm hz;have h9:=digs_nine (n:=m) (by have:=HQ.out;omega);go_in;go_wp2_with fail
  (with_reducible refine M.out.mono ?_)
  rintro e w1 ⟨rfl,rfl⟩;go_wp2_with fail
  (with_reducible refine(jez m w HQ.out).mono ?_)
  rintro e w1 ⟨v1,rfl,ho,hb⟩;obtain⟨A1,c1,rfl,h1⟩:=OwnB.sl ho;have T1:=zh h1;clear h1 ho;have B1:=zh hb;clear hb;go_wp2_with fail
  (with_reducible refine(jf2 n c _ c1 A A1 l _ w1 (S.out.on B1.out) T1.out hn zv).mono ?_)
  rintro e w2 ⟨v2,rfl,ho,hb⟩;obtain⟨A2,c2,hv,h2⟩:=OwnB.sl ho;have T2:=zh h2;clear h2 ho;have B2:=zh (B1.out.trans (hb.mono B1.out.size));clear hb;have HV:=zh hv;clear hv;go_wp2;go_ret2;rw[HV.out];exact⟨A2,c2,rfl,T2.out,B2.out⟩
theorem jlg(n c:Nat)(s:ByteArray)(A:Option Addr)(l:List Nat)(w:World)(hs:Sl w A n c l)(hn:n<=900000):
  Calls Tryz.prog 87 #[.slice A n c,.string s] w (jrl (jgu l s) (jgv s) w):=by
 have S:=zh hs;clear hs;by_cases hz:s.size<=64
 ·rw[show jgu l s=l++digs s.size++sb s from by unfold jgu;rw[if_pos hz],show jgv s=0 from by unfold jgv;rw[if_pos hz]]
  have h9:=digs_nine (n:=s.size) zv;have HL:=S.out.len;have H9:Hid ((l++digs s.size).length<=900009):=by show _<=_;rw[List.length_append];omega
  clear HL;obtain⟨q,hq⟩:∃q,q=l++digs s.size:=⟨_,rfl⟩;have Q:=zh hq;clear hq;rw[<-Q.out]at H9⊢;go_in;go_wp2_with fail
  (with_reducible refine(jez s.size w zv).mono ?_)
  rintro e w1 ⟨v1,rfl,ho,hb⟩;obtain⟨A1,c1,rfl,h1⟩:=OwnB.sl ho;have T1:=zh h1;clear h1 ho;have B1:=zh hb;clear hb;have C2:=zh (jf2 n c _ c1 A A1 l _ w1 (S.out.on B1.out) T1.out zv zv);rw[<-Q.out]at C2;go_wp2_with fail
  (with_reducible refine C2.out.mono ?_)
  rintro e w2 ⟨v2,rfl,ho,hb⟩;obtain⟨A2,c2,rfl,h2⟩:=OwnB.sl ho;have T2:=zh h2;clear h2 ho;have B2:=zh (B1.out.trans (hb.mono B1.out.size));clear hb;obtain⟨c3,w3,hcv,h3,hb3⟩:=juq s w2 zv;have T3:=zh h3;clear h3;have B3:=zh (B2.out.trans (hb3.mono B2.out.size));have T23:=zh (T2.out.on hb3);clear hb3;go_wp2_with fail
  (with_reducible refine(jf2 _ c2 s.size c3 A2 _ q (sb s) w3 T23.out T3.out (by have:=H9.out;omega) zv).mono ?_)
  rintro e w4 ⟨v4,rfl,ho,hb⟩;obtain⟨A4,c4,hv,h4⟩:=OwnB.sl ho;have T4:=zh h4;clear h4 ho;have B4:=zh (B3.out.trans (hb.mono B3.out.size));clear hb;have HV:=zh hv;clear hv;go_wp2;go_ret2;rw[HV.out];exact⟨A4,c4,rfl,T4.out,B4.out⟩
 ·rw[show jgu l s=l from by unfold jgu;rw[if_neg hz],show jgv s=12 from by unfold jgv;rw[if_neg hz]]
  go_in;go_wp2;go_ret2;have:=S.out.len;subst this;exact⟨A,c,rfl,S.out,Below.refl _ _⟩
theorem jrm{os:List Int}{l:List Nat}{k m:Nat}(hk:k<os.length)(hm:os.getD k 0=(m:Int)):l++fl (os.take (k+1))=(l++fl (os.take k))++digs m:=by
 rw[jia hk hm,List.append_assoc]
theorem jlh(n c k d:Nat)(A D:Option Addr)(l:List Nat)(ns:List Int)(w:World)(hs:Sl w A n c l)(hn:n<=900000)(hd:SlI w D k d ns):
  Calls Tryz.prog 88 #[.slice A n c,.slice D k d] w (jrl (jd4 l ns) (jd5 ns) w):=by
 obtain⟨i0,hi0,hz0,hz1,hz2⟩:=info_parts jbz;have I0:=zh hi0;clear hi0;have I1:=zh hz0;clear hz0;have I2:=zh hz1;clear hz1;have I3:=zh hz2;clear hz2;have S:=zh hs;clear hs;have SD:=zh hd;clear hd;have hkn:=SD.out.len;by_cases hk:k<=64
 ·have P1:Hid (jci ns=true->jd4 l ns=l++digs k++fl ns/\jd5 ns=0):=fun ha=>by
   unfold jd4 jd5;rw[if_pos zv,if_pos ha,if_pos zv,if_pos ha,<-hkn];exact⟨rfl,rfl⟩
  have P2:Hid (jci ns=false->jd4 l ns=l/\jd5 ns=1):=fun ha=>by
   unfold jd4 jd5;rw[if_pos zv,if_neg (by rw[ha];simp),if_pos zv,if_neg (by rw[ha];simp)];exact⟨rfl,rfl⟩
  have h9:=digs_nine (n:=k) zv;have H9:Hid ((l++digs k).length<=900009):=by show _<=_;have:=S.out.len;rw[List.length_append];omega
  clear hkn;obtain⟨q,hq⟩:∃q,q=l++digs k:=⟨_,rfl⟩;have Q:=zh hq;clear hq;rw[<-Q.out]at H9 P1;generalize jd4 l ns=LL at*;generalize jd5 ns=LE at*;go_in;go_wp2_with fail
  (with_reducible refine(jez k w zv).mono ?_)
  rintro e w1 ⟨v1,rfl,ho,hb⟩;obtain⟨A1,c1,rfl,h1⟩:=OwnB.sl ho;have T1:=zh h1;clear h1 ho;have B1:=zh hb;clear hb;have C2:=zh (jf2 n c _ c1 A A1 l _ w1 (S.out.on B1.out) T1.out zv zv);rw[<-Q.out]at C2;go_wp2_with fail
  (with_reducible refine C2.out.mono ?_)
  rintro e w2 ⟨v2,rfl,ho,hb⟩;have O2:=zh ho;clear ho;have G1:=zh B1.out.size;have Z2:=zh hb.size;have B2:=zh (B1.out.trans (hb.mono B1.out.size));clear hb B1;go_wp2_with fail;go_loopw [6,7] (fun v i wr=>∃m:Nat,m<=k/\i= .int .i64 m/\OwnB wr w1.heap.size v (q++fl (ns.take m))/\(∀j,j<m->sz (ns.getD j 0)≠0)/\Below w.heap.size w wr/\w1.heap.size<=wr.heap.size) (fun _ i _=>k -(intOf i).toNat)
  case atStart=>exact⟨0,zv,rfl,by simpa[fl]using O2.out,fun j hj=>by omega,B2.out,Z2.out⟩
  case round=>
   obtain⟨m,hm,rfl,ho,hall,hb,hsz⟩:=hrel;clear O2 B2;have O:=zh ho;clear ho;have B:=zh hb;clear hb;have ALL:=zh hall;clear hall;have HZ:=zh hsz;clear hsz;by_cases hlt:m<k
   ·have hml:m<ns.length:=by rw[<-SD.out.len];exact hlt
    obtain⟨b,o,rfl,_,hc⟩:=(SD.out.on B.out).rd zv;have hck:=hc m hml;clear hc;by_cases hz:sz (ns.getD m 0)=0
    ·have P3:=zh (P2.out (jl8 hml hz))
     have M:Hid (mayB (ns.getD m 0)=false):=decide_eq_false zv;clear hz P1 P2 O ALL;generalize ns.getD m 0=x at*;go_wp2_with fail
     (with_reducible refine(jlf x wr).mono ?_)
     rw[M.out];rintro e w3 ⟨rfl,rfl⟩;go_wp2;go_ret2;rw[P3.out.1,P3.out.2];have:=S.out.len;subst this;exact⟨A,c,rfl,S.out.on B.out,B.out⟩
    ·have M:Hid (mayB (ns.getD m 0)=true):=decide_eq_true hz
     have ALL2:Hid (∀j,j<m+1->sz (ns.getD j 0)≠0):=fun j hj=>by
      by_cases e:j=m
      ·subst e;exact hz
      ·exact ALL.out j zv
     obtain⟨x,hx,hxl⟩:=jjl hz;rw[hx]at M;have hck2:=hck;rw[hx]at hck2;have TF:=zh (jrm (l:=q) hml hx);have HX:=zh hxl;have hb9:=digs_nine (n:=x) zv;have LF:Hid ((q++fl (ns.take m)).length<=910000):=by
      show _<=_;have h1:jci (ns.take m)=true:=jgw fun j hj=>by
       rw[List.length_take]at hj;have:=ALL.out j zv;rw[jal zv]at this;rw[jal (by rw[List.length_take];omega),List.getElem_take];exact this
      have h2:=jjm h1 (ns.take m).length (Nat.le_refl _);rw[List.take_length,List.length_take]at h2;have h3:=H9.out;rw[List.length_append];omega
     have HBW:Hid (b<wr.heap.size):=block_lt_of_cell hck;clear hz hx hxl hck ALL P1 P2;obtain⟨f,hf⟩:∃f,f=q++fl (ns.take m):=⟨_,rfl⟩;have FF:=zh hf;clear hf;rw[<-FF.out]at TF LF O;go_wp2_with fail
     (with_reducible refine(jlf _ wr).mono ?_)
     rw[M.out];rintro e w3 ⟨rfl,rfl⟩;go_wp2_with fail
     (with_reducible refine(jez x wr HX.out).mono ?_)
     rintro e w3 ⟨v3,rfl,ho3,hb3⟩;obtain⟨A3,c3,rfl,h3⟩:=OwnB.sl ho3;have T3:=zh h3;clear h3 ho3;have B3:=zh (B.out.trans (hb3.mono B.out.size));have O3:=zh (OwnB.below O.out hb3);have HZ3:=zh (Nat.le_trans HZ.out hb3.size);clear hb3;go_wp2_with(at_builtin;refine jao rfl (.tmp 32) (.tmp 37) _ rfl w1.heap.size 5 i0 _ Tryz.underlying43 I0.out I1.out I2.out I3.out rfl _ f.length (vals f) rfl O3.out.1 w3.heap.size _ c3 A3 (digs x) rfl T3.out.rd rfl T3.out.nil (by have:=LF.out;omega) HZ3.out ?_;intro v4 w4 hown4 hg4;have O4:=zh hown4;have G4:=zh hg4;clear hown4 hg4);go_roundw
     case rel=>exact⟨m+1,zv,by go_num,by rw[TF.out];exact OwnB.join O4.out rfl rfl O3.out.2 (digs_byte x),ALL2.out,B3.out.grown G4.out B3.out.size (fun i hi=>Nat.le_trans G1.out (jaz O3.out.1 i hi)),Nat.le_trans HZ3.out G4.out.size⟩
     case measure=>simp[intOf];omega
   ·obtain rfl:m=k:=by omega
    have P3:=zh (P1.out (jgw fun j hj=>ALL.out j (by rw[SD.out.len];exact hj)));have O4:=zh (jqe O.out SD.out.len);obtain⟨A2,c2,hv,h2⟩:=OwnB.sl O4.out;have HV:=zh hv;clear hv;have H2:=zh h2;clear h2;clear P1 P2 ALL;go_wp2;go_ret2;rw[HV.out,P3.out.1,P3.out.2];exact⟨A2,c2,rfl,H2.out,B.out⟩
 ·have HL:Hid (jd4 l ns=l/\jd5 ns=12):=by
   show _/\_;unfold jd4 jd5;rw[if_neg zv,if_neg zv];exact⟨rfl,rfl⟩
  clear hkn;generalize jd4 l ns=LL at*;generalize jd5 ns=LE at*;go_in;go_wp2;go_ret2;rw[HL.out.1,HL.out.2];have:=S.out.len;subst this;exact⟨A,c,rfl,S.out,Below.refl _ _⟩
theorem jro{w:World}{B n c:Nat}{A:Option Addr}{l:List Int}(h:OwnI w B (.slice A n c) l):SlI w A n c l:=by
 obtain⟨A',c',e,h2⟩:=h.sl;injection e with e1 e2 e3
 rw[e1,e2,e3];exact h2
def Rc.bytesL(r:Rc.R):List Nat:=if Rc.right r=true then Rc.bytes r else[]
def Rc.bytesE(r:Rc.R):Int:=if Rc.right r=true then 0 else 1
theorem Rc.bytes_yes{r:Rc.R}(h:Rc.right r=true):Rc.bytesL r=Rc.bytes r/\Rc.bytesE r=0:=by unfold Rc.bytesL Rc.bytesE;rw[if_pos h,if_pos h];exact⟨rfl,rfl⟩
theorem Rc.bytes_no{r:Rc.R}(h:Rc.right r=false):Rc.bytesL r=[]/\Rc.bytesE r=1:=by unfold Rc.bytesL Rc.bytesE;rw[if_neg (by rw[h];simp),if_neg (by rw[h];simp)];exact⟨rfl,rfl⟩
theorem jdw{l:List Nat}{x:Int}(h:sz x≠0):numL l x=l++digs x.toNat/\numE x=0:=by unfold numL numE;rw[if_neg h,if_neg h];exact⟨rfl,rfl⟩
theorem jrp{ns:List Int}{j:Nat}(hj:j<ns.length)(h:sz (ns.getD j 0)≠0):fl (ns.take (j+1))=fl (ns.take j)++digs (ns.getD j 0).toNat:=by
 obtain⟨m,hm,_⟩:=jjl h;rw[jia hj hm,hm,Int.toNat_natCast]
theorem zz1f{p:Prop}(h:p:=by
 have h3:(digs r.text.size).length<=9:=digs_nine (by have:=OK.out.text;omega);have h4:=ja9 r.text;have:=OK.out.text;have:=LL.out;rw[List.length_append,List.length_append];show _<=_;omega):p:=h
theorem zz1v{p:Prop}(h:p:=by
 have ha:=Rc.all_small OK.out.flds;unfold jd4 jd5;rw[Spc.flds_length,if_pos zv,if_pos ha,if_pos zv,if_pos ha];exact⟨rfl,rfl⟩):p:=h
theorem zz20{p:Prop}(h:p:=by
 go_ret2;have h6:=S6.out;rw[LA.out.1]at h6;refine⟨A6,k6,?_,?_,B6.out⟩
 ·rw[EB.out,<-LA.out.1];rfl
 ·rw[EB.out];exact h6):p:=h
theorem zz25{p:Prop}(h:p:=by
 exact⟨⟨j+1,zv,by go_num,(by have h:=HLK.out;subst h;exact⟨A3,c3,rfl,S3.out⟩),B3.out⟩,by simp[intOf];omega⟩):p:=h
theorem zz28{p:Prop}(h:p:=by
 have:=OK.out.nums ((Rc.nums r).getD j 0) (by rw[jal hj];exact List.getElem_mem _);exact Rc.sz_small this.1 this.2):p:=h
theorem zz2q{p:Prop}(h:p:=by
 have:=Rc.fl_le OK.out.nums;rw[show(Rc.nums r).length=5 from rfl]at this;exact this):p:=h
theorem zz2z{p:Prop}(h:p:=by
 have:=jjm (Rc.all_small OK.out.nums) j (by show j<=5;omega);show _<=_;omega):p:=h
theorem zz30{p:Prop}(h:p:=by
 unfold jgu jgv;rw[if_pos OK.out.text,if_pos OK.out.text];exact⟨rfl,rfl⟩):p:=h
theorem jg0(r:Rc.R)(hin:Rc.In r)(w:World):Calls Tryz.prog 44 #[Rc.val r] w (jrl (Rc.bytesL r) (Rc.bytesE r) w):=by
 have HI:=zh hin;have HSZ:Hid ((Tryz.prog.info? 60).map (·.size)=some (Rc.cells r).size):=jak _;have RA:=zh (RcAt.new w r);have B1:=zh ((Below.refl w.heap.size w).alloc (Nat.le_refl _) (.cells (Rc.cells r) 60));have CR:=zh (fun W=>ja1 r hin W);clear hin;unfold Rc.val at CR;show Calls _ _ #[.agg (Rc.cells r)] _ _
 cases hr:Rc.right r with
 |false=>
  rw[hr]at CR;rw[(Rc.bytes_no hr).1,(Rc.bytes_no hr).2];clear hr;go_in;go_upto_region 1 with fail
  obtain⟨g,hg⟩:∃g,g=w.heap.size:=⟨_,rfl⟩;rw[<-hg]at RA⊢;clear hg;generalize w.alloc (.cells (Rc.cells r) 60)=ws at*
  go_wp2_with(first
   |((with_reducible show zL 14);refine wpList_load_row rfl 60 (.tmp 1) rfl g rfl 60 _ (0,0) _ RA.out.row jaf rfl HSZ.out ?_)
   |(go_at_call 85;(with_reducible refine(CR.out _).mono ?_);rintro e w1 ⟨rfl,hb⟩;have B1:=zh (B1.out.trans (hb.mono B1.out.size));clear hb))
  go_ret2;exact⟨none,0,rfl,Sl.none_ _,B1.out⟩
 |true=>
  rw[hr]at CR;have OK:=zh (Rc.ok_of hr);have EB:Hid (Rc.bytes r=fl (Rc.nums r)++((digs r.text.size++sb r.text)++(if r.kind=3 then digs 12++fl (Spc.flds r.sp)else[]))):=rfl;rw[(Rc.bytes_yes hr).1,(Rc.bytes_yes hr).2];clear hr;have SZN:Hid (∀j,j<5->sz ((Rc.nums r).getD j 0)≠0):=fun j hj=>by
   exact zz28
  go_in;go_upto_region 1 with fail
  obtain⟨g,hg⟩:∃g,g=w.heap.size:=⟨_,rfl⟩;rw[<-hg]at RA⊢;clear hg;generalize w.alloc (.cells (Rc.cells r) 60)=ws at*;go_upto_region 5 with(first
   |((with_reducible show zL 14);refine wpList_load_row rfl 60 (.tmp 1) rfl g rfl 60 _ (0,0) _ RA.out.row jaf rfl HSZ.out ?_)
   |(go_at_call 85;(with_reducible refine(CR.out _).mono ?_);rintro e w1 ⟨rfl,hb⟩;have RA:=zh (RA.out.on hb);have B1:=zh (B1.out.trans (hb.mono B1.out.size));clear hb))
  obtain⟨c0,c1,c2,c3,c4,c5,c6,c7,c8,c9,c10,c11,c12,c13,c14,c15,c16,c17,clt⟩:=RA.out.cs;have BN:=zh ((Below.refl w1.heap.size w1).alloc (Nat.le_refl _) (.cells #[.int .i64 r.kind,.int .i64 r.epoch,.int .i64 r.who,.int .i64 r.n,.int .i64 r.seq] 3));have RN:=zh (heap_alloc_new w1 (.cells #[.int .i64 r.kind,.int .i64 r.epoch,.int .i64 r.who,.int .i64 r.n,.int .i64 r.seq] 3));go_upto_region 6 with fail
  obtain⟨q,hq⟩:∃q,q=w1.heap.size:=⟨_,rfl⟩;rw[<-hq]at RN⊢;have RA:=zh (RA.out.on BN.out);have B1:=zh (B1.out.trans (BN.out.mono B1.out.size));clear hq c0 c1 c2 c3 c4 c5 c6 c7 c8 c9 c10 c11 c12 c13 c14 c15 c16 c17 clt BN;generalize w1.alloc (.cells #[.int .i64 r.kind,.int .i64 r.epoch,.int .i64 r.who,.int .i64 r.n,.int .i64 r.seq] 3)=w2 at*;have QC:Hid (∀wr,Below w2.heap.size w2 wr->∀j,j<5->wr.cell? ⟨q,j,none⟩=some (.int .i64 ((Rc.nums r).getD j 0))):=fun wr hb j hj=>by
   have hrow:=jc2 RN.out hb;rw[cell_of_row _ _ _ _ _ _ hrow];rcases j with _|_|_|_|_|j
   all_goals first|rfl|omega
  go_wp2_with fail;go_loopw [5,7] (fun b i wr=>∃j:Nat,j<=5/\i= .int .i64 j/\(∃A c,b= .slice A (fl ((Rc.nums r).take j)).length c/\Sl wr A (fl ((Rc.nums r).take j)).length c (fl ((Rc.nums r).take j)))/\Below w2.heap.size w2 wr) (fun _ i _=>5 -(intOf i).toNat)
  case atStart=>exact⟨0,zv,rfl,⟨none,0,rfl,Sl.none_ _⟩,Below.refl _ _⟩
  case round=>
   obtain⟨j,hj,rfl,⟨A,c,rfl,hsl⟩,hbr⟩:=hrel;have SL:=zh hsl;have BR:=zh hbr;clear hsl hbr;by_cases hlt:j<5
   ·have cj:=QC.out _ BR.out j hlt
    have LL:Hid ((fl ((Rc.nums r).take j)).length<=1000000):=by
     exact zz2z
    have NX:=zh (jrp (ns:=Rc.nums r) hlt (SZN.out j hlt));have CN:=zh (jih _ c ((Rc.nums r).getD j 0) A _ wr SL.out LL.out);rw[(jdw (SZN.out j hlt)).1,(jdw (l:=[]) (SZN.out j hlt)).2,<-NX.out]at CN;generalize(Rc.nums r).getD j 0=x at*;generalize fl ((Rc.nums r).take j)=lj at*;obtain⟨lk,hlk⟩:∃lk,lk=fl ((Rc.nums r).take (j+1)):=⟨_,rfl⟩;rw[<-hlk]at CN;have HLK:=zh hlk;clear hlk NX;go_wp2_with(go_at_call 86;(with_reducible refine CN.out.mono ?_);rintro e w3 ⟨A3,c3,rfl,hs3,hb3⟩;have S3:=zh hs3;have B3:=zh (BR.out.trans (hb3.mono BR.out.size));clear hs3 hb3);exact zz25
   ·have ej:j=5:=by omega
    subst ej;rw[show(Rc.nums r).take 5=Rc.nums r from rfl]at SL⊢;have LL:Hid ((fl (Rc.nums r)).length<=45):=by
     exact zz2q
    have B2:=zh (B1.out.trans (BR.out.mono B1.out.size));have RA:=zh (RA.out.on BR.out);have TL:Hid (jgu (fl (Rc.nums r)) r.text=(fl (Rc.nums r)++digs r.text.size++sb r.text)/\jgv r.text=0):=by
     exact zz30
    have CT:=zh (jlg _ c r.text A _ wr SL.out (by have:=LL.out;omega));rw[TL.out.1,TL.out.2]at CT;have L2:Hid ((fl (Rc.nums r)++digs r.text.size++sb r.text).length<=900000):=by
     exact zz1f
    rw[<-List.append_assoc,<-List.append_assoc]at EB;generalize fl (Rc.nums r)=l1 at*;generalize l1++digs r.text.size++sb r.text=l2 at*;obtain⟨c0,c1,c2,c3,c4,c5,c6,c7,c8,c9,c10,c11,c12,c13,c14,c15,c16,c17,clt⟩:=RA.out.cs;by_cases hk:r.kind=3
    ·have hke:(r.kind==3)=true:=by rw[beq_iff_eq];exact hk
     rw[if_pos hk]at EB;have LA:Hid (jd4 l2 (Spc.flds r.sp)=l2++digs 12++fl (Spc.flds r.sp)/\jd5 (Spc.flds r.sp)=0):=by
      exact zz1v
     have CF:=zh (fun W=>jle r.sp W);unfold Spc.val Spc.cells at CF;rw[<-List.append_assoc]at EB;clear hk
     go_wp2_with(first
      |(go_at_call 87;(with_reducible refine CT.out.mono ?_);rintro e w4 ⟨A4,k4,rfl,hs4,hb4⟩;have S4:=zh hs4;have B4:=zh (B2.out.trans (hb4.mono B2.out.size));have RA:=zh (RA.out.on hb4);clear hs4 hb4 c0 c1 c2 c3 c4 c5 c6 c7 c8 c9 c10 c11 c12 c13 c14 c15 c16 c17 clt;obtain⟨c0,c1,c2,c3,c4,c5,c6,c7,c8,c9,c10,c11,c12,c13,c14,c15,c16,c17,clt⟩:=RA.out.cs)
      |(go_at_call 89;(with_reducible refine(CF.out _).mono ?_);rintro e w5 ⟨A5,k5,rfl,hs5,hb5⟩;have S5:=zh hs5;have S4:=zh (S4.out.on hb5);have B5:=zh (B4.out.trans (hb5.mono B4.out.size));clear hs5 hb5)
      |(go_at_call 88;(with_reducible refine(jlh _ k4 _ _ A4 _ l2 (Spc.flds r.sp) _ S4.out L2.out (jro S5.out)).mono ?_);rintro e w6 ⟨A6,k6,rfl,hs6,hb6⟩;have S6:=zh hs6;have B6:=zh (B5.out.trans (hb6.mono B5.out.size));clear hs6 hb6))
     exact zz20
    ·have hke:(r.kind==3)=false:=by rw[beq_eq_false_iff_ne];exact hk
     rw[if_neg hk,List.append_nil]at EB;clear hk;go_wp2_with(go_at_call 87;(with_reducible refine CT.out.mono ?_);rintro e w4 ⟨A4,k4,rfl,hs4,hb4⟩;have S4:=zh hs4;have B4:=zh (B2.out.trans (hb4.mono B2.out.size));have RA:=zh (RA.out.on hb4);clear hs4 hb4 c0 c1 c2 c3 c4 c5 c6 c7 c8 c9 c10 c11 c12 c13 c14 c15 c16 c17 clt;obtain⟨c0,c1,c2,c3,c4,c5,c6,c7,c8,c9,c10,c11,c12,c13,c14,c15,c16,c17,clt⟩:=RA.out.cs);go_ret2;rw[EB.out];exact⟨A4,k4,rfl,S4.out,B4.out⟩
end Go.Proofs.YtpehidgjfcfjoaaGreatDoor
namespace Go.Proofs.YtpehidgjfcfjoaaGreatDoor
open Go.RowKit Go.Maps
def jrq(g:Nat):Array Value:=#[.pointer (some ⟨g,0,none⟩),.pointer (some ⟨g,1,none⟩),.pointer (some ⟨g,2,none⟩),.pointer (some ⟨g,3,none⟩),.pointer (some ⟨g,4,none⟩)]
theorem jfo(g:Nat)(w:World):Calls Tryz.prog 54 #[.pointer (some ⟨g,0,none⟩)] w fun e w'=>e= .returned (.agg (jrq g))/\Below w.heap.size w w':=by
 go_in;go_wp2_with fail;go_region;go_wp2_with fail;exact bodyPost_ret (v:= .agg (jrq g)) (by simp[results,Tryz.results54,jrq,go_sem]) rfl ⟨rfl,((Below.refl w.heap.size w).alloc (Nat.le_refl _) _).drew⟩
theorem jur(g j:Nat)(hj:j<5):(jrq g)[j]? =some (.pointer (some ⟨g,j,none⟩)):=by
 rcases j with _|_|_|_|_|j<;>first|rfl|omega
theorem jus:Tryz.prog.underlying 125=some (.array 5 124):=by kernel_rfl
theorem jjv(g j:Nat)(hj:j<5)(W:World):(Instr.index 125 (.agg (jrq g)) (.int .i64 (j:Nat))).run Tryz.prog W= .ok (.pointer (some ⟨g,j,none⟩)) W:=by
 have h1:(0:Int)<=(j:Nat)/\((j:Nat):Int)<((5:Nat):Int):=by omega
 have hp:=jur g j hj;simp[Instr.index,run_underlying jus,asIntOf,part,isAgg,run_underlying Tryz.underlying124,h1,hp,go_sem];intro h;omega
theorem rc_at{w:World}{g:Nat}{r:Rc.R}(h:RcAt w g r){j:Nat}(hj:j<5):w.cell? ⟨g,j,none⟩=some (.int .i64 ((Rc.nums r).getD j 0)):=by
 have c:=h.cs;rcases j with _|_|_|_|_|j
 ·exact c.c0
 ·exact c.c1
 ·exact c.c2
 ·exact c.c3
 ·exact c.c4
 ·omega
end Go.Proofs.YtpehidgjfcfjoaaGreatDoor
namespace Go.Proofs.YtpehidgjfcfjoaaGreatDoor
open Go.RowKit
theorem mk12(w:World):∃w',(Instr.makeSlice 103 (.int .i64 0) (.int .i64 12)).run Tryz.prog w= .ok (.slice (some ⟨w.heap.size,0,none⟩) 0 12) w'/\OwnI w' w.heap.size (.slice (some ⟨w.heap.size,0,none⟩) 0 12) []/\Below w.heap.size w w':=by
 obtain⟨i0,hi0,hz0,hz1,hz2⟩:=info_parts jfw;obtain⟨w',h1,h2,h3⟩:=run_make_own w w.heap.size 103 3 i0 _ _ Tryz.underlying103 hi0 hz0 hz1 .i64 .i64 12 (by rw[hz2];decide) (by unfold maxLen;omega) (Nat.le_refl _);exact⟨w',h1,h2,⟨h3.os,h3.tape,h3.output,h3.size,fun k hk=>h3.block k hk (by simp)⟩⟩
theorem jnx(s:Spc.Sp)(w:World):Calls Tryz.prog 131 #[Spc.val s] w fun e w'=>∃A c,e= .returned (.slice A 12 c)/\OwnI w' w.heap.size (.slice A 12 c) (Spc.flds s)/\Below w.heap.size w w':=by
 have hb:=(Below.refl w.heap.size w).alloc (Nat.le_refl _) (.cells (Spc.cells s) 33);have A1:=zh (jae (heap_alloc_new w (.cells (Spc.cells s) 33)));have B1:=zh hb;have hz:w.heap.size<(w.alloc (.cells (Spc.cells s) 33)).heap.size:=by simp
 have Z1:=zh hz;obtain⟨g,hg⟩:∃g,g=w.heap.size:=⟨_,rfl⟩;obtain⟨gm,hgm⟩:∃gm,gm=(w.alloc (.cells (Spc.cells s) 33)).heap.size:=⟨_,rfl⟩;obtain⟨w2,hr2,ho2,hb2⟩:=mk12 (w.alloc (.cells (Spc.cells s) 33));have CN:Hid (∀g W,Calls Tryz.prog 104 #[.pointer (some ⟨g,0,none⟩)] W fun e w'=>e= .returned (.agg (ptrs g))/\Below W.heap.size W w'):=jd9;rw[<-hgm]at hr2 ho2 hb2 Z1;rw[<-hg]at A1 Z1;have O2:=zh ho2;have B2:=zh hb2;have GM:=zh hgm;have G:=zh hg;clear hb hz ho2 hb2 hgm hg;unfold Spc.val;go_in;go_wp2_with fail;clear hr2;rw[<-G.out];generalize w.alloc (.cells (Spc.cells s) 33)=w1 at*;refine(CN.out g w2).mono ?_;rintro e w3 ⟨rfl,hb3⟩;have hs2:gm<=w2.heap.size:=by rw[GM.out];exact B2.out.size
 have O3:=zh (O2.out.below hb3);have B3:=zh (B2.out.trans (hb3.mono hs2));clear hb3 hs2 O2 B2 CN;go_wp2_with fail;go_loopw [3,8] (fun v i wr=>∃(j:Nat) (l:List Int),j<=12/\i= .int .i64 (j:Nat)/\l=(Spc.flds s).take j/\OwnI wr gm v l/\Below gm w1 wr) (fun _ i _=>12 -(intOf i).toNat)
 case atStart=>exact⟨0,[],zv,rfl,rfl,O3.out,B3.out⟩
 case round=>
  obtain⟨j,l,hj,rfl,hl,ho,hbr⟩:=hrel;have O:=zh ho;have B:=zh hbr;have HL:=zh hl;have AX:=zh (A1.out.below (w':=wr) (by rw[<-GM.out];exact Z1.out) (by rw[<-GM.out];exact B.out));have hll:l.length<=12:=by rw[hl,List.length_take];have:=Spc.flds_length s;omega
  have hbase:gm<=wr.heap.size:=by rw[GM.out];exact hbr.size
  clear ho hbr hl;by_cases hlt:j<12
  ·have hpj:=fun W=>jie g j hlt W
   have hcj:=sp_at AX.out hlt;have HN:Hid (∀x,x=(Spc.flds s).getD j 0->l++[x]=(Spc.flds s).take (j+1)):=fun x hx=>by
    have:j<(Spc.flds s).length:=hlt;rw[List.take_succ_eq_append_getElem this,HL.out,hx,jal this]
   obtain⟨x,hx⟩:∃x,x=(Spc.flds s).getD j 0:=⟨_,rfl⟩;rw[<-hx]at hcj;have HX:=zh hx;have i1:(0:Int)<=(j:Int):=by omega
   have i2:(j:Int)<12:=by omega
   clear hx;go_wp2_with(at_builtin;refine jaq rfl (.tmp 11) (.tmp 15) rfl gm _ l rfl O.out _ rfl zv hbase ?_;intro v3 w4 ho4 hg4;have O4:=zh ho4;have B4:=zh (B.out.grown hg4 hbase (jaz O.out));clear ho4 hg4);exact⟨⟨j+1,l++[x],zv,by go_num,HN.out x HX.out,O4.out,B4.out⟩,by simp[intOf];omega⟩
  ·obtain rfl:j=12:=by omega
   have E:Hid (l=Spc.flds s):=by show _=_;rw[HL.out];exact List.take_of_length_le (Nat.le_refl _)
   go_wp2;go_ret;obtain⟨A',c',ev,_⟩:=O.out.sl;rw[E.out]at ev;have ho:=O.out;rw[E.out]at ho;exact⟨A',c',by rw[ev];rfl,jch (B:=gm) (by have h:=ho;rw[ev]at h;exact h) (by rw[GM.out];exact B1.out.size),B1.out.trans (B.out.mono (by rw[GM.out];exact B1.out.size))⟩
open Cdc
theorem jny(r:Rc.R)(hin:Rc.In r)(w:World):Calls Tryz.prog 69 #[.agg (Rc.cells r)] w (jrl (Rc.bytesL r) (Rc.bytesE r) w):=by
 have HI:=zh hin;have HSZ:Hid ((Tryz.prog.info? 60).map (·.size)=some (Rc.cells r).size):=jak _;have RA:=zh (RcAt.new w r);have B1:=zh ((Below.refl w.heap.size w).alloc (Nat.le_refl _) (.cells (Rc.cells r) 60));have CR:=zh (fun W=>jfe r hin W);clear hin
 cases hr:Rc.right r with
 |false=>
  rw[hr]at CR;rw[(Rc.bytes_no hr).1,(Rc.bytes_no hr).2];clear hr;go_in;go_upto_region 1 with fail
  obtain⟨g,hg⟩:∃g,g=w.heap.size:=⟨_,rfl⟩;rw[<-hg]at RA⊢;clear hg;generalize w.alloc (.cells (Rc.cells r) 60)=ws at*
  go_wp2_with(first
   |((with_reducible show zL 7);refine wpList_load_row rfl 60 (.tmp 1) rfl g rfl 60 _ (0,0) _ RA.out.row jaf rfl HSZ.out ?_)
   |(go_at_call 60;(with_reducible refine(CR.out _).mono ?_);rintro e w1 ⟨rfl,hb⟩;have B1:=zh (B1.out.trans (hb.mono B1.out.size));clear hb))
  go_ret2;exact⟨none,0,rfl,Sl.none_ _,B1.out⟩
 |true=>
  rw[hr]at CR;have OK:=zh (Rc.ok_of hr);have EB:Hid (Rc.bytes r=fl (Rc.nums r)++((digs r.text.size++sb r.text)++(if r.kind=3 then digs 12++fl (Spc.flds r.sp)else[]))):=rfl;rw[(Rc.bytes_yes hr).1,(Rc.bytes_yes hr).2];clear hr;have SZN:Hid (∀j,j<5->sz ((Rc.nums r).getD j 0)≠0):=fun j hj=>by
   exact zz28
  have CN:=zh (fun g W=>jfo g W);go_in;go_upto_region 1 with fail
  obtain⟨g,hg⟩:∃g,g=w.heap.size:=⟨_,rfl⟩;rw[<-hg]at RA⊢;clear hg;generalize w.alloc (.cells (Rc.cells r) 60)=ws at*
  go_wp2_with(first
   |((with_reducible show zL 7);refine wpList_load_row rfl 60 (.tmp 1) rfl g rfl 60 _ (0,0) _ RA.out.row jaf rfl HSZ.out ?_)
   |(go_at_call 60;(with_reducible refine(CR.out _).mono ?_);rintro e w1 ⟨rfl,hb⟩;have RA:=zh (RA.out.on hb);have B1:=zh (B1.out.trans (hb.mono B1.out.size));clear hb)
   |(go_at_call 54;(with_reducible refine(CN.out _ _).mono ?_);rintro e w2 ⟨rfl,hb⟩;have RA:=zh (RA.out.on hb);have B1:=zh (B1.out.trans (hb.mono B1.out.size));clear hb))
  go_loopw [4,11] (fun b i wr=>∃j:Nat,j<=5/\i= .int .i64 j/\(∃A c,b= .slice A (fl ((Rc.nums r).take j)).length c/\Sl wr A (fl ((Rc.nums r).take j)).length c (fl ((Rc.nums r).take j)))/\Below w2.heap.size w2 wr) (fun _ i _=>5 -(intOf i).toNat)
  case atStart=>exact⟨0,zv,rfl,⟨none,0,rfl,Sl.none_ _⟩,Below.refl _ _⟩
  case round=>
   obtain⟨j,hj,rfl,⟨A,c,rfl,hsl⟩,hbr⟩:=hrel;have SL:=zh hsl;have BR:=zh hbr;clear hsl hbr;by_cases hlt:j<5
   ·have cj:=rc_at (RA.out.on BR.out) hlt
    have hpj:=fun W=>jjv g j hlt W;have LL:Hid ((fl ((Rc.nums r).take j)).length<=1000000):=by
     exact zz2z
    have NX:=zh (jrp (ns:=Rc.nums r) hlt (SZN.out j hlt));have CW:=zh (jnm _ c ((Rc.nums r).getD j 0) A _ wr SL.out LL.out);rw[(jdw (SZN.out j hlt)).1,(jdw (l:=[]) (SZN.out j hlt)).2,<-NX.out]at CW;generalize(Rc.nums r).getD j 0=x at*;generalize fl ((Rc.nums r).take j)=lj at*;obtain⟨lk,hlk⟩:∃lk,lk=fl ((Rc.nums r).take (j+1)):=⟨_,rfl⟩;rw[<-hlk]at CW;have HLK:=zh hlk;clear hlk NX;go_wp2_with(go_at_call 128;(with_reducible refine CW.out.mono ?_);rintro e w3 ⟨A3,c3,rfl,hs3,hb3,_⟩;have S3:=zh hs3;have B3:=zh (BR.out.trans (hb3.mono BR.out.size));clear hs3 hb3);exact zz25
   ·have ej:j=5:=by omega
    subst ej;rw[show(Rc.nums r).take 5=Rc.nums r from rfl]at SL⊢;have LL:Hid ((fl (Rc.nums r)).length<=45):=by
     exact zz2q
    have B2:=zh (B1.out.trans (BR.out.mono B1.out.size));have RA:=zh (RA.out.on BR.out);have TL:Hid (jgu (fl (Rc.nums r)) r.text=(fl (Rc.nums r)++digs r.text.size++sb r.text)/\jgv r.text=0):=by
     exact zz30
    have CT:=zh (jt9 _ c r.text A _ wr SL.out (by have:=LL.out;omega));rw[TL.out.1,TL.out.2]at CT;have L2:Hid ((fl (Rc.nums r)++digs r.text.size++sb r.text).length<=1000000):=by
     exact zz1f
    rw[<-List.append_assoc,<-List.append_assoc]at EB;generalize fl (Rc.nums r)=l1 at*;generalize l1++digs r.text.size++sb r.text=l2 at*;obtain⟨c0,c1,c2,c3,c4,c5,c6,c7,c8,c9,c10,c11,c12,c13,c14,c15,c16,c17,clt⟩:=RA.out.cs;by_cases hk:r.kind=3
    ·have hke:(r.kind==3)=true:=by rw[beq_iff_eq];exact hk
     rw[if_pos hk]at EB;have LA:Hid (jd4 l2 (Spc.flds r.sp)=l2++digs 12++fl (Spc.flds r.sp)/\jd5 (Spc.flds r.sp)=0):=by
      exact zz1v
     have CF:=zh (fun W=>jnx r.sp W);unfold Spc.val Spc.cells at CF;rw[<-List.append_assoc]at EB;clear hk
     go_wp2_with(first
      |(go_at_call 129;(with_reducible refine CT.out.mono ?_);rintro e w4 ⟨A4,k4,rfl,hs4,hb4,_⟩;have S4:=zh hs4;have B4:=zh (B2.out.trans (hb4.mono B2.out.size));have RA:=zh (RA.out.on hb4);clear hs4 hb4 c0 c1 c2 c3 c4 c5 c6 c7 c8 c9 c10 c11 c12 c13 c14 c15 c16 c17 clt;obtain⟨c0,c1,c2,c3,c4,c5,c6,c7,c8,c9,c10,c11,c12,c13,c14,c15,c16,c17,clt⟩:=RA.out.cs)
      |(go_at_call 131;(with_reducible refine(CF.out _).mono ?_);rintro e w5 ⟨A5,k5,rfl,hs5,hb5⟩;have S5:=zh hs5;have S4:=zh (S4.out.on hb5);have B5:=zh (B4.out.trans (hb5.mono B4.out.size));clear hs5 hb5)
      |(go_at_call 130;(with_reducible refine(juc _ k4 _ _ A4 _ l2 (Spc.flds r.sp) _ S4.out L2.out (jro S5.out)).mono ?_);rintro e w6 ⟨A6,k6,rfl,hs6,hb6,_⟩;have S6:=zh hs6;have B6:=zh (B5.out.trans (hb6.mono B5.out.size));clear hs6 hb6))
     exact zz20
    ·have hke:(r.kind==3)=false:=by rw[beq_eq_false_iff_ne];exact hk
     rw[if_neg hk,List.append_nil]at EB;clear hk;go_wp2_with(go_at_call 129;(with_reducible refine CT.out.mono ?_);rintro e w4 ⟨A4,k4,rfl,hs4,hb4,_⟩;have S4:=zh hs4;have B4:=zh (B2.out.trans (hb4.mono B2.out.size));have RA:=zh (RA.out.on hb4);clear hs4 hb4 c0 c1 c2 c3 c4 c5 c6 c7 c8 c9 c10 c11 c12 c13 c14 c15 c16 c17 clt;obtain⟨c0,c1,c2,c3,c4,c5,c6,c7,c8,c9,c10,c11,c12,c13,c14,c15,c16,c17,clt⟩:=RA.out.cs);go_ret2;rw[EB.out];exact⟨A4,k4,rfl,S4.out,B4.out⟩
end Go.Proofs.YtpehidgjfcfjoaaGreatDoor
namespace Go.Proofs.YtpehidgjfcfjoaaGreatDoor
open Go.RowKit Go.Deep Go.Maps
structure StR(w0:World)(G:Nat->Prop)(p:Nat)(m:Int)(d:Dk.St)(r q:Nat)(X:Nat->Prop)(b:Nat)(s:Bk.St)(g:Nat)(rc:Rc.R)(W:World):Prop where
 st:StJ w0 G p m d (.pointer (some ⟨b,0,none⟩)) r q X W
 bk:BP w0 (StF G p X) b s W
 rc:RcAt W g rc
 bt:BT W
section
variable{w0 W W':World}{G X:Nat->Prop}{p r q b g:Nat}{m:Int}{d:Dk.St}{s:Bk.St}{rc:Rc.R}
theorem StR.on(h:StR w0 G p m d r q X b s g rc W)(hb:Below W.heap.size W W'):StR w0 G p m d r q X b s g rc W':=⟨h.st.on hb,jb6 h.bk hb,h.rc.on hb,h.bt.on hb⟩
theorem StR.open_(h:StJ w0 G p m d (.pointer (some ⟨b,0,none⟩)) r q X W)(hb:BP w0 (StF G p X) b s W)(ht:BT W)(rc:Rc.R):StR w0 G p m d r q X b s W.heap.size rc (W.alloc (.cells (Rc.cells rc) 60)):=by
 have ha:Below W.heap.size W (W.alloc (.cells (Rc.cells rc) 60)):=(Below.refl _ _).alloc (Nat.le_refl _) _;exact⟨h.on ha,jb6 hb ha,RcAt.new W rc,ht.on ha⟩
end
theorem jjw{w0 W:World}{G X:Nat->Prop}{p r q b:Nat}{m:Int}{d:Dk.St}{s:Bk.St}(h:StJ w0 G p m d (.pointer (some ⟨b,0,none⟩)) r q X W)(hb:BP w0 (StF G p X) b s W)(ht:BT W)(rc:Rc.R)(hr:Rc.In rc):
  Calls Tryz.prog 33 #[.pointer (some ⟨p,0,none⟩),.agg (Rc.cells rc)] W (fun e w'=>∃A n c,e= .returned (.tuple #[.slice A n c,.int .i64 (Bk.chk s rc)])/\(Bk.chk s rc=0->Sl w' A n c (Rc.bytes rc))/\Below W.heap.size W w'):=by
 obtain⟨ans,hans⟩:∃ans,ans=Bk.chk s rc:=⟨_,rfl⟩;rw[<-hans];have AN:=zh hans;have HR:=zh hr;have CC:Hid (∀W',StR w0 G p m d r q X b s W.heap.size rc W'->Calls Tryz.prog 62 #[.pointer (some ⟨b,0,none⟩),.agg (Rc.cells rc)] W' (BRet (.int .i64 ans) W')):=fun W' hx=>by rw[hans];exact jup hx.bk hx.bt hr
 have BY:Hid (ans=0->Rc.bytesL rc=Rc.bytes rc/\Rc.bytesE rc=0):=fun h0=>Rc.bytes_yes (Bk.chk_right (hans.symm.trans h0));have CB:=zh (fun W'=>jny rc hr W');obtain⟨W1,hW1⟩:∃W1,W1=W.alloc (.cells (Rc.cells rc) 60):=⟨_,rfl⟩;obtain⟨g,hg⟩:∃g,g=W.heap.size:=⟨_,rfl⟩;have R0:=zh (StR.open_ h hb ht rc);rw[<-hW1,<-hg]at R0;rw[<-hg]at CC;have B1:Hid (Below W.heap.size W W1):=by rw[hW1];exact(Below.refl _ _).alloc (Nat.le_refl _) _
 clear h hb ht hans hr;go_in;go_upto_region 1 with fail
 rw[<-hW1,<-hg];clear hW1 hg;go_upto_region 3 with fail
 refine wp_region_held_drew (S:=StR w0 G p m d r q X b s g rc) zk (R0.out.on (Below.refl _ _).drew) (fun hS=> ?_);refine tY 0 hS ?_;refine tY 1 hS ?_;refine tY 2 hS ?_;refine tZ 3 rfl (by intro W hW;have lq:=hW.st.lt;have c2:=hW.st.cells.2.2.2.1;go_simp;(try with_reducible rfl)) hS ?_;refine tZ 4 (v:= .agg (Rc.cells rc)) rfl (fun W hW=>jau (.tmp 3) rfl g rc rfl hW.rc) hS ?_;simp only[Act.put,zT,zO,zS];refine rO 5 (fun K hK=> ?_);go_simp
 with_reducible refine(CC.out _ hS).mono ?_
 rintro e w8 ⟨rfl,hb⟩;have B8:=zh (B1.out.trans ((Below.refl _ _).drew.trans hb|>.mono B1.out.size));replace hS:=hS.on hb;clear hb;refine hK.out _ _ hS (fun _=> ?_);clear hK K;refine tY 6 hS ?_;simp only[Act.put,zT,zO,zS];refine wpAnyH_done zk ?_ _;have R9:=zh hS;clear hS;by_cases h0:ans=0
 ·have HY:=zh (BY.out h0)
  subst h0
  go_wp2_with(first
   |((with_reducible show zL 18);refine zR (.tmp 3) R9.out.rc ?_)
   |(go_at_call 69;(with_reducible refine(CB.out _).mono ?_);rintro e w10 ⟨A,c,rfl,hs,hb⟩;rw[HY.out.1]at hs⊢;rw[HY.out.2];have S10:=zh hs;have B10:=zh hb;clear hs hb))
  go_ret2;exact⟨_,_,_,rfl,by first|exact S10.out|exact fun _=>S10.out,B8.out.trans (B10.out.mono B8.out.size)⟩
 ·have h1:(ans !=0)=true:=by simpa using h0
  go_wp2;go_ret2;exact⟨_,_,_,rfl,by first|exact fun hx=>absurd hx h0|simp[h0],B8.out⟩
end Go.Proofs.YtpehidgjfcfjoaaGreatDoor
namespace Go.Proofs.YtpehidgjfcfjoaaGreatDoor
open Go.RowKit
def mkS(l:List Int):Spc.Sp:=if l.length=12 then Spc.of l else Spc.zero
def mkE(l:List Int):Int:=if l.length=12 then 0 else 1
structure jg1(w:World)(gs gr:Nat)(o:Spc.Sp)(wx:World):Prop where
 at_:wx.heap[gs]? =some (.cells (Spc.cells o) 33 (0,0))
 res:wx.heap[gr]? =some (.cells (Spc.cells Spc.zero) 33 (0,0))
 below:Below w.heap.size w wx
 ne:gs≠gr
 lo:w.heap.size<=gs
 lor:w.heap.size<=gr
theorem jg1.start(w:World):jg1 w (w.heap.size+1) w.heap.size Spc.zero ((w.alloc (.cells (Spc.cells Spc.zero) 33)).alloc (.cells (Spc.cells Spc.zero) 33)):=by
 have h1:=heap_alloc_new w (.cells (Spc.cells Spc.zero) 33);have hb1:=(Below.refl w.heap.size w).alloc (Nat.le_refl _) (.cells (Spc.cells Spc.zero) 33);have hz:(w.alloc (.cells (Spc.cells Spc.zero) 33)).heap.size=w.heap.size+1:=by simp
 generalize w.alloc (.cells (Spc.cells Spc.zero) 33)=w1 at*;have h2:=heap_alloc_new w1 (.cells (Spc.cells Spc.zero) 33);have hb2:=(Below.refl w1.heap.size w1).alloc (Nat.le_refl _) (.cells (Spc.cells Spc.zero) 33);rw[hz]at h2;exact⟨h2,(hb2.block w.heap.size zv).trans h1,hb1.trans (hb2.mono zv),zv,zv,Nat.le_refl _⟩
theorem jg1.on{w wx w':World}{gs gr:Nat}{o:Spc.Sp}(h:jg1 w gs gr o wx)(hb:Below wx.heap.size wx w'):jg1 w gs gr o w':=
 ⟨(hb.block gs (Array.getElem?_eq_some_iff.1 h.at_).1).trans h.at_,(hb.block gr (Array.getElem?_eq_some_iff.1 h.res).1).trans h.res,h.below.trans (hb.mono h.below.size),h.ne,h.lo,h.lor⟩
theorem jg1.set{w wx:World}{gs gr:Nat}{o:Spc.Sp}(h:jg1 w gs gr o wx)(o':Spc.Sp)(k:Nat)(v:Int)(he:(Spc.cells o).setIfInBounds k (.int .i64 v)=Spc.cells o'):jg1 w gs gr o' (wx.setCell ⟨gs,k,none⟩ (.int .i64 v)):=by
 refine⟨?_,?_,h.below.setCell h.lo _,h.ne,h.lo,h.lor⟩
 ·rw[<-he];exact heap_setCell_same wx gs k _ _ _ h.at_
 ·exact((jad wx gs k _).block gr (Array.getElem?_eq_some_iff.1 h.res).1 (by simp;exact fun e=>h.ne e.symm)).trans h.res
theorem jrr{l:List Int}(hl:l.length=12){j:Nat}(hj:j<12):(Spc.cells (Spc.of (l.take j))).setIfInBounds j (.int .i64 (l.getD j 0))=Spc.cells (Spc.of (l.take (j+1))):=by
 obtain⟨l0,l1,l2,l3,l4,l5,l6,l7,l8,l9,l10,l11,rfl⟩:=twelve hl;rcases j with _|_|_|_|_|_|_|_|_|_|_|_|j<;>first|rfl|omega
theorem jli{l:List Int}(hl:l.length=12):Spc.of (l.take 12)=Spc.of l:=by rw[List.take_of_length_le zv]
theorem jut(l:List Int)(A:Option Addr)(n c:Nat)(w:World)(h:SlI w A n c l)(hn:n<=1000):Calls Tryz.prog 57 #[.slice A n c] w (APos w (.tuple #[Spc.val (mkS l),.int .i64 (mkE l)])):=by
 have hlen:=h.len;by_cases h12:l.length=12
 ·have HV:Hid (Spc.val (mkS l)=Spc.val (Spc.of l)/\mkE l=0):=by
   unfold mkS mkE;show _/\_;rw[if_pos h12,if_pos h12];exact⟨rfl,rfl⟩
  obtain⟨b,off,rfl,hbl,hc⟩:=h.rd zv;have hcap:=h.cap;have hmax:=h.max;unfold maxLen at hmax;have H12:=zh h12;have HC:Hid (∀W,Below w.heap.size w W->∀j,j<12->W.cell? ⟨b,off+j,none⟩=some (.int .i64 (l.getD j 0))):=fun W hW j hj=>(hW.cell (p:=⟨b,off+j,none⟩) hbl).trans (hc j zv);obtain rfl:n=12:=by omega
  have CN:Hid (∀g W,Calls Tryz.prog 104 #[.pointer (some ⟨g,0,none⟩)] W fun e w'=>e= .returned (.agg (ptrs g))/\Below W.heap.size W w'):=jd9;rw[HV.out.2];clear h hc hbl hlen h12 hn;have P1:Hid (jg1 w (w.heap.size+1) w.heap.size Spc.zero ((w.alloc (.cells #[.int .i64 0,.int .i64 0,.int .i64 0,.int .i64 0,.int .i64 0,.int .i64 0,.int .i64 0,.int .i64 0,.int .i64 0,.int .i64 0,.int .i64 0,.int .i64 0] 33)).alloc (.cells #[.int .i64 0,.int .i64 0,.int .i64 0,.int .i64 0,.int .i64 0,.int .i64 0,.int .i64 0,.int .i64 0,.int .i64 0,.int .i64 0,.int .i64 0,.int .i64 0] 33))):=jg1.start w;obtain⟨gr,hgr⟩:∃gr,gr=w.heap.size:=⟨_,rfl⟩;obtain⟨gs,hgs⟩:∃gs,gs=w.heap.size+1:=⟨_,rfl⟩;rw[<-hgs,<-hgr]at P1;have GR:=zh hgr;have GS:=zh hgs;clear hgr hgs;go_in;go_wp2_with fail;rw[<-GS.out,<-GR.out];generalize(w.alloc (.cells #[.int .i64 0,.int .i64 0,.int .i64 0,.int .i64 0,.int .i64 0,.int .i64 0,.int .i64 0,.int .i64 0,.int .i64 0,.int .i64 0,.int .i64 0,.int .i64 0] 33)).alloc (.cells #[.int .i64 0,.int .i64 0,.int .i64 0,.int .i64 0,.int .i64 0,.int .i64 0,.int .i64 0,.int .i64 0,.int .i64 0,.int .i64 0,.int .i64 0,.int .i64 0] 33)=w1 at*;refine(CN.out gs w1).mono ?_;rintro e w2 ⟨rfl,hb2⟩;have P2:=zh (P1.out.on hb2);clear hb2 P1 CN GR GS;go_wp2_with fail;go_loopw [12] (fun i wr=>∃(j:Nat),j<=12/\i= .int .i64 (j:Nat)/\jg1 w gs gr (Spc.of (l.take j)) wr) (fun i _=>12 -(intOf i).toNat)
  case atStart=>exact⟨0,zv,rfl,P2.out⟩
  case round=>
   obtain⟨j,hj,rfl,hp⟩:=hrel;have P:=zh hp;clear hp P2;by_cases hlt:j<12
   ·have hpj:=fun W=>jie gs j hlt W
    have hcj:=HC.out wr P.out.below j hlt;have hcg:=sp_at (jae P.out.at_) hlt;have hfg:wr.frozen? ⟨gs,j,none⟩=false:=frozen_of_row wr gs _ _ _ P.out.at_;have PX:=zh (P.out.set _ j _ (jrr H12.out hlt));obtain⟨x,hx⟩:∃x,x=l.getD j 0:=⟨_,rfl⟩;rw[<-hx]at hcj PX;have i1:(0:Int)<=(j:Int):=by omega
    have i2:(j:Int)<12:=by omega
    clear hx;go_wp2_with fail;exact⟨⟨j+1,zv,by go_num,PX.out⟩,by simp[intOf];omega⟩
   ·obtain rfl:j=12:=by omega
    have hp:=P.out;rw[jli H12.out]at hp;obtain⟨o,ho⟩:∃o,o=Spc.of l:=⟨_,rfl⟩;rw[<-ho]at hp HV;have PE:=zh hp;clear hp P ho;obtain⟨f0,f1,f2,f3,f4,f5,f6,f7,f8,f9,f10,f11⟩:=jae PE.out.at_;obtain⟨q0,q1,q2,q3,q4,q5,q6,q7,q8,q9,q10,q11⟩:=jae (s:=Spc.zero) PE.out.res;obtain⟨y0,y1,y2,y3,y4,y5,y6,y7,y8,y9,y10,y11⟩:=ja8 PE.out.res;simp only[Spc.zero]at q0 q1 q2 q3 q4 q5 q6 q7 q8 q9 q10 q11;have hP:=je5 (s:=o) (r:=Spc.zero) PE.out.res;have hG:=jce gr (Spc.cells o).toList 0 wr;obtain⟨W9,hW⟩:∃W9,W9=puts wr gr 0 (Spc.cells o).toList:=⟨_,rfl⟩;rw[<-hW]at hP hG;have hB:=PE.out.below.grown hG PE.out.below.size (fun i hi=>by injection hi with hi;have:=PE.out.lor;omega)
    have key:((((((((((((wr.setCell ⟨gr,0,none⟩ (.int .i64 o.v)).setCell ⟨gr,1,none⟩ (.int .i64 o.d)).setCell ⟨gr,2,none⟩ (.int .i64 o.u)).setCell ⟨gr,3,none⟩ (.int .i64 o.n)).setCell ⟨gr,4,none⟩ (.int .i64 o.g)).setCell ⟨gr,5,none⟩ (.int .i64 o.a)).setCell ⟨gr,6,none⟩ (.int .i64 o.b)).setCell ⟨gr,7,none⟩ (.int .i64 o.c)).setCell ⟨gr,8,none⟩ (.int .i64 o.e)).setCell ⟨gr,9,none⟩ (.int .i64 o.w)).setCell ⟨gr,10,none⟩ (.int .i64 o.x)).setCell ⟨gr,11,none⟩ (.int .i64 o.k))=W9:=by rw[hW];rfl
    have KEY:=zh key;have HP:=zh hP;have HB:=zh hB;clear hP hG hW hB key PE;go_wp2_with fail;rw[KEY.out];clear f0 f1 f2 f3 f4 f5 f6 f7 f8 f9 f10 f11 q0 q1 q2 q3 q4 q5 q6 q7 q8 q9 q10 q11 y0 y1 y2 y3 y4 y5 y6 y7 y8 y9 y10 y11 KEY;obtain⟨f0,f1,f2,f3,f4,f5,f6,f7,f8,f9,f10,f11⟩:=jae (s:=o) HP.out;exact bodyPost_ret (v:= .tuple #[.agg #[.int .i64 o.v,.int .i64 o.d,.int .i64 o.u,.int .i64 o.n,.int .i64 o.g,.int .i64 o.a,.int .i64 o.b,.int .i64 o.c,.int .i64 o.e,.int .i64 o.w,.int .i64 o.x,.int .i64 o.k],.int .i64 0]) (by simp[results,Tryz.results57,go_sem,f0,f1,f2,f3,f4,f5,f6,f7,f8,f9,f10,f11]) rfl ⟨by rw[HV.out.1];rfl,HB.out⟩
 ·have HV:Hid (Spc.val (mkS l)= .agg #[.int .i64 0,.int .i64 0,.int .i64 0,.int .i64 0,.int .i64 0,.int .i64 0,.int .i64 0,.int .i64 0,.int .i64 0,.int .i64 0,.int .i64 0,.int .i64 0]/\mkE l=1):=by
   unfold mkS mkE;show _/\_;rw[if_neg h12,if_neg h12];exact⟨rfl,rfl⟩
  have hn12:¬(n:Int)=12:=by omega
  have hcap:=h.cap;have hmax:=h.max;unfold maxLen at hmax;have HB:=zh ((Below.refl w.heap.size w).alloc (Nat.le_refl _) (.cells #[.int .i64 0,.int .i64 0,.int .i64 0,.int .i64 0,.int .i64 0,.int .i64 0,.int .i64 0,.int .i64 0,.int .i64 0,.int .i64 0,.int .i64 0,.int .i64 0] 33));rw[HV.out.1,HV.out.2];clear h hlen h12 HV;go_in;go_wp2_with fail;exact bodyPost_ret (v:= .tuple #[.agg #[.int .i64 0,.int .i64 0,.int .i64 0,.int .i64 0,.int .i64 0,.int .i64 0,.int .i64 0,.int .i64 0,.int .i64 0,.int .i64 0,.int .i64 0,.int .i64 0],.int .i64 1]) (by simp[results,Tryz.results57,go_sem]) rfl ⟨rfl,HB.out⟩
open Cdc
namespace Rc
theorem numsV_small(s:St):∀k,∀x∈numsV s k,x<4611686018427387904
 |0,x,h=>by cases h
 |k+1,x,h=>by
  rcases List.mem_append.1 (show x∈numsV s k++[numV (numsAt s k)]from h)with h|h
  ·exact numsV_small s k x h
  ·rw[List.mem_singleton]at h;subst h;exact numV_lt _
theorem nI_i64{l:List Nat}(h:∀x∈l,x<4611686018427387904):∀x∈nI l,Spc.i64 x:=by
 intro x hx;unfold nI at hx;obtain⟨y,hy,rfl⟩:=List.mem_map.1 hx;have:=h y hy;unfold Spc.i64;omega
theorem getD_i64{l:List Int}(h:∀x∈l,Spc.i64 x)(j:Nat):Spc.i64 (l.getD j 0):=by
 by_cases hj:j<l.length
 ·rw[jal hj];exact h _ (List.getElem_mem _)
 ·have:l.getD j 0=0:=by simp[List.getD,List.getElem?_eq_none (show l.length<=j by omega)]
  rw[this];unfold Spc.i64;omega
theorem listV_small(s:St):∀x∈listV s,x<4611686018427387904:=by
 intro x hx;unfold listV at hx;split at hx
 ·exact numsV_small _ _ x hx
 ·cases hx
theorem of_in{l:List Int}(h:∀x∈l,Spc.i64 x):Spc.In (Spc.of l):=by
 intro n hn;have k:=getD_i64 h;simp only[Spc.flds,Spc.of,List.mem_cons,List.not_mem_nil,or_false]at hn;rcases hn with rfl|rfl|rfl|rfl|rfl|rfl|rfl|rfl|rfl|rfl|rfl|rfl<;>exact k _
theorem zero_in:Spc.In Spc.zero:=by
 intro x hx;simp[Spc.flds,Spc.zero]at hx;unfold Spc.i64;omega
theorem textV_len(s:St):(textV s).length<=64:=by
 unfold textV tkV;split
 ·split
  ·rw[List.length_take];have:=cntV_le s;omega
  ·simp
 ·simp
theorem dec_in(l:List Nat):In (dec l):=by
 have hv:=nI_i64 (numsV_small ⟨l,0⟩ 5);have k:=getD_i64 hv;refine⟨?_,?_,?_⟩
 ·intro x hx
  simp only[nums,dec,List.mem_cons,List.not_mem_nil,or_false]at hx;rcases hx with rfl|rfl|rfl|rfl|rfl<;>exact k _
 ·show(txt (textV (k1 l))).size<=_
  rw[jbl];have:=textV_len (k1 l);unfold maxLen;omega
 ·show Spc.In (s3 l)
  unfold s3;split
  ·split
   ·exact of_in (nI_i64 (listV_small _))
   ·exact zero_in
  ·exact zero_in
theorem whole_end{l:List Nat}(h:whole l):endE (k3 l)=0:=by
 have:=(dec_bytes h.1).2;rw[h.2]at this;rw[this];rfl
end Rc
theorem jrs(s:St):(Cdc.text s).l.length<=s.l.length:=by
 unfold Cdc.text tk;split
 ·split
  ·rw[List.length_drop];have:=jk5 s;show _ -_<=_;omega
  ·simp[lost]
 ·exact jk5 s
namespace Rc
abbrev By(s:St):Prop:=∀x∈s.l,x<256
theorem num_only{s:St}(hb:By s)(h:(num s).e=0):s.e=0/\s.l=digs (numV s)++(num s).l/\By (num s):=by
 unfold num at h⊢;unfold numV;by_cases he:s.e=0
 ·rw[if_pos he]at h⊢
  rw[if_pos he];by_cases hd:dk s.l=0
  ·rw[if_pos hd]at h;cases h
  ·rw[if_neg hd,digs_dn hb hd]
   exact⟨he,(List.take_append_drop _ _).symm,fun x hx=>hb x (List.mem_of_mem_drop hx)⟩
 ·rw[if_neg he]at h;exact absurd h he
theorem nums_only{s:St}(hb:By s):∀k,(numsAt s k).e=0->s.e=0/\s.l=(numsV s k).flatMap digs++(numsAt s k).l/\By (numsAt s k)
 |0,h=>⟨h,rfl,hb⟩
 |k+1,h=>by
  have hx:(num (numsAt s k)).e=0:=h;have hk:(numsAt s k).e=0:=by
   by_cases hk:(numsAt s k).e=0
   ·exact hk
   ·rw[num_err hk]at hx;exact hx
  obtain⟨h1,h2,h3⟩:=nums_only hb k hk;obtain⟨h4,h5,h6⟩:=num_only h3 hx;refine⟨h1,?_,h6⟩;show s.l=(numsV s k++[numV (numsAt s k)]).flatMap digs++(num (numsAt s k)).l;rw[List.flatMap_append,List.append_assoc,List.flatMap_cons,List.flatMap_nil,List.append_nil,<-h5];exact h2
theorem cnt_only{s:St}(hb:By s)(h:(cnt s).e=0):s.e=0/\s.l=digs (cntV s)++(cnt s).l/\By (cnt s):=by
 unfold cnt at h⊢;unfold cntV;by_cases hc:numV s<=64
 ·rw[if_pos hc]at h⊢
  rw[if_pos hc];exact num_only hb h
 ·rw[if_neg hc]at h;cases h
theorem tk_only{s:St}(hb:By s){n:Nat}(h:(tk s n).e=0):s.e=0/\s.l=tkV s n++(tk s n).l/\(tkV s n).length=n/\By (tk s n):=by
 unfold tk at h⊢;unfold tkV;by_cases he:s.e=0
 ·rw[if_pos he]at h⊢
  rw[if_pos he];by_cases hn:n<=s.l.length
  ·rw[if_pos hn,if_pos hn]
   exact⟨he,(List.take_append_drop _ _).symm,by rw[List.length_take];omega,fun x hx=>hb x (List.mem_of_mem_drop hx)⟩
  ·rw[if_neg hn]at h;cases h
 ·rw[if_neg he]at h;exact absurd h he
theorem text_only{s:St}(hb:By s)(h:(Cdc.text s).e=0):s.e=0/\s.l=digs (textV s).length++(textV s++(Cdc.text s).l)/\By (Cdc.text s):=by
 by_cases hc:(cnt s).e=0
 ·obtain⟨h1,h2,h3⟩:=cnt_only hb hc
  obtain⟨h4,h5,h6,h7⟩:=tk_only (n:=cntV s) h3 h;refine⟨h1,?_,h7⟩;show s.l=digs (tkV (cnt s) (cntV s)).length++(tkV (cnt s) (cntV s)++(tk (cnt s) (cntV s)).l);rw[h6,<-h5];exact h2
 ·have:(tk (cnt s) (cntV s)).e=0:=h
  unfold tk at this;rw[if_neg hc]at this;exact absurd this hc
theorem list_only{s:St}(hb:By s)(h:(Cdc.list s).e=0):s.e=0/\s.l=digs (listV s).length++((listV s).flatMap digs++(Cdc.list s).l):=by
 obtain⟨h4,h5,h6⟩:(cnt s).e=0/\(By (cnt s)->(cnt s).l=(numsV (cnt s) (cntV s)).flatMap digs++(numsAt (cnt s) (cntV s)).l)/\True:=by
  by_cases hc:(cnt s).e=0
  ·exact⟨hc,fun h3=>(nums_only h3 (cntV s) h).2.1,trivial⟩
  ·have h0:(numsAt (cnt s) 0).e≠0:=hc
   have:=numsAt_err h0 (cntV s);rw[Nat.zero_add]at this;have hx:(numsAt (cnt s) (cntV s)).e=0:=h;rw[this]at hx;exact absurd hx hc
 obtain⟨h1,h2,h3⟩:=cnt_only hb h4;refine⟨h1,?_⟩;have e1:listV s=numsV (cnt s) (cntV s):=by unfold listV;rw[if_pos h]
 rw[e1,numsV_length];show s.l=digs (cntV s)++((numsV (cnt s) (cntV s)).flatMap digs++(numsAt (cnt s) (cntV s)).l);rw[<-h5 h3];exact h2
theorem fl_nI(l:List Nat):fl (nI l)=l.flatMap digs:=by
 rw[jqj];unfold nI;rw[List.map_map]
 congr 1
 induction l with
 |nil=>rfl
 |cons x t ih=>rw[List.map_cons,ih];rfl
theorem sb_txt{l:List Nat}(h:∀x∈l,x<256):sb (txt l)=l:=by
 have:txt (sb (txt l))=txt l:=joc _;have h2:=txt_eq (jhw (txt l)) h;rw[this]at h2;have h3:((txt l).toList==(txt l).toList)=true:=by simp
 rw[h3]at h2;exact of_decide_eq_true h2.symm
theorem five{l:List Int}(h:l.length=5):[l.getD 0 0,l.getD 1 0,l.getD 2 0,l.getD 3 0,l.getD 4 0]=l:=by
 match l,h with
 |[a,b,c,d,e],_=>rfl
theorem whole_of{l:List Nat}(hb:∀x∈l,x<256)(he:endE (k3 l)=0)(hr:right (dec l)=true):whole l:=by
 refine⟨hr,?_⟩;have h3:(k3 l).e=0/\(k3 l).l=[]:=by
  unfold endE at he;split at he
  ·cases he
  ·exact⟨he,List.length_eq_zero_iff.1 zv⟩
 have hv:(nI (numsV ⟨l,0⟩ 5)).length=5:=by rw[jcj,numsV_length]
 have hn:nums (dec l)=v1 l:=five hv;have hkk:(dec l).kind=(v1 l).getD 0 0:=rfl;have key:(k2 l).e=0/\(By (k2 l)->(k2 l).l=(if(dec l).kind=3 then digs 12++fl (Spc.flds (dec l).sp)else[])):=by
  unfold k3 at h3;by_cases hk:(v1 l).getD 0 0=3
  ·rw[if_pos hk]at h3
   have hm:Spc.May (dec l).sp:=(ok_of hr).begin_ (hkk.trans hk);have hl:(listV (k2 l)).length=12:=by
    by_cases hl:(listV (k2 l)).length=12
    ·exact hl
    ·exfalso
     have e0:(dec l).sp=Spc.zero:=by
      show s3 l=_;unfold s3;rw[if_pos hk,if_neg hl]
     rw[e0]at hm;have:=Spc.chk_of hm;revert this;decide
   have es:(dec l).sp=Spc.of (nI (listV (k2 l))):=by
    show s3 l=_;unfold s3;rw[if_pos hk,if_pos hl]
   have he2:(k2 l).e=0:=by
    by_cases h2:(k2 l).e=0
    ·exact h2
    ·exfalso
     have hx:(Cdc.list (k2 l)).e=0:=h3.1;have hc:cnt (k2 l)=k2 l:=by
      unfold cnt;rw[numV_err h2,if_pos zv,num_err h2]
     have h0:(numsAt (cnt (k2 l)) 0).e≠0:=by rw[hc];exact h2
     have:=numsAt_err h0 (cntV (k2 l));rw[Nat.zero_add]at this;have hx2:(numsAt (cnt (k2 l)) (cntV (k2 l))).e=0:=hx;rw[this]at hx2;exact h0 hx2
   refine⟨he2,fun h2=> ?_⟩;have:=(list_only h2 h3.1).2;rw[h3.2,List.append_nil,hl]at this;rw[this,if_pos (hkk.trans hk),es,Spc.flds_of (by rw[jcj];exact hl),fl_nI]
  ·rw[if_neg hk]at h3
   exact⟨h3.1,fun _=>by rw[h3.2,if_neg (fun h=>hk (hkk.symm.trans h))]⟩
 have ht:(Cdc.text (k1 l)).e=0:=key.1;have h1e:(numsAt ⟨l,0⟩ 5).e=0:=by
  by_cases h1:(k1 l).e=0
  ·exact h1
  ·exfalso
   have hc:cnt (k1 l)=k1 l:=by
    unfold cnt;rw[numV_err h1,if_pos zv,num_err h1]
   have hx:(tk (cnt (k1 l)) (cntV (k1 l))).e=0:=ht;rw[hc]at hx;unfold tk at hx;rw[if_neg h1]at hx;exact h1 hx
 obtain⟨_,ha,hb1⟩:=nums_only (s:=⟨l,0⟩) hb 5 h1e;obtain⟨_,hc,hb2⟩:=text_only (s:=k1 l) hb1 ht;have hd:=key.2 hb2;have htv:∀x∈textV (k1 l),x<256:=fun x hx=>hb1 x (by
  rw[show(numsAt ⟨l,0⟩ 5).l=(k1 l).l from rfl,hc];exact List.mem_append_right _ (List.mem_append_left _ hx))
 unfold bytes;rw[<-hd,hn];have e5:(dec l).text=txt (textV (k1 l)):=rfl;rw[e5,jbl,sb_txt htv,List.append_assoc];have e6:(k2 l).l=(Cdc.text (k1 l)).l:=rfl;rw[e6,<-hc];have e7:fl (v1 l)=(numsV ⟨l,0⟩ 5).flatMap digs:=fl_nI _;rw[e7];exact ha.symm
end Rc
abbrev RcRd:Prop:=∀W A n c l,Sl W A n c l->n<=1000->Calls Tryz.prog 27 #[.slice A n c] W (APos W (.tuple #[.agg (Rc.cells (Rc.rdV l)),.int .i64 (Rc.rdE l)]))
end Go.Proofs.YtpehidgjfcfjoaaGreatDoor
