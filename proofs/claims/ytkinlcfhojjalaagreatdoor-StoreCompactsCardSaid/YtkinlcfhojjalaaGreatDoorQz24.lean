import Derived.Lib.ConvBytes
import Derived.Test.YtkinlcfhojjalaaGreatDoorQz23
import Derived.Laws.MakeOwn
set_option maxHeartbeats 6400000
set_option maxRecDepth 100000
set_option linter.all false
namespace Go.Proofs.YtkinlcfhojjalaaGreatDoor
open Go.RowKit Cdc
theorem jvc(s:ByteArray)(w:World)(hs:s.size<=1000000):
  ∃c W',(convert 9 50 (.string s)).run Tryz.prog w= .ok (.slice (some ⟨w.heap.size,0,none⟩) s.size c) W'/\Sl W' (some ⟨w.heap.size,0,none⟩) s.size c (sb s)/\zF w W':=by
 refine⟨_,_,Lib.run_convert_string_bytes w 9 50 5 s Tryz.underlying9 Tryz.underlying50 Tryz.underlying5,⟨⟨jih s,fun _=>⟨w.heap.size,0,rfl,?_,fun j hj=> ?_⟩⟩,(jbd s).symm,grownCap_ge _ _ _ _,grownCap_le_maxLen _ _ _ _ (by unfold maxLen;omega),fun h=>by cases h⟩,rfl,rfl,rfl,?_,fun k hk=>Lib.bytesWorld_at_old _ _ _ _ hk⟩
 ·rw[Lib.bytesWorld_size];omega
 ·rw[jbd]at hj
  rw[Nat.zero_add,Lib.bytesWorld_cell _ _ _ _ hj,jal (by simpa using hj),jal (by rw[jbd];exact hj)];simp[sb]
 ·rw[Lib.bytesWorld_size];omega
def mayB(n:Int):Bool:=decide (sz n≠0)
theorem jlx(n:Int)(w:World):
  Calls Tryz.prog 140 #[.int .i64 n] w fun e w'=>e= .returned (.bool (mayB n))/\w=w':=by
 by_cases h0:n<0
 ·have HB:Hid (mayB n=false):=decide_eq_false (by rw[jtz (.inl h0)];omega)
  go_in;go_wp2;go_ret;exact⟨jcb HB.o.symm,rfl⟩
 ·have h0':0<=n:=by omega
  by_cases h1:4611686018427387903<n
  ·have HB:Hid (mayB n=false):=decide_eq_false (by rw[jtz (.inr h1)];omega)
   have h2:decide (n<=4611686018427387903)=false:=decide_eq_false zv;clear h1;go_in;go_wp2;go_ret;exact⟨jcb HB.o.symm,rfl⟩
  ·have HB:Hid (mayB n=true):=decide_eq_true (by
    unfold sz;rw[if_pos zv];have:=digs_pos n.toNat;omega)
   have h2:decide (n<=4611686018427387903)=true:=decide_eq_true zv;clear h1;go_in;go_wp2;go_ret;exact⟨jcb HB.o.symm,rfl⟩
theorem je5(n:Nat)(w:World)(hn:n<4611686018427387904):
  Calls Tryz.prog 142 #[.int .i64 n] w (jii w.heap.size (digs n) w):=by
 have h9:=digs_nine (n:=n) zv;have HN:=zh hn;clear hn;go_in;go_wp2_with fail;go_loopw [0,3] (fun a v wr=>∃(m:Nat) (l':List Nat),a= .int .i64 m/\(m:Int)<=4611686018427387903/\OwnB wr w.heap.size v l'/\l'++digs m=digs n/\zF w wr) (fun a _ _=>(intOf a).toNat)
 case atStart=>exact⟨n,[],rfl,by have:=HN.o;omega,⟨World.ownsRow_nil _ _ _ _,by simp⟩,rfl,zD⟩
 case round=>
  obtain⟨m,l',rfl,hm,hO,hfull,hb⟩:=hrel;have O:=zh hO;clear hO;have BB:=zh hb;clear hb;have FF:Hid (l'++digs m=[]++digs n):=hfull;clear hfull;have hlen:l'.length<=9:=by have h2:=FF.o;have h3:=congrArg List.length h2;rw[zA,List.nil_append]at h3;omega
  by_cases hlt:128<=m
  ·go_wp2_with(at_builtin;refine jbi rfl (.tmp 6) (.tmp 11) rfl w.heap.size _ l' rfl O.o _ (m%128+128) zv zv rfl zv BB.o.size ?_;intro v1 w1 ho1 hb1;have O1:=zh ho1;have B1:=zh (BB.o.trans hb1);clear ho1 hb1)
   go_roundw
   case rel=>exact⟨m/128,_,by go_num,zv,O1.o,jmi FF.o hlt,B1.o⟩
   case measure=>simp[intOf];omega
  ·go_wp2_with(at_builtin;refine jbi rfl (.tmp 15) (.tmp 18) rfl w.heap.size _ l' rfl O.o _ m zv zv rfl zv BB.o.size ?_;intro v1 w1 ho1 hb1;have O1:=zh ho1;have B1:=zh (BB.o.trans hb1);clear ho1 hb1)
   go_ret;exact⟨v1,rfl,by have:=jmj FF.o zv;rw[List.nil_append]at this;rw[<-this];exact O1.o,B1.o⟩
theorem OwnB.join{w:World}{B n m:Nat}{v:Value}{l l2:List Nat}(h:w.ownsRow B 5 1 v (n+m) (vals l++vals l2))(hn:n=l.length)(hm:m=l2.length)(h1:∀y∈l,y<256)(h2:∀y∈l2,y<256):OwnB w B v (l++l2):=by
 subst hn;subst hm;refine⟨?_,?_⟩
 ·rw[jbj,zA];exact h
 ·intro y hy
  exact(List.mem_append.1 hy).elim (h1 y) (h2 y)
theorem jf8(n c m d:Nat)(A D:Option Addr)(l l2:List Nat)(w:World)(hs:Sl w A n c l)(ht:Sl w D m d l2)(hn:n<=1000000)(hm:m<=1000000):
  Calls Tryz.prog 141 #[.slice A n c,.slice D m d] w (jii w.heap.size (l++l2) w):=by
 obtain⟨i0,hi0,hz0,hz1,hz2⟩:=info_parts jb3;have I0:=zh hi0;clear hi0;have I1:=zh hz0;clear hz0;have I2:=zh hz1;clear hz1;have I3:=zh hz2;clear hz2;have S:=zh hs;clear hs;have T:=zh ht;clear ht;go_in
 go_wp2_with(first
  |(at_builtin;refine jao rfl (.tmp 6) (.tmp 7) _ rfl w.heap.size 5 i0 _ Tryz.underlying50 I0.o I1.o I2.o I3.o rfl (.slice none 0 0) 0 [] rfl (World.ownsRow_nil _ _ _ _) w.heap.size n c A l rfl S.o.rd S.o.len S.o.nil zv zl ?_;intro v1 w1 hown1 hg1;have O1:=zh hown1;have B1:=zh ((Below.refl w.heap.size w).grown hg1 zl (by simp[Value.ownBlock]));clear hown1 hg1)
  |(at_builtin;refine jao rfl (.tmp 9) (.tmp 10) _ rfl w.heap.size 5 i0 _ Tryz.underlying50 I0.o I1.o I2.o I3.o rfl v1 (0+n) ([]++vals l) rfl O1.o w1.heap.size m d D l2 rfl (T.o.rd.on B1.o) T.o.len T.o.nil zv B1.o.size ?_;intro v2 w2 hown2 hg2;have O2:=zh hown2;have G2:=zh hg2;clear hown2 hg2))
 go_ret;have hO:=O2.o;rw[Nat.zero_add,List.nil_append]at hO;exact⟨v2,rfl,OwnB.join hO S.o.len T.o.len S.o.rd.1 T.o.rd.1,B1.o.grown G2.o B1.o.size (ja2 O1.o)⟩
def jr4(l:List Nat)(err:Int)(w:World)(e:Ending)(w':World):Prop:=
 ∃A c,e= .returned (.tuple #[.slice A l.length c,.int .i64 err])/\Sl w' A l.length c l/\zF w w'
theorem jix(n c:Nat)(x:Int)(A:Option Addr)(l:List Nat)(w:World)(hs:Sl w A n c l)(hn:n<=1000000):
  Calls Tryz.prog 83 #[.slice A n c,.int .i64 x] w (jr4 (numL l x) (numE x) w):=by
 have S:=zh hs;clear hs;have M:=zh (jlx x w);by_cases hz:sz x=0
 ·have HM:Hid (mayB x=false):=decide_eq_false zv
  rw[show numL l x=l from by unfold numL;rw[if_pos hz],show numE x=1 from by unfold numE;rw[if_pos hz]];rw[HM.o]at M;clear hz;go_in;go_wp2_with fail
  refine M.o.mono ?_
  rintro e w1 ⟨rfl,rfl⟩;go_wp2;go_ret2;have:=S.o.len;subst this;exact⟨A,c,rfl,S.o,zD⟩
 ·have HM:Hid (mayB x=true):=decide_eq_true hz
  rw[show numL l x=l++digs x.toNat from by unfold numL;rw[if_neg hz],show numE x=0 from by unfold numE;rw[if_neg hz]];rw[HM.o]at M;obtain⟨m,rfl,hm⟩:=jjg hz;rw[Int.toNat_natCast];have HQ:=zh hm;clear hm hz;have h9:=digs_nine (n:=m) (by have:=HQ.o;omega);go_in;go_wp2_with fail
  refine M.o.mono ?_
  rintro e w1 ⟨rfl,rfl⟩;go_wp2_with fail
  refine(je5 m w HQ.o).mono ?_
  rintro e w1 ⟨v1,rfl,ho,hb⟩;obtain⟨A1,c1,rfl,h1⟩:=OwnB.sl ho;have T1:=zh h1;clear h1 ho;have B1:=zh hb;clear hb;go_wp2_with fail
  refine(jf8 n c _ c1 A A1 l _ w1 (S.o.on B1.o) T1.o hn zv).mono ?_
  rintro e w2 ⟨v2,rfl,ho,hb⟩;obtain⟨A2,c2,hv,h2⟩:=OwnB.sl ho;have T2:=zh h2;clear h2 ho;have B2:=zh (B1.o.trans (hb.mono B1.o.size));clear hb;have HV:=zh hv;clear hv;go_wp2;go_ret2;rw[HV.o];exact⟨A2,c2,rfl,T2.o,B2.o⟩
theorem jly(n c:Nat)(s:ByteArray)(A:Option Addr)(l:List Nat)(w:World)(hs:Sl w A n c l)(hn:n<=900000):
  Calls Tryz.prog 84 #[.slice A n c,.string s] w (jr4 (jgh l s) (jgi s) w):=by
 have S:=zh hs;clear hs;by_cases hz:s.size<=64
 ·rw[show jgh l s=l++digs s.size++sb s from by unfold jgh;rw[if_pos hz],show jgi s=0 from by unfold jgi;rw[if_pos hz]]
  have h9:=digs_nine (n:=s.size) zv;have HL:=S.o.len;have H9:Hid ((l++digs s.size).length<=900009):=by show _<=_;rw[zA];omega
  clear HL;obtain⟨q,hq⟩:∃q,q=l++digs s.size:=zx;have Q:=zh hq;clear hq;rw[<-Q.o]at H9⊢;go_in;go_wp2_with fail
  refine(je5 s.size w zv).mono ?_
  rintro e w1 ⟨v1,rfl,ho,hb⟩;obtain⟨A1,c1,rfl,h1⟩:=OwnB.sl ho;have T1:=zh h1;clear h1 ho;have B1:=zh hb;clear hb;have C2:=zh (jf8 n c _ c1 A A1 l _ w1 (S.o.on B1.o) T1.o zv zv);rw[<-Q.o]at C2;go_wp2_with fail
  refine C2.o.mono ?_
  rintro e w2 ⟨v2,rfl,ho,hb⟩;obtain⟨A2,c2,rfl,h2⟩:=OwnB.sl ho;have T2:=zh h2;clear h2 ho;have B2:=zh (B1.o.trans (hb.mono B1.o.size));clear hb;obtain⟨c3,w3,hcv,h3,hb3⟩:=jvc s w2 zv;have T3:=zh h3;clear h3;have B3:=zh (B2.o.trans (hb3.mono B2.o.size));have T23:=zh (T2.o.on hb3);clear hb3;go_wp2_with fail
  (refine(jf8 _ c2 s.size c3 A2 _ q (sb s) w3 T23.o T3.o (by have:=H9.o;omega) zv).mono ?_)
  rintro e w4 ⟨v4,rfl,ho,hb⟩;obtain⟨A4,c4,hv,h4⟩:=OwnB.sl ho;have T4:=zh h4;clear h4 ho;have B4:=zh (B3.o.trans (hb.mono B3.o.size));clear hb;have HV:=zh hv;clear hv;go_wp2;go_ret2;rw[HV.o];exact⟨A4,c4,rfl,T4.o,B4.o⟩
 ·rw[show jgh l s=l from by unfold jgh;rw[if_neg hz],show jgi s=12 from by unfold jgi;rw[if_neg hz]]
  go_in;go_wp2;go_ret2;have:=S.o.len;subst this;exact⟨A,c,rfl,S.o,zD⟩
theorem jr5{os:List Int}{l:List Nat}{k m:Nat}(hk:k<os.length)(hm:os.getD k 0=(m:Int)):l++fl (os.take (k+1))=(l++fl (os.take k))++digs m:=by
 rw[jik hk hm,List.append_assoc]
theorem jlz(n c k d:Nat)(A D:Option Addr)(l:List Nat)(ns:List Int)(w:World)(hs:Sl w A n c l)(hn:n<=900000)(hd:SlI w D k d ns):
  Calls Tryz.prog 85 #[.slice A n c,.slice D k d] w (jr4 (jd9 l ns) (jea ns) w):=by
 obtain⟨i0,hi0,hz0,hz1,hz2⟩:=info_parts jb3;have I0:=zh hi0;clear hi0;have I1:=zh hz0;clear hz0;have I2:=zh hz1;clear hz1;have I3:=zh hz2;clear hz2;have S:=zh hs;clear hs;have SD:=zh hd;clear hd;have hkn:=SD.o.len;by_cases hk:k<=64
 ·have P1:Hid (jck ns=true->jd9 l ns=l++digs k++fl ns/\jea ns=0):=fun ha=>by
   unfold jd9 jea;rw[if_pos zv,if_pos ha,if_pos zv,if_pos ha,<-hkn];exact⟨rfl,rfl⟩
  have P2:Hid (jck ns=false->jd9 l ns=l/\jea ns=1):=fun ha=>by
   unfold jd9 jea;rw[if_pos zv,if_neg (by rw[ha];simp),if_pos zv,if_neg (by rw[ha];simp)];exact⟨rfl,rfl⟩
  have h9:=digs_nine (n:=k) zv;have H9:Hid ((l++digs k).length<=900009):=by show _<=_;have:=S.o.len;rw[zA];omega
  clear hkn;obtain⟨q,hq⟩:∃q,q=l++digs k:=zx;have Q:=zh hq;clear hq;rw[<-Q.o]at H9 P1;generalize jd9 l ns=LL at*;generalize jea ns=LE at*;go_in;go_wp2_with fail
  refine(je5 k w zv).mono ?_
  rintro e w1 ⟨v1,rfl,ho,hb⟩;obtain⟨A1,c1,rfl,h1⟩:=OwnB.sl ho;have T1:=zh h1;clear h1 ho;have B1:=zh hb;clear hb;have C2:=zh (jf8 n c _ c1 A A1 l _ w1 (S.o.on B1.o) T1.o zv zv);rw[<-Q.o]at C2;go_wp2_with fail
  refine C2.o.mono ?_
  rintro e w2 ⟨v2,rfl,ho,hb⟩;have O2:=zh ho;clear ho;have G1:=zh B1.o.size;have Z2:=zh hb.size;have B2:=zh (B1.o.trans (hb.mono B1.o.size));clear hb B1;go_wp2_with fail;go_loopw [6,7] (fun v i wr=>∃m:Nat,m<=k/\i= .int .i64 m/\OwnB wr w1.heap.size v (q++fl (ns.take m))/\(∀j,j<m->sz (ns.getD j 0)≠0)/\zF w wr/\w1.heap.size<=wr.heap.size) (fun _ i _=>k -(intOf i).toNat)
  case atStart=>exact⟨0,zv,rfl,by simpa[fl]using O2.o,fun j hj=>by omega,B2.o,Z2.o⟩
  case round=>
   obtain⟨m,hm,rfl,ho,hall,hb,hsz⟩:=hrel;clear O2 B2;have O:=zh ho;clear ho;have B:=zh hb;clear hb;have ALL:=zh hall;clear hall;have HZ:=zh hsz;clear hsz;by_cases hlt:m<k
   ·have hml:m<ns.length:=by rw[<-SD.o.len];exact hlt
    obtain⟨b,o,rfl,_,hc⟩:=(SD.o.on B.o).rd zv;have hck:=hc m hml;clear hc;by_cases hz:sz (ns.getD m 0)=0
    ·have P3:=zh (P2.o (jmk hml hz))
     have M:Hid (mayB (ns.getD m 0)=false):=decide_eq_false zv;clear hz P1 P2 O ALL;generalize ns.getD m 0=x at*;go_wp2_with fail
     refine(jlx x wr).mono ?_
     rw[M.o];rintro e w3 ⟨rfl,rfl⟩;go_wp2;go_ret2;rw[P3.o.1,P3.o.2];have:=S.o.len;subst this;exact⟨A,c,rfl,S.o.on B.o,B.o⟩
    ·have M:Hid (mayB (ns.getD m 0)=true):=decide_eq_true hz
     have ALL2:Hid (∀j,j<m+1->sz (ns.getD j 0)≠0):=fun j hj=>by
      by_cases e:j=m
      ·subst e;exact hz
      ·exact ALL.o j zv
     obtain⟨x,hx,hxl⟩:=jjg hz;rw[hx]at M;have hck2:=hck;rw[hx]at hck2;have TF:=zh (jr5 (l:=q) hml hx);have HX:=zh hxl;have hb9:=digs_nine (n:=x) zv;have LF:Hid ((q++fl (ns.take m)).length<=910000):=by
      show _<=_;have h1:jck (ns.take m)=true:=jgj fun j hj=>by
       rw[List.length_take]at hj;have:=ALL.o j zv;rw[jal zv]at this;rw[jal (by rw[List.length_take];omega),List.getElem_take];exact this
      have h2:=jjh h1 (ns.take m).length zl;rw[List.take_length,List.length_take]at h2;have h3:=H9.o;rw[zA];omega
     have HBW:Hid (b<wr.heap.size):=block_lt_of_cell hck;clear hz hx hxl hck ALL P1 P2;obtain⟨f,hf⟩:∃f,f=q++fl (ns.take m):=zx;have FF:=zh hf;clear hf;rw[<-FF.o]at TF LF O;go_wp2_with fail
     refine(jlx _ wr).mono ?_
     rw[M.o];rintro e w3 ⟨rfl,rfl⟩;go_wp2_with fail
     refine(je5 x wr HX.o).mono ?_
     rintro e w3 ⟨v3,rfl,ho3,hb3⟩;obtain⟨A3,c3,rfl,h3⟩:=OwnB.sl ho3;have T3:=zh h3;clear h3 ho3;have B3:=zh (B.o.trans (hb3.mono B.o.size));have O3:=zh (OwnB.below O.o hb3);have HZ3:=zh (Nat.le_trans HZ.o hb3.size);clear hb3;go_wp2_with(at_builtin;refine jao rfl (.tmp 32) (.tmp 37) _ rfl w1.heap.size 5 i0 _ Tryz.underlying50 I0.o I1.o I2.o I3.o rfl _ f.length (vals f) rfl O3.o.1 w3.heap.size _ c3 A3 (digs x) rfl T3.o.rd rfl T3.o.nil (by have:=LF.o;omega) HZ3.o ?_;intro v4 w4 hown4 hg4;have O4:=zh hown4;have G4:=zh hg4;clear hown4 hg4);go_roundw
     case rel=>exact⟨m+1,zv,by go_num,by rw[TF.o];exact OwnB.join O4.o rfl rfl O3.o.2 (digs_byte x),ALL2.o,B3.o.grown G4.o B3.o.size (fun i hi=>Nat.le_trans G1.o (ja2 O3.o.1 i hi)),Nat.le_trans HZ3.o G4.o.size⟩
     case measure=>simp[intOf];omega
   ·obtain rfl:m=k:=by omega
    have P3:=zh (P1.o (jgj fun j hj=>ALL.o j (by rw[SD.o.len];exact hj)));have O4:=zh (jpj O.o SD.o.len);obtain⟨A2,c2,hv,h2⟩:=OwnB.sl O4.o;have HV:=zh hv;clear hv;have H2:=zh h2;clear h2;clear P1 P2 ALL;go_wp2;go_ret2;rw[HV.o,P3.o.1,P3.o.2];exact⟨A2,c2,rfl,H2.o,B.o⟩
 ·have HL:Hid (jd9 l ns=l/\jea ns=12):=by
   show _/\_;unfold jd9 jea;rw[if_neg zv,if_neg zv];exact⟨rfl,rfl⟩
  clear hkn;generalize jd9 l ns=LL at*;generalize jea ns=LE at*;go_in;go_wp2;go_ret2;rw[HL.o.1,HL.o.2];have:=S.o.len;subst this;exact⟨A,c,rfl,S.o,zD⟩
theorem jr6{w:World}{B n c:Nat}{A:Option Addr}{l:List Int}(h:OwnI w B (.slice A n c) l):SlI w A n c l:=by
 obtain⟨A',c',e,h2⟩:=h.sl;injection e with e1 e2 e3
 rw[e1,e2,e3];exact h2
def Rc.bytesL(r:Rc.R):List Nat:=if Rc.right r=true then Rc.bytes r else[]
def Rc.bytesE(r:Rc.R):Int:=if Rc.right r=true then 0 else 1
theorem Rc.bytes_yes{r:Rc.R}(h:Rc.right r=true):Rc.bytesL r=Rc.bytes r/\Rc.bytesE r=0:=by unfold Rc.bytesL Rc.bytesE;rw[if_pos h,if_pos h];exact⟨rfl,rfl⟩
theorem Rc.bytes_no{r:Rc.R}(h:Rc.right r=false):Rc.bytesL r=[]/\Rc.bytesE r=1:=by unfold Rc.bytesL Rc.bytesE;rw[if_neg (by rw[h];simp),if_neg (by rw[h];simp)];exact⟨rfl,rfl⟩
theorem jdz{l:List Nat}{x:Int}(h:sz x≠0):numL l x=l++digs x.toNat/\numE x=0:=by unfold numL numE;rw[if_neg h,if_neg h];exact⟨rfl,rfl⟩
theorem jr7{ns:List Int}{j:Nat}(hj:j<ns.length)(h:sz (ns.getD j 0)≠0):fl (ns.take (j+1))=fl (ns.take j)++digs (ns.getD j 0).toNat:=by
 obtain⟨m,hm,_⟩:=jjg h;rw[jik hj hm,hm,Int.toNat_natCast]
theorem zz1l{p:Prop}(h:p:=by
 have h3:(digs r.text.size).length<=9:=digs_nine (by have:=OK.o.text;omega);have h4:=jbd r.text;have:=OK.o.text;have:=LL.o;rw[zA,zA];show _<=_;omega):p:=h
theorem zz1u{p:Prop}(h:p:=by
 have ha:=Rc.all_small OK.o.flds;unfold jd9 jea;rw[Spc.flds_length,if_pos zv,if_pos ha,if_pos zv,if_pos ha];exact⟨rfl,rfl⟩):p:=h
theorem zz21{p:Prop}(h:p:=by
 exact⟨⟨j+1,zv,by go_num,(by have h:=HLK.o;subst h;exact⟨A3,c3,rfl,S3.o⟩),B3.o⟩,by simp[intOf];omega⟩):p:=h
theorem zz24{p:Prop}(h:p:=by
 have:=OK.o.nums ((Rc.nums r).getD j 0) (by rw[jal hj];exact List.getElem_mem _);exact Rc.sz_small this.1 this.2):p:=h
theorem zz2n{p:Prop}(h:p:=by
 have:=Rc.fl_le OK.o.nums;rw[show(Rc.nums r).length=5 from rfl]at this;exact this):p:=h
theorem zz2w{p:Prop}(h:p:=by
 have:=jjh (Rc.all_small OK.o.nums) j (by show j<=5;omega);show _<=_;omega):p:=h
theorem zz31{p:Prop}(h:p:=by
 unfold jgh jgi;rw[if_pos OK.o.text,if_pos OK.o.text];exact⟨rfl,rfl⟩):p:=h
theorem jg6(r:Rc.R)(hin:Rc.In r)(w:World):Calls Tryz.prog 46 #[Rc.val r] w (jr4 (Rc.bytesL r) (Rc.bytesE r) w):=by
 have HI:=zh hin;have HSZ:Hid ((Tryz.prog.info? 56).map (·.size)=some (Rc.cells r).size):=jak _;have RA:=zh (RcAt.new w r);have B1:=zh ((Below.refl w.heap.size w).alloc zl (.cells (Rc.cells r) 56));have CR:=zh (fun W=>ja5 r hin W);clear hin;unfold Rc.val at CR;show Calls _ _ #[.agg (Rc.cells r)] _ _
 cases hr:Rc.right r with
 |false=>
  rw[hr]at CR;rw[(Rc.bytes_no hr).1,(Rc.bytes_no hr).2];clear hr;go_in;go_upto_region 1 with fail
  obtain⟨g,hg⟩:∃g,g=w.heap.size:=zx;rw[<-hg]at RA⊢;clear hg;generalize w.alloc (.cells (Rc.cells r) 56)=ws at*
  go_wp2_with(first
   |((with_reducible show zL 14);refine wpList_load_row rfl 56 (.tmp 1) rfl g rfl 56 _ (0,0) _ RA.o.row jag rfl HSZ.o ?_)
   |(go_at_call 82;refine(CR.o _).mono ?_;rintro e w1 ⟨rfl,hb⟩;have B1:=zh (B1.o.trans (hb.mono B1.o.size));clear hb))
  go_ret2;exact⟨none,0,rfl,Sl.none_ _,B1.o⟩
 |true=>
  rw[hr]at CR;have OK:=zh (Rc.ok_of hr);have EB:Hid (Rc.bytes r=fl (Rc.nums r)++((digs r.text.size++sb r.text)++(if r.kind=3 then digs 12++fl (Spc.flds r.sp)else[]))):=rfl;rw[(Rc.bytes_yes hr).1,(Rc.bytes_yes hr).2];clear hr;have SZN:Hid (∀j,j<5->sz ((Rc.nums r).getD j 0)≠0):=fun j hj=>by
   exact zz24
  go_in;go_upto_region 1 with fail
  obtain⟨g,hg⟩:∃g,g=w.heap.size:=zx;rw[<-hg]at RA⊢;clear hg;generalize w.alloc (.cells (Rc.cells r) 56)=ws at*;go_upto_region 5 with(first
   |((with_reducible show zL 14);refine wpList_load_row rfl 56 (.tmp 1) rfl g rfl 56 _ (0,0) _ RA.o.row jag rfl HSZ.o ?_)
   |(go_at_call 82;refine(CR.o _).mono ?_;rintro e w1 ⟨rfl,hb⟩;have RA:=zh (RA.o.on hb);have B1:=zh (B1.o.trans (hb.mono B1.o.size));clear hb))
  obtain⟨c0,c1,c2,c3,c4,c5,c6,c7,c8,c9,c10,c11,c12,c13,c14,c15,c16,c17,clt⟩:=RA.o.cs;have BN:=zh ((Below.refl w1.heap.size w1).alloc zl (.cells #[.int .i64 r.kind,.int .i64 r.epoch,.int .i64 r.who,.int .i64 r.n,.int .i64 r.seq] 3));have RN:=zh (heap_alloc_new w1 (.cells #[.int .i64 r.kind,.int .i64 r.epoch,.int .i64 r.who,.int .i64 r.n,.int .i64 r.seq] 3));go_upto_region 6 with fail
  obtain⟨q,hq⟩:∃q,q=w1.heap.size:=zx;rw[<-hq]at RN⊢;have RA:=zh (RA.o.on BN.o);have B1:=zh (B1.o.trans (BN.o.mono B1.o.size));clear hq c0 c1 c2 c3 c4 c5 c6 c7 c8 c9 c10 c11 c12 c13 c14 c15 c16 c17 clt BN;generalize w1.alloc (.cells #[.int .i64 r.kind,.int .i64 r.epoch,.int .i64 r.who,.int .i64 r.n,.int .i64 r.seq] 3)=w2 at*;have QC:Hid (∀wr,zF w2 wr->∀j,j<5->wr.cell? ⟨q,j,none⟩=some (.int .i64 ((Rc.nums r).getD j 0))):=fun wr hb j hj=>by
   have hrow:=jc7 RN.o hb;rw[cell_of_row _ _ _ _ _ _ hrow];rcases j with _|_|_|_|_|j
   all_goals first|rfl|omega
  go_wp2_with fail;go_loopw [5,7] (fun b i wr=>∃j:Nat,j<=5/\i= .int .i64 j/\(∃A c,b= .slice A (fl ((Rc.nums r).take j)).length c/\Sl wr A (fl ((Rc.nums r).take j)).length c (fl ((Rc.nums r).take j)))/\zF w2 wr) (fun _ i _=>5 -(intOf i).toNat)
  case atStart=>exact⟨0,zv,rfl,⟨none,0,rfl,Sl.none_ _⟩,zD⟩
  case round=>
   obtain⟨j,hj,rfl,⟨A,c,rfl,hsl⟩,hbr⟩:=hrel;have SL:=zh hsl;have BR:=zh hbr;clear hsl hbr;by_cases hlt:j<5
   ·have cj:=QC.o _ BR.o j hlt
    have LL:Hid ((fl ((Rc.nums r).take j)).length<=1000000):=by
     exact zz2w
    have NX:=zh (jr7 (ns:=Rc.nums r) hlt (SZN.o j hlt));have CN:=zh (jix _ c ((Rc.nums r).getD j 0) A _ wr SL.o LL.o);rw[(jdz (SZN.o j hlt)).1,(jdz (l:=[]) (SZN.o j hlt)).2,<-NX.o]at CN;generalize(Rc.nums r).getD j 0=x at*;generalize fl ((Rc.nums r).take j)=lj at*;obtain⟨lk,hlk⟩:∃lk,lk=fl ((Rc.nums r).take (j+1)):=zx;rw[<-hlk]at CN;have HLK:=zh hlk;clear hlk NX;go_wp2_with(go_at_call 83;refine CN.o.mono ?_;rintro e w3 ⟨A3,c3,rfl,hs3,hb3⟩;have S3:=zh hs3;have B3:=zh (BR.o.trans (hb3.mono BR.o.size));clear hs3 hb3);exact zz21
   ·have ej:j=5:=by omega
    subst ej;rw[show(Rc.nums r).take 5=Rc.nums r from rfl]at SL⊢;have LL:Hid ((fl (Rc.nums r)).length<=45):=by
     exact zz2n
    have B2:=zh (B1.o.trans (BR.o.mono B1.o.size));have RA:=zh (RA.o.on BR.o);have TL:Hid (jgh (fl (Rc.nums r)) r.text=(fl (Rc.nums r)++digs r.text.size++sb r.text)/\jgi r.text=0):=by
     exact zz31
    have CT:=zh (jly _ c r.text A _ wr SL.o (by have:=LL.o;omega));rw[TL.o.1,TL.o.2]at CT;have L2:Hid ((fl (Rc.nums r)++digs r.text.size++sb r.text).length<=900000):=by
     exact zz1l
    rw[<-List.append_assoc,<-List.append_assoc]at EB;generalize fl (Rc.nums r)=l1 at*;generalize l1++digs r.text.size++sb r.text=l2 at*;obtain⟨c0,c1,c2,c3,c4,c5,c6,c7,c8,c9,c10,c11,c12,c13,c14,c15,c16,c17,clt⟩:=RA.o.cs;by_cases hk:r.kind=3
    ·have hke:(r.kind==3)=true:=by rw[beq_iff_eq];exact hk
     rw[if_pos hk]at EB;have LA:Hid (jd9 l2 (Spc.flds r.sp)=l2++digs 12++fl (Spc.flds r.sp)/\jea (Spc.flds r.sp)=0):=by
      exact zz1u
     have CF:=zh (fun W=>jlw r.sp W);unfold Spc.val Spc.cells at CF;rw[<-List.append_assoc]at EB;clear hk
     go_wp2_with(first
      |(go_at_call 84;refine CT.o.mono ?_;rintro e w4 ⟨A4,k4,rfl,hs4,hb4⟩;have S4:=zh hs4;have B4:=zh (B2.o.trans (hb4.mono B2.o.size));have RA:=zh (RA.o.on hb4);clear hs4 hb4 c0 c1 c2 c3 c4 c5 c6 c7 c8 c9 c10 c11 c12 c13 c14 c15 c16 c17 clt;obtain⟨c0,c1,c2,c3,c4,c5,c6,c7,c8,c9,c10,c11,c12,c13,c14,c15,c16,c17,clt⟩:=RA.o.cs)
      |(go_at_call 86;refine(CF.o _).mono ?_;rintro e w5 ⟨A5,k5,rfl,hs5,hb5⟩;have S5:=zh hs5;have S4:=zh (S4.o.on hb5);have B5:=zh (B4.o.trans (hb5.mono B4.o.size));clear hs5 hb5)
      |(go_at_call 85;refine(jlz _ k4 _ _ A4 _ l2 (Spc.flds r.sp) _ S4.o L2.o (jr6 S5.o)).mono ?_;rintro e w6 ⟨A6,k6,rfl,hs6,hb6⟩;have S6:=zh hs6;have B6:=zh (B5.o.trans (hb6.mono B5.o.size));clear hs6 hb6))
     go_ret2;have h6:=S6.o;rw[LA.o.1]at h6;refine⟨A6,k6,?_,?_,B6.o⟩
     ·rw[EB.o,<-LA.o.1];rfl
     ·rw[EB.o];exact h6
    ·have hke:(r.kind==3)=false:=by rw[zq];exact hk
     rw[if_neg hk,List.append_nil]at EB;clear hk;go_wp2_with(go_at_call 84;refine CT.o.mono ?_;rintro e w4 ⟨A4,k4,rfl,hs4,hb4⟩;have S4:=zh hs4;have B4:=zh (B2.o.trans (hb4.mono B2.o.size));have RA:=zh (RA.o.on hb4);clear hs4 hb4 c0 c1 c2 c3 c4 c5 c6 c7 c8 c9 c10 c11 c12 c13 c14 c15 c16 c17 clt;obtain⟨c0,c1,c2,c3,c4,c5,c6,c7,c8,c9,c10,c11,c12,c13,c14,c15,c16,c17,clt⟩:=RA.o.cs);go_ret2;rw[EB.o];exact⟨A4,k4,rfl,S4.o,B4.o⟩
end Go.Proofs.YtkinlcfhojjalaaGreatDoor
namespace Go.Proofs.YtkinlcfhojjalaaGreatDoor
open Go.RowKit Go.Maps
def jr8(g:Nat):Array Value:=#[.pointer (some ⟨g,0,none⟩),.pointer (some ⟨g,1,none⟩),.pointer (some ⟨g,2,none⟩),.pointer (some ⟨g,3,none⟩),.pointer (some ⟨g,4,none⟩)]
theorem jfv(g:Nat)(w:World):Calls Tryz.prog 92 #[.pointer (some ⟨g,0,none⟩)] w fun e w'=>e= .returned (.agg (jr8 g))/\zF w w':=by
 go_in;go_wp2_with fail;go_region;go_wp2_with fail;exact bodyPost_ret (v:= .agg (jr8 g)) (by simp[results,Tryz.results92,jr8,go_sem]) rfl ⟨rfl,((Below.refl w.heap.size w).alloc zl _).drew⟩
theorem jvd(g j:Nat)(hj:j<5):(jr8 g)[j]? =some (.pointer (some ⟨g,j,none⟩)):=by
 rcases j with _|_|_|_|_|j<;>first|rfl|omega
theorem jve:Tryz.prog.underlying 162=some (.array 5 161):=by kernel_rfl
theorem jke(g j:Nat)(hj:j<5)(W:World):(Instr.index 162 (.agg (jr8 g)) (.int .i64 (j:Nat))).run Tryz.prog W= .ok (.pointer (some ⟨g,j,none⟩)) W:=by
 have h1:(0:Int)<=(j:Nat)/\((j:Nat):Int)<((5:Nat):Int):=by omega
 have hp:=jvd g j hj;simp[Instr.index,run_underlying jve,asIntOf,part,isAgg,run_underlying Tryz.underlying161,h1,hp,go_sem];intro h;omega
theorem rc_at{w:World}{g:Nat}{r:Rc.R}(h:RcAt w g r){j:Nat}(hj:j<5):w.cell? ⟨g,j,none⟩=some (.int .i64 ((Rc.nums r).getD j 0)):=by
 have c:=h.cs;rcases j with _|_|_|_|_|j
 ·exact c.c0
 ·exact c.c1
 ·exact c.c2
 ·exact c.c3
 ·exact c.c4
 ·omega
open Go.RowKit
theorem mk12(w:World):∃w',(Instr.makeSlice 102 (zi) (.int .i64 12)).run Tryz.prog w= .ok (.slice (some ⟨w.heap.size,0,none⟩) 0 12) w'/\OwnI w' w.heap.size (.slice (some ⟨w.heap.size,0,none⟩) 0 12) []/\zF w w':=by
 obtain⟨i0,hi0,hz0,hz1,hz2⟩:=info_parts jf3;obtain⟨w',h1,h2,h3⟩:=run_make_own w w.heap.size 102 3 i0 _ _ Tryz.underlying102 hi0 hz0 hz1 .i64 .i64 12 (by rw[hz2];decide) (by unfold maxLen;omega) zl;exact⟨w',h1,h2,⟨h3.os,h3.tape,h3.output,h3.size,fun k hk=>h3.block k hk (by simp)⟩⟩
theorem joi(s:Spc.Sp)(w:World):Calls Tryz.prog 105 #[Spc.val s] w fun e w'=>∃A c,e= .returned (.slice A 12 c)/\OwnI w' w.heap.size (.slice A 12 c) (Spc.flds s)/\Below w.heap.size w w':=by
 have hb:=(Below.refl w.heap.size w).alloc zl (.cells (Spc.cells s) 33);have A1:=zh (jae (heap_alloc_new w (.cells (Spc.cells s) 33)));have B1:=zh hb;have hz:w.heap.size<(w.alloc (.cells (Spc.cells s) 33)).heap.size:=by simp
 have Z1:=zh hz;obtain⟨g,hg⟩:∃g,g=w.heap.size:=zx;obtain⟨gm,hgm⟩:∃gm,gm=(w.alloc (.cells (Spc.cells s) 33)).heap.size:=zx;obtain⟨w2,hr2,ho2,hb2⟩:=mk12 (w.alloc (.cells (Spc.cells s) 33));unfold zF at hb2;have CN:Hid (∀g W,Calls Tryz.prog 152 #[.pointer (some ⟨g,0,none⟩)] W fun e w'=>e= .returned (.agg (ptrs g))/\Below W.heap.size W w'):=jeg;rw[<-hgm]at hr2 ho2 hb2 Z1;rw[<-hg]at A1 Z1;have O2:=zh ho2;have B2:=zh hb2;have GM:=zh hgm;have G:=zh hg;clear hb hz ho2 hb2 hgm hg;unfold Spc.val;go_in;go_wp2_with fail;clear hr2;rw[<-G.o];generalize w.alloc (.cells (Spc.cells s) 33)=w1 at*;refine(CN.o g w2).mono ?_;rintro e w3 ⟨rfl,hb3⟩;have hs2:gm<=w2.heap.size:=by rw[GM.o];exact B2.o.size
 have O3:=zh (O2.o.below hb3);have B3:=zh (B2.o.trans (hb3.mono hs2));clear hb3 hs2 O2 B2 CN;go_wp2_with fail;go_loopw [3,8] (fun v i wr=>∃(j:Nat) (l:List Int),j<=12/\i= .int .i64 (j:Nat)/\l=(Spc.flds s).take j/\OwnI wr gm v l/\Below gm w1 wr) (fun _ i _=>12 -(intOf i).toNat)
 case atStart=>exact⟨0,[],zv,rfl,rfl,O3.o,B3.o⟩
 case round=>
  obtain⟨j,l,hj,rfl,hl,ho,hbr⟩:=hrel;have O:=zh ho;have B:=zh hbr;have HL:=zh hl;have AX:=zh (A1.o.below (w':=wr) (by rw[<-GM.o];exact Z1.o) (by unfold zF;rw[<-GM.o];exact B.o));have hll:l.length<=12:=by rw[hl,List.length_take];have:=Spc.flds_length s;omega
  have hbase:gm<=wr.heap.size:=by rw[GM.o];exact hbr.size
  clear ho hbr hl;by_cases hlt:j<12
  ·have hpj:=fun W=>jiu g j hlt W
   have hcj:=sp_at AX.o hlt;have HN:Hid (∀x,x=(Spc.flds s).getD j 0->l++[x]=(Spc.flds s).take (j+1)):=fun x hx=>by
    have:j<(Spc.flds s).length:=hlt;rw[List.take_succ_eq_append_getElem this,HL.o,hx,jal this]
   obtain⟨x,hx⟩:∃x,x=(Spc.flds s).getD j 0:=zx;rw[<-hx]at hcj;have HX:=zh hx;have i1:(0:Int)<=(j:Int):=by omega
   have i2:(j:Int)<12:=by omega
   clear hx;go_wp2_with(at_builtin;refine jas rfl (.tmp 11) (.tmp 15) rfl gm _ l rfl O.o _ rfl zv hbase ?_;intro v3 w4 ho4 hg4;have O4:=zh ho4;have B4:=zh (B.o.grown hg4 hbase (ja2 O.o));clear ho4 hg4);exact⟨⟨j+1,l++[x],zv,by go_num,HN.o x HX.o,O4.o,B4.o⟩,by simp[intOf];omega⟩
  ·obtain rfl:j=12:=by omega
   have E:Hid (l=Spc.flds s):=by show _=_;rw[HL.o];exact List.take_of_length_le zl
   go_wp2;go_ret;obtain⟨A',c',ev,_⟩:=O.o.sl;rw[E.o]at ev;have ho:=O.o;rw[E.o]at ho;exact⟨A',c',by rw[ev];rfl,jcj (B:=gm) (by have h:=ho;rw[ev]at h;exact h) (by rw[GM.o];exact B1.o.size),B1.o.trans (B.o.mono (by rw[GM.o];exact B1.o.size))⟩
open Cdc
theorem jh6(r:Rc.R)(hin:Rc.In r)(w:World):Calls Tryz.prog 57 #[.agg (Rc.cells r)] w (jgg (Rc.bytesL r) (Rc.bytesE r) w):=by
 have HI:=zh hin;have HSZ:Hid ((Tryz.prog.info? 56).map (·.size)=some (Rc.cells r).size):=jak _;have RA:=zh (RcAt.new w r);have B1:=zh ((Below.refl w.heap.size w).alloc zl (.cells (Rc.cells r) 56));have CR:=zh (fun W=>jfj r hin W);clear hin
 cases hr:Rc.right r with
 |false=>
  rw[hr]at CR;rw[(Rc.bytes_no hr).1,(Rc.bytes_no hr).2];clear hr;go_in;go_upto_region 1 with fail
  obtain⟨g,hg⟩:∃g,g=w.heap.size:=zx;rw[<-hg]at RA⊢;clear hg;generalize w.alloc (.cells (Rc.cells r) 56)=ws at*
  go_wp2_with(first
   |((with_reducible show zL 7);refine wpList_load_row rfl 56 (.tmp 1) rfl g rfl 56 _ (0,0) _ RA.o.row jag rfl HSZ.o ?_)
   |(go_at_call 98;refine(CR.o _).mono ?_;rintro e w1 ⟨rfl,hb⟩;have B1:=zh (B1.o.trans (hb.mono B1.o.size));clear hb))
  go_ret2;exact⟨none,0,rfl,Sl.none_ _,B1.o,fun _ h=>by cases h⟩
 |true=>
  rw[hr]at CR;have OK:=zh (Rc.ok_of hr);have EB:Hid (Rc.bytes r=fl (Rc.nums r)++((digs r.text.size++sb r.text)++(if r.kind=3 then digs 12++fl (Spc.flds r.sp)else[]))):=rfl;rw[(Rc.bytes_yes hr).1,(Rc.bytes_yes hr).2];clear hr;have SZN:Hid (∀j,j<5->sz ((Rc.nums r).getD j 0)≠0):=fun j hj=>by
   exact zz24
  have CN:=zh (fun g W=>jfv g W);go_in;go_upto_region 1 with fail
  obtain⟨g,hg⟩:∃g,g=w.heap.size:=zx;rw[<-hg]at RA⊢;clear hg;generalize w.alloc (.cells (Rc.cells r) 56)=ws at*
  go_wp2_with(first
   |((with_reducible show zL 7);refine wpList_load_row rfl 56 (.tmp 1) rfl g rfl 56 _ (0,0) _ RA.o.row jag rfl HSZ.o ?_)
   |(go_at_call 98;refine(CR.o _).mono ?_;rintro e w1 ⟨rfl,hb⟩;have RA:=zh (RA.o.on hb);have B1:=zh (B1.o.trans (hb.mono B1.o.size));clear hb)
   |(go_at_call 92;refine(CN.o _ _).mono ?_;rintro e w2 ⟨rfl,hb⟩;have RA:=zh (RA.o.on hb);have B1:=zh (B1.o.trans (hb.mono B1.o.size));clear hb))
  go_loopw [4,11] (fun b i wr=>∃j:Nat,j<=5/\i= .int .i64 j/\(∃A c,b= .slice A (fl ((Rc.nums r).take j)).length c/\Sl wr A (fl ((Rc.nums r).take j)).length c (fl ((Rc.nums r).take j)))/\zF w2 wr) (fun _ i _=>5 -(intOf i).toNat)
  case atStart=>exact⟨0,zv,rfl,⟨none,0,rfl,Sl.none_ _⟩,zD⟩
  case round=>
   obtain⟨j,hj,rfl,⟨A,c,rfl,hsl⟩,hbr⟩:=hrel;have SL:=zh hsl;have BR:=zh hbr;clear hsl hbr;by_cases hlt:j<5
   ·have cj:=rc_at (RA.o.on BR.o) hlt
    have hpj:=fun W=>jke g j hlt W;have LL:Hid ((fl ((Rc.nums r).take j)).length<=1000000):=by
     exact zz2w
    have NX:=zh (jr7 (ns:=Rc.nums r) hlt (SZN.o j hlt));have CW:=zh (jng _ c ((Rc.nums r).getD j 0) A _ wr SL.o LL.o);rw[(jdz (SZN.o j hlt)).1,(jdz (l:=[]) (SZN.o j hlt)).2,<-NX.o]at CW;generalize(Rc.nums r).getD j 0=x at*;generalize fl ((Rc.nums r).take j)=lj at*;obtain⟨lk,hlk⟩:∃lk,lk=fl ((Rc.nums r).take (j+1)):=zx;rw[<-hlk]at CW;have HLK:=zh hlk;clear hlk NX;go_wp2_with(go_at_call 102;refine CW.o.mono ?_;rintro e w3 ⟨A3,c3,rfl,hs3,hb3,_⟩;have S3:=zh hs3;have B3:=zh (BR.o.trans (hb3.mono BR.o.size));clear hs3 hb3);exact zz21
   ·have ej:j=5:=by omega
    subst ej;rw[show(Rc.nums r).take 5=Rc.nums r from rfl]at SL⊢;have LL:Hid ((fl (Rc.nums r)).length<=45):=by
     exact zz2n
    have B2:=zh (B1.o.trans (BR.o.mono B1.o.size));have RA:=zh (RA.o.on BR.o);have TL:Hid (jgh (fl (Rc.nums r)) r.text=(fl (Rc.nums r)++digs r.text.size++sb r.text)/\jgi r.text=0):=by
     exact zz31
    have CT:=zh (jt2 _ c r.text A _ wr SL.o (by have:=LL.o;omega));rw[TL.o.1,TL.o.2]at CT;have L2:Hid ((fl (Rc.nums r)++digs r.text.size++sb r.text).length<=1000000):=by
     exact zz1l
    rw[<-List.append_assoc,<-List.append_assoc]at EB;generalize fl (Rc.nums r)=l1 at*;generalize l1++digs r.text.size++sb r.text=l2 at*;obtain⟨c0,c1,c2,c3,c4,c5,c6,c7,c8,c9,c10,c11,c12,c13,c14,c15,c16,c17,clt⟩:=RA.o.cs;by_cases hk:r.kind=3
    ·have hke:(r.kind==3)=true:=by rw[beq_iff_eq];exact hk
     rw[if_pos hk]at EB;have LA:Hid (jd9 l2 (Spc.flds r.sp)=l2++digs 12++fl (Spc.flds r.sp)/\jea (Spc.flds r.sp)=0):=by
      exact zz1u
     have CF:=zh (fun W=>joi r.sp W);unfold Spc.val Spc.cells at CF;rw[<-List.append_assoc]at EB;clear hk
     go_wp2_with(first
      |(go_at_call 103;refine CT.o.mono ?_;rintro e w4 ⟨A4,k4,rfl,hs4,hb4,_⟩;have S4:=zh hs4;have B4:=zh (B2.o.trans (hb4.mono B2.o.size));have RA:=zh (RA.o.on hb4);clear hs4 hb4 c0 c1 c2 c3 c4 c5 c6 c7 c8 c9 c10 c11 c12 c13 c14 c15 c16 c17 clt;obtain⟨c0,c1,c2,c3,c4,c5,c6,c7,c8,c9,c10,c11,c12,c13,c14,c15,c16,c17,clt⟩:=RA.o.cs)
      |(go_at_call 105;refine(CF.o _).mono ?_;rintro e w5 ⟨A5,k5,rfl,hs5,hb5⟩;have S5:=zh hs5;have S4:=zh (S4.o.on hb5);have B5:=zh (B4.o.trans (hb5.mono B4.o.size));clear hs5 hb5)
      |(go_at_call 104;refine(jt5 _ k4 _ _ A4 _ l2 (Spc.flds r.sp) _ S4.o L2.o (jr6 S5.o)).mono ?_;rintro e w6 ⟨A6,k6,rfl,hs6,hb6,hf6⟩;have S6:=zh hs6;have F6:=zh hf6;have B6:=zh (B5.o.trans (hb6.mono B5.o.size));clear hs6 hb6 hf6))
     go_ret2;have h6:=S6.o;rw[LA.o.1]at h6;refine⟨A6,k6,?_,?_,B6.o,fun a ha=>Nat.le_trans B5.o.size (F6.o a ha)⟩
     ·rw[EB.o,<-LA.o.1];rfl
     ·rw[EB.o];exact h6
    ·have hke:(r.kind==3)=false:=by rw[zq];exact hk
     rw[if_neg hk,List.append_nil]at EB;clear hk;go_wp2_with(go_at_call 103;refine CT.o.mono ?_;rintro e w4 ⟨A4,k4,rfl,hs4,hb4,hf4⟩;have S4:=zh hs4;have F4:=zh hf4;clear hf4;have B4:=zh (B2.o.trans (hb4.mono B2.o.size));have RA:=zh (RA.o.on hb4);clear hs4 hb4 c0 c1 c2 c3 c4 c5 c6 c7 c8 c9 c10 c11 c12 c13 c14 c15 c16 c17 clt;obtain⟨c0,c1,c2,c3,c4,c5,c6,c7,c8,c9,c10,c11,c12,c13,c14,c15,c16,c17,clt⟩:=RA.o.cs);go_ret2;rw[EB.o];exact⟨A4,k4,rfl,S4.o,B4.o,fun a ha=>Nat.le_trans B2.o.size (F4.o a ha)⟩
theorem joj(r:Rc.R)(hin:Rc.In r)(w:World):Calls Tryz.prog 57 #[.agg (Rc.cells r)] w (jr4 (Rc.bytesL r) (Rc.bytesE r) w):=by
 refine(jh6 r hin w).mono ?_;rintro e w' ⟨A,c,h1,h2,h3,_⟩;exact⟨A,c,h1,h2,h3⟩
end Go.Proofs.YtkinlcfhojjalaaGreatDoor
namespace Go.Proofs.YtkinlcfhojjalaaGreatDoor
open Go.RowKit Go.Deep Go.Maps
structure StR(w0:World)(G:Nat->Prop)(p:Nat)(m:Int)(d:Dk.St)(r q:Nat)(X:Nat->Prop)(b:Nat)(s:Bk.St)(g:Nat)(rc:Rc.R)(W:World):Prop where
 st:StJ w0 G p m d (.pointer (some ⟨b,0,none⟩)) r q X W
 bk:BP w0 (StF G p X) b s W
 rc:RcAt W g rc
 bt:BT W
section
variable{w0 W W':World}{G X:Nat->Prop}{p r q b g:Nat}{m:Int}{d:Dk.St}{s:Bk.St}{rc:Rc.R}
theorem StR.on(h:StR w0 G p m d r q X b s g rc W)(hb:zF W W'):StR w0 G p m d r q X b s g rc W':=⟨h.st.on hb,jbf h.bk hb,h.rc.on hb,h.bt.on hb⟩
theorem StR.open_(h:StJ w0 G p m d (.pointer (some ⟨b,0,none⟩)) r q X W)(hb:BP w0 (StF G p X) b s W)(ht:BT W)(rc:Rc.R):StR w0 G p m d r q X b s W.heap.size rc (W.alloc (.cells (Rc.cells rc) 56)):=by
 have ha:zF W (W.alloc (.cells (Rc.cells rc) 56)):=zE;exact⟨h.on ha,jbf hb ha,RcAt.new W rc,ht.on ha⟩
end
theorem jkf{w0 W:World}{G X:Nat->Prop}{p r q b:Nat}{m:Int}{d:Dk.St}{s:Bk.St}(h:StJ w0 G p m d (.pointer (some ⟨b,0,none⟩)) r q X W)(hb:BP w0 (StF G p X) b s W)(ht:BT W)(rc:Rc.R)(hr:Rc.In rc):
  Calls Tryz.prog 35 #[.pointer (some ⟨p,0,none⟩),.agg (Rc.cells rc)] W (fun e w'=>∃A n c,e= .returned (.tuple #[.slice A n c,.int .i64 (Bk.chk s rc)])/\(Bk.chk s rc=0->Sl w' A n c (Rc.bytes rc))/\zF W w'):=by
 obtain⟨ans,hans⟩:∃ans,ans=Bk.chk s rc:=zx;rw[<-hans];have AN:=zh hans;have HR:=zh hr;have CC:Hid (∀W',StR w0 G p m d r q X b s W.heap.size rc W'->Calls Tryz.prog 66 #[.pointer (some ⟨b,0,none⟩),.agg (Rc.cells rc)] W' (BRet (.int .i64 ans) W')):=fun W' hx=>by rw[hans];exact jvb hx.bk hx.bt hr
 have BY:Hid (ans=0->Rc.bytesL rc=Rc.bytes rc/\Rc.bytesE rc=0):=fun h0=>Rc.bytes_yes (Bk.chk_right (hans.symm.trans h0));have CB:=zh (fun W'=>joj rc hr W');obtain⟨W1,hW1⟩:∃W1,W1=W.alloc (.cells (Rc.cells rc) 56):=zx;obtain⟨g,hg⟩:∃g,g=W.heap.size:=zx;have R0:=zh (StR.open_ h hb ht rc);rw[<-hW1,<-hg]at R0;rw[<-hg]at CC;have B1:Hid (zF W W1):=by rw[hW1];exact zE
 clear h hb ht hans hr;go_in;go_upto_region 1 with fail
 rw[<-hW1,<-hg];clear hW1 hg;go_upto_region 3 with fail
 refine wp_region_held_drew (S:=StR w0 G p m d r q X b s g rc) zk (R0.o.on zD.drew) (fun hS=> ?_);refine tY 0 hS ?_;refine tY 1 hS ?_;refine tY 2 hS ?_;refine tZ 3 rfl (by intro W hW;have lq:=hW.st.lt;have c2:=hW.st.cells.2.2.2.1;go_simp;(try with_reducible rfl)) hS ?_;refine tZ 4 (v:= .agg (Rc.cells rc)) rfl (fun W hW=>jax (.tmp 3) rfl g rc rfl hW.rc) hS ?_;simp only[Act.put,zT,zO,zS];refine rO 5 (fun K hK=> ?_);go_simp
 refine(CC.o _ hS).mono ?_
 rintro e w8 ⟨rfl,hb⟩;have B8:=zh (B1.o.trans (zD.drew.trans hb|>.mono B1.o.size));replace hS:=hS.on hb;clear hb;refine hK.out _ _ hS (fun _=> ?_);clear hK K;refine tY 6 hS ?_;simp only[Act.put,zT,zO,zS];refine wpAnyH_done zk ?_ _;have R9:=zh hS;clear hS;by_cases h0:ans=0
 ·have HY:=zh (BY.o h0)
  subst h0
  go_wp2_with(first
   |((with_reducible show zL 18);refine zR (.tmp 3) R9.o.rc ?_)
   |(go_at_call 57;refine(CB.o _).mono ?_;rintro e w10 ⟨A,c,rfl,hs,hb⟩;rw[HY.o.1]at hs⊢;rw[HY.o.2];have S10:=zh hs;have B10:=zh hb;clear hs hb))
  go_ret2;exact⟨_,_,_,rfl,by first|exact S10.o|exact fun _=>S10.o,B8.o.trans (B10.o.mono B8.o.size)⟩
 ·have h1:(ans !=0)=true:=by simpa using h0
  go_wp2;go_ret2;exact⟨_,_,_,rfl,by first|exact fun hx=>absurd hx h0|simp[h0],B8.o⟩
open Go.RowKit
def mkS(l:List Int):Spc.Sp:=if l.length=12 then Spc.of l else Spc.zero
def mkE(l:List Int):Int:=if l.length=12 then 0 else 1
structure jg7(w:World)(gs gr:Nat)(o:Spc.Sp)(wx:World):Prop where
 at_:wx.heap[gs]? =some (.cells (Spc.cells o) 33 (0,0))
 res:wx.heap[gr]? =some (.cells (Spc.cells Spc.zero) 33 (0,0))
 below:zF w wx
 ne:gs≠gr
 lo:w.heap.size<=gs
 lor:w.heap.size<=gr
theorem jg7.start(w:World):jg7 w (w.heap.size+1) w.heap.size Spc.zero ((w.alloc (.cells (Spc.cells Spc.zero) 33)).alloc (.cells (Spc.cells Spc.zero) 33)):=by
 have h1:=heap_alloc_new w (.cells (Spc.cells Spc.zero) 33);have hb1:=(Below.refl w.heap.size w).alloc zl (.cells (Spc.cells Spc.zero) 33);have hz:(w.alloc (.cells (Spc.cells Spc.zero) 33)).heap.size=w.heap.size+1:=by simp
 generalize w.alloc (.cells (Spc.cells Spc.zero) 33)=w1 at*;have h2:=heap_alloc_new w1 (.cells (Spc.cells Spc.zero) 33);have hb2:=(Below.refl w1.heap.size w1).alloc zl (.cells (Spc.cells Spc.zero) 33);rw[hz]at h2;exact⟨h2,(hb2.block w.heap.size zv).trans h1,hb1.trans (hb2.mono zv),zv,zv,zl⟩
theorem jg7.on{w wx w':World}{gs gr:Nat}{o:Spc.Sp}(h:jg7 w gs gr o wx)(hb:zF wx w'):jg7 w gs gr o w':=
 ⟨(hb.block gs (zg h.at_).1).trans h.at_,(hb.block gr (zg h.res).1).trans h.res,h.below.trans (hb.mono h.below.size),h.ne,h.lo,h.lor⟩
theorem jg7.set{w wx:World}{gs gr:Nat}{o:Spc.Sp}(h:jg7 w gs gr o wx)(o':Spc.Sp)(k:Nat)(v:Int)(he:(Spc.cells o).setIfInBounds k (.int .i64 v)=Spc.cells o'):jg7 w gs gr o' (wx.setCell ⟨gs,k,none⟩ (.int .i64 v)):=by
 refine⟨?_,?_,h.below.setCell h.lo _,h.ne,h.lo,h.lor⟩
 ·rw[<-he];exact heap_setCell_same wx gs k _ _ _ h.at_
 ·exact((jad wx gs k _).block gr (zg h.res).1 (by simp;exact fun e=>h.ne e.symm)).trans h.res
theorem jr9{l:List Int}(hl:l.length=12){j:Nat}(hj:j<12):(Spc.cells (Spc.of (l.take j))).setIfInBounds j (.int .i64 (l.getD j 0))=Spc.cells (Spc.of (l.take (j+1))):=by
 obtain⟨l0,l1,l2,l3,l4,l5,l6,l7,l8,l9,l10,l11,rfl⟩:=twelve hl;rcases j with _|_|_|_|_|_|_|_|_|_|_|_|j<;>first|rfl|omega
theorem jl0{l:List Int}(hl:l.length=12):Spc.of (l.take 12)=Spc.of l:=by rw[List.take_of_length_le zv]
theorem jvf(l:List Int)(A:Option Addr)(n c:Nat)(w:World)(h:SlI w A n c l)(hn:n<=1000):Calls Tryz.prog 95 #[.slice A n c] w (APos w (.tuple #[Spc.val (mkS l),.int .i64 (mkE l)])):=by
 have hlen:=h.len;by_cases h12:l.length=12
 ·have HV:Hid (Spc.val (mkS l)=Spc.val (Spc.of l)/\mkE l=0):=by
   unfold mkS mkE;show _/\_;rw[if_pos h12,if_pos h12];exact⟨rfl,rfl⟩
  obtain⟨b,off,rfl,hbl,hc⟩:=h.rd zv;have hcap:=h.cap;have hmax:=h.max;unfold maxLen at hmax;have H12:=zh h12;have HC:Hid (∀W,zF w W->∀j,j<12->W.cell? ⟨b,off+j,none⟩=some (.int .i64 (l.getD j 0))):=fun W hW j hj=>(hW.cell (p:=⟨b,off+j,none⟩) hbl).trans (hc j zv);obtain rfl:n=12:=by omega
  have CN:Hid (∀g W,Calls Tryz.prog 152 #[.pointer (some ⟨g,0,none⟩)] W fun e w'=>e= .returned (.agg (ptrs g))/\zF W w'):=jeg;rw[HV.o.2];clear h hc hbl hlen h12 hn;have P1:Hid (jg7 w (w.heap.size+1) w.heap.size Spc.zero ((w.alloc (.cells #[zi,zi,zi,zi,zi,zi,zi,zi,zi,zi,zi,zi] 33)).alloc (.cells #[zi,zi,zi,zi,zi,zi,zi,zi,zi,zi,zi,zi] 33))):=jg7.start w;obtain⟨gr,hgr⟩:∃gr,gr=w.heap.size:=zx;obtain⟨gs,hgs⟩:∃gs,gs=w.heap.size+1:=zx;rw[<-hgs,<-hgr]at P1;have GR:=zh hgr;have GS:=zh hgs;clear hgr hgs;go_in;go_wp2_with fail;rw[<-GS.o,<-GR.o];generalize(w.alloc (.cells #[zi,zi,zi,zi,zi,zi,zi,zi,zi,zi,zi,zi] 33)).alloc (.cells #[zi,zi,zi,zi,zi,zi,zi,zi,zi,zi,zi,zi] 33)=w1 at*;refine(CN.o gs w1).mono ?_;rintro e w2 ⟨rfl,hb2⟩;have P2:=zh (P1.o.on hb2);clear hb2 P1 CN GR GS;go_wp2_with fail;go_loopw [12] (fun i wr=>∃(j:Nat),j<=12/\i= .int .i64 (j:Nat)/\jg7 w gs gr (Spc.of (l.take j)) wr) (fun i _=>12 -(intOf i).toNat)
  case atStart=>exact⟨0,zv,rfl,P2.o⟩
  case round=>
   obtain⟨j,hj,rfl,hp⟩:=hrel;have P:=zh hp;clear hp P2;by_cases hlt:j<12
   ·have hpj:=fun W=>jiu gs j hlt W
    have hcj:=HC.o wr P.o.below j hlt;have hcg:=sp_at (jae P.o.at_) hlt;have hfg:wr.frozen? ⟨gs,j,none⟩=false:=frozen_of_row wr gs _ _ _ P.o.at_;have PX:=zh (P.o.set _ j _ (jr9 H12.o hlt));obtain⟨x,hx⟩:∃x,x=l.getD j 0:=zx;rw[<-hx]at hcj PX;have i1:(0:Int)<=(j:Int):=by omega
    have i2:(j:Int)<12:=by omega
    clear hx;go_wp2_with fail;exact⟨⟨j+1,zv,by go_num,PX.o⟩,by simp[intOf];omega⟩
   ·obtain rfl:j=12:=by omega
    have hp:=P.o;rw[jl0 H12.o]at hp;obtain⟨o,ho⟩:∃o,o=Spc.of l:=zx;rw[<-ho]at hp HV;have PE:=zh hp;clear hp P ho;obtain⟨f0,f1,f2,f3,f4,f5,f6,f7,f8,f9,f10,f11⟩:=jae PE.o.at_;obtain⟨q0,q1,q2,q3,q4,q5,q6,q7,q8,q9,q10,q11⟩:=jae (s:=Spc.zero) PE.o.res;obtain⟨y0,y1,y2,y3,y4,y5,y6,y7,y8,y9,y10,y11⟩:=jbc PE.o.res;simp only[Spc.zero]at q0 q1 q2 q3 q4 q5 q6 q7 q8 q9 q10 q11;have hP:=jfh (s:=o) (r:=Spc.zero) PE.o.res;have hG:=jcg gr (Spc.cells o).toList 0 wr;obtain⟨W9,hW⟩:∃W9,W9=puts wr gr 0 (Spc.cells o).toList:=zx;rw[<-hW]at hP hG;have hB:=PE.o.below.grown hG PE.o.below.size (fun i hi=>by injection hi with hi;have:=PE.o.lor;omega)
    have key:((((((((((((wr.setCell ⟨gr,0,none⟩ (.int .i64 o.v)).setCell ⟨gr,1,none⟩ (.int .i64 o.d)).setCell ⟨gr,2,none⟩ (.int .i64 o.u)).setCell ⟨gr,3,none⟩ (.int .i64 o.n)).setCell ⟨gr,4,none⟩ (.int .i64 o.g)).setCell ⟨gr,5,none⟩ (.int .i64 o.a)).setCell ⟨gr,6,none⟩ (.int .i64 o.b)).setCell ⟨gr,7,none⟩ (.int .i64 o.c)).setCell ⟨gr,8,none⟩ (.int .i64 o.e)).setCell ⟨gr,9,none⟩ (.int .i64 o.w)).setCell ⟨gr,10,none⟩ (.int .i64 o.x)).setCell ⟨gr,11,none⟩ (.int .i64 o.k))=W9:=by rw[hW];rfl
    have KEY:=zh key;have HP:=zh hP;have HB:=zh hB;clear hP hG hW hB key PE;go_wp2_with fail;rw[KEY.o];clear f0 f1 f2 f3 f4 f5 f6 f7 f8 f9 f10 f11 q0 q1 q2 q3 q4 q5 q6 q7 q8 q9 q10 q11 y0 y1 y2 y3 y4 y5 y6 y7 y8 y9 y10 y11 KEY;obtain⟨f0,f1,f2,f3,f4,f5,f6,f7,f8,f9,f10,f11⟩:=jae (s:=o) HP.o;exact bodyPost_ret (v:= .tuple #[.agg #[.int .i64 o.v,.int .i64 o.d,.int .i64 o.u,.int .i64 o.n,.int .i64 o.g,.int .i64 o.a,.int .i64 o.b,.int .i64 o.c,.int .i64 o.e,.int .i64 o.w,.int .i64 o.x,.int .i64 o.k],zi]) (by simp[results,Tryz.results95,go_sem,f0,f1,f2,f3,f4,f5,f6,f7,f8,f9,f10,f11]) rfl ⟨by rw[HV.o.1];rfl,HB.o⟩
 ·have HV:Hid (Spc.val (mkS l)= .agg #[zi,zi,zi,zi,zi,zi,zi,zi,zi,zi,zi,zi]/\mkE l=1):=by
   unfold mkS mkE;show _/\_;rw[if_neg h12,if_neg h12];exact⟨rfl,rfl⟩
  have hn12:¬(n:Int)=12:=by omega
  have hcap:=h.cap;have hmax:=h.max;unfold maxLen at hmax;have HB:=zh ((Below.refl w.heap.size w).alloc zl (.cells #[zi,zi,zi,zi,zi,zi,zi,zi,zi,zi,zi,zi] 33));rw[HV.o.1,HV.o.2];clear h hlen h12 HV;go_in;go_wp2_with fail;exact bodyPost_ret (v:= .tuple #[.agg #[zi,zi,zi,zi,zi,zi,zi,zi,zi,zi,zi,zi],.int .i64 1]) (by simp[results,Tryz.results95,go_sem]) rfl ⟨rfl,HB.o⟩
open Cdc
namespace Rc
theorem numsV_small(s:St):∀k,∀x∈numsV s k,x<4611686018427387904
 |0,x,h=>by cases h
 |k+1,x,h=>by
  rcases List.mem_append.1 (show x∈numsV s k++[numV (numsAt s k)]from h)with h|h
  ·exact numsV_small s k x h
  ·rw[List.mem_singleton]at h;subst h;exact numV_lt _
theorem nI_i64{l:List Nat}(h:∀x∈l,x<4611686018427387904):∀x∈nI l,Spc.i64 x:=by
 intro x hx;unfold nI at hx;obtain⟨y,hy,rfl⟩:=List.mem_map.1 hx;have:=h y hy;unfold Spc.i64;omega
theorem getD_i64{l:List Int}(h:∀x∈l,Spc.i64 x)(j:Nat):Spc.i64 (l.getD j 0):=by
 by_cases hj:j<l.length
 ·rw[jal hj];exact h _ (List.getElem_mem _)
 ·have:l.getD j 0=0:=by simp[List.getD,List.getElem?_eq_none (show l.length<=j by omega)]
  rw[this];unfold Spc.i64;omega
theorem listV_small(s:St):∀x∈listV s,x<4611686018427387904:=by
 intro x hx;unfold listV at hx;split at hx
 ·exact numsV_small _ _ x hx
 ·cases hx
theorem of_in{l:List Int}(h:∀x∈l,Spc.i64 x):Spc.In (Spc.of l):=by
 intro n hn;have k:=getD_i64 h;simp only[Spc.flds,Spc.of,List.mem_cons,List.not_mem_nil,or_false]at hn;rcases hn with rfl|rfl|rfl|rfl|rfl|rfl|rfl|rfl|rfl|rfl|rfl|rfl<;>exact k _
theorem zero_in:Spc.In Spc.zero:=by
 intro x hx;simp[Spc.flds,Spc.zero]at hx;unfold Spc.i64;omega
theorem textV_len(s:St):(textV s).length<=64:=by
 unfold textV tkV;split
 ·split
  ·rw[List.length_take];have:=cntV_le s;omega
  ·simp
 ·simp
theorem dec_in(l:List Nat):In (dec l):=by
 have hv:=nI_i64 (numsV_small ⟨l,0⟩ 5);have k:=getD_i64 hv;refine⟨?_,?_,?_⟩
 ·intro x hx
  simp only[nums,dec,List.mem_cons,List.not_mem_nil,or_false]at hx;rcases hx with rfl|rfl|rfl|rfl|rfl<;>exact k _
 ·show(txt (textV (k1 l))).size<=_
  rw[jbr];have:=textV_len (k1 l);unfold maxLen;omega
 ·show Spc.In (s3 l)
  unfold s3;split
  ·split
   ·exact of_in (nI_i64 (listV_small _))
   ·exact zero_in
  ·exact zero_in
theorem whole_end{l:List Nat}(h:whole l):endE (k3 l)=0:=by
 have:=(dec_bytes h.1).2;rw[h.2]at this;rw[this];rfl
end Rc
theorem jsa(s:St):(Cdc.text s).l.length<=s.l.length:=by
 unfold Cdc.text tk;split
 ·split
  ·rw[List.length_drop];have:=jky s;show _ -_<=_;omega
  ·simp[lost]
 ·exact jky s
namespace Rc
abbrev By(s:St):Prop:=∀x∈s.l,x<256
theorem num_only{s:St}(hb:By s)(h:(num s).e=0):s.e=0/\s.l=digs (numV s)++(num s).l/\By (num s):=by
 unfold num at h⊢;unfold numV;by_cases he:s.e=0
 ·rw[if_pos he]at h⊢
  rw[if_pos he];by_cases hd:dk s.l=0
  ·rw[if_pos hd]at h;cases h
  ·rw[if_neg hd,digs_dn hb hd]
   exact⟨he,(List.take_append_drop _ _).symm,fun x hx=>hb x (List.mem_of_mem_drop hx)⟩
 ·rw[if_neg he]at h;exact absurd h he
theorem nums_only{s:St}(hb:By s):∀k,(numsAt s k).e=0->s.e=0/\s.l=(numsV s k).flatMap digs++(numsAt s k).l/\By (numsAt s k)
 |0,h=>⟨h,rfl,hb⟩
 |k+1,h=>by
  have hx:(num (numsAt s k)).e=0:=h;have hk:(numsAt s k).e=0:=by
   by_cases hk:(numsAt s k).e=0
   ·exact hk
   ·rw[num_err hk]at hx;exact hx
  obtain⟨h1,h2,h3⟩:=nums_only hb k hk;obtain⟨h4,h5,h6⟩:=num_only h3 hx;refine⟨h1,?_,h6⟩;show s.l=(numsV s k++[numV (numsAt s k)]).flatMap digs++(num (numsAt s k)).l;rw[List.flatMap_append,List.append_assoc,List.flatMap_cons,List.flatMap_nil,List.append_nil,<-h5];exact h2
theorem cnt_only{s:St}(hb:By s)(h:(cnt s).e=0):s.e=0/\s.l=digs (cntV s)++(cnt s).l/\By (cnt s):=by
 unfold cnt at h⊢;unfold cntV;by_cases hc:numV s<=64
 ·rw[if_pos hc]at h⊢
  rw[if_pos hc];exact num_only hb h
 ·rw[if_neg hc]at h;cases h
theorem tk_only{s:St}(hb:By s){n:Nat}(h:(tk s n).e=0):s.e=0/\s.l=tkV s n++(tk s n).l/\(tkV s n).length=n/\By (tk s n):=by
 unfold tk at h⊢;unfold tkV;by_cases he:s.e=0
 ·rw[if_pos he]at h⊢
  rw[if_pos he];by_cases hn:n<=s.l.length
  ·rw[if_pos hn,if_pos hn]
   exact⟨he,(List.take_append_drop _ _).symm,by rw[List.length_take];omega,fun x hx=>hb x (List.mem_of_mem_drop hx)⟩
  ·rw[if_neg hn]at h;cases h
 ·rw[if_neg he]at h;exact absurd h he
theorem text_only{s:St}(hb:By s)(h:(Cdc.text s).e=0):s.e=0/\s.l=digs (textV s).length++(textV s++(Cdc.text s).l)/\By (Cdc.text s):=by
 by_cases hc:(cnt s).e=0
 ·obtain⟨h1,h2,h3⟩:=cnt_only hb hc
  obtain⟨h4,h5,h6,h7⟩:=tk_only (n:=cntV s) h3 h;refine⟨h1,?_,h7⟩;show s.l=digs (tkV (cnt s) (cntV s)).length++(tkV (cnt s) (cntV s)++(tk (cnt s) (cntV s)).l);rw[h6,<-h5];exact h2
 ·have:(tk (cnt s) (cntV s)).e=0:=h
  unfold tk at this;rw[if_neg hc]at this;exact absurd this hc
theorem list_only{s:St}(hb:By s)(h:(Cdc.list s).e=0):s.e=0/\s.l=digs (listV s).length++((listV s).flatMap digs++(Cdc.list s).l):=by
 obtain⟨h4,h5,h6⟩:(cnt s).e=0/\(By (cnt s)->(cnt s).l=(numsV (cnt s) (cntV s)).flatMap digs++(numsAt (cnt s) (cntV s)).l)/\True:=by
  by_cases hc:(cnt s).e=0
  ·exact⟨hc,fun h3=>(nums_only h3 (cntV s) h).2.1,trivial⟩
  ·have h0:(numsAt (cnt s) 0).e≠0:=hc
   have:=numsAt_err h0 (cntV s);rw[Nat.zero_add]at this;have hx:(numsAt (cnt s) (cntV s)).e=0:=h;rw[this]at hx;exact absurd hx hc
 obtain⟨h1,h2,h3⟩:=cnt_only hb h4;refine⟨h1,?_⟩;have e1:listV s=numsV (cnt s) (cntV s):=by unfold listV;rw[if_pos h]
 rw[e1,numsV_length];show s.l=digs (cntV s)++((numsV (cnt s) (cntV s)).flatMap digs++(numsAt (cnt s) (cntV s)).l);rw[<-h5 h3];exact h2
theorem fl_nI(l:List Nat):fl (nI l)=l.flatMap digs:=by
 rw[jpo];unfold nI;rw[List.map_map]
 congr 1
 induction l with
 |nil=>rfl
 |cons x t ih=>rw[List.map_cons,ih];rfl
theorem sb_txt{l:List Nat}(h:∀x∈l,x<256):sb (txt l)=l:=by
 have:txt (sb (txt l))=txt l:=jpg _;have h2:=txt_eq (jih (txt l)) h;rw[this]at h2;have h3:((txt l).toList==(txt l).toList)=true:=by simp
 rw[h3]at h2;exact of_decide_eq_true h2.symm
theorem five{l:List Int}(h:l.length=5):[l.getD 0 0,l.getD 1 0,l.getD 2 0,l.getD 3 0,l.getD 4 0]=l:=by
 match l,h with
 |[a,b,c,d,e],_=>rfl
theorem whole_of{l:List Nat}(hb:∀x∈l,x<256)(he:endE (k3 l)=0)(hr:right (dec l)=true):whole l:=by
 refine⟨hr,?_⟩;have h3:(k3 l).e=0/\(k3 l).l=[]:=by
  unfold endE at he;split at he
  ·cases he
  ·exact⟨he,List.length_eq_zero_iff.1 zv⟩
 have hv:(nI (numsV ⟨l,0⟩ 5)).length=5:=by rw[jcl,numsV_length]
 have hn:nums (dec l)=v1 l:=five hv;have hkk:(dec l).kind=(v1 l).getD 0 0:=rfl;have key:(k2 l).e=0/\(By (k2 l)->(k2 l).l=(if(dec l).kind=3 then digs 12++fl (Spc.flds (dec l).sp)else[])):=by
  unfold k3 at h3;by_cases hk:(v1 l).getD 0 0=3
  ·rw[if_pos hk]at h3
   have hm:Spc.May (dec l).sp:=(ok_of hr).begin_ (hkk.trans hk);have hl:(listV (k2 l)).length=12:=by
    by_cases hl:(listV (k2 l)).length=12
    ·exact hl
    ·exfalso
     have e0:(dec l).sp=Spc.zero:=by
      show s3 l=_;unfold s3;rw[if_pos hk,if_neg hl]
     rw[e0]at hm;have:=Spc.chk_of hm;revert this;decide
   have es:(dec l).sp=Spc.of (nI (listV (k2 l))):=by
    show s3 l=_;unfold s3;rw[if_pos hk,if_pos hl]
   have he2:(k2 l).e=0:=by
    by_cases h2:(k2 l).e=0
    ·exact h2
    ·exfalso
     have hx:(Cdc.list (k2 l)).e=0:=h3.1;have hc:cnt (k2 l)=k2 l:=by
      unfold cnt;rw[numV_err h2,if_pos zv,num_err h2]
     have h0:(numsAt (cnt (k2 l)) 0).e≠0:=by rw[hc];exact h2
     have:=numsAt_err h0 (cntV (k2 l));rw[Nat.zero_add]at this;have hx2:(numsAt (cnt (k2 l)) (cntV (k2 l))).e=0:=hx;rw[this]at hx2;exact h0 hx2
   refine⟨he2,fun h2=> ?_⟩;have:=(list_only h2 h3.1).2;rw[h3.2,List.append_nil,hl]at this;rw[this,if_pos (hkk.trans hk),es,Spc.flds_of (by rw[jcl];exact hl),fl_nI]
  ·rw[if_neg hk]at h3
   exact⟨h3.1,fun _=>by rw[h3.2,if_neg (fun h=>hk (hkk.symm.trans h))]⟩
 have ht:(Cdc.text (k1 l)).e=0:=key.1;have h1e:(numsAt ⟨l,0⟩ 5).e=0:=by
  by_cases h1:(k1 l).e=0
  ·exact h1
  ·exfalso
   have hc:cnt (k1 l)=k1 l:=by
    unfold cnt;rw[numV_err h1,if_pos zv,num_err h1]
   have hx:(tk (cnt (k1 l)) (cntV (k1 l))).e=0:=ht;rw[hc]at hx;unfold tk at hx;rw[if_neg h1]at hx;exact h1 hx
 obtain⟨_,ha,hb1⟩:=nums_only (s:=⟨l,0⟩) hb 5 h1e;obtain⟨_,hc,hb2⟩:=text_only (s:=k1 l) hb1 ht;have hd:=key.2 hb2;have htv:∀x∈textV (k1 l),x<256:=fun x hx=>hb1 x (by
  rw[show(numsAt ⟨l,0⟩ 5).l=(k1 l).l from rfl,hc];exact List.mem_append_right _ (List.mem_append_left _ hx))
 unfold bytes;rw[<-hd,hn];have e5:(dec l).text=txt (textV (k1 l)):=rfl;rw[e5,jbr,sb_txt htv,List.append_assoc];have e6:(k2 l).l=(Cdc.text (k1 l)).l:=rfl;rw[e6,<-hc];have e7:fl (v1 l)=(numsV ⟨l,0⟩ 5).flatMap digs:=fl_nI _;rw[e7];exact ha.symm
end Rc
abbrev RcRd:Prop:=∀W A n c l,Sl W A n c l->n<=1000->Calls Tryz.prog 51 #[.slice A n c] W (APos W (.tuple #[.agg (Rc.cells (Rc.rdV l)),.int .i64 (Rc.rdE l)]))
