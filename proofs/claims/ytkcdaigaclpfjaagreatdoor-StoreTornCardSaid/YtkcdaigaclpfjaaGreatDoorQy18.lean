import Derived.Test.YtkcdaigaclpfjaaGreatDoorQy17
import Derived.RangeFuncNested
import Derived.RangeFuncCalls
import Derived.RangeFuncLeaves
import Derived.OwnWalkIn
import Derived.TacticsInMore
import Derived.LoopNIn
import Derived.LoopIn
import Derived.Maps.OwnIn
set_option maxHeartbeats 6400000
set_option maxRecDepth 100000
set_option linter.unusedSimpArgs false
set_option linter.unusedVariables false
namespace Go.Proofs.YtkcdaigaclpfjaaGreatDoor
open Go.RowKit Cdc
def jgu(l:List Nat)(err:Int)(w:World)(e:Ending)(w':World):Prop:=
 ∃A c,e= .returned (.tuple #[.slice A l.length c,.int .i64 err])/\Sl w' A l.length c l/\Below w.heap.size w w'/\∀a,A=some a->w.heap.size<=a.block
theorem jsp(s:ByteArray):Lib.strCells s=vals (sb s):=by
 simp[Lib.strCells,vals,sb]
theorem jms(n c m:Nat)(A:Option Addr)(l:List Nat)(w:World)(hs:Sl w A n c l)(hl:n<=1000000)(hm:m<4611686018427387904):
  Calls Tryz.prog 129 #[.slice A n c,.int .i64 m] w (jgu (l++digs m) 0 w):=by
 have hne:(((digs m).length:Int)==0)=false:=by have:=digs_pos m;rw[beq_eq_false_iff_ne];omega
 have HS:=zh hs;clear hs;have HM:=zh hm;clear hm;go_enter Tryz.func129,Tryz.ntmps129;go_wp2_with fail;refine(jlg m w HM.out).mono ?_;rintro e w1 ⟨rfl,rfl⟩;go_wp2_with fail;refine(jbw n c 9 A l w HS.out hl zv).mono ?_;rintro e w1 ⟨v,rfl,ho,hb⟩;have O:=zh ho;clear ho;have B:=zh hb;clear hb;go_wp2_with fail;refine(jhu w.heap.size m v l w1 O.out B.out.size (by rw[<-HS.out.len];omega) HM.out).mono ?_;rintro e w2 ⟨v2,rfl,ho,hb⟩;have O2:=zh ho;clear ho;have B2:=zh hb;clear hb;obtain⟨A2,c2,hv,h2⟩:=O2.out.sl;have HV:=zh hv;clear hv;have H2:=zh h2;clear h2;go_wp2_with fail;go_ret2;rw[HV.out];exact⟨A2,c2,rfl,H2.out,B.out.trans B2.out,OwnB.far O2.out HV.out⟩
theorem jo9(n c:Nat)(m:Int)(A:Option Addr)(l:List Nat)(w:World)(hs:Sl w A n c l)(hl:n<=1000000)(hm:sz m=0):
  Calls Tryz.prog 129 #[.slice A n c,.int .i64 m] w (jgu l 1 w):=by
 have HS:=zh hs;clear hs;have HM:=zh hm;clear hm;go_enter Tryz.func129,Tryz.ntmps129;go_wp2_with fail;refine(jel m w).mono ?_;rintro e w1 ⟨rfl,rfl⟩;rw[HM.out];go_wp2_with fail;refine(jbw n c 0 A l w HS.out hl zv).mono ?_;rintro e w1 ⟨v,rfl,ho,hb⟩;have O:=zh ho;clear ho;have B:=zh hb;clear hb;obtain⟨A2,c2,hv,h2⟩:=O.out.sl;have HV:=zh hv;clear hv;have H2:=zh h2;clear h2;go_wp2_with fail;go_ret2;rw[HV.out];exact⟨A2,c2,rfl,H2.out,B.out,OwnB.far O.out HV.out⟩
def numL(l:List Nat)(n:Int):List Nat:=if sz n=0 then l else l++digs n.toNat
def numE(n:Int):Int:=if sz n=0 then 1 else 0
theorem ji0{n:Int}(h:sz n≠0):∃m:Nat,n=(m:Int)/\m<4611686018427387904:=by
 unfold sz at h;split at h
 ·exact⟨n.toNat,zv,zv⟩
 ·omega
theorem jmt(n c:Nat)(m:Int)(A:Option Addr)(l:List Nat)(w:World)(hs:Sl w A n c l)(hl:n<=1000000):
  Calls Tryz.prog 129 #[.slice A n c,.int .i64 m] w (jgu (numL l m) (numE m) w):=by
 unfold numL numE;by_cases h:sz m=0
 ·rw[if_pos h,if_pos h];exact jo9 n c m A l w hs hl h
 ·rw[if_neg h,if_neg h]
  obtain⟨k,rfl,hk⟩:=ji0 h;exact jms n c k A l w hs hl hk
theorem OwnB.text{w:World}{B n:Nat}{v:Value}{l:List Nat}{s:ByteArray}(h:w.ownsRow B 5 1 v (n+s.size) (vals l++Lib.strCells s))(hn:n=l.length)(hl:∀y∈l,y<256):OwnB w B v (l++sb s):=by
 subst hn;refine⟨?_,?_⟩
 ·rw[jbc,List.length_append,ja7,<-jsp];exact h
 ·intro y hy
  exact(List.mem_append.1 hy).elim (hl y) (jhg s y)
theorem jsq(n c:Nat)(s:ByteArray)(A:Option Addr)(l:List Nat)(w:World)(hs:Sl w A n c l)(hl:n<=1000000)(hm:s.size<=64):
  Calls Tryz.prog 130 #[.slice A n c,.string s] w (jgu (l++digs s.size++sb s) 0 w):=by
 obtain⟨i0,hi0,hz0,hz1,hz2⟩:=info_parts jbs;have HS:=zh hs;clear hs;have I0:=zh hi0;clear hi0;have I1:=zh hz0;clear hz0;have I2:=zh hz1;clear hz1;have I3:=zh hz2;clear hz2;go_enter Tryz.func130,Tryz.ntmps130;go_wp2_with fail;refine(jbw n c (9+s.size) A l w HS.out hl zv).mono ?_;rintro e w1 ⟨v,rfl,ho,hb⟩;have O:=zh ho;clear ho;have B:=zh hb;clear hb;go_wp2_with fail;refine(jhu w.heap.size s.size v l w1 O.out B.out.size (by rw[<-HS.out.len];omega) zv).mono ?_;rintro e w2 ⟨v2,rfl,ho,hb⟩;have O2:=zh ho;clear ho;have B2:=zh (B.out.trans hb);clear hb;have hlen:(l++digs s.size).length<=1000010:=by have:=digs_nine (n:=s.size) zv;rw[List.length_append,<-HS.out.len];omega
 go_wp2_with(at_builtin;refine Lib.wpList_append_own_string _ rfl (.tmp 18) (.tmp 19) 78 9 rfl w.heap.size 5 i0 Tryz.underlying78 Tryz.underlying9 I0.out I1.out I2.out I3.out v2 _ _ rfl O2.out.1 s rfl (by unfold maxLen;omega) zv B2.out.size ?_;intro v3 w3 hown3 hg3 _;have O3:=zh hown3;have G3:=zh hg3;clear hown3 hg3);go_ret2;obtain⟨A2,c2,hv,h2⟩:=(OwnB.text O3.out rfl O2.out.2).sl;rw[hv];exact⟨A2,c2,rfl,h2,B2.out.grown G3.out B2.out.size (ja0 O2.out.1),OwnB.far (OwnB.text O3.out rfl O2.out.2) hv⟩
theorem text_no(n c:Nat)(s:ByteArray)(A:Option Addr)(l:List Nat)(w:World)(hs:Sl w A n c l)(hl:n<=1000000)(hm:64<s.size):
  Calls Tryz.prog 130 #[.slice A n c,.string s] w (jgu l 12 w):=by
 have HS:=zh hs;clear hs;go_enter Tryz.func130,Tryz.ntmps130;go_wp2_with fail;refine(jbw n c 0 A l w HS.out hl zv).mono ?_;rintro e w1 ⟨v,rfl,ho,hb⟩;have O:=zh ho;clear ho;have B:=zh hb;clear hb;obtain⟨A2,c2,hv,h2⟩:=O.out.sl;have HV:=zh hv;clear hv;have H2:=zh h2;clear h2;go_wp2_with fail;go_ret2;rw[HV.out];exact⟨A2,c2,rfl,H2.out,B.out,OwnB.far O.out HV.out⟩
def jgd(l:List Nat)(s:ByteArray):List Nat:=if s.size<=64 then l++digs s.size++sb s else l
def jge(s:ByteArray):Int:=if s.size<=64 then 0 else 12
theorem jsr(n c:Nat)(s:ByteArray)(A:Option Addr)(l:List Nat)(w:World)(hs:Sl w A n c l)(hl:n<=1000000):
  Calls Tryz.prog 130 #[.slice A n c,.string s] w (jgu (jgd l s) (jge s) w):=by
 unfold jgd jge;by_cases h:s.size<=64
 ·rw[if_pos h,if_pos h];exact jsq n c s A l w hs hl h
 ·rw[if_neg h,if_neg h];exact text_no n c s A l w hs hl zv
def jb8(ns:List Int):Bool:=ns.all fun n=>decide (sz n≠0)
theorem jgf{ns:List Int}(h:∀j,j<ns.length->sz (ns.getD j 0)≠0):jb8 ns=true:=by
 unfold jb8;rw[List.all_eq_true];intro x hx;obtain⟨j,hj,rfl⟩:=List.mem_iff_getElem.1 hx;have:=h j hj;rw[jak hj]at this;exact decide_eq_true this
theorem jlj{ns:List Int}{j:Nat}(hj:j<ns.length)(h:sz (ns.getD j 0)=0):jb8 ns=false:=by
 unfold jb8;rw[List.all_eq_false];refine⟨ns[j],List.getElem_mem hj,?_⟩;rw[jak hj]at h;simp[h]
theorem jfo{ns:List Int}(h:jb8 ns=true){j:Nat}(hj:j<ns.length):∃m:Nat,ns.getD j 0=(m:Int)/\m<4611686018427387904:=by
 unfold jb8 at h;rw[List.all_eq_true]at h;have:=h ns[j] (List.getElem_mem hj);rw[jak hj];exact ji0 (by simpa using this)
def fl(ns:List Int):List Nat:=ns.flatMap fun n=>digs n.toNat
theorem jhv{ns:List Int}{j m:Nat}(hj:j<ns.length)(hm:ns.getD j 0=(m:Int)):fl (ns.take (j+1))=fl (ns.take j)++digs m:=by
 unfold fl;rw[List.take_succ_eq_append_getElem hj,List.flatMap_append,<-jak (d:=0) hj,hm];simp
theorem ji1{ns:List Int}(h:jb8 ns=true)(k:Nat)(hk:k<=ns.length):(fl (ns.take k)).length<=9*k:=by
 induction k with
 |zero=>simp[fl]
 |succ k ih=>
  obtain⟨m,hm,hlt⟩:=jfo h (j:=k) zv;rw[jhv zv hm,List.length_append];have:=ih zv;have:=digs_nine (n:=m) zv;omega
theorem jpa(n c:Nat)(A:Option Addr)(ns:List Int)(w:World)(hs:SlI w A n c ns)(hl:n<=1000000):
  Calls Tryz.prog 174 #[.slice A n c] w fun e w'=>e= .returned (.bool (jb8 ns))/\w=w':=by
 have HS:=zh hs;clear hs;go_enter Tryz.func174,Tryz.ntmps174;go_wp2_with fail;go_loop [7] (fun i=>∃k:Nat,k<=n/\i= .int .i64 k/\∀j,j<k->sz (ns.getD j 0)≠0) (fun i=>n -(intOf i).toNat)
 case atStart=>exact⟨0,zv,rfl,fun j hj=>by omega⟩
 case round=>
  obtain⟨k,hk,rfl,hall⟩:=hrel;have HA:=zh hall;clear hall;by_cases hlt:k<n
  ·have hkl:k<ns.length:=by rw[<-HS.out.len];exact hlt
   obtain⟨b,o,rfl,_,hc⟩:=HS.out.rd zv;have hck:=hc k hkl;clear hc;by_cases hz:sz (ns.getD k 0)=0
   ·have HZ:=zh hz
    have HN:=zh (jlj hkl hz);clear hz;generalize ns.getD k 0=x at*;go_wp2_with fail;refine(jel x w).mono ?_;rintro e w1 ⟨rfl,rfl⟩;rw[HZ.out];go_wp2_with fail;go_ret;exact⟨jbz HN.out.symm,rfl⟩
   ·have hne:((sz (ns.getD k 0):Int)==0)=false:=by rw[beq_eq_false_iff_ne];omega
    have HZ:=zh hz;clear hz;have HG:Hid (∀j,j<k+1->sz (ns.getD j 0)≠0):=fun j hj=>by
     by_cases e:j=k
     ·subst e;exact HZ.out
     ·exact HA.out j zv
    clear HA HZ;generalize ns.getD k 0=x at*;go_wp2_with fail;refine(jel x w).mono ?_;rintro e w1 ⟨rfl,rfl⟩;go_wp2_with fail;go_round
    case rel=>exact⟨k+1,zv,by go_num,HG.out⟩
    case measure=>simp[intOf];omega
  ·obtain rfl:k=n:=by omega
   have HN:Hid (jb8 ns=true):=jgf fun j hj=>HA.out j (by rw[HS.out.len];exact hj);go_wp2_with fail;go_ret;exact⟨jbz HN.out.symm,rfl⟩
theorem jpb{w:World}{B m:Nat}{v:Value}{l:List Nat}{ns:List Int}(h:OwnB w B v (l++fl (ns.take m)))(hm:m=ns.length):OwnB w B v (l++fl ns):=by
 rwa [hm,List.take_length]at h
theorem jss(n c k d:Nat)(A D:Option Addr)(l:List Nat)(ns:List Int)(w:World)(hs:Sl w A n c l)(hl:n<=1000000)(hd:SlI w D k d ns)(hk:k<=64)(ha:jb8 ns=true):
  Calls Tryz.prog 131 #[.slice A n c,.slice D k d] w (jgu (l++digs k++fl ns) 0 w):=by
 have HS:=zh hs;clear hs;have HD:=zh hd;clear hd;have HA:=zh ha;clear ha;go_enter Tryz.func131,Tryz.ntmps131;go_wp2_with fail;refine(jpa k d D ns w HD.out zv).mono ?_;rintro e w1 ⟨rfl,rfl⟩;rw[HA.out];go_wp2_with fail;refine(jbw n c (9*(1+k)) A l w HS.out hl zv).mono ?_;rintro e w1 ⟨v,rfl,ho,hb⟩;have O:=zh ho;clear ho;have B:=zh hb;clear hb;go_wp2_with fail;refine(jhu w.heap.size k v l w1 O.out B.out.size (by rw[<-HS.out.len];omega) zv).mono ?_;rintro e w2 ⟨v2,rfl,ho,hb⟩;have O2:=zh ho;clear ho;have B2:=zh (B.out.trans hb);clear hb O B;have hlen:(l++digs k).length<=1000010:=by have:=digs_nine (n:=k) zv;rw[List.length_append,<-HS.out.len];omega
 go_wp2_with fail;go_loopw [6,30] (fun v i wr=>∃m:Nat,m<=k/\i= .int .i64 m/\OwnB wr w.heap.size v (l++digs k++fl (ns.take m))/\Below w.heap.size w wr) (fun _ i _=>k -(intOf i).toNat)
 case atStart=>exact⟨0,zv,rfl,by simpa[fl]using O2.out,B2.out⟩
 case round=>
  obtain⟨m,hm,rfl,ho,hb⟩:=hrel;clear O2 B2;have O:=zh ho;clear ho;have B:=zh hb;clear hb;by_cases hlt:m<k
  ·have hml:m<ns.length:=by rw[<-HD.out.len];exact hlt
   obtain⟨x,hx,hxl⟩:=jfo HA.out hml;obtain⟨b,o,rfl,_,hc⟩:=(HD.out.on B.out).rd zv;have hck:=hc m hml;rw[hx]at hck;have HX:=zh (jhv hml hx);have HB:=zh hxl;have HF:=zh (ji1 HA.out m zv);clear hc hx hxl;go_wp2_with fail;refine(jhu w.heap.size x _ _ wr O.out B.out.size (by have:=HF.out;rw[List.length_append];omega) HB.out).mono ?_;rintro e w3 ⟨v3,rfl,ho,hb⟩;have O3:=zh ho;clear ho;have B3:=zh (B.out.trans hb);clear hb;go_wp2_with fail;go_roundw
   case rel=>exact⟨m+1,zv,by go_num,by rw[HX.out,<-List.append_assoc];exact O3.out,B3.out⟩
   case measure=>simp[intOf];omega
  ·obtain rfl:m=k:=by omega
   have O4:=zh (jpb O.out HD.out.len);obtain⟨A2,c2,hv,h2⟩:=O4.out.sl;have HV:=zh hv;clear hv;have H2:=zh h2;clear h2;go_wp2_with fail;go_ret2;rw[HV.out];exact⟨A2,c2,rfl,H2.out,B.out,OwnB.far O4.out HV.out⟩
theorem jst(n c k d:Nat)(A D:Option Addr)(l:List Nat)(ns:List Int)(w:World)(hs:Sl w A n c l)(hl:n<=1000000)(hd:SlI w D k d ns)(hk:k<=64)(ha:jb8 ns=false):
  Calls Tryz.prog 131 #[.slice A n c,.slice D k d] w (jgu l 1 w):=by
 have HS:=zh hs;clear hs;have HD:=zh hd;clear hd;have HA:=zh ha;clear ha;go_enter Tryz.func131,Tryz.ntmps131;go_wp2_with fail;refine(jpa k d D ns w HD.out zv).mono ?_;rintro e w1 ⟨rfl,rfl⟩;rw[HA.out];go_wp2_with fail;refine(jbw n c 0 A l w HS.out hl zv).mono ?_;rintro e w1 ⟨v,rfl,ho,hb⟩;have O:=zh ho;clear ho;have B:=zh hb;clear hb;obtain⟨A2,c2,hv,h2⟩:=O.out.sl;have HV:=zh hv;clear hv;have H2:=zh h2;clear h2;go_wp2_with fail;go_ret2;rw[HV.out];exact⟨A2,c2,rfl,H2.out,B.out,OwnB.far O.out HV.out⟩
theorem jpc(n c k d:Nat)(A D:Option Addr)(l:List Nat)(w:World)(hs:Sl w A n c l)(hl:n<=1000000)(hk:64<k):
  Calls Tryz.prog 131 #[.slice A n c,.slice D k d] w (jgu l 12 w):=by
 have HS:=zh hs;clear hs;go_enter Tryz.func131,Tryz.ntmps131;go_wp2_with fail;refine(jbw n c 0 A l w HS.out hl zv).mono ?_;rintro e w1 ⟨v,rfl,ho,hb⟩;have O:=zh ho;clear ho;have B:=zh hb;clear hb;obtain⟨A2,c2,hv,h2⟩:=O.out.sl;have HV:=zh hv;clear hv;have H2:=zh h2;clear h2;go_wp2_with fail;go_ret2;rw[HV.out];exact⟨A2,c2,rfl,H2.out,B.out,OwnB.far O.out HV.out⟩
def jdv(l:List Nat)(ns:List Int):List Nat:=if ns.length<=64 then(if jb8 ns then l++digs ns.length++fl ns else l)else l
def jdw(ns:List Int):Int:=if ns.length<=64 then(if jb8 ns then 0 else 1)else 12
theorem jsu(n c k d:Nat)(A D:Option Addr)(l:List Nat)(ns:List Int)(w:World)(hs:Sl w A n c l)(hl:n<=1000000)(hd:SlI w D k d ns):
  Calls Tryz.prog 131 #[.slice A n c,.slice D k d] w (jgu (jdv l ns) (jdw ns) w):=by
 unfold jdv jdw;have hkn:=hd.len;by_cases h:k<=64
 ·have h64:ns.length<=64:=by omega
  simp only[if_pos h64];by_cases ha:jb8 ns=true
  ·simp only[if_pos ha]
   have:=jss n c k d A D l ns w hs hl hd h ha;rw[hkn]at this⊢;exact this
  ·simp only[if_neg ha]
   exact jst n c k d A D l ns w hs hl hd h (by simpa using ha)
 ·have h64:¬ns.length<=64:=by omega
  simp only[if_neg h64];exact jpc n c k d A D l w hs hl zv
theorem jpd(s:St):(num s).l.length<=s.l.length:=by
 unfold num lost;split
 ·split
  ·simp
  ·simp
 ·omega
theorem jkh(s:St):(cnt s).l.length<=s.l.length:=by
 unfold cnt lost;split
 ·exact jpd s
 ·simp
theorem jhw(s:St)(k:Nat):(numsAt s k).l.length<=s.l.length:=by
 induction k with
 |zero=>exact Nat.le_refl _
 |succ k ih=>exact Nat.le_trans (jpd _) ih
def nI(l:List Nat):List Int:=l.map fun x=>((x:Nat):Int)
theorem jb9(l:List Nat):(nI l).length=l.length:=by simp[nI]
theorem jpe(l:List Nat)(x:Nat):nI (l++[x])=nI l++[(x:Int)]:=by simp[nI]
theorem jlk{n:Nat}(h:n<=64)(r:List Nat):cnt ⟨digs n++r,0⟩=⟨r,0⟩/\cntV ⟨digs n++r,0⟩=n:=by
 have h1:=num_digs (n:=n) zv r;unfold cnt cntV;rw[h1.2,if_pos h,if_pos h,h1.1];exact⟨rfl,rfl⟩
theorem jpf(s:ByteArray)(h:s.size<=64)(r:List Nat):text ⟨digs s.size++(sb s++r),0⟩=⟨r,0⟩/\textV ⟨digs s.size++(sb s++r),0⟩=sb s:=by
 have h1:=jlk h (sb s++r);have hl:s.size<=(sb s++r).length:=by rw[List.length_append,ja7];omega
 unfold text textV;rw[h1.1,h1.2];unfold tk tkV;simp only[if_pos,if_pos hl];have e:=ja7 s;rw[<-e];exact⟨by rw[List.drop_left],List.take_left⟩
theorem jpg(ns:List Int):fl ns=(ns.map Int.toNat).flatMap digs:=by
 unfold fl;rw[List.flatMap_map]
theorem nI_nat{ns:List Int}(h:jb8 ns=true):nI (ns.map Int.toNat)=ns:=by
 unfold nI;rw[List.map_map]
 conv=>rhs;rw[<-List.map_id ns]
 apply List.map_congr_left;intro x hx;obtain⟨j,hj,rfl⟩:=List.mem_iff_getElem.1 hx;obtain⟨m,hm,_⟩:=jfo h hj;rw[jak hj]at hm;simp[hm]
theorem nat_lt{ns:List Int}(h:jb8 ns=true):∀n∈ns.map Int.toNat,n<4611686018427387904:=by
 intro n hn;obtain⟨x,hx,rfl⟩:=List.mem_map.1 hn;obtain⟨j,hj,rfl⟩:=List.mem_iff_getElem.1 hx;obtain⟨m,hm,hlt⟩:=jfo h hj;rw[jak hj]at hm;rw[hm];simpa using hlt
theorem jph{ns:List Int}(h:jb8 ns=true)(r:List Nat)(k:Nat)(hk:k<=ns.length):numsAt ⟨fl ns++r,0⟩ k=⟨fl (ns.drop k)++r,0⟩/\numsV ⟨fl ns++r,0⟩ k=(ns.take k).map Int.toNat:=by
 have:=numsAt_all (ns.map Int.toNat) (nat_lt h) r k (by simpa using hk);rw[jpg,jpg,List.map_drop,List.map_take];exact this
theorem jpi{ns:List Int}(h:jb8 ns=true)(hk:ns.length<=64)(r:List Nat):list ⟨digs ns.length++(fl ns++r),0⟩=⟨r,0⟩/\nI (listV ⟨digs ns.length++(fl ns++r),0⟩)=ns:=by
 have h1:=jlk hk (fl ns++r);have h2:=jph h r ns.length (Nat.le_refl _);have h3:list ⟨digs ns.length++(fl ns++r),0⟩=⟨r,0⟩:=by
  unfold list;rw[h1.1,h1.2,h2.1,List.drop_length];simp[fl]
 refine⟨h3,?_⟩;unfold listV;rw[h3,if_pos rfl,h1.1,h1.2,h2.2,List.take_length,nI_nat h]
end Go.Proofs.YtkcdaigaclpfjaaGreatDoor
namespace Go.Proofs.YtkcdaigaclpfjaaGreatDoor
open Cdc
namespace Rc
theorem sz_small{n:Int}(h0:0<=n)(h1:n<=1099511627776):sz n≠0:=by
 obtain⟨m,rfl⟩:=Int.eq_ofNat_of_zero_le h0;rw[sz_yes zv];have:=digs_pos m;omega
theorem all_small{l:List Int}(h:∀n∈l,0<=n/\n<=1099511627776):jb8 l=true:=by
 unfold jb8;rw[List.all_eq_true];intro n hn;rw[decide_eq_true_eq];exact sz_small (h n hn).1 (h n hn).2
def bytes(r:R):List Nat:=fl (nums r)++((digs r.text.size++sb r.text)++(if r.kind=3 then digs 12++fl (Spc.flds r.sp)else[]))
def k1(l:List Nat):St:=numsAt ⟨l,0⟩ 5
def v1(l:List Nat):List Int:=nI (numsV ⟨l,0⟩ 5)
def k2(l:List Nat):St:=text (k1 l)
def t2(l:List Nat):ByteArray:=txt (textV (k1 l))
def k3(l:List Nat):St:=if(v1 l).getD 0 0=3 then list (k2 l)else k2 l
def s3(l:List Nat):Spc.Sp:=if(v1 l).getD 0 0=3 then(if(listV (k2 l)).length=12 then Spc.of (nI (listV (k2 l)))else Spc.zero)else Spc.zero
def dec(l:List Nat):R:=⟨(v1 l).getD 0 0,(v1 l).getD 1 0,(v1 l).getD 2 0,(v1 l).getD 3 0,(v1 l).getD 4 0,t2 l,s3 l⟩
theorem dec_app{r:R}(h:right r=true)(x:List Nat):dec (bytes r++x)=r/\k3 (bytes r++x)=⟨x,0⟩:=by
 have ho:=ok_of h;have ha:=all_small ho.nums;have hf:=all_small ho.flds;obtain⟨y,hy⟩:∃y,y=(if r.kind=3 then digs 12++fl (Spc.flds r.sp)else[]):=⟨_,rfl⟩;have eb:bytes r++x=fl (nums r)++((digs r.text.size++sb r.text)++(y++x)):=by
  unfold bytes;rw[<-hy];simp only[List.append_assoc]
 rw[eb];have h1:=jph ha ((digs r.text.size++sb r.text)++(y++x)) 5 (Nat.le_refl _);have e1:k1 (fl (nums r)++((digs r.text.size++sb r.text)++(y++x)))=⟨(digs r.text.size++sb r.text)++(y++x),0⟩:=by
  unfold k1;rw[h1.1];simp[nums,fl]
 have e2:v1 (fl (nums r)++((digs r.text.size++sb r.text)++(y++x)))=nums r:=by
  unfold v1;rw[h1.2,show(nums r).take 5=nums r from rfl,nI_nat ha]
 generalize fl (nums r)++((digs r.text.size++sb r.text)++(y++x))=z at*;have h2:=jpf r.text ho.text (y++x);rw[<-List.append_assoc]at h2;have e3:k2 z=⟨y++x,0⟩:=by unfold k2;rw[e1];exact h2.1
 have e4:t2 z=r.text:=by unfold t2;rw[e1,h2.2,jnd]
 have e5:(v1 z).getD 0 0=r.kind:=by rw[e2];rfl
 have key:s3 z=r.sp/\k3 z=⟨x,0⟩:=by
  unfold s3 k3;rw[e5,e3];by_cases hk:r.kind=3
  ·rw[if_pos hk]at hy
   rw[if_pos hk,if_pos hk,hy];have h3:=jpi hf (by rw[Spc.flds_length];omega) x;rw[Spc.flds_length,<-List.append_assoc]at h3;rw[h3.1,h3.2];have hl:(listV ⟨digs 12++fl (Spc.flds r.sp)++x,0⟩).length=12:=by rw[<-jb9,h3.2,Spc.flds_length]
   rw[if_pos hl,Spc.of_flds];exact⟨rfl,rfl⟩
  ·rw[if_neg hk]at hy
   rw[if_neg hk,if_neg hk,hy];exact⟨(ho.other hk).symm,rfl⟩
 refine⟨ext ?_ e4 key.1,key.2⟩;show[(v1 z).getD 0 0,(v1 z).getD 1 0,(v1 z).getD 2 0,(v1 z).getD 3 0,(v1 z).getD 4 0]=nums r;rw[e2];rfl
theorem dec_bytes{r:R}(h:right r=true):dec (bytes r)=r/\k3 (bytes r)=⟨[],0⟩:=by
 have:=dec_app h []
 rwa [List.append_nil]at this
def whole(l:List Nat):Prop:=right (dec l)=true/\bytes (dec l)=l
theorem whole_bytes{r:R}(h:right r=true):whole (bytes r):=by
 unfold whole;rw[(dec_bytes h).1];exact⟨h,rfl⟩
noncomputable def rdV(l:List Nat):R:=by classical exact if whole l then dec l else none_
noncomputable def rdE(l:List Nat):Int:=by classical exact if whole l then 0 else 2
theorem rd_yes{l:List Nat}(h:whole l):rdV l=dec l/\rdE l=0:=by unfold rdV rdE;rw[if_pos h,if_pos h];exact⟨rfl,rfl⟩
theorem rd_no{l:List Nat}(h:¬whole l):rdV l=none_/\rdE l=2:=by unfold rdV rdE;rw[if_neg h,if_neg h];exact⟨rfl,rfl⟩
theorem rd_back{r:R}(h:right r=true):rdV (bytes r)=r/\rdE (bytes r)=0:=by
 have:=rd_yes (whole_bytes h);rw[(dec_bytes h).1]at this;exact this
theorem none_wrong:right none_=false:=by decide
theorem rd_only{l:List Nat}(h:rdE l=0):right (rdV l)=true/\bytes (rdV l)=l:=by
 by_cases hw:whole l
 ·rw[(rd_yes hw).1];exact hw
 ·rw[(rd_no hw).2]at h;omega
theorem fl_le{l:List Int}(h:∀n∈l,0<=n/\n<=1099511627776):(fl l).length<=9*l.length:=by
 have:=ji1 (all_small h) l.length (Nat.le_refl _)
 rwa [List.take_length]at this
theorem bytes_len{r:R}(h:right r=true):(bytes r).length<=300:=by
 have ho:=ok_of h;have h1:=fl_le ho.nums;have h2:=fl_le ho.flds;have h3:(digs r.text.size).length<=9:=digs_nine (by have:=ho.text;omega);have h4:=ja7 r.text;have h5:=ho.text;rw[show(nums r).length=5 from rfl]at h1;rw[Spc.flds_length]at h2;unfold bytes;rw[List.length_append,List.length_append,List.length_append];split
 ·rw[List.length_append,show(digs 12).length=1 from by rw[digs_lt zv];rfl]
  omega
 ·simp;omega
theorem bytes_pos(r:R):0<(bytes r).length:=by
 unfold bytes;have:=digs_pos r.text.size;rw[List.length_append,List.length_append,List.length_append];omega
theorem fl_byte{l:List Int}:∀x∈fl l,x<256:=by
 intro x hx;unfold fl at hx;obtain⟨n,_,hn⟩:=List.mem_flatMap.1 hx;exact digs_byte _ x hn
theorem bytes_byte(r:R):∀x∈bytes r,x<256:=by
 intro x hx;unfold bytes at hx;rcases List.mem_append.1 hx with hx|hx
 ·exact fl_byte x hx
 rcases List.mem_append.1 hx with hx|hx
 ·rcases List.mem_append.1 hx with hx|hx
  ·exact digs_byte _ x hx
  ·exact jhg _ x hx
 ·split at hx
  ·rcases List.mem_append.1 hx with hx|hx
   ·exact digs_byte _ x hx
   ·exact fl_byte x hx
  ·cases hx
end Rc
theorem Rc.rd_in(l:List Nat):Rc.In (Rc.rdV l):=by
 by_cases h:Rc.whole l
 ·have h2:Rc.right (Rc.rdV l)=true:=by rw[(Rc.rd_yes h).1];exact h.1
  exact Rc.ok_in (Rc.ok_of h2)
 ·rw[(Rc.rd_no h).1];exact Rc.none_in
end Go.Proofs.YtkcdaigaclpfjaaGreatDoor
namespace Go.Proofs.YtkcdaigaclpfjaaGreatDoor
open Go.RowKit
namespace So
open Bk Fr
def pre(s:St):List Rc.R->List Rc.R
 |[]=>[]
 |r::l=>if chk s r=0 then r::pre (app s r) l else[]
theorem pre_cnt(l:List Rc.R):∀s,cnt s (pre s l)=(pre s l).length:=by
 induction l with
 |nil=>intro s;rfl
 |cons r l ih=>
  intro s;unfold pre;by_cases h:chk s r=0
  ·rw[if_pos h]
   show(if chk s r=0 then 1 else 0)+cnt (app s r) (pre (app s r) l)=(pre (app s r) l).length+1;rw[if_pos h,ih];omega
  ·rw[if_neg h];rfl
theorem pre_is{l:List Rc.R}:∀{s:St} {j:Nat},j<=l.length->cnt s (l.take j)=j->(∀h:j<l.length,chk (run s (l.take j)) l[j]≠0)->pre s l=l.take j:=by
 induction l with
 |nil=>intro s j _ _ _;simp[pre]
 |cons r l ih=>
  intro s j hj hc hn
  cases j with
  |zero=>
   have this:chk s r≠0:=hn (by simp);unfold pre;rw[if_neg this];rfl
  |succ j=>
   have hc':(if chk s r=0 then 1 else 0)+cnt (app s r) (l.take j)=j+1:=hc;have hle:=cnt_le (app s r) (l.take j);rw[List.length_take]at hle;by_cases h:chk s r=0
   ·rw[if_pos h]at hc'
    unfold pre;rw[if_pos h];have hj':j<=l.length:=by simpa using hj
    rw[ih hj' zv (fun hlt=>hn (by simpa using hlt))];rfl
   ·rw[if_neg h]at hc';omega
theorem pre_all{s:St}{l:List Rc.R}(h:cnt s l=l.length):pre s l=l:=by
 have:=pre_is (l:=l) (s:=s) (Nat.le_refl _) (by rw[List.take_length];exact h) (fun hx=>absurd hx (Nat.lt_irrefl _))
 rwa [List.take_length]at this
def Took(m:Int)(l:List Rc.R):Prop:=cnt (new m) l=l.length
theorem took_right{l:List Rc.R}:∀{s:St},cnt s l=l.length->∀r∈l,Rc.right r=true:=by
 induction l with
 |nil=>intro s _ r h;cases h
 |cons x l ih=>
  intro s hc r hr;have hc':(if chk s x=0 then 1 else 0)+cnt (app s x) l=l.length+1:=hc;have:=cnt_le (app s x) l;by_cases h:chk s x=0
  ·rw[if_pos h]at hc'
   have hc2:cnt (app s x) l=l.length:=by omega
   rcases List.mem_cons.1 hr with e|hr
   ·rw[e];exact chk_right h
   ·exact ih hc2 r hr
  ·rw[if_neg h]at hc';omega
theorem took_snoc{m:Int}{l:List Rc.R}(h:Took m l){r:Rc.R}(hc:chk (all m l) r=0):Took m (l++[r]):=by
 unfold Took at*;have hc2:chk (run (new m) l) r=0:=hc;rw[cnt_snoc,h,if_pos hc2,List.length_append];rfl
def ens(l:List Rc.R):List (List Nat):=l.map Rc.bytes
theorem ens_snoc(l:List Rc.R)(r:Rc.R):ens (l++[r])=ens l++[Rc.bytes r]:=by simp[ens]
theorem ens_len(l:List Rc.R):(ens l).length=l.length:=List.length_map ..
theorem rc_ok{r:Rc.R}(h:Rc.right r=true):ok (Rc.bytes r):=⟨Rc.bytes_pos r,Nat.le_trans (Rc.bytes_len h) zv,Rc.bytes_byte r⟩
theorem ens_ok{l:List Rc.R}(h:∀r∈l,Rc.right r=true):∀p∈ens l,ok p:=by
 intro p hp;obtain⟨r,hr,rfl⟩:=List.mem_map.1 hp;exact rc_ok (h r hr)
noncomputable def recs(ps:List (List Nat)):List Rc.R:=ps.map Rc.rdV
theorem recs_ens{l:List Rc.R}(h:∀r∈l,Rc.right r=true):recs (ens l)=l:=by
 unfold recs ens;rw[List.map_map];exact(List.map_congr_left fun r hr=>(Rc.rd_back (h r hr)).1).trans (List.map_id l)
theorem rd_right{p:List Nat}(h:Rc.right (Rc.rdV p)=true):Rc.rdE p=0/\Rc.bytes (Rc.rdV p)=p:=by
 by_cases hw:Rc.whole p
 ·exact⟨(Rc.rd_yes hw).2,(Rc.rd_only (Rc.rd_yes hw).2).2⟩
 ·rw[(Rc.rd_no hw).1,Rc.none_wrong]at h;cases h
theorem ens_take{ps:List (List Nat)}{s:St}{j:Nat}(h:cnt s ((recs ps).take j)=j)(hj:j<=ps.length):ens ((recs ps).take j)=ps.take j:=by
 have hl:((recs ps).take j).length=j:=by rw[List.length_take,recs,List.length_map];omega
 have hr:=took_right (s:=s) (l:=(recs ps).take j) (h.trans hl.symm);unfold ens recs at*;rw[<-List.map_take,List.map_map]at*;refine(List.map_congr_left fun p hp=> ?_).trans (List.map_id _);exact(rd_right (hr _ (List.mem_map.2 ⟨p,hp,rfl⟩))).2
def disk(R:Nat)(l:List Rc.R):Dk.St:=Jn.Js R l.length (ens l)
def Fits(R:Nat)(l:List Rc.R)(r:Rc.R):Prop:=(Fr.all (ens l)).length+((Rc.bytes r).length+6)<=R
instance (R:Nat) (l:List Rc.R) (r:Rc.R):Decidable (Fits R l r):=inferInstanceAs (Decidable (_<=_))
theorem disk_app{R:Nat}{l:List Rc.R}{r:Rc.R}(hr:Rc.right r=true)(h:Fits R l r):Dk.sync (Jn.app (disk R l) (Rc.bytes r))=disk R (l++[r])/\Jn.appE (disk R l) (Rc.bytes r)=0:=by
 have:=Jn.js_app (R:=R) (k:=l.length) (ps:=ens l) (by rw[ens_len];exact Nat.le_refl _) (rc_ok hr) h;unfold disk;rw[this.1,Jn.js_sync,ens_snoc,List.length_append,List.length_append,ens_len];exact⟨rfl,this.2⟩
theorem disk_full{R:Nat}{l:List Rc.R}{r:Rc.R}(hr:Rc.right r=true)(h:¬Fits R l r):Jn.app (disk R l) (Rc.bytes r)=disk R l/\Jn.appE (disk R l) (Rc.bytes r)=4:=by
 have hg:¬Dk.goes (Jn.Js R l.length (ens l)) (fr (Rc.bytes r)):=by unfold Dk.goes Jn.Js;rw[fr_length];exact h
 unfold disk Jn.app Jn.appE;rw[if_neg (by rw[Jn.putE_ok (rc_ok hr)];decide),if_neg (by rw[Jn.putE_ok (rc_ok hr)];decide)];unfold Dk.write Dk.writeE;rw[if_neg hg,if_neg hg];exact⟨rfl,rfl⟩
def Kept(r:Rc.R)(keep:Int):Prop:=(((Rc.bytes r).length+6:Nat):Int)<=keep
instance (r:Rc.R) (keep:Int):Decidable (Kept r keep):=inferInstanceAs (Decidable (_<=_))
theorem disk_torn{R:Nat}{l:List Rc.R}{r:Rc.R}(hl:∀r∈l,Rc.right r=true)(hr:Rc.right r=true)(h:Fits R l r)(keep:Int):
  Jn.torn (disk R l) (Rc.bytes r) keep=(if Kept r keep then disk R (l++[r])else disk R l)/\Jn.tornE (disk R l) (Rc.bytes r)=13:=by
 have:=Jn.js_torn (R:=R) (k:=l.length) (ps:=ens l) (ens_ok hl) (by rw[ens_len];exact Nat.le_refl _) (rc_ok hr) h keep;unfold disk;rw[this.1,ens_snoc,List.length_append,ens_len];exact⟨rfl,this.2⟩
theorem disk_torn_full{R:Nat}{l:List Rc.R}{r:Rc.R}(hr:Rc.right r=true)(h:¬Fits R l r)(keep:Int):Jn.torn (disk R l) (Rc.bytes r) keep=disk R l/\Jn.tornE (disk R l) (Rc.bytes r)=4:=by
 have:=disk_full hr h;unfold Jn.torn Jn.tornE;rw[if_pos (by rw[this.2];decide),if_pos (by rw[this.2];decide)];exact⟨rfl,this.2⟩
end So
open Go.Deep Go.Maps
theorem jsv{T:Type}(l:List T)(o:Nat)(v:T)(h:o<l.length):(l.set o v).take (o+1)=l.take o++[v]:=by
 rw[List.take_succ_eq_append_getElem (by rw[List.length_set];exact h),List.getElem_set_self,List.take_set_of_le (Nat.le_refl _)]
theorem jce(g:Nat)(t:TypeId):∀(vs:List Value) (o:Nat) (w:World) (l:List Value),w.heap[g]? =some (.cells l.toArray t (0,0))->o+vs.length<=l.length->
  (w.setCells g o vs).heap[g]? =some (.cells (l.take o++vs++l.drop (o+vs.length)).toArray t (0,0))
 |[],o,w,l,h,ho=>by
  show w.heap[g]? =_;rw[h,List.append_nil,List.length_nil,Nat.add_zero,List.take_append_drop]
 |v::vs,o,w,l,h,ho=>by
  rw[List.length_cons]at ho;have h1:=heap_setCell_same w g o _ t v h;rw[List.setIfInBounds_toArray]at h1;have h2:=jce g t vs (o+1) (w.setCell ⟨g,o,none⟩ v) (l.set o v) h1 (by rw[List.length_set];omega);rw[jsv l o v zv,List.drop_set_of_lt zv]at h2;have e:l.take o++[v]++vs++l.drop (o+1+vs.length)=l.take o++v::vs++l.drop (o+(v::vs).length):=by
   rw[List.length_cons,show o+1+vs.length=o+(vs.length+1)from by omega];simp
  rw[e]at h2;exact h2
namespace Ss
def cs(m R:Int)(A B:ByteArray)(l:Value)(b:Array Value):List Value:=[Value.int .i64 m,.int .i64 R,.string A,.string B,l]++b.toList
end Ss
structure SsAt(w:World)(g:Nat)(m R:Int)(A B:ByteArray)(l:Value)(s:Bk.St)(L V H:Value):Prop where
 row:w.heap[g]? =some (.cells (Ss.cs m R A B l (Bk.cells s L V H)).toArray 41 (0,0))
theorem jc5:Tryz.prog.underlying 41=some (.struct (Tryz.prog.fieldsOf 41)):=by kernel_rfl
theorem jdx(m R:Int)(A B:ByteArray)(l:Value)(s:Bk.St)(L V H:Value):(Tryz.prog.info? 41).map (·.size)=some (Ss.cs m R A B l (Bk.cells s L V H)).toArray.size:=by kernel_rfl
def Ss.zeros:Array Value:=(Ss.cs 0 0 ⟨#[]⟩ ⟨#[]⟩ (.slice none 0 0) Bk.zeros).toArray
theorem je1:∀w,(zeroValue 41).run Tryz.prog w= .ok (.agg Ss.zeros) w:=(zero_of_info (n:=79) (by kernel_rfl)).1
theorem jsw(s:Bk.St)(L V H:Value):(Tryz.prog.info? 39).map (·.size)=some (Bk.cells s L V H).toList.length:=by rw[Array.length_toList];exact jeq s L V H
section
variable{w w':World}{g:Nat}{m R:Int}{A B:ByteArray}{l:Value}{s:Bk.St}{L V H:Value}
theorem Ss.len:(Ss.cs m R A B l (Bk.cells s L V H)).length=79:=rfl
theorem SsAt.lt(h:SsAt w g m R A B l s L V H):g<w.heap.size:=(Array.getElem?_eq_some_iff.1 h.row).1
theorem SsAt.keep(h:SsAt w g m R A B l s L V H)(hk:w'.heap[g]? =w.heap[g]?):SsAt w' g m R A B l s L V H:=⟨hk.trans h.row⟩
theorem SsAt.on(h:SsAt w g m R A B l s L V H)(hb:Below w.heap.size w w'):SsAt w' g m R A B l s L V H:=h.keep (hb.block g h.lt)
theorem SsAt.cell(h:SsAt w g m R A B l s L V H)(k:Nat):w.cell? ⟨g,k,none⟩=(Ss.cs m R A B l (Bk.cells s L V H))[k]? :=by rw[cell_of_row w g k _ _ _ h.row,List.getElem?_toArray]
theorem SsAt.c4(h:SsAt w g m R A B l s L V H):w.cell? ⟨g,4,none⟩=some l:=h.cell 4
theorem SsAt.frz(h:SsAt w g m R A B l s L V H)(i:Nat):w.frozen? ⟨g,i,none⟩=false:=frozen_of_row w g i _ _ h.row
theorem SsAt.book(h:SsAt w g m R A B l s L V H):w.rangeAt g 5 (Bk.cells s L V H).toList:=fun j v hv=>by
 rw[h.cell];unfold Ss.cs;rw[List.getElem?_append_right (by simp)];simpa using hv
theorem SsAt.there(h:SsAt w g m R A B l s L V H){o n:Nat}(ho:o+n<=79):w.there g o n:=fun j hj=>by
 refine⟨?_,h.frz _⟩;rw[h.cell,List.getElem?_eq_getElem (by rw[Ss.len];omega)];rfl
theorem SsAt.new(w:World)(m R:Int)(A B:ByteArray)(l:Value)(s:Bk.St)(L V H:Value):SsAt (w.alloc (.cells (Ss.cs m R A B l (Bk.cells s L V H)).toArray 41)) w.heap.size m R A B l s L V H:=⟨heap_alloc_new w _⟩
theorem SsAt.setBook(h:SsAt w g m R A B l s L V H)(s2:Bk.St)(L2 V2 H2:Value):SsAt (w.setCells g 5 (Bk.cells s2 L2 V2 H2).toList) g m R A B l s2 L2 V2 H2:=⟨jce g _ _ 5 w _ h.row (by rw[Ss.len];exact Nat.le_refl 79)⟩
theorem SsAt.setDisk(h:SsAt w g m R A B l s L V H)(R2:Int)(A2 B2:ByteArray):SsAt (w.setCells g 1 [.int .i64 R2,.string A2,.string B2]) g m R2 A2 B2 l s L V H:=⟨jce g _ _ 1 w _ h.row (by rw[Ss.len];show 1+3<=79;omega)⟩
theorem SsAt.setRows(h:SsAt w g m R A B l s L V H)(l2:Value):SsAt (w.setCells g 4 [l2]) g m R A B l2 s L V H:=⟨jce g _ _ 4 w _ h.row (by rw[Ss.len];show 4+1<=79;omega)⟩
theorem Ss.one(hl:l.oneCell'=true)(hb:(Bk.cells s L V H).all (·.oneCell')=true):(Ss.cs m R A B l (Bk.cells s L V H)).toArray.all (·.oneCell')=true:=by
 rw[Array.all_eq_true_iff_forall_mem]at hb⊢;intro v hv;unfold Ss.cs at hv;rw[List.mem_toArray,List.mem_append]at hv;rcases hv with hv|hv
 ·simp only[List.mem_cons,List.not_mem_nil,or_false]at hv
  rcases hv with rfl|rfl|rfl|rfl|rfl
  ·rfl
  ·rfl
  ·rfl
  ·rfl
  ·exact hl
 ·exact hb v (by simpa using hv)
variable{ops:Array Oper}{rest:List Oper}{op:Oper}{a:Act}{Q:Exit->Act->World->Prop}
theorem jbf(hgd:op.guard=none)(x:Operand)(ho:op.op= .load 41 x)(hx:a.eval x= .pointer (some ⟨g,0,none⟩))(hg:SsAt w g m R A B l s L V H)
  (h:wpList Tryz.prog ops Q rest (a.put op.dst (.agg (Ss.cs m R A B l (Bk.cells s L V H)).toArray)) w):wpList Tryz.prog ops Q (op::rest) a w:=
 wpList_load_row hgd 41 x ho g hx 41 _ (0,0) _ hg.row jc5 rfl (jdx ..) h
theorem jbd(hgd:op.guard=none)(x:Operand)(ho:op.op= .load 39 x)(hx:a.eval x= .pointer (some ⟨g,5,none⟩))(hg:SsAt w g m R A B l s L V H)
  (h:wpList Tryz.prog ops Q rest (a.put op.dst (.agg (Bk.cells s L V H))) w):wpList Tryz.prog ops Q (op::rest) a w:=
 wpList_load_mid hgd 39 x ho g 5 hx (Bk.cells s L V H).toList _ hg.book jd7 rfl (jsw s L V H) h
theorem jfg{s2:Bk.St}{L2 V2 H2:Value}(hgd:op.guard=none)(x y:Operand)(ho:op.op= .store 39 x y)(hx:a.eval x= .pointer (some ⟨g,5,none⟩))(hy:a.eval y= .agg (Bk.cells s2 L2 V2 H2))(hg:SsAt w g m R A B l s L V H)(h1:(Bk.cells s2 L2 V2 H2).all (·.oneCell')=true)
  (h:wpList Tryz.prog ops Q rest (a.put op.dst undef) (w.setCells g 5 (Bk.cells s2 L2 V2 H2).toList)):wpList Tryz.prog ops Q (op::rest) a w:=
 wpList_store_mid hgd 39 x y ho g 5 _ hx hy (hg.there (by show 5+74<=79;omega)) (jeq ..) h1 h
theorem jas{cs0:Array Value}(hgd:op.guard=none)(x y:Operand)(ho:op.op= .store 41 x y)(hx:a.eval x= .pointer (some ⟨g,0,none⟩))(hy:a.eval y= .agg (Ss.cs m R A B l (Bk.cells s L V H)).toArray)(hg:w.heap[g]? =some (.cells cs0 41 (0,0)))(hz:cs0.size=79)(h1:(Ss.cs m R A B l (Bk.cells s L V H)).toArray.all (·.oneCell')=true)
  (h:wpList Tryz.prog ops Q rest (a.put op.dst undef) (w.setRow g (Ss.cs m R A B l (Bk.cells s L V H)).toArray)):wpList Tryz.prog ops Q (op::rest) a w:=
 wpList_plain hgd fun _ hK=>wp_store_row 41 x y ho g _ hx hy 41 _ hg (jdx ..) (by rw[hz];rfl) h1 (hK _ _ h)
theorem jmu{fn:Func}{p:Tmp}(h:fn.results= #[.cell p 41])(tmps:Array Value)(hp:tmps.getD p undef= .pointer (some ⟨g,0,none⟩))(hg:SsAt w g m R A B l s L V H):
  (results fn tmps).run Tryz.prog w= .ok (.agg (Ss.cs m R A B l (Bk.cells s L V H)).toArray) w:=
 results_cell_row h tmps w g 41 _ (0,0) _ hp hg.row jc5 rfl (jdx ..)
theorem jdy{fn:Func}{p u:Tmp}(h:fn.results= #[.cell p 41,.tmp u])(tmps:Array Value)(hp:tmps.getD p undef= .pointer (some ⟨g,0,none⟩))(hg:SsAt w g m R A B l s L V H):
  (results fn tmps).run Tryz.prog w= .ok (.tuple #[.agg (Ss.cs m R A B l (Bk.cells s L V H)).toArray,tmps.getD u undef]) w:=by
 rw[results_cell_tmp h,hp];have:=run_loadVar_row (P:=Tryz.prog) w g 41 41 _ (0,0) _ hg.row jc5 rfl (jdx ..);simp[asAddr,this,Result.andThen]
end
structure DdAt(w:World)(g:Nat)(d:Dk.St):Prop where
 row:w.heap[g]? =some (.cells #[.int .i64 (d.room:Nat),.string (tA d),.string (tB d)] 27 (0,0))
theorem ji2:Tryz.prog.underlying 27=some (.struct (Tryz.prog.fieldsOf 27)):=by kernel_rfl
theorem jhx(x y z:Value):(Tryz.prog.info? 27).map (·.size)=some (#[x,y,z]:Array Value).size:=by kernel_rfl
section
variable{w w':World}{g:Nat}{d:Dk.St}
theorem DdAt.new(w:World)(d:Dk.St):DdAt (w.alloc (.cells #[.int .i64 (d.room:Nat),.string (tA d),.string (tB d)] 27)) w.heap.size d:=⟨heap_alloc_new w _⟩
theorem DdAt.lt(h:DdAt w g d):g<w.heap.size:=(Array.getElem?_eq_some_iff.1 h.row).1
theorem DdAt.on(h:DdAt w g d)(hb:Below w.heap.size w w'):DdAt w' g d:=⟨(hb.block g h.lt).trans h.row⟩
variable{ops:Array Oper}{rest:List Oper}{op:Oper}{a:Act}{Q:Exit->Act->World->Prop}
theorem jdt(hgd:op.guard=none)(x:Operand)(ho:op.op= .load 27 x)(hx:a.eval x= .pointer (some ⟨g,0,none⟩))(hg:DdAt w g d)
  (h:wpList Tryz.prog ops Q rest (a.put op.dst (.agg #[.int .i64 (d.room:Nat),.string (tA d),.string (tB d)])) w):wpList Tryz.prog ops Q (op::rest) a w:=
 wpList_load_row hgd 27 x ho g hx 27 _ (0,0) _ hg.row ji2 rfl (jhx ..) h
theorem jca(hgd:op.guard=none)(x y:Operand)(ho:op.op= .store 27 x y)(hx:a.eval x= .pointer (some ⟨w.heap.size,0,none⟩))(hy:a.eval y= .agg #[.int .i64 (d.room:Nat),.string (tA d),.string (tB d)])
  (h:wpList Tryz.prog ops Q rest (a.put op.dst undef) (w.alloc (.cells #[.int .i64 (d.room:Nat),.string (tA d),.string (tB d)] 27))):wpList Tryz.prog ops Q (op::rest) a (w.alloc (.cells #[.int .i64 0,.string ⟨#[]⟩,.string ⟨#[]⟩] 27)):=
 wpList_plain hgd fun _ hK=>wp_store_row 27 x y ho w.heap.size #[.int .i64 (d.room:Nat),.string (tA d),.string (tB d)] hx hy 27 _ (heap_alloc_new w _) (jhx ..) rfl (by simp[Value.oneCell']) (hK _ _ (by rw[World.setRow_alloc_new];exact h))
theorem jfh{m R:Int}{A B:ByteArray}{l:Value}{s:Bk.St}{L V H:Value}(hgd:op.guard=none)(x y:Operand)(ho:op.op= .store 27 x y)(hx:a.eval x= .pointer (some ⟨g,1,none⟩))(hy:a.eval y= .agg #[.int .i64 (d.room:Nat),.string (tA d),.string (tB d)])(hg:SsAt w g m R A B l s L V H)
  (h:wpList Tryz.prog ops Q rest (a.put op.dst undef) (w.setCells g 1 [.int .i64 (d.room:Nat),.string (tA d),.string (tB d)])):wpList Tryz.prog ops Q (op::rest) a w:=
 wpList_store_mid hgd 27 x y ho g 1 _ hx hy (hg.there (by show 1+3<=79;omega)) (jhx ..) (by simp[Value.oneCell']) h
end
end Go.Proofs.YtkcdaigaclpfjaaGreatDoor
namespace Go.Proofs.YtkcdaigaclpfjaaGreatDoor
open Go.RowKit
theorem Kept.putObj(W:World)(r:Nat)(o:Obj):Kept (fun i=>i=r) W (W.putObj r o):=
 ⟨rfl,rfl,rfl,by rw[World.putObj_size];exact Nat.le_refl _,fun _ _ hi=>World.putObj_heap_other hi⟩
theorem OwnB.kept{F:Nat->Prop}{w w':World}{B:Nat}{v:Value}{l:List Nat}(h:OwnB w B v l)(hk:Kept F w w')(hF:∀i,B<=i->i<w.heap.size->¬F i):OwnB w' B v l:=by
 refine⟨⟨h.1.1,?_⟩,h.2⟩;rcases h.1.2 with h2|⟨g,cap,cur,hv,hg,hh,r⟩
 ·exact .inl h2
 ·have hlt:=(Array.getElem?_eq_some_iff.1 hh).1
  exact .inr ⟨g,cap,cur,hv,hg,(hk.block g hlt (hF g hg hlt)).trans hh,r⟩
def jpj(P:Program)(g:Nat)(lb:Array Value)(Kp:World->World->Prop)(ps:List (List Nat))(w:World):Prop:=
 ∀(l:Nat) (J:Nat->World->Prop) (W:World),Below w.heap.size w W->(∀k A B,J k A->Below A.heap.size A B->J k B)->
  (∀k A c p W0 W1,ps[k]? =some p->J k W0->Below W0.heap.size W0 W1->OwnB W1 W0.heap.size (.slice A p.length c) p->
   YieldAt Fence.wide 1 P l #[.slice A p.length c] W1 fun e W'=>e= .returned (.bool true)/\J (k+1) W'/\Kp W1 W')->
  J 0 W->
  CallsIn Fence.wide 2 P g (#[.func (.yield l) #[] #[]]++lb) W fun e W'=>(∃v,e= .returned v)/\J ps.length W'
theorem jc6{P:Program}{g:Operand}{ps:Array Tmp}{assign body:Code}{Q:Exit->Act->World->Prop}{a:Act}{w:World}
  {gf:Nat} {lb:Array Value} (hg:a.eval g= .func (.func gf) #[] lb) (eg:∀args w,(callFunc gf args).run P w= .ok (.enter gf args) w)
  {Y:Nat->Prop} {rows:List (List Nat)} (hseq:jpj P gf lb (Kept (fun i=>Y i\/i=w.heap.size+1)) rows w) (hps:ps.size=1)
  (hY0:¬Y w.heap.size) (hY1:¬Y (w.heap.size+1))
  (I:Nat->World->Prop) (hI:∀k A B,I k A->w.heap.size+2<=A.heap.size->Kept (fun i=>i=w.heap.size\/i=w.heap.size+1) A B->I k B)
  (h0:∀W1,Below w.heap.size w W1->W1.heap.size=w.heap.size+2->I 0 W1) (a₁:Value->Act)
  (hassign:∀(l:Nat) (x:Value) (W:World) (K:Act->World->Prop),K (a₁ x) W->
   assign.wpIn (Fence.wide.inRound l) 1 P (Exit.then K (fun _ _ _=>False)) {tmps:=(ps.zip #[x]).foldl (fun t (p,v)=>t.setIfInBounds p v) a.tmps,defers:=[]} W)
  (hbody:∀(l k:Nat) (A:Option Addr) (c:Nat) (p:List Nat) (W0 W:World),rows[k]? =some p->I k W0->w.heap.size+2<=W0.heap.size->Kept (fun i=>i=w.heap.size+1) W0 W->OwnB W W0.heap.size (.slice A p.length c) p->
   body.wpIn (Fence.wide.inRound l) 1 P (fun e _ W'=>e= .normal/\Kept Y W W'/\I (k+1) W') (a₁ (.slice A p.length c)) W)
  (hdone:∀W,I rows.length W->w.heap.size+2<=W.heap.size->W.heap[w.heap.size]? =some (.deferred (some []))->Q .normal {a with defers:={target:= .collected w.heap.size,args:=#[]}::a.defers} W):
  (Code.rangeFunc g ps assign body).wpIn Fence.wide 3 P Q a w:=by
 refine wpIn_rangeFunc ?_;intro fn hfn;rw[show Fence.wide.round=none from rfl];obtain⟨rec,hrec⟩:∃rec:LoopState->Option Code->Loop,rec=fun st pe=>{state:=st,pending:=pe,fn,tmps:=a.tmps,params:=ps,assign,body,defers:=w.heap.size}:=⟨_,rfl⟩;obtain⟨W1,hW1⟩:∃W1,(w.alloc (.deferred (some []))).alloc (.loop (rec .ready none))=W1:=⟨_,rfl⟩;have hs1:W1.heap.size=w.heap.size+2:=by rw[<-hW1];simp
 have hb1:Below w.heap.size w W1:=by rw[<-hW1];exact((Below.refl _ w).alloc (Nat.le_refl _) _).alloc (by simp) _
 have hL1:W1.heap[w.heap.size+1]? =some (.loop (rec .ready none)):=by
  rw[<-hW1];have:=World.alloc_heap_new (w.alloc (.deferred (some []))) (.loop (rec .ready none));rwa [World.size_alloc]at this
 have hK1:W1.heap[w.heap.size]? =some (.deferred (some [])):=by
  rw[<-hW1];exact(Below.heap_alloc _ _ _ (by simp)).trans (World.alloc_heap_new w _)
 refine⟨w.heap.size+1,[{target:= .collected w.heap.size,args:=#[]}],W1,{target:= .fn (.func gf) lb,args:=#[.func (.yield (w.heap.size+1)) #[] #[]]},W1,gf,
  #[.func (.yield (w.heap.size+1)) #[] #[]]++lb,W1,?_,?_,fun _ _=>trivial,?_,fun _=>by omega,?_⟩
 ·rw[<-hW1,hrec];exact run_enterLoop_outer _ _ _ _ _
 ·simp only[resolve,hg]
  simp[go_sem]
 ·simp[invoke,go_sem,eg]
 ·refine(hseq (w.heap.size+1)
   (fun k W=>I k W/\w.heap.size+2<=W.heap.size/\W.heap[w.heap.size+1]? =some (.loop (rec .ready none))/\W.heap[w.heap.size]? =some (.deferred (some [])))
   W1 hb1
   (fun k A B hs hb=>⟨hI k A B hs.1 hs.2.1 (Kept.of_below hb),Nat.le_trans hs.2.1 hb.size,(hb.block _ (by have:=hs.2.1;omega)).trans hs.2.2.1,(hb.block _ (by have:=hs.2.1;omega)).trans hs.2.2.2⟩)
   ?_ ⟨h0 W1 hb1 hs1,zv,hL1,hK1⟩).mono ?_
  ·rintro k A c p W0 W hp ⟨hi0,hsz,hl0,hk0⟩ hb ho
   have hszW:=hb.size;have hl:W.heap[w.heap.size+1]? =some (.loop (rec .ready none)):=(hb.block _ zv).trans hl0;have hk:W.heap[w.heap.size]? =some (.deferred (some [])):=(hb.block _ zv).trans hk0;have hy:=run_yield (P:=P) (args:=#[.slice A p.length c]) hl (by rw[hrec];exact hps.symm);rw[hrec]at hy;obtain⟨Wb,hWb⟩:∃Wb,W.putObj (w.heap.size+1) (.loop {rec .ready none with state:= .busy})=Wb:=⟨_,rfl⟩
   have kb:Kept (fun i=>i=w.heap.size+1) W Wb:=by rw[<-hWb];exact Kept.putObj _ _ _
   have hszb:=kb.size;refine⟨fn,_,assign,body,hy,roundIn_of_wpIn hfn (hassign _ _ W _ ⟨Wb,by rw[<-hWb];exact run_beginRound hl (by rw[hrec]),?_⟩)⟩;have hl2:Wb.heap[w.heap.size+1]? =some (.loop {rec .ready none with state:= .busy}):=by rw[<-hWb];exact World.putObj_heap_same zv
   have hk2:Wb.heap[w.heap.size]? =some (.deferred (some [])):=(kb.block _ zv zv).trans hk;have k0b:Kept (fun i=>i=w.heap.size+1) W0 Wb:=(Kept.of_below (F:=fun i=>i=w.heap.size+1) hb).trans kb fun _ _ h=>h;refine wpIn_mono (hbody _ k A c p W0 Wb hp hi0 hsz k0b (ho.kept kb fun i h1 _ h2=>by omega)) ?_;rintro e a3 W3 ⟨rfl,k3,hi3⟩;have hsz3:=k3.size;have hl3:=(k3.block _ zv hY1).trans hl2;have hk3:=(k3.block _ zv hY0).trans hk2;have hr:(Instr.endRound (w.heap.size+1) none).run P W3= .ok (.bool true) (W3.putObj (w.heap.size+1) (.loop (rec .ready none))):=by
    have:=run_endRound (P:=P) none hl3;rw[hrec]at this⊢;exact this
   have k4:=Kept.putObj W3 (w.heap.size+1) (.loop (rec .ready none));refine⟨_,_,hr,?_⟩;refine⟨rfl,⟨hI _ _ _ hi3 zv (k4.more fun _ _ h=> .inr h),by rw[World.putObj_size];omega,World.putObj_heap_same zv,(World.putObj_heap_other zv).trans hk3⟩,?_⟩;exact(((kb.more fun _ _ h=> .inr h).trans k3 fun _ _ h=> .inl h).trans k4 fun _ _ h=> .inr h)
  ·rintro e W2 ⟨⟨v,rfl⟩,hi,hsz,hl,hk⟩
   refine⟨none,_,by have:=run_endLoop (P:=P) hl (by rw[hrec];simp);rw[hrec]at this;exact this,?_⟩;have k4:=Kept.putObj W2 (w.heap.size+1) (.loop {rec .ready none with state:= .exhausted})
   rw[hrec]at k4;exact hdone _ (hI _ _ _ hi hsz (k4.more fun _ _ h=> .inr h)) (by rw[World.putObj_size];exact hsz) ((World.putObj_heap_other zv).trans hk)
end Go.Proofs.YtkcdaigaclpfjaaGreatDoor
namespace Go.Proofs.YtkcdaigaclpfjaaGreatDoor
open Go.RowKit Go.Shelf Fr
attribute [local go_sem] Oper.semAt_some
theorem ji3{W W':World}{a:Addr}(h:W'.heap[a.block]? =W.heap[a.block]?):W'.cell? a=W.cell? a:=by unfold World.cell?;rw[h]
theorem Sl.held{w w':World}{A:Option Addr}{n c:Nat}{l:List Nat}(h:Sl w A n c l)(hs:w.heap.size<=w'.heap.size)(hb:∀a,A=some a->w'.heap[a.block]? =w.heap[a.block]?):Sl w' A n c l:=
 ⟨⟨h.rd.1,fun hl=>by
  obtain⟨b,o,e,hbb,hc⟩:=h.rd.2 hl;exact⟨b,o,e,Nat.lt_of_lt_of_le hbb hs,fun j hj=>(ji3 (a:=⟨b,o+j,none⟩) (hb ⟨b,o,none⟩ e)).trans (hc j hj)⟩⟩,h.len,h.cap,h.max,h.nil⟩
theorem Far.prefix{l:List Nat}{k:Nat}{ps:List (List Nat)}(h:Far l k ps)(he:gE (l.drop k)=0):(scan l).1[ps.length]? =some (gP (l.drop k)):=by
 have h2:=h.yes he;unfold Far at h2;rw[h2];simp
def lenOf:Value->Nat
 | .slice _ n _=>n
 |_=>0
theorem jfb(n c:Nat)(A:Option Addr)(w:World):
  Calls Tryz.prog 43 #[.slice A n c] w fun e w'=>e= .returned (.func (.func 96) #[] #[.pointer (some ⟨w.heap.size,0,none⟩)])/\w'=w.alloc (.cells #[.slice A n c] 78):=by
 go_enter Tryz.func43,Tryz.ntmps43;go_wp2_with fail;go_ret;exact⟨rfl,rfl⟩
theorem jem(n c:Nat)(A:Option Addr)(l:List Nat)(w:World)(g:Nat)(h:Sl w A n c l)(hbox:w.heap[g]? =some (.cells #[.slice A n c] 78 (0,0)))(hn:n<=1000000000)(Z:Nat->Prop)(hZ:0<l.length->∀a,A=some a->¬Z a.block):
  jpj Tryz.prog 96 #[.pointer (some ⟨g,0,none⟩)] (Kept Z) (scan l).1 w:=by
 intro y J W hW hJ hY h0;have hc0:W.cell? ⟨g,0,none⟩=some (.slice A n c):=by
  rw[cell_of_row W g 0 _ _ _ ((hW.block g (Array.getElem?_eq_some_iff.1 hbox).1).trans hbox)];rfl
 have HS:=zh (h.on hW);have HJ:=zh hJ;have HY:=zh hY;have HK:=zh hZ;have HB:Hid (0<l.length->∀a,A=some a->a.block<W.heap.size):=fun hl a ha=>Nat.lt_of_lt_of_le (h.block hl a ha) hW.size;have H0:=zh h0;clear h hbox hW hJ hY hZ h0;refine callsIn_of_wp Tryz.func96 rfl trivial ?_ rfl;simp only[Tryz.ntmps96,List.size_toArray,List.length_cons,List.length_nil,Nat.reduceAdd,Nat.reduceSub,Array.replicate_succ,Array.replicate_zero,List.push_toArray,List.append_toArray,List.nil_append,List.cons_append]
 gi_wp2_with fail
 gi_loopw [3] (fun p wr=>∃(k:Nat) (ps:List (List Nat)) (A':Option Addr) (n' c':Nat),p= .slice A' n' c'/\Sl wr A' n' c' (l.drop k)/\(∀a',A'=some a'->∃a,A=some a/\a'.block=a.block)/\Far l k ps/\J ps.length wr/\n'<=n/\k<=l.length/\W.heap.size<=wr.heap.size)
  (fun p _=>lenOf p)
 case atStart=>
  exact⟨0,[],A,n,c,rfl,HS.out,fun a' e=>⟨a',e,rfl⟩,Far.start l,H0.out,Nat.le_refl _,Nat.zero_le _,Nat.le_refl _⟩
 case round=>
  obtain⟨k,ps,A',n',c',rfl,hs,hA,hf,hj,hn',hkl,hWs⟩:=hrel;have H:=zh hs;clear hs;have HA:=zh hA;clear hA;have F:=zh hf;clear hf;have JJ:=zh hj;clear hj;by_cases hz:n'=0
  ·subst hz
   have hk:k=l.length:=by have:=H.out.len;rw[List.length_drop]at this;omega
   have HE:=zh (F.out.stop hk);clear hk
   gi_wp2_with fail
   go_end0;exact⟨⟨_,rfl⟩,by rw[HE.out];exact JJ.out⟩
  ·have hnz:(0:Int)<(n':Int):=by omega
   have hkl':Hid (k<l.length):=by have:=H.out.len;rw[List.length_drop]at this;show _<_;omega
   have HP:Hid (gE (l.drop k)≠0->scan l=(ps,k,gE (l.drop k))):=fun he=>F.out.no hkl'.out he;have HX:Hid (gE (l.drop k)=0->Far l (k+whole (l.drop k)) (ps++[gP (l.drop k)])/\(scan l).1[ps.length]? =some (gP (l.drop k))/\gN (l.drop k)=whole (l.drop k)/\7<=whole (l.drop k)/\whole (l.drop k)<=n'/\k+whole (l.drop k)<=l.length):=fun he=>by
    have h1:=gE_zero he;have h2:=h1.2.2.1;have h3:=H.out.len;have h4:=h2;rw[List.length_drop]at h4;exact⟨F.out.yes he,F.out.prefix he,(jkg he).2,h1.1,zv,zv⟩
   have HD:Hid (∀m,l.drop (k+m)=(l.drop k).drop m):=fun m=>by rw[List.drop_drop]
   have C:=zh (jle _ _ _ (l.drop k) wr H.out zv);generalize l.drop k=d at*
   gi_wp2_with fail
   refine⟨trivial,callsIn_wide.2 ?_⟩
   (with_reducible refine C.out.mono ?_)
   rintro e w2 ⟨A2,c2,rfl,ho2,hb2⟩;by_cases he:gE d=0
   ·obtain⟨hf2,hat,hN,h7,hle,hkw⟩:=HX.out he
    have F2:=zh hf2;obtain⟨fn,tmps,assign,body,hy,hR⟩:=HY.out ps.length A2 c2 (gP d) wr w2 hat JJ.out hb2 ho2;have R:=zh hR;have H2:=zh (H.out.on hb2);have hWs2:=hb2.size;rw[hN,he];clear hR hf2 hat hN ho2 hb2 HP HX C he;generalize gP d=p at*;generalize whole d=m at*
    gi_wp2_with fail
    refine R.out.mono ?_;rintro e W3 ⟨rfl,hj3,hk3⟩;have hz3:W.heap.size<=W3.heap.size:=Nat.le_trans (Nat.le_trans hWs hWs2) hk3.size;have H3:=zh (H2.out.held hk3.size (fun a' ha'=>by
     obtain⟨a,e1,e2⟩:=HA.out a' ha';have h0:0<l.length:=by have:=hkl'.out;omega
     rw[e2];exact hk3.block _ (by have:=HB.out h0 a e1;omega) (HK.out h0 a e1)))
    have J3:=zh hj3;have hcap:=H3.out.cap;have hmax:=H3.out.max;unfold maxLen at hmax;clear hj3 hk3 R hy;by_cases hcm:c'=m
    ·have S4:=zh (H3.out.dropAll hle hcm)
     obtain rfl:n'=m:=by omega
     gi_wp2_with fail
     go_roundw
     case rel=>exact⟨k+n',ps++[p],A',n' -n',c' -n',by rw[hcm];simp,by rw[HD.out];exact S4.out,HA.out,F2.out,by rw[List.length_append];exact J3.out,zv,hkw,hz3⟩
     case measure=>simp[lenOf];omega
    ·have S4:=zh (H3.out.drop hle hcm)
     gi_wp2_with fail
     go_roundw
     case rel=>exact⟨k+m,ps++[p],_,_,_,rfl,by rw[HD.out];exact S4.out,fun a' ha'=>by
      obtain⟨x,hx,rfl⟩:=Option.map_eq_some_iff.1 ha';obtain⟨a,e1,e2⟩:=HA.out x hx;refine⟨a,e1,?_⟩;rw[<-e2];unfold Addr.add;split<;>rfl,F2.out,by rw[List.length_append];exact J3.out,zv,hkw,hz3⟩
     case measure=>simp[lenOf];omega
   ·have HS2:=zh (HP.out he)
    have hee:(((gE d:Nat):Int) !=0)=true:=by rw[bne_iff_ne];omega
    have J2:=zh (HJ.out _ _ _ JJ.out hb2);clear he HP HX C;generalize gE d=ee at*;generalize gN d=nn at*
    gi_wp2_with fail
    refine⟨fun _ h=>(by cases h),?_⟩
    gi_wp2_with fail
    refine bodyPost_ret (results_none rfl _ _ _) rfl ?_;exact⟨⟨_,rfl⟩,by rw[HS2.out];exact J2.out⟩
theorem jg9(n c:Nat)(A:Option Addr)(l:List Nat)(w:World)(h:Sl w A n c l)(hn:n<=1000000000):
  Calls Tryz.prog 80 #[.slice A n c] w (jez w (.int .i64 (((scan l).1.length:Nat):Int))):=by
 refine(callsIn_wide (n:=3)).1 ?_;refine callsIn_of_wp_marks Tryz.func80 rfl trivial ?_ rfl;simp only[Tryz.ntmps80,List.size_toArray,List.length_cons,List.length_nil,Nat.reduceAdd,Nat.reduceSub,Array.replicate_succ,Array.replicate_zero,List.push_toArray,List.append_toArray,List.nil_append,List.cons_append];have hcount:(scan l).1.length<=1000000000:=Nat.le_trans (scan_count l) (by rw[<-h.len];exact hn)
 gi_wp2_with fail
 refine⟨trivial,callsIn_wide.2 ?_⟩;refine(jfb n c A _).mono ?_;rintro e w1 ⟨rfl,rfl⟩
 gi_wp2_with fail
 have hb1:=(Below.refl w.heap.size w).alloc (Nat.le_refl _) (.cells #[.int .i64 0] 3);have hb2:=hb1.alloc (by simp) (.cells #[.slice A n c] 78);have hsz:((w.alloc (.cells #[.int .i64 0] 3)).alloc (.cells #[.slice A n c] 78)).heap.size=w.heap.size+2:=by simp
 have hbox:=heap_alloc_new (w.alloc (.cells #[.int .i64 0] 3)) (.cells #[.slice A n c] 78);have hcell:=(Below.heap_alloc (w.alloc (.cells #[.int .i64 0] 3)) (.cells #[.slice A n c] 78) w.heap.size (by simp)).trans (heap_alloc_new w (.cells #[.int .i64 0] 3));rw[show(w.alloc (.cells #[.int .i64 0] 3)).heap.size=w.heap.size+1 from by simp]at hbox;have S:=zh (h.on hb2);have HB:Hid (0<l.length->∀a,A=some a->a.block<w.heap.size):=h.block;generalize(w.alloc (.cells #[.int .i64 0] 3)).alloc (.cells #[.slice A n c] 78)=W0 at*;refine jc6 (gf:=96) (lb:=#[.pointer (some ⟨w.heap.size+1,0,none⟩)]) rfl (enters_of Tryz.func96 (by kernel_rfl) rfl) (Y:=fun i=>i=w.heap.size)
  (jem n c A l W0 _ S.out hbox hn _ (fun h0 a ha hz=>by have:=HB.out h0 a ha;omega)) rfl zv zv
  (fun k W=>W.heap[w.heap.size]? =some (.cells #[.int .i64 (k:Nat)] 3 (0,0))/\Below w.heap.size w W) ?inv ?start
  (fun v=>{tmps:=#[.slice A n c,undef,.int .i64 0,.pointer (some ⟨w.heap.size,0,none⟩),.slice A n c,.func (.func 96) #[] #[.pointer (some ⟨w.heap.size+1,0,none⟩)],v,undef,undef,undef],defers:=[]}) ?assign ?body ?done
 case inv=>
  rintro k X Y ⟨h1,h2⟩ hX hK;exact⟨(hK.block _ (Array.getElem?_eq_some_iff.1 h1).1 zv).trans h1,h2.trans (hK.below h2.size (fun i hi=>by omega))⟩
 case start=>
  intro W1 hb hz;exact⟨(hb.block _ zv).trans hcell,hb2.trans (hb.mono hb2.size)⟩
 case assign=>
  intro y x W K hK
  gi_wp2
  simpa using hK
 case body=>
  rintro y k A' c' p V0 V hp ⟨h1,h2⟩ hz0 hk ho;have hk1:(k:Int)<1000000000:=by have:=(List.getElem?_eq_some_iff.1 hp).1;omega
  have h3:=(hk.block w.heap.size (Array.getElem?_eq_some_iff.1 h1).1 zv).trans h1;have b3:=zh (h2.trans (hk.below h2.size (fun i hi=>by omega)));have hc:V.cell? ⟨w.heap.size,0,none⟩=some (.int .i64 (k:Nat)):=by rw[cell_of_row V w.heap.size 0 _ _ _ h3];rfl
  have hfz:=frozen_of_row V w.heap.size 0 _ _ h3;have H3:=zh h3;clear h1 h2 hp h3 ho hk
  gi_wp2_with fail
  exact⟨Kept.of_grown (jad _ _ _ _) (fun i hi=>by injection hi with hi;exact hi.symm),heap_setCell_same _ _ 0 _ _ _ H3.out,b3.out.setCell (p:=⟨w.heap.size,0,none⟩) (Nat.le_refl _) _⟩
 case done=>
  rintro V ⟨h1,h2⟩ hz hd;have hc:V.cell? ⟨w.heap.size,0,none⟩=some (.int .i64 ((scan l).1.length:Nat)):=by rw[cell_of_row V w.heap.size 0 _ _ _ h1];rfl
  generalize(scan l).1.length=m at*
  gi_wp2_with fail
  refine⟨by simp,.inl ⟨_,_,rfl,run_takeDeferred hd,?_⟩⟩;exact⟨_,results_tmp rfl _ _ _,rfl,h2.trans ((Kept.putObj V W0.heap.size _).below zv (fun i hi=>by omega))⟩
end Go.Proofs.YtkcdaigaclpfjaaGreatDoor
