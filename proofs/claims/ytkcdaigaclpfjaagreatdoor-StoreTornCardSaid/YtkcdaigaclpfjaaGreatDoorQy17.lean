import Derived.WalkLawsBesides
import Derived.Lib.SlBytesConst
import Derived.Test.YtkcdaigaclpfjaaGreatDoorQy16
import Derived.Lib.AppendStr
set_option maxHeartbeats 6400000
set_option maxRecDepth 100000
set_option linter.unusedSimpArgs false
set_option linter.unusedVariables false
namespace Go.Proofs.YtkcdaigaclpfjaaGreatDoor
open Go.RowKit Fr
theorem jo6(n:Nat)(w:World)(hn:n<=1000000000000):
  Calls Tryz.prog 186 #[.int .i64 n] w fun e w'=>e= .returned (.int .i64 ((sizeN n:Nat):Int))/\w=w':=by
 by_cases h1:n<1
 ·have HS:=zh (sizeN_no (.inl h1))
  obtain rfl:n=0:=by omega
  go_enter Tryz.func186,Tryz.ntmps186;go_wp2_with fail;go_ret;rw[HS.out];exact⟨rfl,rfl⟩
 ·have h1':¬(n:Int)<1:=by omega
  by_cases h2:1000<n
  ·have HS:=zh (sizeN_no (n:=n) (.inr h2))
   go_enter Tryz.func186,Tryz.ntmps186;go_wp2_with fail;go_ret;rw[HS.out];exact⟨rfl,rfl⟩
  ·have HS:=zh (sizeN_yes (n:=n) zv zv)
   have h2':¬1000<(n:Int):=by omega
   go_enter Tryz.func186,Tryz.ntmps186;go_wp2_with fail;go_ret;rw[HS.out];exact⟨jb6 zv,rfl⟩
theorem jiz(a:Nat)(ha:a<9223372036854775808):(BitVec.ofInt 64 (a:Int)).toNat=a:=by
 rw[BitVec.ofInt_natCast,BitVec.toNat_ofNat];exact Nat.mod_eq_of_lt zv
theorem jmp(a b:Nat)(ha:a<9223372036854775808)(hb:b<9223372036854775808):bits .or .i64 (a:Int) (b:Int)=((a||| b:Nat):Int):=by
 have hx:a||| b<2^63:=Nat.or_lt_two_pow zv zv;show IntKind.i64.wrap ((BitVec.ofInt 64 (a:Int)||| BitVec.ofInt 64 (b:Int)).toNat:Int)=_;rw[BitVec.toNat_or,jiz a ha,jiz b hb,IntKind.wrap_i64];omega
theorem or_two(a b:Nat)(ha:a<256)(hb:b<256):bits .or .i64 ((a:Int)*256) (b:Int)=((a*256+b:Nat):Int):=by
 rw[show(a:Int)*256=((a*256:Nat):Int)from by omega,jmp _ _ zv zv]
 congr 1
 exact nat_join 8 _ _ zv zv
theorem jmq(n c:Nat)(A:Option Addr)(l:List Nat)(w:World)(h:Sl w A n c l)(hn:n<=1000000000):
  Calls Tryz.prog 152 #[.slice A n c] w fun e w'=>e= .returned (.int .i64 ((whole l:Nat):Int))/\Below w.heap.size w w':=by
 have H:=zh h;have hlen:=h.len;by_cases h2:n<2
 ·have HW:Hid (whole l=0):=by show whole l=0;unfold whole;rw[if_pos zv]
  clear h hlen;go_enter Tryz.func152,Tryz.ntmps152;go_wp2_with fail;go_ret;rw[HW.out];exact⟨rfl,Below.refl _ _⟩
 ·have x0:=h.rd.byte 0
  have x1:=h.rd.byte 1;obtain⟨b,o,rfl,_,hc⟩:=h.rd.2 zv;have c0:=hc 0 zv;rw[Nat.add_zero]at c0;have c1:=hc 1 zv;have HN:Hid (num2 l=l.getD 0 0*256+l.getD 1 0):=rfl;have HW:Hid (whole l=if n<sizeN (num2 l)then 0 else sizeN (num2 l)):=by show whole l=_;unfold whole;rw[if_neg zv,<-hlen]
  clear hc h hlen H;generalize l.getD 0 0=p at*;generalize l.getD 1 0=q at*;have HO:=or_two p q x0 x1;rw[<-HN.out]at HO;have hnl:num2 l<65536:=by rw[HN.out];omega
  generalize num2 l=m at*;have HC:Hid (∀W,Calls Tryz.prog 186 #[.int .i64 m] W fun e w'=>e= .returned (.int .i64 ((sizeN m:Nat):Int))/\w'=W):=fun W=>same_of (jo6 m W zv);have hsl:=sizeN_le m;generalize sizeN m=s at*;by_cases hs:n<s
  ·rw[if_pos hs]at HW
   go_enter Tryz.func152,Tryz.ntmps152;go_wp2_with fail;go_quiet ((go_at_call 186;exact Calls.quiet_of_same (HC.out _)));go_wp2_with fail;go_ret;rw[HW.out];exact⟨rfl,Below.drewN (Below.refl _ _) _⟩
  ·rw[if_neg hs]at HW
   go_enter Tryz.func152,Tryz.ntmps152;go_wp2_with fail;go_quiet ((go_at_call 186;exact Calls.quiet_of_same (HC.out _)));go_wp2_with fail;go_ret;rw[HW.out];exact⟨rfl,Below.drewN (Below.refl _ _) _⟩
def putE(p:List Nat):Nat:=if p.length=0 then 1 else if 1000<p.length then 12 else 0
def putL(b p:List Nat):List Nat:=if p.length=0\/1000<p.length then b else b++fr p
theorem jlc{b p:List Nat}(h:p.length=0):putE p=1/\putL b p=b:=by unfold putE putL;rw[if_pos h,if_pos (.inl h)];exact⟨rfl,rfl⟩
theorem jld{b p:List Nat}(h:1000<p.length):putE p=12/\putL b p=b:=by unfold putE putL;rw[if_neg zv,if_pos h,if_pos (.inr h)];exact⟨rfl,rfl⟩
theorem jhr{b p:List Nat}(h:p.length≠0)(h2:p.length<=1000):putE p=0/\putL b p=b++fr p:=by unfold putE putL;rw[if_neg h,if_neg zv,if_neg zv];exact⟨rfl,rfl⟩
def jfa(l:List Nat)(er:Nat)(w:World)(e:Ending)(w':World):Prop:=
 ∃A c,e= .returned (.tuple #[.slice A l.length c,.int .i64 (er:Int)])/\OwnB w' w.heap.size (.slice A l.length c) l/\Below w.heap.size w w'
theorem jfa.mk{l:List Nat}{er:Nat}{w w':World}{v:Value}{x:Int}(h:OwnB w' w.heap.size v l)(hx:x=(er:Int))(hb:Below w.heap.size w w'):jfa l er w (.returned (.tuple #[v,.int .i64 x])) w':=by
 obtain⟨A,c,rfl,_⟩:=h.sl;subst hx;exact⟨A,c,rfl,h,hb⟩
theorem jhs(n c m d:Nat)(A D:Option Addr)(b p:List Nat)(w:World)(hb:Sl w A n c b)(hp:Sl w D m d p)(hn:n<=900000000)(hm:m<=900000000):
  Calls Tryz.prog 133 #[.slice A n c,.slice D m d] w (jfa (putL b p) (putE p) w):=by
 have hlp:=hp.len;have HB:=zh hb;have HP:=zh hp;clear hb hp;by_cases h0:m=0
 ·have HX:=zh (jlc (b:=b) (p:=p) zv)
  subst h0;clear hlp;go_enter Tryz.func133,Tryz.ntmps133;go_wp2_with fail
  (with_reducible refine(jc3 n c A b _ HB.out zv).mono ?_)
  rintro e w1 ⟨A1,c1,rfl,ho,hb1⟩;have O:=zh ho;clear ho;have B:=zh hb1;clear hb1;go_wp2_with fail;go_ret2;rw[HX.out.1,HX.out.2];exact jfa.mk O.out rfl B.out
 ·have e0:((m:Int)==0)=false:=by rw[beq_eq_false_iff_ne];omega
  by_cases h1:1000<m
  ·have HX:=zh (jld (b:=b) (p:=p) zv)
   clear hlp h0;go_enter Tryz.func133,Tryz.ntmps133;go_wp2_with fail
   (with_reducible refine(jc3 n c A b _ HB.out zv).mono ?_)
   rintro e w1 ⟨A1,c1,rfl,ho,hb1⟩;have O:=zh ho;clear ho;have B:=zh hb1;clear hb1;go_wp2_with fail;go_ret2;rw[HX.out.1,HX.out.2];exact jfa.mk O.out rfl B.out
  ·have HX:=zh (jhr (b:=b) (p:=p) zv zv)
   have LP:=zh hlp;have LB:Hid (n=b.length):=HB.out.len;have h1':m<=1000:=by omega
   clear hlp h0 h1;go_enter Tryz.func133,Tryz.ntmps133;go_wp2_with fail;have HS:=zh (sl_two w (m/256%256) (m%256) zv zv ((m:Int)/256) ((m:Int)%256) zv rfl);have B1:=zh ((Below.refl w.heap.size w).alloc (Nat.le_refl _) (.cells #[.int .u8 ((m:Int)/256),.int .u8 ((m:Int)%256)] 5));have hz1:(w.alloc (.cells #[.int .u8 ((m:Int)/256),.int .u8 ((m:Int)%256)] 5)).heap.size=w.heap.size+1:=by simp
   generalize w.alloc (.cells #[.int .u8 ((m:Int)/256),.int .u8 ((m:Int)%256)] 5)=w1 at*;rw[<-hz1];have Z1:=zh hz1;clear hz1;have T1:=zh (SlS.two HS.out (HP.out.on B1.out));have C1:=zh (jg6 2 2 _ _ _ T1.out (by have:=LP.out;simp;omega) zv);have B2:=zh (B1.out.alloc B1.out.size (.cells #[.slice (some ⟨w.heap.size,0,none⟩) 2 2,.slice D m d] 78))
   (with_reducible refine C1.out.mono ?_)
   rintro e w3 ⟨A3,c3,rfl,ho3,hb3⟩;have B3:=zh (B2.out.trans (hb3.mono B2.out.size));clear hb3;have S3:=zh ho3.sls;clear ho3;obtain⟨q,hq⟩:∃q,q=[[m/256%256,m%256],p].flatten:=⟨_,rfl⟩;have Q:Hid (q=hd2 p.length++p):=by show q=_;rw[hq,LP.out];simp[hd2]
   rw[<-hq]at S3⊢;have QL:Hid (q.length<=1002):=by show _<=_;rw[Q.out,List.length_append,hd2_length,<-LP.out];omega
   clear hq HS B1 B2 T1 C1 Z1;go_wp2_with fail;have C4:=zh (jsh q.length c3 A3 q w3 S3.out.rd rfl S3.out.nil (by have:=QL.out;omega))
   (with_reducible refine C4.out.mono ?_)
   rintro e w4 ⟨g4,c4,rfl,ho4,hb4⟩;have O4:Hid (OwnB w4 w3.heap.size (.slice (some ⟨g4,0,none⟩) (q.length+4) c4) (fr p)):=by
    have e4:fr p=q++be4 (Crc.sum q):=by rw[Q.out];rfl
    have l4:(fr p).length=q.length+4:=by rw[e4,List.length_append,jdk]
    refine⟨by rw[l4,e4];exact ho4,?_⟩;exact fr_byte HP.out.rd.1
   have B4:=zh (B3.out.trans (hb4.mono B3.out.size));clear hb4 ho4;clear C4 S3 B3;have SB:=zh (HB.out.on B4.out);have S4:=zh O4.out.sls;have T4:=zh (SlS.two SB.out S4.out);go_wp2_with fail;have C5:=zh (jg6 2 2 _ _ _ T4.out (by have:=QL.out;have:=LB.out;have:=LP.out;simp[fr_length];omega) zv);have B5:=zh (B4.out.alloc B4.out.size (.cells #[.slice A n c,.slice (some ⟨g4,0,none⟩) (q.length+4) c4] 78))
   (with_reducible refine C5.out.mono ?_)
   rintro e w6 ⟨A6,c6,rfl,ho6,hb6⟩;have O6:=zh ho6;clear ho6;have B6:=zh (B5.out.trans (hb6.mono B5.out.size));clear hb6;obtain⟨r,hr⟩:∃r,r=[b,fr p].flatten:=⟨_,rfl⟩;rw[<-hr]at O6⊢;have R:Hid (r=b++fr p):=by show r=_;rw[hr];simp
   clear hr;go_wp2_with fail;go_ret2;rw[HX.out.1,HX.out.2,<-R.out];refine jfa.mk ?_ rfl B6.out;have hsz:w.heap.size<=(w4.alloc (.cells #[.slice A n c,.slice (some ⟨g4,0,none⟩) (q.length+4) c4] 78)).heap.size:=B5.out.size;exact O6.out.lower hsz
def jg7(l:List Nat)(w:World)(e:Ending)(w':World):Prop:=
 ∃A c,e= .returned (.tuple #[.slice A (gP l).length c,.int .i64 ((gN l:Nat):Int),.int .i64 ((gE l:Nat):Int)])/\OwnB w' w.heap.size (.slice A (gP l).length c) (gP l)/\Below w.heap.size w w'
theorem jg7.mk{l:List Nat}{w w':World}{v:Value}{x y:Int}(h:OwnB w' w.heap.size v (gP l))(hx:x=(gN l:Nat))(hy:y=(gE l:Nat))(hb:Below w.heap.size w w'):jg7 l w (.returned (.tuple #[v,.int .i64 x,.int .i64 y])) w':=by
 obtain⟨A,c,rfl,_⟩:=h.sl;subst hx hy;exact⟨A,c,rfl,h,hb⟩
theorem get_no{l:List Nat}(h:gE l≠0):gP l=[]/\gN l=0:=by unfold gP gN;rw[if_neg h,if_neg h];exact⟨rfl,rfl⟩
theorem jkg{l:List Nat}(h:gE l=0):gP l=(l.take (whole l -4)).drop 2/\gN l=whole l:=by unfold gP gN;rw[if_pos h,if_pos h];exact⟨rfl,rfl⟩
theorem jle(n c:Nat)(A:Option Addr)(l:List Nat)(w:World)(h:Sl w A n c l)(hn:n<=1000000000):
  Calls Tryz.prog 97 #[.slice A n c] w (jg7 l w):=by
 have H:=zh h;have hlen:=h.len;have hcap:=h.cap;have hmax:=h.max;unfold maxLen at hmax;have hw:=whole_cases l;have HC:=zh (jmq n c A l w h hn);by_cases h0:whole l=0
 ·have HE:=zh (gE_two h0)
  have HX:=zh (get_no (l:=l) (by rw[HE.out];omega));rw[h0]at HC;clear h hlen hcap hmax hw h0;go_enter Tryz.func97,Tryz.ntmps97;go_wp2_with fail
  (with_reducible refine HC.out.mono ?_)
  rintro e w1 ⟨rfl,hb1⟩;have B1:=zh hb1;clear hb1;go_wp2_with fail;go_ret3;refine jg7.mk ?_ ?_ ?_ B1.out
  ·rw[HX.out.1];exact OwnB.none_ _ _
  ·rw[HX.out.2];rfl
  ·rw[HE.out];rfl
 ·obtain⟨h7,h6,hle,hnm⟩:7<=whole l/\whole l<=1006/\whole l<=l.length/\whole l=num2 l+6:=by
   rcases hw with hw|hw
   ·exact absurd hw h0
   ·exact hw
  have HT:=zh (h.take (k:=whole l) zv);have HY:Hid (good (l.take (whole l))=true->gE l=0):=fun hg=>gE_yes h0 hg;have HZ:Hid (good (l.take (whole l))=false->gE l=3):=fun hg=>gE_three h0 hg;have HV:Hid (gE l=0->gP l=(l.take (whole l -4)).drop 2/\gN l=whole l):=jkg;have HL:Hid ((l.take (whole l)).length<=100000):=by show _<=_;rw[List.length_take];omega
  have HD:=zh ((h.take (k:=whole l -4) zv).drop (k:=2) zv zv);have hwn:whole l<=n:=by omega
  clear hw hnm hle h0 hlen h;generalize whole l=W at*;generalize l.take W=t at*;obtain⟨g,hg⟩:∃g,good t=g:=⟨_,rfl⟩;have HG:=zh hg;clear hg;have hw0:((W:Int)==0)=false:=by rw[beq_eq_false_iff_ne];omega
  have GC:=fun(W':World) (hb:Below w.heap.size w W')=>(good_at W' HT.out HL.out hb);rw[HG.out]at HY HZ;simp only[HG.out]at GC;have GC:=zh GC
  cases g
  ·have HE:=zh (HZ.out rfl)
   have HX:=zh (get_no (l:=l) (by rw[HE.out];omega));go_enter Tryz.func97,Tryz.ntmps97;go_wp2_with fail
   (with_reducible refine HC.out.mono ?_)
   rintro e w1 ⟨rfl,hb1⟩;have B1:=zh hb1;clear hb1;go_wp2_with fail
   (with_reducible refine(GC.out _ B1.out).mono ?_)
   rintro e w2 ⟨rfl,hb2⟩;have B2:=zh hb2;clear hb2;go_wp2_with fail;go_ret3;refine jg7.mk ?_ ?_ ?_ B2.out
   ·rw[HX.out.1];exact OwnB.none_ _ _
   ·rw[HX.out.2];rfl
   ·rw[HE.out];rfl
  ·have HE:=zh (HY.out rfl)
   have HX:=zh (HV.out HE.out);rw[<-HX.out.1]at HD;have hP:(gP l).length<=100000:=by rw[<-HD.out.len];omega
   obtain⟨P,hPe⟩:∃P,P=gP l:=⟨_,rfl⟩;rw[<-hPe]at HD hP;have PE:=zh hPe;clear hPe;go_enter Tryz.func97,Tryz.ntmps97;go_wp2_with fail
   (with_reducible refine HC.out.mono ?_)
   rintro e w1 ⟨rfl,hb1⟩;have B1:=zh hb1;clear hb1;go_wp2_with fail
   (with_reducible refine(GC.out _ B1.out).mono ?_)
   rintro e w2 ⟨rfl,hb2⟩;have B2:=zh hb2;clear hb2;go_wp2_with fail;have e2:(fun x:Addr=>x.add 2)=fun x=>{block:=x.block,off:=x.off+2}:=by funext x;simp[Addr.add]
   rw[e2]at HD;have C3:=zh (jc3 _ _ _ P w2 (HD.out.on B2.out) zv)
   (with_reducible refine C3.out.mono ?_)
   rintro e w3 ⟨A3,c3,rfl,ho,hb3⟩;have O:=zh ho;clear ho;have B3:=zh (B2.out.trans (hb3.mono B2.out.size));clear hb3;clear C3 e2;go_wp2_with fail;go_ret3;refine jg7.mk ?_ ?_ ?_ B3.out
   ·rw[<-PE.out];exact O.out.lower B2.out.size
   ·rw[HX.out.2]
   ·rw[HE.out];rfl
end Go.Proofs.YtkcdaigaclpfjaaGreatDoor
namespace Go.Proofs.YtkcdaigaclpfjaaGreatDoor
open Go.RowKit
namespace Jn
open Fr
theorem scan_gives(b:List Nat)(hb:∀x∈b,x<256):(∀p∈(scan b).1,ok p)/\(scan b).2.1<=b.length/\b.take (scan b).2.1=all (scan b).1:=by
 obtain⟨n,hn⟩:∃n,b.length<=n:=⟨_,Nat.le_refl _⟩
 induction n generalizing b with
 |zero=>
  have:b=[]:=List.eq_nil_of_length_eq_zero zv;subst this;rw[scan_nil];simp[all_nil]
 |succ n ih=>
  by_cases h0:b=[]
  ·subst h0;rw[scan_nil];simp[all_nil]
  ·by_cases h:gE b=0
   ·obtain⟨h7,h1006,hle,hnum,hgood⟩:=gE_zero h
    obtain⟨i1,i2,i3⟩:=ih (b.drop (whole b)) (fun x hx=>hb x (List.mem_of_mem_drop hx)) (by rw[List.length_drop];omega);rw[List.length_drop]at i2;rw[scan_yes h];have hP:gP b=(b.take (whole b -4)).drop 2:=by unfold gP;rw[if_pos h]
    have hf:fr (gP b)=b.take (whole b):=by rw[hP];exact(same_fr hb zv).2 hgood
    have hl:=gP_length h;refine⟨?_,?_,?_⟩
    ·intro p hp
     rcases List.mem_cons.1 hp with rfl|hp
     ·exact⟨zv,zv,gP_byte hb⟩
     ·exact i1 p hp
    ·show whole b+_<=_
     omega
    ·show b.take (whole b+_)=_
     rw[all_cons,List.take_add,hf,i3]
   ·rw[scan_no h0 h];simp[all_nil]
def cutN(d:Dk.St):Nat:=(scan d.l).2.1
def opened(d:Dk.St):Dk.St:=Dk.leave d (cutN d)
def ents(d:Dk.St):List (List Nat):=(scan d.l).1
def safeN(d:Dk.St):Nat:=(scan (d.l.take d.safe)).1.length
def app(d:Dk.St)(p:List Nat):Dk.St:=if putE p≠0 then d else Dk.write d (fr p)
def appE(d:Dk.St)(p:List Nat):Int:=if putE p≠0 then(putE p:Nat)else Dk.writeE d (fr p)
def keptN(p:List Nat)(keep:Int):Nat:=(min (max keep 0) ((fr p).length:Nat)).toNat
def torn(d:Dk.St)(p:List Nat)(keep:Int):Dk.St:=if appE d p≠0 then d else opened (Dk.sync (Dk.write d ((fr p).take (keptN p keep))))
def tornE(d:Dk.St)(p:List Nat):Int:=if appE d p≠0 then appE d p else 13
def crash(d:Dk.St)(keep:Int):Dk.St:=opened (Dk.crash d keep)
def lost(d:Dk.St)(keep:Int):Int:=((ents d).length:Nat) -((ents (crash d keep)).length:Nat)
def bad:List (List Nat)->Nat
 |[]=>0
 |p::ps=>if putE p≠0 then putE p else bad ps
def swap(d:Dk.St)(ps:List (List Nat)):Dk.St:=if bad ps≠0 then d else Dk.swap d (all ps)
def swapE(d:Dk.St)(ps:List (List Nat)):Int:=if bad ps≠0 then(bad ps:Nat)else Dk.swapE d (all ps)
theorem cutN_le(d:Dk.St)(hb:∀x∈d.l,x<256):cutN d<=d.l.length:=(scan_gives d.l hb).2.1
theorem cut_opened(d:Dk.St)(hb:∀x∈d.l,x<256):Dk.cut d (cutN d:Nat)=opened d/\Dk.cutE d (cutN d:Nat)=0:=by
 have h:Dk.within d (cutN d:Nat):=⟨zv,by have:=cutN_le d hb;omega⟩;refine⟨?_,?_⟩
 ·unfold Dk.cut;rw[if_pos h,Int.toNat_natCast];rfl
 ·unfold Dk.cutE;rw[if_pos h]
theorem opened_l(d:Dk.St)(hb:∀x∈d.l,x<256):(opened d).l=all (ents d)/\(opened d).safe=(all (ents d)).length/\(opened d).room=d.room/\ents (opened d)=ents d/\∀p∈ents d,ok p:=by
 obtain⟨h1,h2,h3⟩:=scan_gives d.l hb;have hl:(opened d).l=all (ents d):=h3;refine⟨hl,?_,rfl,?_,h1⟩
 ·show(scan d.l).2.1=_
  unfold ents;rw[<-h3,List.length_take];omega
 ·show(scan (opened d).l).1=_
  rw[hl];exact congrArg (·.1) (scan_whole (ps:=ents d) h1)
def Byt(d:Dk.St):Prop:=∀x∈d.l,x<256
theorem Byt.write{d:Dk.St}(h:Byt d){b:List Nat}(hb:∀x∈b,x<256):Byt (Dk.write d b):=by
 unfold Dk.write;split
 ·intro x hx
  rcases List.mem_append.1 hx with hx|hx
  ·exact h x hx
  ·exact hb x hx
 ·exact h
theorem Byt.sync{d:Dk.St}(h:Byt d):Byt (Dk.sync d):=h
theorem bad_at{ls:List (List Nat)}{m:Nat}(h:∀j,j<m->putE (ls.getD j [])=0)(hm:m<ls.length)(he:putE (ls.getD m [])≠0):bad ls=putE (ls.getD m []):=by
 induction ls generalizing m with
 |nil=>simp at hm
 |cons p ps ih=>
  rcases m with _|m
  ·simp only[List.getD_cons_zero]at he⊢
   unfold bad;rw[if_pos he]
  ·have h0:=h 0 zv
   simp only[List.getD_cons_zero]at h0;unfold bad;rw[if_neg zv,List.getD_cons_succ];rw[List.getD_cons_succ]at he;exact ih (fun j hj=>by have:=h (j+1) zv;rwa [List.getD_cons_succ]at this) (by simpa using hm) he
theorem bad_none{ls:List (List Nat)}(h:∀j,j<ls.length->putE (ls.getD j [])=0):bad ls=0:=by
 induction ls with
 |nil=>rfl
 |cons p ps ih=>
  have h0:=h 0 (by simp);simp only[List.getD_cons_zero]at h0;unfold bad;rw[if_neg zv];exact ih fun j hj=>by have:=h (j+1) (by simp;omega);rwa [List.getD_cons_succ]at this
theorem put_ok{p:List Nat}(h:putE p=0):p.length≠0/\p.length<=1000:=by
 unfold putE at h;split at h
 ·omega
 ·split at h<;>omega
theorem all_len{ls:List (List Nat)}{m:Nat}(hm:m<=ls.length)(h:∀j,j<m->putE (ls.getD j [])=0):(all (ls.take m)).length<=1006*m:=by
 induction m with
 |zero=>simp[all_nil]
 |succ m ih=>
  have:=ih zv fun j hj=>h j zv;rw[all_take_snoc zv,List.length_append,fr_length];have:=put_ok (h m zv);omega
end Jn
open Fr
theorem jsn(m d:Nat)(D:Option Addr)(p:List Nat)(w:World)(h:Sl w D m d p)(hm:m<=1000):
  Calls Tryz.prog 151 #[.slice D m d] w (jex (fr p) w):=by
 have hlp:=h.len;have HP:=zh h;clear h;have HS:=zh (sl_two w (m/256%256) (m%256) zv zv ((m:Int)/256) ((m:Int)%256) zv rfl);have O1:Hid (OwnB (w.alloc (.cells #[.int .u8 ((m:Int)/256),.int .u8 ((m:Int)%256)] 5)) w.heap.size (.slice (some ⟨w.heap.size,0,none⟩) 2 2) (hd2 p.length)):=by
  refine⟨?_,hd2_byte _⟩;have:=World.ownsRow_lit (base:=w.heap.size) (e:=5) (size:=1) w #[.int .u8 ((m:Int)/256),.int .u8 ((m:Int)%256)] 2 (Nat.le_refl _) (by unfold maxLen;omega) rfl;have e2:vals (hd2 p.length)=[.int .u8 ((m:Int)/256),.int .u8 ((m:Int)%256)]:=by
   rw[<-hlp];simp only[vals,hd2,List.map_cons,List.map_nil,List.cons.injEq,and_true];exact⟨jfr zv,rfl⟩
  rw[e2];exact this
 have B1:=zh ((Below.refl w.heap.size w).alloc (Nat.le_refl _) (.cells #[.int .u8 ((m:Int)/256),.int .u8 ((m:Int)%256)] 5));have HL:Hid ((hd2 p.length).length+p.length<=140737488355328):=by show _<=_;rw[hd2_length];omega
 have LP:=zh hlp;clear hlp;go_enter Tryz.func151,Tryz.ntmps151;go_wp2_with(at_builtin;refine jal rfl (.tmp 13) (.tmp 14) rfl w.heap.size _ (hd2 p.length) rfl O1.out m d D p rfl (HP.out.on B1.out) HL.out B1.out.size ?_;intro v2 w2 ho2 hb2;have O2:=zh ho2;have B2:=zh (B1.out.trans hb2);clear ho2 hb2);obtain⟨A2,c2,rfl,hs2⟩:=O2.out.sl;have S2:=zh hs2;clear hs2;obtain⟨q,hq⟩:∃q,q=hd2 p.length++p:=⟨_,rfl⟩;have Q:=zh hq;rw[<-hq]at S2 O2⊢;clear hq;have QL:Hid (q.length<=1002):=by show _<=_;rw[Q.out,List.length_append,hd2_length,<-LP.out];omega
 have C4:=zh (jkf q.length c2 A2 q w2 S2.out.rd rfl S2.out.nil (by have:=QL.out;omega));go_wp2_with fail
 (with_reducible refine C4.out.mono ?_)
 rintro e w4 ⟨g4,c4,rfl,ho4,hb4⟩;have O4:Hid (OwnB w4 w2.heap.size (.slice (some ⟨g4,0,none⟩) (q.length+4) c4) (fr p)):=by
  have e4:fr p=q++be4 (Crc.sum q):=by rw[Q.out];rfl
  have l4:(fr p).length=q.length+4:=by rw[e4,List.length_append,jdk]
  refine⟨by rw[l4,e4];exact ho4,?_⟩;exact fr_byte HP.out.rd.1
 have B4:=zh (B2.out.trans (hb4.mono B2.out.size));clear hb4 ho4;go_wp2_with fail;go_ret;exact jex.mk (O4.out.lower B2.out.size) B4.out
def jc4(b p:List Nat)(w:World)(e:Ending)(w':World):Prop:=
 ∃A c,e= .returned (.tuple #[.slice A (putL b p).length c,.int .i64 ((putE p:Nat):Int)])/\Sl w' A (putL b p).length c (putL b p)/\(putE p=0->OwnB w' w.heap.size (.slice A (putL b p).length c) (putL b p))/\Below w.heap.size w w'
theorem jc4.same{b p:List Nat}{w:World}{A:Option Addr}{n c:Nat}{x:Int}(hs:Sl w A n c b)(hl:putL b p=b)(hx:x=(putE p:Nat))(h0:putE p≠0):jc4 b p w (.returned (.tuple #[.slice A n c,.int .i64 x])) w:=by
 have hn:=hs.len;subst hn hx;unfold jc4;rw[hl];exact⟨A,c,rfl,hs,fun h=>absurd h h0,Below.refl _ _⟩
theorem jc4.mk{b p:List Nat}{w w':World}{v:Value}{x:Int}(h:OwnB w' w.heap.size v (putL b p))(hx:x=(putE p:Nat))(hb:Below w.heap.size w w'):jc4 b p w (.returned (.tuple #[v,.int .i64 x])) w':=by
 obtain⟨A,c,rfl,hs⟩:=h.sl;subst hx;exact⟨A,c,rfl,hs,fun _=>h,hb⟩
theorem jo7(n c m d:Nat)(A D:Option Addr)(b p:List Nat)(w:World)(hb:Sl w A n c b)(hp:Sl w D m d p)(hn:n<=900000000)(hm:m<=900000000):
  Calls Tryz.prog 93 #[.slice A n c,.slice D m d] w (jc4 b p w):=by
 have hlp:=hp.len;have HB:=zh hb;have HP:=zh hp;clear hb hp;by_cases h0:m=0
 ·have HX:=zh (jlc (b:=b) (p:=p) zv)
  subst h0;clear hlp;go_enter Tryz.func93,Tryz.ntmps93;go_wp2_with fail;go_ret2;exact jc4.same HB.out HX.out.2 (by rw[HX.out.1];rfl) (by rw[HX.out.1];omega)
 ·have e0:((m:Int)==0)=false:=by rw[beq_eq_false_iff_ne];omega
  by_cases h1:1000<m
  ·have HX:=zh (jld (b:=b) (p:=p) zv)
   clear hlp h0;go_enter Tryz.func93,Tryz.ntmps93;go_wp2_with fail;go_ret2;exact jc4.same HB.out HX.out.2 (by rw[HX.out.1];rfl) (by rw[HX.out.1];omega)
  ·have HX:=zh (jhr (b:=b) (p:=p) zv zv)
   have LP:=zh hlp;have LB:Hid (n=b.length):=HB.out.len;have h1':m<=1000:=by omega
   have O0:=zh (OwnB.none_ w w.heap.size);have HL:Hid (([]:List Nat).length+b.length<=140737488355328):=by show _<=_;rw[<-LB.out];simp;omega
   clear hlp h0 h1;go_enter Tryz.func93,Tryz.ntmps93;go_wp2_with(at_builtin;refine jal rfl (.tmp 15) (.tmp 16) rfl w.heap.size _ [] rfl O0.out n c A b rfl HB.out HL.out (Nat.le_refl _) ?_;intro v2 w2 ho2 hb2;have O2:=zh ho2;have B2:=zh hb2;clear ho2 hb2);have C3:=zh (jsn m d D p w2 (HP.out.on B2.out) h1')
   (with_reducible refine C3.out.mono ?_)
   rintro e w3 ⟨A3,c3,rfl,ho3,hb3⟩;have S3:=zh ho3.sls;clear ho3;have O3:=zh (O2.out.below hb3);have B3:=zh (B2.out.trans (hb3.mono B2.out.size));clear hb3;rw[List.nil_append]at O3;obtain⟨f,hf⟩:∃f,f=fr p:=⟨_,rfl⟩;rw[<-hf]at S3⊢;have FF:=zh hf;clear hf;have HL3:Hid (b.length+f.length<=140737488355328):=by show _<=_;rw[FF.out,fr_length,<-LB.out,<-LP.out];omega
   clear C3;go_wp2_with(at_builtin;refine jal rfl (.tmp 18) (.tmp 20) rfl w.heap.size _ b rfl O3.out f.length c3 A3 f rfl S3.out HL3.out B3.out.size ?_;intro v4 w4 ho4 hb4;have O4:=zh ho4;have B4:=zh hb4;clear ho4 hb4);go_ret2;refine jc4.mk ?_ (by rw[HX.out.1];rfl) (B3.out.trans B4.out);rw[HX.out.2,<-FF.out];exact O4.out
def jg8(l:List Nat)(w:World)(e:Ending)(w':World):Prop:=
 ∃A c,e= .returned (.tuple #[.slice A (scan l).1.length c,.int .i64 (((scan l).2.1:Nat):Int),.int .i64 (((scan l).2.2:Nat):Int)])/\OwnS w' w.heap.size (.slice A (scan l).1.length c) (scan l).1/\Below w.heap.size w w'
theorem jg8.mk{l:List Nat}{w w':World}{v:Value}{x y:Int}{ps:List (List Nat)}{k z:Nat}(hs:scan l=(ps,k,z))(h:OwnS w' w.heap.size v ps)(hx:x=(k:Nat))(hy:y=(z:Nat))(hb:Below w.heap.size w w'):jg8 l w (.returned (.tuple #[v,.int .i64 x,.int .i64 y])) w':=by
 obtain⟨A,c,rfl,_⟩:=h.sls;subst hx hy;unfold jg8;rw[hs];exact⟨A,c,rfl,h,hb⟩
def Far(l:List Nat)(k:Nat)(ps:List (List Nat)):Prop:=scan l=(ps++(scan (l.drop k)).1,k+(scan (l.drop k)).2.1,(scan (l.drop k)).2.2)
theorem Far.start(l:List Nat):Far l 0 []:=by unfold Far;simp
theorem Far.stop{l:List Nat}{k:Nat}{ps:List (List Nat)}(h:Far l k ps)(hk:k=l.length):scan l=(ps,k,0):=by
 unfold Far at h;rw[hk,List.drop_length,scan_nil]at h;rw[h,hk];simp
theorem Far.no{l:List Nat}{k:Nat}{ps:List (List Nat)}(h:Far l k ps)(hk:k<l.length)(he:gE (l.drop k)≠0):scan l=(ps,k,gE (l.drop k)):=by
 unfold Far at h;have h0:l.drop k≠[]:=fun e=>by have:=congrArg List.length e;simp at this;omega
 rw[scan_no h0 he]at h;rw[h];simp
theorem Far.yes{l:List Nat}{k:Nat}{ps:List (List Nat)}(h:Far l k ps)(he:gE (l.drop k)=0):Far l (k+whole (l.drop k)) (ps++[gP (l.drop k)]):=by
 unfold Far at*;rw[scan_yes he,List.drop_drop]at h;rw[h];simp;omega
def FJat(w:World)(A:Option Addr)(n c:Nat)(l:List Nat)(a':Act)(w':World):Prop:=
 ∃(k:Nat) (v:Value) (ps:List (List Nat)) (u7 u8 u9 u10 u11 u12 u13 u14 u15 u16 u17 u18 u19 u20 u21 u22 u23 u24 u25 u26 u27 u28 u29 u30 u31 u32 u33 u34 u35:Value),a'={tmps:=#[.slice A n c,undef,.slice none 0 0,.int .i64 0,.int .i64 0,v,.int .i64 (k:Int),u7,u8,u9,u10,u11,u12,u13,u14,u15,u16,u17,u18,u19,u20,u21,u22,u23,u24,u25,u26,u27,u28,u29,u30,u31,u32,u33,u34,u35],defers:=[]}/\k<=n/\ps.length<=k/\OwnS w' w.heap.size v ps/\Below w.heap.size w w'/\Far l k ps
theorem jo8(n c:Nat)(A:Option Addr)(l:List Nat)(w:World)(h:Sl w A n c l)(hn:n<=1000000000):
  Calls Tryz.prog 137 #[.slice A n c] w (jg8 l w):=by
 have hlen:=h.len;have hcap:=h.cap;have hmax:=h.max;unfold maxLen at hmax;have H:=zh h;clear h;have HN:=zh hlen;clear hlen;go_enter Tryz.func137,Tryz.ntmps137;go_wp2;refine jdr 0 (FJat w A n c l) (fun a' _=>n -(intOf (a'.tmps.getD 6 undef)).toNat) rfl ?_ ?_
 ·intro key
  go_wp2;go_step3;rename_i K hK;refine hK _ _ (key _ _ ?_);exact⟨0,_,[],_,_,_,_,_,_,_,_,_,_,_,_,_,_,_,_,_,_,_,_,_,_,_,_,_,_,_,_,_,rfl,zv,by simp,OwnS.none_ _ _,Below.refl _ _,Far.start l⟩
 ·rintro a' w' ⟨k,v,ps,u7,u8,u9,u10,u11,u12,u13,u14,u15,u16,u17,u18,u19,u20,u21,u22,u23,u24,u25,u26,u27,u28,u29,u30,u31,u32,u33,u34,u35,rfl,hk,hpk,ho,hb,hf⟩
  have O:=zh ho;clear ho;have B:=zh hb;clear hb;have F:=zh hf;clear hf;by_cases hend:k=n
  ·have hs:=zh (F.out.stop (hend.trans HN.out))
   subst hend;go_wp2_with fail;simp only[Exit.jump];go_ret3;exact jg8.mk hs.out O.out rfl rfl B.out
  ·have hlt:k<n:=by omega
   have hne:((k:Int)==(n:Int))=false:=by rw[beq_eq_false_iff_ne];omega
   have hck:¬c=k:=by omega
   have HD:=zh ((H.out.drop (k:=k) zv hck).on B.out);have hnk:n -k<=1000000000:=by omega
   have HP:Hid (gE (l.drop k)≠0->scan l=(ps,k,gE (l.drop k))):=fun he=>F.out.no (by rw[<-HN.out];exact hlt) he;have HY:Hid (gE (l.drop k)=0->Far l (k+whole (l.drop k)) (ps++[gP (l.drop k)])):=fun he=>F.out.yes he;have HZ:Hid (gE (l.drop k)=0->7<=whole (l.drop k)/\k+whole (l.drop k)<=n):=fun he=>by
    have h1:=gE_zero he;have h2:=h1.2.2.1;rw[List.length_drop,<-HN.out]at h2;exact⟨h1.1,zv⟩
   have HX:Hid (gE (l.drop k)=0->gN (l.drop k)=whole (l.drop k)):=fun he=>(jkg he).2;generalize l.drop k=d at*;clear hend;go_wp2_with fail;have C:=zh (jle _ _ _ d w' HD.out hnk)
   (with_reducible refine C.out.mono ?_)
   rintro e w2 ⟨A2,c2,rfl,ho2,hb2⟩;have O2:=zh ho2;clear ho2;have OO:=zh (O.out.below hb2);have B2:=zh (B.out.trans (hb2.mono B.out.size));clear hb2;have HF:Hid (0<(gP d).length->∀a,A2=some a->v.ownBlock≠some a.block):=fun _ a ha e2=>by
    have h1:=O2.out.from_ a ha;have h2:=(O.out.base a.block e2).2;omega
   obtain⟨p,hp⟩:∃p,p=gP d:=⟨_,rfl⟩;rw[<-hp]at O2 HF HY⊢;clear hp C;by_cases he:gE d=0
   ·have G:=zh (HY.out he)
    have HW:=zh (HZ.out he);rw[he,HX.out he];have hw1:=HW.out.1;have hw2:=HW.out.2;clear he HP HY HZ HX;generalize whole d=W at*;clear HW;have hpl:ps.length<=3000000000:=by omega
    go_wp2_with(at_builtin;refine je0 rfl (.tmp 29) (.tmp 31) rfl w.heap.size v ps rfl OO.out A2 p.length c2 p O2.out.sls rfl HF.out hpl B2.out.size ?_;intro v3 w3 ho3 hb3;have O3:=zh ho3;have B3:=zh hb3;clear ho3 hb3);go_step3;refine⟨rfl,⟨k+W,v3,ps++[p],_,_,_,_,_,_,_,_,_,_,_,_,_,_,_,_,_,_,_,_,_,_,_,_,_,_,_,_,_,rfl,hw2,by rw[List.length_append];simp;omega,O3.out,B2.out.trans B3.out,G.out⟩,?_⟩;simp[intOf];omega
   ·have HS:=zh (HP.out he)
    have hee:(((gE d:Nat):Int) !=0)=true:=by rw[bne_iff_ne];omega
    clear he HP HY HZ HX;generalize gE d=ee at*;generalize gN d=nn at*;go_wp2_with fail;simp only[Exit.jump];go_ret3;exact jg8.mk HS.out OO.out rfl rfl B2.out
theorem jmr(w:World)(o1 o2:Obj):((w.alloc o1).alloc o2).heap[w.heap.size]? =some o1/\((w.alloc o1).alloc o2).heap[w.heap.size+1]? =some o2:=by
 refine⟨jag (heap_alloc_new w o1) (jka _ o2),?_⟩;have:=heap_alloc_new (w.alloc o1) o2
 rwa [show(w.alloc o1).heap.size=w.heap.size+1 from by simp]at this
theorem jlf{d:Dk.St}(h:Dk.Okay d)(n c:Nat)(A:Option Addr)(p:List Nat)(w:World)(hs:Sl w A n c p)(hn:n<=900000000):
  Calls Tryz.prog 38 #[.agg #[.int .i64 (d.room:Nat),.string (tA d),.string (tB d)],.slice A n c] w (jkb (Jn.app d p) (Jn.appE d p) w):=by
 obtain⟨o1,ho1⟩:∃o1,o1=Obj.cells #[.int .i64 (d.room:Nat),.string (tA d),.string (tB d)] 27:=⟨_,rfl⟩;obtain⟨o2,ho2⟩:∃o2,o2=Obj.cells #[.int .i64 0,.string ⟨#[]⟩,.string ⟨#[]⟩] 27:=⟨_,rfl⟩;obtain⟨D1,E1⟩:=jmr w o1 o2;have B1:=jei w o1 o2;have C2:=zh (jo7 0 0 n c none A [] p ((w.alloc o1).alloc o2) (Sl.none_ _) (hs.on B1) zv zv);rw[ho1,ho2]at C2 D1 E1 B1;have HD1:=zh D1;have HE1:=zh E1;have HB1:=zh B1;clear D1 E1 B1 ho1 ho2 o1 o2 hs hn;by_cases he:putE p=0
 ·have hL:putL [] p=fr p:=by
   unfold putE at he;split at he
   ·omega
   ·split at he
    ·omega
    ·unfold putL;rw[if_neg zv];simp
  have hA:Jn.app d p=Dk.write d (fr p)/\Jn.appE d p=Dk.writeE d (fr p):=by
   unfold Jn.app Jn.appE;rw[if_neg zv,if_neg zv];exact⟨rfl,rfl⟩
  have hfl:(fr p).length<=1000000000:=by
   rw[fr_length];unfold putE at he;split at he
   ·omega
   ·split at he
    ·omega
    ·omega
  rw[hA.1,hA.2];have CW:=zh (fun W=>qWrite h (fr p) hfl W);obtain⟨d',hd'⟩:∃d',d'=Dk.write d (fr p):=⟨_,rfl⟩;obtain⟨E,hE⟩:∃E,E=Dk.writeE d (fr p):=⟨_,rfl⟩;rw[<-hd',<-hE]at CW⊢;clear hd' hE hA hfl h;unfold jc4 at C2;rw[hL,he]at C2;clear hL he;generalize fr p=f at*;go_enter Tryz.func38,Tryz.ntmps38;go_wp2_with fail
  (with_reducible refine C2.out.mono ?_)
  rintro e w4 ⟨A4,c4,rfl,hs4,_,hb4⟩;have B4:=zh (HB1.out.trans (hb4.mono HB1.out.size));have E4:=zh (jag HE1.out hb4);obtain⟨f0,f1,f2,_,_,_⟩:=jfn (jag HD1.out hb4);have hcv:=jor (c:=c4) hs4.rd rfl;clear hs4 hb4;go_wp2_with fail
  (with_reducible refine(CW.out _).mono ?_)
  rintro e w5 ⟨rfl,hb5⟩;have B5:=zh (B4.out.trans (hb5.mono B4.out.size));have E5:=zh (jag E4.out hb5);obtain⟨r0,r1,r2,r3,r4,r5⟩:=jfn E5.out;have E7:=zh (jiu E5.out (.int .i64 (d'.room:Nat)) (.string (tA d')) (.string (tB d')));obtain⟨t0,t1,t2⟩:=jk9 E7.out;have B7:=zh (B5.out.grown (jg4 _ (w.heap.size+1) (.int .i64 (d'.room:Nat)) (.string (tA d')) (.string (tB d'))) B5.out.size (fun i hi=>by injection hi with hi;omega))
  clear hb5 f0 f1 f2 hcv;go_wp2_with fail;exact bodyPost_ret (v:= .tuple #[.agg #[.int .i64 (d'.room:Nat),.string (tA d'),.string (tB d')],.int .i64 E]) (by simp[results,Tryz.results38,go_sem,t0,t1,t2]) rfl ⟨rfl,B7.out⟩
 ·have hA:Jn.app d p=d/\Jn.appE d p=(putE p:Nat):=by
   unfold Jn.app Jn.appE;rw[if_pos he,if_pos he];exact⟨rfl,rfl⟩
  rw[hA.1,hA.2];have hne:(((putE p:Nat):Int) !=0)=true:=by rw[bne_iff_ne];omega
  clear hA he h;unfold jc4 at C2;obtain⟨q,hq⟩:∃q,q=(putL [] p).length:=⟨_,rfl⟩;rw[<-hq]at C2;generalize putE p=x at*;clear hq;go_enter Tryz.func38,Tryz.ntmps38;go_wp2_with fail
  (with_reducible refine C2.out.mono ?_)
  rintro e w4 ⟨A4,c4,rfl,_,_,hb4⟩;have B4:=zh (HB1.out.trans (hb4.mono HB1.out.size));have E4:=zh (jag HE1.out hb4);obtain⟨f0,f1,f2,_,_,_⟩:=jfn (jag HD1.out hb4);obtain⟨r0,r1,r2,r3,r4,r5⟩:=jfn E4.out;have E7:=zh (jiu E4.out (.int .i64 (d.room:Nat)) (.string (tA d)) (.string (tB d)));obtain⟨t0,t1,t2⟩:=jk9 E7.out;have B7:=zh (B4.out.grown (jg4 _ (w.heap.size+1) (.int .i64 (d.room:Nat)) (.string (tA d)) (.string (tB d))) B4.out.size (fun i hi=>by injection hi with hi;omega))
  clear hb4;go_wp2_with fail;exact bodyPost_ret (v:= .tuple #[.agg #[.int .i64 (d.room:Nat),.string (tA d),.string (tB d)],.int .i64 (x:Nat)]) (by simp[results,Tryz.results38,go_sem,t0,t1,t2]) rfl ⟨rfl,B7.out⟩
end Go.Proofs.YtkcdaigaclpfjaaGreatDoor
namespace Go.Proofs.YtkcdaigaclpfjaaGreatDoor
open Go.RowKit
namespace Jn
open Fr
def Js(R k:Nat)(ps:List (List Nat)):Dk.St:=⟨R,(all (ps.take k)).length,all ps⟩
theorem putE_ok{p:List Nat}(h:ok p):putE p=0:=by unfold putE;rw[if_neg (by have:=h.1;omega),if_neg (by have:=h.2.1;omega)]
theorem all_front(ps:List (List Nat))(k:Nat):(all ps).take (all (ps.take k)).length=all (ps.take k):=by
 conv=>lhs;rw[<-List.take_append_drop k ps,all_append]
 rw[List.take_append_drop,List.take_left'];rfl
section
variable{R k:Nat}{ps:List (List Nat)}(h:∀p∈ps,ok p)(hk:k<=ps.length)
include h
theorem js_ents:ents (Js R k ps)=ps:=by unfold ents Js;rw[scan_whole h]
theorem js_byt:Byt (Js R k ps):=all_byte h
include hk in
theorem js_safe:safeN (Js R k ps)=k:=by
 unfold safeN Js;show(scan ((all ps).take (all (ps.take k)).length)).1.length=k;rw[all_front,scan_whole (fun p hp=>h p (List.mem_of_mem_take hp)),List.length_take];omega
omit h in
include hk in
theorem js_app{p:List Nat}(hp:ok p)(hr:(all ps).length+(p.length+6)<=R):app (Js R k ps) p=Js R k (ps++[p])/\appE (Js R k ps) p=0:=by
 have hg:Dk.goes (Js R k ps) (fr p):=by unfold Dk.goes Js;rw[fr_length];exact hr
 unfold app appE;rw[if_neg (by rw[putE_ok hp];decide),if_neg (by rw[putE_ok hp];decide)];unfold Dk.write Dk.writeE;rw[if_pos hg,if_pos hg];refine⟨?_,rfl⟩;unfold Js;rw[List.take_append_of_le_length hk,all_append,all_one]
omit h in
theorem js_sync:Dk.sync (Js R k ps)=Js R ps.length ps:=by unfold Dk.sync Js;rw[List.take_length]
omit h in
theorem js_swap{qs:List (List Nat)}(hq:∀p∈qs,ok p)(hr:(all qs).length<=R):swap (Js R k ps) qs=Js R qs.length qs/\swapE (Js R k ps) qs=0:=by
 have hb:bad qs=0:=bad_none fun j hj=>by
  rw[List.getD_eq_getElem?_getD,List.getElem?_eq_getElem hj];exact putE_ok (hq _ (List.getElem_mem hj))
 unfold swap swapE;rw[if_neg zv,if_neg zv];unfold Dk.swap Dk.swapE;rw[if_pos (show(all qs).length<=(Js R k ps).room from hr),if_pos (show(all qs).length<=(Js R k ps).room from hr)];refine⟨?_,rfl⟩;unfold Js;rw[List.take_length]
include hk in
theorem js_torn{p:List Nat}(hp:ok p)(hr:(all ps).length+(p.length+6)<=R)(keep:Int):
  torn (Js R k ps) p keep=(if(p.length+6:Nat)<=keep then Js R (ps.length+1) (ps++[p])else Js R ps.length ps)/\tornE (Js R k ps) p=13:=by
 have he:=(js_app (k:=k) hk hp hr).2;unfold torn tornE;have hne:¬appE (Js R k ps) p≠0:=fun hx=>hx he;rw[if_neg hne,if_neg hne];refine⟨?_,rfl⟩;have hm:keptN p keep<=p.length+6:=by unfold keptN;rw[fr_length];omega
 have hg:Dk.goes (Js R k ps) ((fr p).take (keptN p keep)):=by
  unfold Dk.goes Js;rw[List.length_take,fr_length];show(all ps).length+_<=R;omega
 have hl:Dk.sync (Dk.write (Js R k ps) ((fr p).take (keptN p keep)))=⟨R,((all ps)++(fr p).take (keptN p keep)).length,(all ps)++(fr p).take (keptN p keep)⟩:=by
  unfold Dk.write;rw[if_pos hg];rfl
 rw[hl];unfold opened cutN Dk.leave;show(⟨R,(scan (all ps++(fr p).take (keptN p keep))).2.1,(all ps++(fr p).take (keptN p keep)).take (scan (all ps++(fr p).take (keptN p keep))).2.1⟩:Dk.St)=_;rw[scan_all h];by_cases hc:((p.length+6:Nat):Int)<=keep
 ·rw[if_pos hc]
  have e1:keptN p keep=p.length+6:=by unfold keptN;rw[fr_length];omega
  have e2:(fr p).take (keptN p keep)=fr p:=by rw[e1];exact List.take_of_length_le (by rw[fr_length];omega)
  have e3:scan (fr p)=([p],p.length+6,0):=by have:=scan_whole (ps:=[p]) (by simpa using hp);rw[all_one]at this;rw[this,fr_length]
  rw[e2,e3];unfold Js;have e4:(ps++[p]).take (ps.length+1)=ps++[p]:=List.take_of_length_le (by simp);rw[e4,all_append,all_one];show(⟨R,(all ps).length+(p.length+6),(all ps++fr p).take ((all ps).length+(p.length+6))⟩:Dk.St)=_;rw[List.take_of_length_le (by rw[List.length_append,fr_length];omega),List.length_append,fr_length]
 ·rw[if_neg hc]
  have e1:keptN p keep<p.length+6:=by unfold keptN;rw[fr_length];omega
  rw[scan_cut hp e1];unfold Js;show(⟨R,(all ps).length+0,(all ps++(fr p).take (keptN p keep)).take ((all ps).length+0)⟩:Dk.St)=_;rw[Nat.add_zero,List.take_left',List.take_length];rfl
end
end Jn
end Go.Proofs.YtkcdaigaclpfjaaGreatDoor
namespace Go.Proofs.YtkcdaigaclpfjaaGreatDoor.Cdc
def digs(n:Nat):List Nat:=if n<128 then[n]else(n%128+128)::digs (n/128)
termination_by n
decreasing_by omega
theorem digs_lt{n:Nat}(h:n<128):digs n=[n]:=by rw[digs,if_pos h]
theorem digs_ge{n:Nat}(h:128<=n):digs n=(n%128+128)::digs (n/128):=by rw[digs,if_neg zv]
theorem digs_ind{p:Nat->Prop}(a:∀n,n<128->p n)(b:∀n,128<=n->p (n/128)->p n)(n:Nat):p n:=by
 induction n using Nat.strongRecOn with
 |_ n ih=>
  by_cases h:n<128
  ·exact a n h
  ·exact b n zv (ih _ zv)
theorem digs_byte(n:Nat):∀x∈digs n,x<256:=by
 refine digs_ind (p:=fun n=>∀x∈digs n,x<256) ?_ ?_ n
 ·intro n h x hx;rw[digs_lt h]at hx;simp at hx;omega
 ·intro n h ih x hx
  rw[digs_ge h]at hx;rcases List.mem_cons.1 hx with rfl|hx
  ·omega
  ·exact ih x hx
theorem digs_pos(n:Nat):1<=(digs n).length:=by
 rw[digs];split<;>simp
theorem digs_le{n k:Nat}(hk:1<=k)(h:n<128^k):(digs n).length<=k:=by
 induction k generalizing n with
 |zero=>omega
 |succ k ih=>
  by_cases hn:n<128
  ·rw[digs_lt hn];simp
  ·rw[digs_ge zv,List.length_cons]
   have:n/128<128^k:=by rw[Nat.pow_succ]at h;omega
   rcases k with _|k
   ·simp at this;omega
   ·have:=ih zv this;omega
theorem digs_nine{n:Nat}(h:n<9223372036854775808):(digs n).length<=9:=digs_le zv (by rw[show(128:Nat)^9=9223372036854775808 from by decide];exact h)
def val:List Nat->Nat
 |[]=>0
 |x::l=>x%128+128*val l
theorem val_digs(n:Nat):val (digs n)=n:=by
 refine digs_ind (p:=fun n=>val (digs n)=n) ?_ ?_ n
 ·intro n h;rw[digs_lt h];simp only[val];omega
 ·intro n h ih;rw[digs_ge h];simp only[val,ih];omega
theorem val_lt(l:List Nat):val l<128^l.length:=by
 induction l with
 |nil=>simp[val]
 |cons x l ih=>rw[val,List.length_cons,Nat.pow_succ];omega
theorem val_snoc(l:List Nat)(x:Nat):val (l++[x])=val l+x%128*128^l.length:=by
 induction l with
 |nil=>simp[val]
 |cons y l ih=>
  have e:x%128*(128^l.length*128)=128*(x%128*128^l.length):=by rw[<-Nat.mul_assoc,Nat.mul_comm]
  rw[List.cons_append,val,ih,val,List.length_cons,Nat.pow_succ,e,Nat.mul_add];omega
def run:List Nat->Nat
 |[]=>0
 |x::l=>if 128<=x then run l+1 else 0
theorem run_of{l:List Nat}{k:Nat}(h:∀j,j<k->128<=l.getD j 0)(hk:k<l.length)(hl:l.getD k 0<128):run l=k:=by
 induction l generalizing k with
 |nil=>simp at hk
 |cons x l ih=>
  rcases k with _|k
  ·simp at hl;rw[run,if_neg zv]
  ·have h0:=h 0 zv
   simp at h0;rw[run,if_pos h0,ih (k:=k) (fun j hj=>by have:=h (j+1) zv;simpa using this) (by simpa using hk) (by simpa using hl)]
theorem run_ge{l:List Nat}{k:Nat}(h:∀j,j<k->128<=l.getD j 0):k<=run l:=by
 induction l generalizing k with
 |nil=>
  rcases k with _|k
  ·omega
  ·have:=h 0 zv;simp at this
 |cons x l ih=>
  rcases k with _|k
  ·omega
  ·have h0:=h 0 zv
   simp at h0;rw[run,if_pos h0];have:=ih (k:=k) (fun j hj=>by have:=h (j+1) zv;simpa using this);omega
def isNum(l:List Nat):Bool:=decide (run l<l.length)&&decide (run l<9)&&decide ((digs (val (l.take (run l+1)))).length=run l+1)&&decide (val (l.take (run l+1))<4611686018427387904)
def dk(l:List Nat):Nat:=if isNum l then run l+1 else 0
def dn(l:List Nat):Nat:=if isNum l then val (l.take (run l+1))else 0
theorem dk_le(l:List Nat):dk l<=l.length:=by
 unfold dk;split
 ·rename_i h;simp[isNum]at h;omega
 ·omega
theorem dn_lt(l:List Nat):dn l<4611686018427387904:=by
 unfold dn;split
 ·rename_i h;simp[isNum]at h;omega
 ·omega
theorem dn_none{l:List Nat}(h:dk l=0):dn l=0:=by
 unfold dk at h;unfold dn;split
 ·rename_i h1;rw[if_pos h1]at h;omega
 ·rfl
theorem digs_val(l:List Nat)(hb:∀x∈l,x<256)(hr:run l<l.length):(digs (val (l.take (run l+1)))).length<=run l+1/\((digs (val (l.take (run l+1)))).length=run l+1->digs (val (l.take (run l+1)))=l.take (run l+1)):=by
 induction l with
 |nil=>simp[run]at hr
 |cons x l ih=>
  rw[run]at hr⊢;have hx:=hb x (by simp);by_cases h:128<=x
  ·rw[if_pos h]at hr⊢
   rw[List.take_succ_cons,val];have ih:=ih (fun y hy=>hb y (by simp[hy])) (by simpa using hr);generalize l.take (run l+1)=q at*;by_cases hq:val q=0
   ·rw[hq,digs_lt zv]
    refine⟨by simp,fun h=>by simp at h⟩
   ·rw[digs_ge zv,show(x%128+128*val q)/128=val q by omega,show(x%128+128*val q)%128+128=x by omega]
    refine⟨by simp;omega,fun h=>by rw[ih.2 (by simp at h;omega)]⟩
  ·rw[if_neg h]
   rw[List.take_succ_cons,List.take_zero,val,val];rw[digs_lt zv];refine⟨by simp,fun _=>by rw[show x%128+128*0=x by omega]⟩
theorem run_digs(n:Nat)(r:List Nat):run (digs n++r)+1=(digs n).length:=by
 refine digs_ind (p:=fun n=>run (digs n++r)+1=(digs n).length) ?_ ?_ n
 ·intro n h;rw[digs_lt h,List.cons_append,run,if_neg zv];simp
 ·intro n h ih;rw[digs_ge h,List.cons_append,run,if_pos zv,List.length_cons,ih]
theorem isNum_digs{n:Nat}(h:n<4611686018427387904)(r:List Nat):isNum (digs n++r)=true:=by
 have h1:=run_digs n r;have h2:(digs n++r).take (run (digs n++r)+1)=digs n:=by rw[h1];exact List.take_left
 have h3:=digs_nine (n:=n) zv;simp only[isNum,h2,val_digs,Bool.and_eq_true,decide_eq_true_eq,List.length_append];omega
theorem dk_digs{n:Nat}(h:n<4611686018427387904)(r:List Nat):dk (digs n++r)=(digs n).length:=by
 unfold dk;rw[if_pos (isNum_digs h r),run_digs]
theorem dn_digs{n:Nat}(h:n<4611686018427387904)(r:List Nat):dn (digs n++r)=n:=by
 unfold dn;rw[if_pos (isNum_digs h r),run_digs,List.take_left,val_digs]
theorem digs_dn{l:List Nat}(hb:∀x∈l,x<256)(h:dk l≠0):digs (dn l)=l.take (dk l):=by
 unfold dk dn at*;by_cases h1:isNum l=true
 ·rw[if_pos h1,if_pos h1]
  simp only[isNum,Bool.and_eq_true,decide_eq_true_eq]at h1;exact(digs_val l hb zv).2 zv
 ·rw[if_neg h1]at h;omega
structure St where
 l:List Nat
 e:Int
def lost:St:=⟨[],2⟩
def num(s:St):St:=if s.e=0 then(if dk s.l=0 then lost else⟨s.l.drop (dk s.l),0⟩)else s
def numV(s:St):Nat:=if s.e=0 then dn s.l else 0
def cnt(s:St):St:=if numV s<=64 then num s else lost
def cntV(s:St):Nat:=if numV s<=64 then numV s else 0
def tk(s:St)(n:Nat):St:=if s.e=0 then(if n<=s.l.length then⟨s.l.drop n,0⟩else lost)else s
def tkV(s:St)(n:Nat):List Nat:=if s.e=0 then(if n<=s.l.length then s.l.take n else[])else[]
def text(s:St):St:=tk (cnt s) (cntV s)
def textV(s:St):List Nat:=tkV (cnt s) (cntV s)
def numsAt(s:St):Nat->St
 |0=>s
 |k+1=>num (numsAt s k)
def numsV(s:St):Nat->List Nat
 |0=>[]
 |k+1=>numsV s k++[numV (numsAt s k)]
def list(s:St):St:=numsAt (cnt s) (cntV s)
def listV(s:St):List Nat:=if(list s).e=0 then numsV (cnt s) (cntV s)else[]
def endE(s:St):Int:=if 0<s.l.length then 2 else s.e
structure Okay(s:St):Prop where
 byte:∀x∈s.l,x<256
 none_:s.e≠0->s.l=[]
theorem numV_lt(s:St):numV s<4611686018427387904:=by
 unfold numV;split
 ·exact dn_lt _
 ·omega
theorem cntV_le(s:St):cntV s<=64:=by unfold cntV;split<;>omega
theorem num_err{s:St}(h:s.e≠0):num s=s:=by unfold num;rw[if_neg h]
theorem numV_err{s:St}(h:s.e≠0):numV s=0:=by unfold numV;rw[if_neg h]
theorem numsAt_err{s:St}{i:Nat}(h:(numsAt s i).e≠0)(j:Nat):numsAt s (i+j)=numsAt s i:=by
 induction j with
 |zero=>rfl
 |succ j ih=>rw[<-Nat.add_assoc,numsAt,ih,num_err h]
theorem numsV_length(s:St)(k:Nat):(numsV s k).length=k:=by
 induction k with
 |zero=>rfl
 |succ k ih=>simp[numsV,ih]
theorem num_digs{n:Nat}(h:n<4611686018427387904)(r:List Nat):num ⟨digs n++r,0⟩=⟨r,0⟩/\numV ⟨digs n++r,0⟩=n:=by
 unfold num numV;simp only[if_pos,dn_digs h,dk_digs h,and_true];rw[if_neg (by have:=digs_pos n;omega),List.drop_left]
theorem numsAt_all(ns:List Nat)(h:∀n∈ns,n<4611686018427387904)(r:List Nat)(k:Nat)(hk:k<=ns.length):numsAt ⟨(ns.flatMap digs)++r,0⟩ k=⟨((ns.drop k).flatMap digs)++r,0⟩/\numsV ⟨(ns.flatMap digs)++r,0⟩ k=ns.take k:=by
 induction k with
 |zero=>exact⟨by simp[numsAt],by simp[numsV]⟩
 |succ k ih=>
  obtain⟨h1,h2⟩:=ih zv;have hk':k<ns.length:=by omega
  have h3:=num_digs (h ns[k] (List.getElem_mem hk')) ((ns.drop (k+1)).flatMap digs++r);rw[numsAt,numsV,h1,h2,List.drop_eq_getElem_cons hk',List.flatMap_cons,List.append_assoc,h3.1,h3.2];exact⟨rfl,by rw[List.take_succ_eq_append_getElem hk']⟩
end Go.Proofs.YtkcdaigaclpfjaaGreatDoor.Cdc
namespace Go.Proofs.YtkcdaigaclpfjaaGreatDoor
open Go.RowKit Cdc
def sz(n:Int):Nat:=if 0<=n/\n<4611686018427387904 then(digs n.toNat).length else 0
theorem jso{n:Int}(h:n<0\/4611686018427387903<n):sz n=0:=by unfold sz;rw[if_neg zv]
theorem sz_yes{n:Nat}(h:n<4611686018427387904):sz (n:Int)=(digs n).length:=by
 unfold sz;rw[if_pos zv,Int.toNat_natCast]
theorem jlg(n:Nat)(w:World)(h:n<4611686018427387904):
  Calls Tryz.prog 154 #[.int .i64 n] w fun e w'=>e= .returned (.int .i64 ((digs n).length:Nat))/\w=w':=by
 have h9:=digs_nine (n:=n) zv;have hb:(n:Int)<=4611686018427387903:=by omega
 have HN:=zh h;clear h;go_enter Tryz.func154,Tryz.ntmps154;go_wp2_with fail;clear hb;go_loop [0,3] (fun a s=>∃m k:Nat,a= .int .i64 m/\s= .int .i64 k/\k+(digs m).length=(digs n).length+1/\1<=k/\m<4611686018427387904) (fun a _=>(intOf a).toNat)
 case atStart=>exact⟨n,1,rfl,rfl,zv,zv,HN.out⟩
 case round=>
  obtain⟨m,k,rfl,rfl,hk,hk1,hm⟩:=hrel;have HM:=zh hm;have hm2:(m:Int)<=4611686018427387903:=by omega
  clear hm;have hp:=digs_pos m;by_cases hlt:128<=m
  ·have hq:Hid (k+1+(digs (m/128)).length=(digs n).length+1):=by
    show _=_;rw[digs_ge hlt,List.length_cons]at hk;omega
   have hk9:k<=9:=by omega
   clear hk;go_wp2_with fail;go_round
   case rel=>exact⟨m/128,k+1,rfl,by go_num,hq.out,zv,by have:=HM.out;omega⟩
   case measure=>simp[intOf];omega
  ·have hq:Hid (k=(digs n).length):=by
    show _=_;rw[digs_lt zv]at hk;simp at hk;omega
   clear hk;go_wp2_with fail;go_ret;exact⟨jb6 (by rw[hq.out]),rfl⟩
theorem jel(n:Int)(w:World):
  Calls Tryz.prog 154 #[.int .i64 n] w fun e w'=>e= .returned (.int .i64 (sz n:Nat))/\w=w':=by
 by_cases h0:n<0
 ·rw[jso (.inl h0)]
  go_enter Tryz.func154,Tryz.ntmps154;go_wp2_with fail;go_ret;exact⟨rfl,rfl⟩
 ·by_cases h1:4611686018427387903<n
  ·rw[jso (.inr h1)]
   have h0':0<=n:=by omega
   go_enter Tryz.func154,Tryz.ntmps154;go_wp2_with fail;go_ret;exact⟨rfl,rfl⟩
  ·obtain⟨m,rfl⟩:∃m:Nat,n=(m:Int):=⟨n.toNat,zv⟩
   rw[sz_yes zv];exact jlg m w zv
def jht(B:Nat)(l:List Nat)(w:World)(e:Ending)(w':World):Prop:=∃v,e= .returned v/\OwnB w' B v l/\Below B w w'
theorem jbw(n c more:Nat)(A:Option Addr)(l:List Nat)(w:World)(hs:Sl w A n c l)(hl:n<=1000000)(hm:more<=1000):
  Calls Tryz.prog 99 #[.slice A n c,.int .i64 more] w (jht w.heap.size l w):=by
 obtain⟨i0,hi0,hz0,hz1,hz2⟩:=info_parts jbs;have HS:=zh hs;clear hs;have I0:=zh hi0;clear hi0;have I1:=zh hz0;clear hz0;have I2:=zh hz1;clear hz1;have I3:=zh hz2;clear hz2;go_enter Tryz.func99,Tryz.ntmps99
 go_wp2_with(first
  |(at_make;refine wpList_make_own _ rfl _ _ 78 rfl w.heap.size 5 i0 (.int .u8 0) 1 Tryz.underlying78 I0.out I1.out I2.out _ _ _ (n+more) rfl rfl zv (by rw[I3.out];omega) (by unfold maxLen;omega) (Nat.le_refl _) ?_;intro w1 hown1 hg1;have O1:=zh hown1;have G1:=zh hg1;clear hown1 hg1)
  |(at_builtin;refine jam rfl (.tmp 9) (.tmp 10) _ rfl w.heap.size 5 i0 _ Tryz.underlying78 I0.out I1.out I2.out I3.out rfl (.slice (some ⟨w.heap.size,0,none⟩) 0 (n+more)) 0 [] rfl O1.out w1.heap.size n c A l rfl (HS.out.rd.on ((Below.refl _ _).grown G1.out (Nat.le_refl _) (by simp))) HS.out.len HS.out.nil zv G1.out.size ?_;intro v2 w2 hown2 hg2;have O2:=zh hown2;have G2:=zh hg2;clear hown2 hg2))
 go_ret;have B1:=(Below.refl w.heap.size w).grown G1.out (Nat.le_refl _) (by simp);have hO:=O2.out;rw[Nat.zero_add,List.nil_append,HS.out.len]at hO;exact⟨v2,rfl,⟨hO,HS.out.rd.1⟩,B1.grown G2.out B1.size (by simp[Value.ownBlock])⟩
theorem jlh{l l':List Nat}{n m:Nat}(h:l'++digs m=l++digs n)(hm:128<=m):(l'++[m%128+128])++digs (m/128)=l++digs n:=by
 rw[<-h,digs_ge hm,List.append_assoc];rfl
theorem jli{l l':List Nat}{n m:Nat}(h:l'++digs m=l++digs n)(hm:m<128):l'++[m]=l++digs n:=by rw[<-h,digs_lt hm]
theorem jhu(B n:Nat)(v:Value)(l:List Nat)(w:World)(ho:OwnB w B v l)(hB:B<=w.heap.size)(hl:l.length<=2000000)(hn:n<4611686018427387904):
  Calls Tryz.prog 173 #[v,.int .i64 n] w (jht B (l++digs n) w):=by
 have HO:=zh ho;clear ho;have h9:=digs_nine (n:=n) zv;have HL:Hid ((l++digs n).length<=2000009):=by show _<=_;rw[List.length_append];omega
 have HN:=zh hn;clear hn;have HB:=zh hB;clear hB;have HH:Hid (∀x∈l++digs n,x<256):=fun x hx=>(List.mem_append.1 hx).elim (HO.out.2 x) (digs_byte n x);go_enter Tryz.func173,Tryz.ntmps173;go_wp2_with fail;go_loopw [0,1] (fun v a wr=>∃(m:Nat) (l':List Nat),a= .int .i64 m/\(m:Int)<=4611686018427387903/\OwnB wr B v l'/\l'++digs m=l++digs n/\Below B w wr) (fun _ a _=>(intOf a).toNat)
 case atStart=>exact⟨n,l,rfl,by have:=HN.out;omega,HO.out,rfl,Below.refl _ _⟩
 case round=>
  obtain⟨m,l',rfl,hm,hO,hfull,hb⟩:=hrel;clear HO;have O:=zh hO;clear hO;have BB:=zh hb;clear hb;have FF:=zh hfull;clear hfull;have hlen:l'.length<=2000009:=by have h1:=HL.out;have h2:=FF.out;rw[<-h2,List.length_append]at h1;omega
  by_cases hlt:128<=m
  ·go_wp2_with(at_builtin;refine ja9 rfl (.tmp 7) (.tmp 12) rfl B _ l' rfl O.out _ (m%128+128) zv zv rfl zv (Nat.le_trans HB.out BB.out.size) ?_;intro v1 w1 ho1 hb1;have O1:=zh ho1;have B1:=zh (BB.out.trans hb1);clear ho1 hb1)
   go_roundw
   case rel=>exact⟨m/128,_,by go_num,zv,O1.out,jlh FF.out hlt,B1.out⟩
   case measure=>simp[intOf];omega
  ·go_wp2_with(at_builtin;refine ja9 rfl (.tmp 16) (.tmp 19) rfl B _ l' rfl O.out _ m zv zv rfl zv (Nat.le_trans HB.out BB.out.size) ?_;intro v1 w1 ho1 hb1;have O1:=zh ho1;have B1:=zh (BB.out.trans hb1);clear ho1 hb1)
   go_ret;exact⟨v1,rfl,by rw[<-jli FF.out zv];exact O1.out,B1.out⟩
end Go.Proofs.YtkcdaigaclpfjaaGreatDoor
