import Derived.Test.YtkinlcfhojjalaaGreatDoorQz01
import Derived.Deep.RegionWith
import Derived.Deep.Matrix
import Derived.Lib.AppendZerosOnto
import Derived.WalkLawsBesides
import Derived.Lib.SlBytesConst
set_option maxHeartbeats 6400000
set_option maxRecDepth 100000
set_option linter.all false
namespace Go.Proofs.YtkinlcfhojjalaaGreatDoor
open Go.RowKit
theorem jo9(s:Nat)(hs:s<4294967296):bits .xor .u32 IntKind.u32.max (s:Int)=((4294967295 -s:Nat):Int):=by
 rw[show IntKind.u32.max=((4294967295:Nat):Int)from rfl,u32_xor_nat _ _ zv hs,<-Crc.not_xor hs]
theorem idx_u8(wd x:Nat)(hx:x<256):bits .xor .u8 ((wd:Int)%256) (x:Int)=(((wd%256)^^^x:Nat):Int):=by
 rw[show(wd:Int)%256=((wd%256:Nat):Int)from rfl,u8_xor_nat _ _ zv hx]
theorem jtp(wd x:Nat)(hw:wd<4294967296)(hx:x<256):bits .xor .u32 ((wd:Int)/256) ((Crc.mv8 ((wd%256)^^^x):Nat):Int)=((Crc.step wd x:Nat):Int):=by
 have hi:(wd%256)^^^x<256:=Nat.xor_lt_two_pow (n:=8) zv hx;rw[show(wd:Int)/256=((wd/256:Nat):Int)from rfl,u32_xor_nat _ _ zv (Crc.mv8_lt zv),Crc.step_eq]
theorem jmd(w:Nat)(l:List Nat)(k:Nat)(h:k<l.length):Crc.crc w (l.take (k+1))=Crc.step (Crc.crc w (l.take k)) (l.getD k 0):=by
 rw[ji7 l k h,Crc.crc_append];rfl
theorem jtq(s n c:Nat)(A:Option Addr)(l:List Nat)(w:World)(hs:s<4294967296)(hr:Rd w w.heap.size A l)(hn:n=l.length)(hl:l.length<=2147483647):
  Calls Tryz.prog 205 #[.int .u32 s,.slice A n c] w fun e w'=>e= .returned (.int .u32 ((Crc.more s l:Nat):Int))/\zF w w':=by
 by_cases h0:l=[]
 ·subst h0
  subst hn;go_in;go_wp2;go_ret;exact⟨by rw[Crc.more_nil hs];rfl,zD⟩
 ·have hpos:0<l.length:=List.length_pos_iff.2 h0
  have hne:((n:Int)==0)=false:=by rw[zq];omega
  have hz:=jo8;have HN:=zh hn;have hn1:n<=2147483647:=by omega
  have hn2:0<n:=by omega
  have HR:=zh hr;have H0:=zh h0;clear hr h0 hn hpos hl;go_in;go_wp2_with fail;refine(jgf _).mono ?_;rintro e w1 ⟨t,rfl,he,hb1⟩;have HE:=zh he;clear he;have HB:=zh hb1;clear hb1;have HI:Hid ((Tryz.prog.info? 276).map (·.size)=some t.size):=by rw[HE.o.1];exact(by kernel_rfl:(Tryz.prog.info? 276).map (·.size)=some 256)
  have HG:Hid ((w1.alloc (.cells zrow 276)).heap[w1.heap.size]? =some (.cells zrow 276 (0,0))):=heap_alloc_last w1 _;have HX:=zh (jo9 s hs);go_wp2_with(refine wpList_store_row rfl 276 (.tmp 5) (.tmp 13) rfl w1.heap.size t rfl rfl 276 zrow HG.o HI.o (jeq.trans HE.o.1.symm) HE.o.one ?_;rw[World.setRow_alloc_new]);rw[HX.o];clear HG HI hz hne;have FR:Hid (Rd (w1.alloc (.cells t 276)) (w1.heap.size+1) A l):=by
   have:=HR.o.on (HB.o.alloc HB.o.size (.cells t 276));exact this.more (by simp)
  have FT:Hid (∀i,i<256->(w1.alloc (.cells t 276)).cell? ⟨w1.heap.size,i,none⟩=some (.int .u32 ((Crc.mv8 i:Nat):Int))):=fun i hi=>by
   rw[World.cell?_alloc_at _ _ _ _ rfl];exact HE.o.2 i hi
  have FB:=zh (HB.o.alloc HB.o.size (.cells t 276));clear HE HB HR;generalize w1.alloc (.cells t 276)=wl at FR FT FB⊢;generalize w1.heap.size=g at FR FT⊢;go_loop [6,18] (fun v i=>∃k:Nat,k<=n/\i= .int .i64 k/\v= .int .u32 ((Crc.crc (4294967295 -s) (l.take k):Nat):Int)) (fun _ i=>n -(intOf i).toNat)
  case atStart=>exact⟨0,zv,rfl,rfl⟩
  case round=>
   obtain⟨k,hk,rfl,rfl⟩:=hrel;by_cases hlt:k<n
   ·have hkl:k<l.length:=by rw[<-HN.o];exact hlt
    have HS:=zh (jmd (4294967295 -s) l k hkl);have hwd:Crc.crc (4294967295 -s) (l.take k)<4294967296:=Crc.crc_lt zv (fun x hx=>FR.o.1 x (List.mem_of_mem_take hx));have hx:=FR.o.byte k;obtain⟨b,o,rfl,hb,hc⟩:=FR.o.2 zv;have hck:=hc k hkl;clear hc hb;generalize Crc.crc (4294967295 -s) (l.take k)=wd at*;generalize l.getD k 0=x at*;have hidx:=idx_u8 wd x hx;have hil:((wd%256)^^^x:Nat)<256:=Nat.xor_lt_two_pow (n:=8) zv hx;have hct:=FT.o _ hil;have HV:=zh (jtp wd x hwd hx);generalize((wd%256)^^^x:Nat)=ix at*;go_wp2_with fail;refine⟨⟨k+1,zv,rfl,jgc ?_⟩,by simp[intOf];omega⟩;rw[HV.o,HS.o]
   ·obtain rfl:k=n:=by omega
    have hwd:Crc.crc (4294967295 -s) (l.take k)<4294967296:=Crc.crc_lt zv (fun x hx=>FR.o.1 x (List.mem_of_mem_take hx));have HV:=zh (jo9 _ hwd);go_wp2;go_ret;refine⟨jch ?_,FB.o⟩;show bits _ _ _ _=_;rw[HV.o,HN.o,List.take_length];rfl
theorem jpa(n c:Nat)(A:Option Addr)(l:List Nat)(w:World)(hr:Rd w w.heap.size A l)(hn:n=l.length)(hl:l.length<=2147483647):
  Calls Tryz.prog 161 #[.slice A n c] w fun e w'=>e= .returned (.int .u32 ((Crc.sum l:Nat):Int))/\zF w w':=by
 have HR:=zh hr;clear hr;have HN:=zh hn;clear hn;go_in;go_wp2_with fail;refine(jtq 0 n c A l _ zv HR.o HN.o hl).mono ?_;rintro e w1 ⟨rfl,hb⟩;go_wp2;go_ret;exact⟨rfl,hb⟩
def be4(s:Nat):List Nat:=[s/16777216%256,s/65536%256,s/256%256,s%256]
def rdN(l:List Nat):Nat:=if l.length=4 then l.getD 0 0*16777216+l.getD 1 0*65536+l.getD 2 0*256+l.getD 3 0 else 0
def rdE(l:List Nat):Int:=if l.length=4 then 0 else 2
theorem jic(s:Nat):∀x∈be4 s,x<256:=by
 intro x hx;simp only[be4,List.mem_cons,List.mem_nil_iff,or_false]at hx;rcases hx with rfl|rfl|rfl|rfl<;>omega
theorem rdN_be4{s:Nat}(h:s<4294967296):rdN (be4 s)=s:=by
 simp only[rdN,be4,List.length_cons,List.length_nil,List.getD_cons_zero,List.getD_cons_succ,if_pos];omega
theorem or4(a b c d:Nat)(ha:a<256)(hb:b<256)(hc:c<256)(hd:d<256):
  bits .or .u32 (bits .or .u32 (bits .or .u32 ((a:Int)*16777216) ((b:Int)*65536)) ((c:Int)*256)) (d:Int)=((a*16777216+b*65536+c*256+d:Nat):Int):=by
 rw[show(a:Int)*16777216=((a*16777216:Nat):Int)from by omega,show(b:Int)*65536=((b*65536:Nat):Int)from by omega,show(c:Int)*256=((c*256:Nat):Int)from by omega];rw[u32_or_nat _ _ zv zv,nat_join 24 _ _ zv zv,u32_or_nat _ _ zv zv,nat_join 16 _ _ zv zv,u32_or_nat _ _ zv zv,nat_join 8 _ _ zv zv]
def jjc(s:Nat)(w:World)(e:Ending)(w':World):Prop:=
 e= .returned (.slice (some ⟨w.heap.size,0,none⟩) 4 4)/\Rd w' w'.heap.size (some ⟨w.heap.size,0,none⟩) (be4 s)/\zF w w'/\w'.heap.size=w.heap.size+1
theorem jpb(s:Nat)(w:World)(hs:s<4294967296):
  Calls Tryz.prog 160 #[.int .u32 s] w (jjc s w):=by
 go_in;go_wp2;go_ret;refine⟨rfl,⟨jic s,fun _=>⟨_,0,rfl,by simp,fun j hj=> ?_⟩⟩,zE,by simp⟩;rw[World.cell?_alloc_at _ _ _ _ rfl,Nat.zero_add];simp only[be4,List.length_cons,List.length_nil]at hj;have hq:j=0\/j=1\/j=2\/j=3:=by omega
 have e0:(s:Int)/16777216=((s/16777216%256:Nat):Int):=by omega
 rw[e0];rcases hq with rfl|rfl|rfl|rfl<;>rfl
theorem jtr(n c:Nat)(A:Option Addr)(l:List Nat)(w:World)(hr:Rd w w.heap.size A l)(hn:n=l.length):
  Calls Tryz.prog 241 #[.slice A n c] w fun e w'=>e= .returned (.tuple #[.int .u32 ((rdN l:Nat):Int),.int .i64 (rdE l)])/\zF w w':=by
 by_cases h4:n=4
 ·subst h4
  have h0:=hr.byte 0;have h1:=hr.byte 1;have h2:=hr.byte 2;have h3:=hr.byte 3;obtain⟨b,o,rfl,hb,hc⟩:=hr.2 zv;have c0:=hc 0 zv;rw[Nat.add_zero]at c0;have c1:=hc 1 zv;have c2:=hc 2 zv;have c3:=hc 3 zv;have HV:Hid (rdN l=l.getD 0 0*16777216+l.getD 1 0*65536+l.getD 2 0*256+l.getD 3 0):=by unfold rdN;rw[if_pos hn.symm];rfl
  have HW:Hid (rdE l=0):=by unfold rdE;rw[if_pos hn.symm];rfl
  clear hc hb hn hr;generalize l.getD 0 0=x0 at*;generalize l.getD 1 0=x1 at*;generalize l.getD 2 0=x2 at*;generalize l.getD 3 0=x3 at*;go_in;go_wp2_with fail;go_quiet (fail);go_wp2;go_ret2;rw[HV.o,HW.o];exact⟨by rw[<-or4 x0 x1 x2 x3 h0 h1 h2 h3];rfl,Below.drewN zD _⟩
 ·have hne:((n:Int) !=4)=true:=by rw[bne_iff_ne];omega
  have HV:Hid (rdN l=0):=by unfold rdN;rw[if_neg zv];rfl
  have HW:Hid (rdE l=2):=by unfold rdE;rw[if_neg zv];rfl
  clear hn hr;go_in;go_wp2;go_ret2;rw[HV.o,HW.o];exact⟨rfl,zD⟩
def good(l:List Nat):Bool:=decide (4<=l.length)&&decide (rdN (l.drop (l.length -4))=Crc.sum (l.take (l.length -4)))
theorem jts(n c:Nat)(A:Option Addr)(l:List Nat)(w:World)(hr:Rd w w.heap.size A l)(hn:n=l.length)(hc:n<=c)(hl:l.length<=2147483647):
  Calls Tryz.prog 195 #[.slice A n c] w fun e w'=>e= .returned (.bool (good l))/\zF w w':=by
 by_cases h4:n<4
 ·have HG:Hid (good l=false):=by show good l=false;unfold good;rw[decide_eq_false zv];rfl
  clear hr hn hl;go_in;go_wp2;go_ret;rw[HG.o];exact⟨rfl,zD⟩
 ·have hn1:n<=2147483647:=by omega
  have hn4:4<=n:=by omega
  have HG:Hid (good l=decide (rdN (l.drop (n -4))=Crc.sum (l.take (n -4)))):=by show good l=_;unfold good;rw[decide_eq_true (by omega:4<=l.length),hn];rfl
  have HR:=zh hr;obtain⟨b,o,rfl,hb,hcl⟩:=hr.2 zv;have HD:Hid (Rd w w.heap.size (some ⟨b,o+(n -4),none⟩) (l.drop (n -4))):=by
   have:=hr.drop (k:=n -4) (c:=n) zv (fun a=>⟨a.block,a.off+(n -4),a.spot⟩) (fun _ _=>rfl);rw[if_neg zv]at this;exact this
  have HL:Hid ((l.drop (n -4)).length=4):=by show _=_;rw[List.length_drop];omega
  have HN:=zh hn;clear hr hb hcl hn hl;go_in;go_wp2_with fail;refine(jtr (n -(n -4)) _ _ (l.drop (n -4)) _ HD.o (by rw[HL.o];omega)).mono ?_;rintro e w1 ⟨rfl,hb1⟩;rw[show rdE (l.drop (n -4))=0 from by unfold rdE;rw[if_pos HL.o]];have HT:Hid (Rd w1 w1.heap.size (some ⟨b,o,none⟩) (l.take (n -4))):=(HR.o.take _).on hb1;have HB1:=zh hb1;clear hb1;have HK:Hid ((l.take (n -4)).length=n -4):=by show _=_;rw[List.length_take,<-HN.o];omega
  clear HD HL HR;generalize rdN (l.drop (n -4))=v at HG⊢;generalize l.take (n -4)=lt at*;go_wp2_with fail;refine(jpa (n -4) _ _ lt _ HT.o HK.o.symm (by rw[HK.o];omega)).mono ?_;rintro e w2 ⟨rfl,hb2⟩;have HB2:=zh hb2;clear hb2;go_wp2;go_ret;rw[HG.o];refine⟨?_,HB1.o.trans (HB2.o.mono HB1.o.size)⟩;show Ending.returned (.bool _)=_
  congr 2
  rw[Bool.eq_iff_iff];simp[Int.ofNat_inj]
def jme(l:List Nat)(w:World)(e:Ending)(w':World):Prop:=
 ∃g c,e= .returned (.slice (some ⟨g,0,none⟩) (l.length+4) c)/\w'.ownsRow w.heap.size 5 1 (.slice (some ⟨g,0,none⟩) (l.length+4) c) (l.length+4) (vals (l++be4 (Crc.sum l)))/\zF w w'
theorem jtt(n c:Nat)(A:Option Addr)(l:List Nat)(w:World)(hr:Rd w w.heap.size A l)(hn:n=l.length)(hA:A=none->c=0)(hl:l.length<=1073741823):
  Calls Tryz.prog 101 #[.slice A n c] w (jme l w):=by
 obtain⟨i0,hi0,hz0,hz1,hz2⟩:=info_parts jb3;have hn1:n<=1073741823:=by omega
 have HR:=zh hr;clear hr;have HN:=zh hn;clear hn;have HA:=zh hA;clear hA;have I0:=zh hi0;clear hi0;have I1:=zh hz0;clear hz0;have I2:=zh hz1;clear hz1;have I3:=zh hz2;clear hz2;clear hl;go_in
 go_wp2_with(first
  |(at_make;refine wpList_make_own _ rfl _ _ 50 rfl w.heap.size 5 i0 (.int .u8 0) 1 Tryz.underlying50 I0.o I1.o I2.o _ _ _ (n+4) rfl rfl zv (by rw[I3.o];omega) (by unfold maxLen;omega) zl ?_;intro w1 hown1 hg1;have O1:=zh hown1;have G1:=zh hg1;clear hown1 hg1)
  |(at_builtin;refine jao rfl (.tmp 8) (.tmp 9) _ rfl w.heap.size 5 i0 _ Tryz.underlying50 I0.o I1.o I2.o I3.o rfl (.slice (some ⟨w.heap.size,0,none⟩) 0 (n+4)) 0 [] rfl O1.o w1.heap.size n c A l rfl (HR.o.on (zD.grown G1.o zl (by simp))) HN.o HA.o zv G1.o.size ?_;intro v2 w2 hown2 hg2;have O2:=zh hown2;have G2:=zh hg2;clear hown2 hg2))
 have B1:=zh ((Below.refl w.heap.size w).grown G1.o zl (by simp));have B2:=zh (B1.o.grown G2.o B1.o.size (by simp[Value.ownBlock]));clear G1 G2 O1;refine(jpa n c A l w2 (HR.o.on B2.o) HN.o (by rw[<-HN.o];omega)).mono ?_;rintro e w3 ⟨rfl,hb3⟩;have B3:=zh hb3;clear hb3;have hs:=Crc.sum_lt l;go_wp2_with fail;refine(jpb (Crc.sum l) w3 hs).mono ?_;rintro e w4 ⟨rfl,hr4,hb4,_⟩;have R4:=zh hr4;clear hr4;have B4:=zh hb4;clear hb4;have O4:=zh (jb5 (jb5 O2.o B3.o) B4.o);have B5:=zh (B2.o.trans ((B3.o.trans (B4.o.mono B3.o.size)).mono B2.o.size));clear O2 B3 B4 hs;go_wp2_with(at_builtin;refine jao rfl (.tmp 11) (.tmp 14) _ rfl w.heap.size 5 i0 _ Tryz.underlying50 I0.o I1.o I2.o I3.o rfl v2 (0+n) ([]++vals l) rfl O4.o w4.heap.size 4 4 _ (be4 (Crc.sum l)) rfl R4.o rfl (by simp) zv B5.o.size ?_;intro v6 w6 hown6 hg6;have O6:=zh hown6;have G6:=zh hg6;clear hown6 hg6);go_ret;have hO:=O6.o;rw[Nat.zero_add,List.nil_append,<-jbj,HN.o]at hO;obtain⟨g,c',rfl⟩:=jmb hO zv;refine⟨g,c',rfl,hO,B5.o.grown G6.o B5.o.size ?_⟩;intro k hk;rcases O4.o.2 with⟨rfl,_⟩|⟨g',cap,cur,rfl,hg',_⟩
 ·simp[Value.ownBlock]at hk
 ·simp only[Value.ownBlock,Option.some.injEq]at hk;omega
section
variable{w:World}{A:Option Addr}{n c:Nat}{l:List Nat}
theorem good_at{w0:World}(W:World)(h:Sl w0 A n c l)(hl:l.length<=100000)(hb:zF w0 W):
  Calls Tryz.prog 195 #[.slice A n c] W fun e w'=>e= .returned (.bool (good l))/\zF w0 w':=
 (jts n c A l W (h.rd.on hb) h.len h.cap zv).mono fun _ _ ⟨he,h2⟩=>⟨he,hb.trans (h2.mono hb.size)⟩
end
def jfo(L:List Nat):List Nat:=L++be4 (Crc.sum L)
theorem jdp(s:Nat):(be4 s).length=4:=rfl
theorem jid(L:List Nat):(jfo L).length=L.length+4:=by simp[jfo,jdp]
theorem jks{L:List Nat}(h:∀x∈L,x<256):∀x∈jfo L,x<256:=by
 intro x hx;rcases List.mem_append.1 hx with hx|hx
 ·exact h x hx
 ·exact jic _ x hx
theorem jhp(a b:List Nat)(hb:b.length=4):good (a++b)=decide (rdN b=Crc.sum a):=by
 unfold good;rw[decide_eq_true (by simp[hb]),Bool.true_and];have h:(a++b).length -4=a.length:=by simp[hb]
 rw[h,List.drop_left,List.take_left]
theorem jkt(L:List Nat):good (jfo L)=true:=by
 unfold jfo;rw[jhp _ _ (jdp _),rdN_be4 (Crc.sum_lt _)];simp
theorem rd4_eq(a b c d:Nat):rdN [a,b,c,d]=a*16777216+b*65536+c*256+d:=rfl
namespace Fr
def hd2(n:Nat):List Nat:=[n/256%256,n%256]
def fr(p:List Nat):List Nat:=jfo (hd2 p.length++p)
def ok(p:List Nat):Prop:=1<=p.length/\p.length<=1000/\∀x∈p,x<256
def num2(b:List Nat):Nat:=b.getD 0 0*256+b.getD 1 0
def sizeN(n:Nat):Nat:=if 1<=n/\n<=1000 then n+6 else 0
def whole(b:List Nat):Nat:=if b.length<2 then 0 else if b.length<sizeN (num2 b)then 0 else sizeN (num2 b)
def gE(b:List Nat):Nat:=if whole b=0 then 2 else if good (b.take (whole b))=true then 0 else 3
def gN(b:List Nat):Nat:=if gE b=0 then whole b else 0
def gP(b:List Nat):List Nat:=if gE b=0 then(b.take (whole b -4)).drop 2 else[]
theorem sizeN_yes{n:Nat}(h1:1<=n)(h2:n<=1000):sizeN n=n+6:=by unfold sizeN;rw[if_pos ⟨h1,h2⟩]
theorem sizeN_no{n:Nat}(h:n<1\/1000<n):sizeN n=0:=by unfold sizeN;rw[if_neg zv]
theorem sizeN_le(n:Nat):sizeN n<=1006:=by unfold sizeN;split<;>omega
theorem sizeN_cases(n:Nat):sizeN n=0\/(7<=sizeN n/\sizeN n=n+6/\n<=1000):=by unfold sizeN;split<;>omega
theorem whole_le(b:List Nat):whole b<=b.length:=by unfold whole;split<;>(try split)<;>omega
theorem whole_cases(b:List Nat):whole b=0\/(7<=whole b/\whole b<=1006/\whole b<=b.length/\whole b=num2 b+6):=by
 have h:=whole_le b;unfold whole at*;have:=sizeN_cases (num2 b);split<;>(try split)<;>simp_all<;>omega
theorem hd2_length(n:Nat):(hd2 n).length=2:=rfl
theorem hd2_byte(n:Nat):∀x∈hd2 n,x<256:=by
 intro x hx;simp only[hd2,List.mem_cons,List.mem_nil_iff,or_false]at hx;rcases hx with rfl|rfl<;>omega
theorem bare_byte{p:List Nat}(h:∀x∈p,x<256):∀x∈hd2 p.length++p,x<256:=by
 intro x hx;rcases List.mem_append.1 hx with hx|hx
 ·exact hd2_byte _ x hx
 ·exact h x hx
theorem fr_byte{p:List Nat}(h:∀x∈p,x<256):∀x∈fr p,x<256:=jks (bare_byte h)
theorem fr_length(p:List Nat):(fr p).length=p.length+6:=by unfold fr;rw[jid,zA,hd2_length];omega
theorem fr_parts(p:List Nat):fr p=p.length/256%256::p.length%256::(p++be4 (Crc.sum (hd2 p.length++p))):=by
 unfold fr jfo;simp[hd2]
theorem gE_zero{b:List Nat}(h:gE b=0):7<=whole b/\whole b<=1006/\whole b<=b.length/\whole b=num2 b+6/\good (b.take (whole b))=true:=by
 unfold gE at h;split at h
 ·cases h
 ·rename_i h0
  split at h
  ·rename_i h1
   rcases whole_cases b with h2|h2
   ·exact absurd h2 h0
   ·exact⟨h2.1,h2.2.1,h2.2.2.1,h2.2.2.2,h1⟩
  ·cases h
theorem gP_length{b:List Nat}(h:gE b=0):(gP b).length=whole b -6:=by
 have h2:=gE_zero h;unfold gP;rw[if_pos h,List.length_drop,List.length_take];omega
theorem gP_byte{b:List Nat}(h:∀x∈b,x<256):∀x∈gP b,x<256:=by
 intro x hx;unfold gP at hx;split at hx
 ·exact h x (List.mem_of_mem_take (List.mem_of_mem_drop hx))
 ·cases hx
theorem gE_two{b:List Nat}(h:whole b=0):gE b=2:=by unfold gE;rw[if_pos h]
theorem gE_three{b:List Nat}(h:whole b≠0)(hg:good (b.take (whole b))=false):gE b=3:=by unfold gE;rw[if_neg h,if_neg (by rw[hg];decide)]
theorem gE_yes{b:List Nat}(h:whole b≠0)(hg:good (b.take (whole b))=true):gE b=0:=by unfold gE;rw[if_neg h,if_pos hg]
def scan(b:List Nat):List (List Nat)×Nat×Nat:=
 if b=[]then([],0,0)
 else if _h:gE b=0 then(gP b::(scan (b.drop (whole b))).1,whole b+(scan (b.drop (whole b))).2.1,(scan (b.drop (whole b))).2.2)
 else([],0,gE b)
termination_by b.length
decreasing_by
 all_goals
  have:=gE_zero _h;rw[List.length_drop];omega
theorem scan_nil:scan []=([],0,0):=by rw[scan];simp
theorem scan_no{b:List Nat}(h0:b≠[])(h:gE b≠0):scan b=([],0,gE b):=by rw[scan,if_neg h0,dif_neg h]
theorem scan_yes{b:List Nat}(h:gE b=0):scan b=(gP b::(scan (b.drop (whole b))).1,whole b+(scan (b.drop (whole b))).2.1,(scan (b.drop (whole b))).2.2):=by
 have h0:b≠[]:=by
  rintro rfl;have:=(gE_zero h).2.2.1;have:=(gE_zero h).1;simp at*;omega
 conv=>lhs;rw[scan]
 rw[if_neg h0,dif_pos h]
theorem scan_count(b:List Nat):(scan b).1.length<=b.length:=by
 obtain⟨n,hn⟩:∃n,b.length<=n:=⟨_,zl⟩
 induction n generalizing b with
 |zero=>
  have:b=[]:=List.eq_nil_of_length_eq_zero zv;subst this;rw[scan_nil];simp
 |succ n ih=>
  by_cases h0:b=[]
  ·subst h0;rw[scan_nil];simp
  ·by_cases h:gE b=0
   ·have h7:=gE_zero h
    have:=ih (b.drop (whole b)) (by rw[List.length_drop];omega);rw[List.length_drop]at this;rw[scan_yes h];simp only[List.length_cons];omega
   ·rw[scan_no h0 h];simp
theorem num2_fr{p r:List Nat}(h:p.length<=1000):num2 (fr p++r)=p.length:=by
 rw[fr_parts];unfold num2;simp only[List.cons_append,List.getD_cons_zero,List.getD_cons_succ];omega
theorem whole_fr{p r:List Nat}(h:ok p):whole (fr p++r)=p.length+6:=by
 unfold whole;rw[num2_fr h.2.1,sizeN_yes h.1 h.2.1,if_neg (by rw[zA,fr_length];omega),if_neg (by rw[zA,fr_length];omega)]
theorem take_fr{p r:List Nat}:(fr p++r).take (p.length+6)=fr p:=by
 rw[<-fr_length p,List.take_left]
theorem gE_fr{p r:List Nat}(h:ok p):gE (fr p++r)=0:=by
 apply gE_yes
 ·rw[whole_fr h];omega
 ·rw[whole_fr h,take_fr];exact jkt _
theorem gP_fr{p r:List Nat}(h:ok p):gP (fr p++r)=p:=by
 unfold gP;rw[if_pos (gE_fr h),whole_fr h,fr_parts,show p.length+6 -4=p.length+1+1 from by omega,List.cons_append,List.cons_append,List.take_succ_cons,List.take_succ_cons];simp
theorem scan_fr{p r:List Nat}(h:ok p):scan (fr p++r)=(p::(scan r).1,p.length+6+(scan r).2.1,(scan r).2.2):=by
 have hd:(fr p++r).drop (whole (fr p++r))=r:=by rw[whole_fr h,<-fr_length p,List.drop_left]
 rw[scan_yes (gE_fr h),hd,gP_fr h,whole_fr h]
def all(ps:List (List Nat)):List Nat:=ps.flatMap fr
theorem all_nil:all []=[]:=rfl
theorem all_cons(p:List Nat)(ps:List (List Nat)):all (p::ps)=fr p++all ps:=rfl
theorem all_append(a b:List (List Nat)):all (a++b)=all a++all b:=by unfold all;rw[List.flatMap_append]
theorem all_one(p:List Nat):all [p]=fr p:=by simp[all]
theorem all_byte{ps:List (List Nat)}(h:∀p∈ps,ok p):∀x∈all ps,x<256:=by
 intro x hx;obtain⟨p,hp,hx⟩:=List.mem_flatMap.1 hx;exact fr_byte (h p hp).2.2 x hx
theorem scan_all{ps:List (List Nat)}(h:∀p∈ps,ok p)(r:List Nat):scan (all ps++r)=(ps++(scan r).1,(all ps).length+(scan r).2.1,(scan r).2.2):=by
 induction ps with
 |nil=>simp[all_nil]
 |cons p ps ih=>
  rw[all_cons,List.append_assoc,scan_fr (h p (by simp)),ih (fun q hq=>h q (by simp[hq]))];simp only[zA,fr_length,List.cons_append,Nat.add_assoc]
theorem scan_whole{ps:List (List Nat)}(h:∀p∈ps,ok p):scan (all ps)=(ps,(all ps).length,0):=by
 have:=scan_all h [];rw[List.append_nil,scan_nil]at this;simpa using this
theorem scan_cut{p:List Nat}(h:ok p){k:Nat}(hk:k<p.length+6):scan ((fr p).take k)=([],0,if k=0 then 0 else 2):=by
 by_cases h0:k=0
 ·subst h0
  rw[List.take_zero,scan_nil,if_pos rfl]
 ·have hl:((fr p).take k).length=k:=by rw[List.length_take,fr_length];omega
  have hw:whole ((fr p).take k)=0:=by
   unfold whole;rw[hl];by_cases h2:k<2
   ·rw[if_pos h2]
   ·have hn:num2 ((fr p).take k)=p.length:=by
     have e:k=k -2+1+1:=by omega
     rw[fr_parts,e,List.take_succ_cons,List.take_succ_cons];unfold num2;simp only[List.getD_cons_zero,List.getD_cons_succ];have:=h.2.1;omega
    rw[if_neg h2,hn,sizeN_yes h.1 h.2.1,if_pos zv]
  have he:=gE_two hw;rw[scan_no (fun e=>by rw[e]at hl;simp at hl;omega) zv,he,if_neg h0]
theorem all_take_le(ps:List (List Nat))(j:Nat):(all (ps.take j)).length<=(all ps).length:=by
 have h:all ps=all (ps.take j)++all (ps.drop j):=by rw[<-all_append,List.take_append_drop]
 rw[h,zA];omega
theorem same_fr{b:List Nat}(hb:∀x∈b,x<256)(hw:whole b≠0):(fr ((b.take (whole b -4)).drop 2)=b.take (whole b))↔good (b.take (whole b))=true:=by
 obtain⟨h7,h6,hl,hn⟩:7<=whole b/\whole b<=1006/\whole b<=b.length/\whole b=num2 b+6:=by
  rcases whole_cases b with h|h
  ·exact absurd h hw
  ·exact h
 match b,hb,hl with
 |[],_,hl=>simp at hl;omega
 |[_],_,hl=>simp at hl;omega
 |x::y::t,hb,hl=>
  have hx:=hb x (by simp);have hy:=hb y (by simp);have hnn:num2 (x::y::t)=x*256+y:=rfl;generalize whole (x::y::t)=W at*;rw[hnn]at hn;have hm:W=W -6+4+1+1:=by omega
  have e1:(x::y::t).take W=(x::y::t.take (W -6))++(t.drop (W -6)).take 4:=by
   conv=>lhs;rw[hm]
   rw[List.take_succ_cons,List.take_succ_cons,List.take_add];rfl
  have e2:((x::y::t).take (W -4)).drop 2=t.take (W -6):=by
   rw[show W -4=W -6+1+1 from by omega,List.take_succ_cons,List.take_succ_cons];rfl
  have hlt:(t.take (W -6)).length=W -6:=by rw[List.length_take];simp at hl;omega
  have hhd:hd2 (t.take (W -6)).length++t.take (W -6)=x::y::t.take (W -6):=by
   rw[hlt];simp only[hd2,List.cons_append,List.nil_append,List.cons.injEq,and_true];omega
  have hl4:((t.drop (W -6)).take 4).length=4:=by rw[List.length_take,List.length_drop];simp at hl;omega
  rw[e1,e2];unfold fr;rw[hhd,jhp _ _ hl4,decide_eq_true_eq];unfold jfo;rw[List.append_cancel_left_eq];have hs:=Crc.sum_lt (x::y::t.take (W -6));generalize Crc.sum (x::y::t.take (W -6))=s at hs;have hb4:∀z∈(t.drop (W -6)).take 4,z<256:=fun z hz=>hb z (by simp[List.mem_of_mem_drop (List.mem_of_mem_take hz)]);generalize(t.drop (W -6)).take 4=q at hl4 hb4
  match q,hl4,hb4 with
  |[a,b,c,d],_,hb=>
   have h1:=hb a (by simp);have h2:=hb b (by simp);have h3:=hb c (by simp);have h4:=hb d (by simp);rw[rd4_eq];simp only[be4,List.cons.injEq,and_true];constructor
   ·rintro⟨e1,e2,e3,e4⟩;omega
   ·intro e;subst e;omega
theorem all_take_snoc{ls:List (List Nat)}{k:Nat}(h:k<ls.length):all (ls.take (k+1))=all (ls.take k)++fr (ls.getD k []):=by
 rw[List.take_succ_eq_append_getElem h,all_append,all_one,jal h]
theorem all_small{ls:List (List Nat)}(h:∀p∈ls,p.length<=30):(all ls).length<=36*ls.length:=by
 induction ls with
 |nil=>simp[all_nil]
 |cons p ls ih=>
  have h1:=h p (by simp);have h2:=ih (fun q hq=>h q (by simp[hq]));rw[all_cons,zA,fr_length,List.length_cons];omega
end Fr
open Go.RowKit
theorem jpc{m:Nat}(h:((m:Int)%2==1)=true):m%2=1:=by rw[beq_iff_eq]at h;omega
theorem jnb{m:Nat}(h:((m:Int)%2==1)=false):¬m%2=1:=by rw[zq]at h;omega
theorem ref_odd(m:Nat)(hm:m<4294967296)(h:((m:Int)%2==1)=true):bits .xor .u32 ((m:Int)/2) 3988292384=((Crc.mv1 m:Nat):Int):=by
 unfold Crc.mv1;rw[if_pos (jpc h),show(m:Int)/2=((m/2:Nat):Int)from rfl,show(3988292384:Int)=((3988292384:Nat):Int)from rfl,u32_xor_nat _ _ zv zv]
theorem jtu(m:Nat)(h:((m:Int)%2==1)=false):(m:Int)/2=((Crc.mv1 m:Nat):Int):=by
 unfold Crc.mv1;rw[if_neg (jnb h)];rfl
theorem jtv(k w:Nat):Crc.mvN (k+1) w=Crc.mv1 (Crc.mvN k w):=rfl
theorem jku(s n c:Nat)(A:Option Addr)(l:List Nat)(w:World)(hs:s<4294967296)(hr:Rd w w.heap.size A l)(hn:n=l.length)(hl:l.length<=2147483647):
  Calls Tryz.prog 263 #[.int .u32 s,.slice A n c] w fun e w'=>e= .returned (.int .u32 ((Crc.crc s l:Nat):Int))/\w=w':=by
 have HN:=zh hn;have hn1:n<=2147483647:=by omega
 have HR:=zh hr;clear hr hn hl;go_in;go_wp2_with fail;go_loop [0,5] (fun v i=>∃k:Nat,k<=n/\i= .int .i64 k/\v= .int .u32 ((Crc.crc s (l.take k):Nat):Int)) (fun _ i=>n -(intOf i).toNat)
 case atStart=>exact⟨0,zv,rfl,rfl⟩
 case round=>
  obtain⟨k,hk,rfl,rfl⟩:=hrel;by_cases hlt:k<n
  ·have hkl:k<l.length:=by rw[<-HN.o];exact hlt
   have HS:=zh (jmd s l k hkl);have hwd:Crc.crc s (l.take k)<4294967296:=Crc.crc_lt hs (fun x hx=>HR.o.1 x (List.mem_of_mem_take hx));have hx:=HR.o.byte k;obtain⟨b,o,rfl,hb,hc⟩:=HR.o.2 zv;have hck:=hc k hkl;clear hc hb;generalize Crc.crc s (l.take k)=wd at*;generalize l.getD k 0=x at*;have hxor:bits .xor .u32 (wd:Int) (x:Int)=((wd^^^x:Nat):Int):=u32_xor_nat _ _ hwd zv;have hin:wd^^^x<4294967296:=Crc.xor_lt hwd zv;have HS2:Hid (Crc.crc s (l.take (k+1))=Crc.mvN 8 (wd^^^x)):=HS.o;clear HS;generalize wd^^^x=y at*;go_wp2_with fail;go_loop [0,6] (fun v i=>∃j:Nat,j<=8/\i= .int .i64 j/\v= .int .u32 ((Crc.mvN j y:Nat):Int)) (fun _ i=>8 -(intOf i).toNat)
   case atStart=>exact⟨0,zv,rfl,rfl⟩
   case round=>
    obtain⟨j,hj,rfl,rfl⟩:=hrel;have hm:=Crc.mvN_lt hin j;have HM:=zh (jtv j y);clear hck;by_cases hlj:j<8
    ·generalize Crc.mvN j y=z at*
     by_cases hp:((z:Int)%2==1)=true
     ·have HV:=zh (ref_odd z hm hp)
      go_wp2_with fail;refine⟨⟨j+1,zv,rfl,jgc ?_⟩,by simp[intOf];omega⟩;rw[HV.o,HM.o]
     ·have hp':((z:Int)%2==1)=false:=by simpa using hp
      have HV:=zh (jtu z hp');clear hp;go_wp2_with fail;refine⟨⟨j+1,zv,rfl,jgc ?_⟩,by simp[intOf];omega⟩;rw[HV.o,HM.o]
    ·obtain rfl:j=8:=by omega
     go_wp2_with fail;refine⟨⟨k+1,zv,rfl,jgc ?_⟩,by simp[intOf];omega⟩;rw[HS2.o]
  ·obtain rfl:k=n:=by omega
   go_wp2;go_ret;refine⟨jch ?_,rfl⟩;show(_:Int)=_;rw[HN.o,List.take_length]
theorem jnc(n c:Nat)(A:Option Addr)(l:List Nat)(w:World)(hr:Rd w w.heap.size A l)(hn:n=l.length)(hl:l.length<=2147483647):
  Calls Tryz.prog 239 #[.slice A n c] w fun e w'=>e= .returned (.int .u32 ((Crc.sum l:Nat):Int))/\w=w':=by
 have HR:=zh hr;clear hr;have HN:=zh hn;clear hn;go_in;go_wp2_with fail;refine(jku 4294967295 n c A l _ zv HR.o HN.o hl).mono ?_;rintro e w1 ⟨rfl,rfl⟩;have hcl:Crc.crc 4294967295 l<4294967296:=Crc.crc_lt zv HR.o.1;have HS:Hid (Crc.sum l=4294967295 -Crc.crc 4294967295 l):=rfl;generalize Crc.crc 4294967295 l=x at*;go_wp2;go_ret;refine⟨jch ?_,rfl⟩;show(4294967295 -(x:Int))=_;rw[HS.o];omega
theorem jjd(s:Nat)(w:World)(hs:s<4294967296):
  Calls Tryz.prog 238 #[.int .u32 s] w (jjc s w):=by
 go_in;go_wp2;go_ret;refine⟨rfl,⟨jic s,fun _=>⟨_,0,rfl,by simp,fun j hj=> ?_⟩⟩,zE,by simp⟩;rw[World.cell?_alloc_at _ _ _ _ rfl,Nat.zero_add];simp only[be4,List.length_cons,List.length_nil]at hj;have hq:j=0\/j=1\/j=2\/j=3:=by omega
 have e0:(s:Int)/16777216=((s/16777216%256:Nat):Int):=by omega
 rw[e0];rcases hq with rfl|rfl|rfl|rfl<;>rfl
theorem jkv(n c:Nat)(A:Option Addr)(l:List Nat)(w:World)(hr:Rd w w.heap.size A l)(hn:n=l.length)(hA:A=none->c=0)(hl:l.length<=1073741823):
  Calls Tryz.prog 193 #[.slice A n c] w (jme l w):=by
 obtain⟨i0,hi0,hz0,hz1,hz2⟩:=info_parts jb3;have hn1:n<=1073741823:=by omega
 have HR:=zh hr;clear hr;have HN:=zh hn;clear hn;have HA:=zh hA;clear hA;have I0:=zh hi0;clear hi0;have I1:=zh hz0;clear hz0;have I2:=zh hz1;clear hz1;have I3:=zh hz2;clear hz2;clear hl;have O1:Hid (w.ownsRow w.heap.size 5 1 (.slice none 0 0) 0 []):=⟨by simp,.inl ⟨rfl,rfl⟩⟩;go_in;go_wp2_with(at_builtin;refine jao rfl (.tmp 4) (.tmp 5) _ rfl w.heap.size 5 i0 _ Tryz.underlying50 I0.o I1.o I2.o I3.o rfl (.slice none 0 0) 0 [] rfl O1.o w.heap.size n c A l rfl HR.o HN.o HA.o zv zl ?_;intro v2 w2 hown2 hg2;have O2:=zh hown2;have G2:=zh hg2;clear hown2 hg2);have B2:=zh ((Below.refl w.heap.size w).grown G2.o zl (by simp[Value.ownBlock]));clear G2 O1;refine(jnc n c A l w2 (HR.o.on B2.o) HN.o (by rw[<-HN.o];omega)).mono ?_;rintro e w3 ⟨rfl,rfl⟩;have hs:=Crc.sum_lt l;go_wp2_with fail;refine(jjd (Crc.sum l) w2 hs).mono ?_;rintro e w4 ⟨rfl,hr4,hb4,_⟩;have R4:=zh hr4;clear hr4;have B4:=zh hb4;clear hb4;have O4:=zh (jb5 O2.o B4.o);have B5:=zh (B2.o.trans (B4.o.mono B2.o.size));clear O2 B4 hs;go_wp2_with(at_builtin;refine jao rfl (.tmp 7) (.tmp 10) _ rfl w.heap.size 5 i0 _ Tryz.underlying50 I0.o I1.o I2.o I3.o rfl v2 (0+n) ([]++vals l) rfl O4.o w4.heap.size 4 4 _ (be4 (Crc.sum l)) rfl R4.o rfl (by simp) zv B5.o.size ?_;intro v6 w6 hown6 hg6;have O6:=zh hown6;have G6:=zh hg6;clear hown6 hg6);go_ret;have hO:=O6.o;rw[Nat.zero_add,List.nil_append,<-jbj,HN.o]at hO;obtain⟨g,c',rfl⟩:=jmb hO zv;refine⟨g,c',rfl,hO,B5.o.grown G6.o B5.o.size ?_⟩;intro k hk;rcases O4.o.2 with⟨rfl,_⟩|⟨g',cap,cur,rfl,hg',_⟩
 ·simp[Value.ownBlock]at hk
 ·simp only[Value.ownBlock,Option.some.injEq]at hk;omega
theorem jpd:(Tryz.prog.info? 50).map (fun i=>(i.zero,i.size,i.bytes))=some (some (.slice none 0 0),1,24):=by kernel_rfl
structure SlS(w:World)(A:Option Addr)(n c:Nat)(ls:List (List Nat)):Prop where
 rd:0<ls.length->∃b o,A=some ⟨b,o,none⟩/\b<w.heap.size/\∀j,j<ls.length->∃A' n' c',w.cell? ⟨b,o+j,none⟩=some (.slice A' n' c')/\Sl w A' n' c' (ls.getD j [])
 len:n=ls.length
 cap:n<=c
 max:c<=maxLen
 nil:A=none->c=0
theorem SlS.on{w w':World}{A:Option Addr}{n c:Nat}{ls:List (List Nat)}(h:SlS w A n c ls)(hb:zF w w'):SlS w' A n c ls:=
 ⟨fun hl=>by
  obtain⟨b,o,e,h1,h2⟩:=h.rd hl;refine⟨b,o,e,Nat.lt_of_lt_of_le h1 hb.size,fun j hj=> ?_⟩;obtain⟨A',n',c',h3,h4⟩:=h2 j hj;exact⟨A',n',c',(hb.cell (p:=⟨b,o+j,none⟩) h1).trans h3,h4.on hb⟩,h.len,h.cap,h.max,h.nil⟩
theorem SlS.none_(w:World):SlS w none 0 0 []:=⟨by simp,rfl,zl,Nat.zero_le _,fun _=>rfl⟩
theorem SlS.take{w:World}{A:Option Addr}{n c:Nat}{ls:List (List Nat)}(h:SlS w A n c ls){k:Nat}(hk:k<=n):SlS w A k c (ls.take k):=
 ⟨fun hl=>by
  rw[List.length_take]at hl;obtain⟨b,o,e,h1,h2⟩:=h.rd zv;refine⟨b,o,e,h1,fun j hj=> ?_⟩;rw[List.length_take]at hj;obtain⟨A',n',c',h3,h4⟩:=h2 j zv;refine⟨A',n',c',h3,?_⟩;rw[jal (by rw[List.length_take];omega),List.getElem_take,<-jal (d:=[])];exact h4,by rw[List.length_take,<-h.len];omega,by have:=h.cap;omega,h.max,h.nil⟩
def Fits(w:World)(v x:Value)(l:List Nat):Prop:=∃A n c,x= .slice A n c/\Sl w A n c l/\(0<l.length->∀a,A=some a->v.ownBlock≠some a.block)
def OwnS(w:World)(B:Nat)(v:Value)(ls:List (List Nat)):Prop:=
 ∃xs,w.ownsRow B 50 1 v ls.length xs/\∀j,j<ls.length->∃x,xs[j]? =some x/\Fits w v x (ls.getD j [])
theorem OwnS.none_(w:World)(B:Nat):OwnS w B (.slice none 0 0) []:=⟨[],World.ownsRow_nil _ _ _ _,fun j hj=>by simp at hj⟩
theorem OwnS.base{w:World}{B:Nat}{v:Value}{ls:List (List Nat)}(h:OwnS w B v ls):∀k,v.ownBlock=some k->B<=k/\k<w.heap.size:=by
 obtain⟨xs,h1,_⟩:=h;exact h1.lt
theorem OwnS.sls{w:World}{B:Nat}{v:Value}{ls:List (List Nat)}(h:OwnS w B v ls):∃A c,v= .slice A ls.length c/\SlS w A ls.length c ls:=by
 obtain⟨xs,ho,hf⟩:=h;rcases ho.2 with⟨rfl,h0⟩|⟨g,cap,cur,rfl,_,hg,h1,h2,_⟩
 ·have hl:ls=[]:=by simpa using h0
  subst hl;exact⟨none,0,rfl,SlS.none_ w⟩
 ·refine⟨_,cap,rfl,fun _=>⟨g,0,rfl,(zg hg).1,fun j hj=> ?_⟩,rfl,h1,h2,fun h=>by cases h⟩
  obtain⟨x,hx,A',n',c',rfl,hs,_⟩:=hf j hj;exact⟨A',n',c',by rw[Nat.zero_add,ho.cellAt j zv,hx],hs⟩
theorem OwnS.below{w w':World}{B:Nat}{v:Value}{ls:List (List Nat)}(h:OwnS w B v ls)(hb:zF w w'):OwnS w' B v ls:=by
 obtain⟨xs,ho,hf⟩:=h;refine⟨xs,jb5 ho hb,fun j hj=> ?_⟩;obtain⟨x,hx,A',n',c',e,hs,hfar⟩:=hf j hj;exact⟨x,hx,A',n',c',e,hs.on hb,hfar⟩
theorem Fits.grown{w w':World}{v v' x:Value}{l:List Nat}(h:Fits w v x l)(hg:w.grownBy w' v.ownBlock)(hv:v'.ownBlock=v.ownBlock\/v'.ownBlock=some w.heap.size):Fits w' v' x l:=by
 obtain⟨A,n,c,e,hs,hf⟩:=h;refine⟨A,n,c,e,hs.off hg hf,fun hl a ha=> ?_⟩;rcases hv with hv|hv
 ·rw[hv];exact hf hl a ha
 ·rw[hv]
  have:=hs.block hl a ha;intro e2;injection e2;omega
theorem jer{w:World}{ops:Array Oper}{rest:List Oper}{op:Oper}{a:Act}{Q:Exit->Act->World->Prop}(hgd:op.guard=none)(s x:Operand)
  (ho:op.op= .call {callee:= .builtin .append,args:=#[s,x],argTypes:=#[74,74]})
  (base:Nat) (v:Value) (ls:List (List Nat)) (hs:a.eval s=v) (hown:OwnS w base v ls) (m c:Nat) (A:Option Addr) (ms:List (List Nat)) (hx:a.eval x= .slice A m c) (hr:SlS w A m c ms)
  (hfar:∀j b o,j<ms.length->A=some ⟨b,o,none⟩->∀A' n' c',w.cell? ⟨b,o+j,none⟩=some (.slice A' n' c')->0<(ms.getD j []).length->∀a,A'=some a->v.ownBlock≠some a.block)
  (hlen:ls.length+ms.length<=4000000000) (hbase:base<=w.heap.size)
  (h:∀v' w',OwnS w' base v' (ls++ms)->Below base w w'->wpList Tryz.prog ops Q rest (a.put op.dst v') w'):wpList Tryz.prog ops Q (op::rest) a w:=by
 obtain⟨i0,hi0,hz0,hz1,hz2⟩:=info_parts jpd;obtain⟨xs,ho1,hf⟩:=hown;have hxl:=ho1.1;rw[Nat.mul_one]at hxl;rcases A with _|ad
 ·obtain rfl:=hr.nil rfl
  have hm:ms=[]:=by
   rcases ms with _|⟨y,l⟩
   ·rfl
   ·obtain⟨_,_,h0,_⟩:=hr.rd (by simp);cases h0
  subst hm;obtain rfl:=hr.len;refine wpList_append_own_none hgd s x 74 ho base 50 i0 1 Tryz.underlying74 hi0 v ls.length xs hs ho1 hx ?_;exact h v w (by rw[List.append_nil];exact⟨xs,ho1,hf⟩) zD
 ·obtain⟨news,hnl,hnw⟩:∃news:List Value,news.length=ms.length/\∀j,j<ms.length->∃u,news[j]? =some u/\w.cell? (ad.add j)=some u/\Fits w v u (ms.getD j []):=by
   rcases Nat.eq_zero_or_pos ms.length with h0|h0
   ·exact⟨[],by rw[h0];rfl,fun j hj=>by omega⟩
   ·obtain⟨b,o,e,_,hc⟩:=hr.rd h0
    injection e with e
    subst e;refine⟨(List.range ms.length).map fun j=>(w.cell? ⟨b,o+j,none⟩).getD default,by simp,fun j hj=> ?_⟩;obtain⟨A',n',c',h1,h2⟩:=hc j hj;refine⟨.slice A' n' c',?_,?_,A',n',c',rfl,h2,fun hl=>hfar j b o hj rfl A' n' c' h1 hl⟩
    ·rw[List.getElem?_map,List.getElem?_range hj,Option.map_some,h1,Option.getD_some]
    ·have:(⟨b,o,none⟩:Addr).add j=⟨b,o+j,none⟩:=by unfold Addr.add;split<;>simp_all
     rw[this,h1]
  refine wpList_append_own_at w hgd s x 74 ho base 50 i0 _ 1 24 Tryz.underlying74 hi0 hz0 hz1 hz2 rfl zv v ls.length xs hs ho1 ad m c news hx (by rw[hnl,hr.len,Nat.mul_one]) ?_ ?_ (by unfold maxLen;rw[hr.len];omega) (by rw[hr.len];omega) hbase ?_
  ·intro j u hu
   have hj:j<ms.length:=by
    rcases Nat.lt_or_ge j ms.length with h|h
    ·exact h
    ·rw[List.getElem?_eq_none zv]at hu;cases hu
   obtain⟨u',e1,e2,_⟩:=hnw j hj;rw[hu]at e1;injection e1 with e1;subst e1;exact e2
  ·intro u hu
   obtain⟨j,hj,rfl⟩:=List.mem_iff_getElem.1 hu;obtain⟨u',e1,_,A',n',c',rfl,_⟩:=hnw j zv;rw[List.getElem?_eq_getElem hj]at e1;injection e1 with e1
   rw[e1];rfl
  ·intro v' w' h1 h2 _ h4
   refine h v' w' ⟨xs++news,?_,fun j hj=> ?_⟩ ((Below.refl base w).grown h2 hbase (ja2 ho1))
   ·rw[zA,<-hr.len];exact h1
   ·rw[zA]at hj
    by_cases hjl:j<ls.length
    ·obtain⟨y,hy,hfy⟩:=hf j hjl
     refine⟨y,?_,?_⟩
     ·rw[List.getElem?_append_left zv];exact hy
     ·rw[jen _ _ _ _ hjl];exact hfy.grown h2 h4
    ·obtain⟨u,e1,_,hfu⟩:=hnw (j -ls.length) zv
     refine⟨u,?_,?_⟩
     ·rw[List.getElem?_append_right zv,hxl];exact e1
     ·rw[jeo _ _ _ _ zv hj];exact hfu.grown h2 h4
theorem SlS.one{w:World}{A:Option Addr}{n c:Nat}{l:List Nat}(h:Sl w A n c l):SlS (w.alloc (.cells #[.slice A n c] 50)) (some ⟨w.heap.size,0,none⟩) 1 1 [l]:=
 ⟨fun _=>⟨_,0,rfl,by simp,fun j hj=>by
  obtain rfl:j=0:=by simpa using hj
  exact⟨A,n,c,by rw[World.cell?_alloc_at _ _ _ _ rfl];rfl,h.on zE⟩⟩,rfl,zl,by unfold maxLen;omega,fun h=>by cases h⟩
theorem jcx{w:World}{ops:Array Oper}{rest:List Oper}{op:Oper}{a:Act}{Q:Exit->Act->World->Prop}(hgd:op.guard=none)(s x:Operand)
  (ho:op.op= .call {callee:= .builtin .append,args:=#[s,x],argTypes:=#[74,74]})
  (base:Nat) (v:Value) (ls:List (List Nat)) (hs:a.eval s=v) (hown:OwnS w base v ls) (A:Option Addr) (n c:Nat) (l:List Nat) (hl:Sl w A n c l) (hx:a.eval x= .slice (some ⟨w.heap.size,0,none⟩) 1 1)
  (hfar:0<l.length->∀a,A=some a->v.ownBlock≠some a.block)
  (hlen:ls.length<=3000000000) (hbase:base<=w.heap.size)
  (h:∀v' w',OwnS w' base v' (ls++[l])->Below base w w'->wpList Tryz.prog ops Q rest (a.put op.dst v') w'):wpList Tryz.prog ops Q (op::rest) a (w.alloc (.cells #[.slice A n c] 50)):=by
 have hb:=(Below.refl w.heap.size w).alloc zl (.cells #[.slice A n c] 50);refine jer hgd s x ho base v ls hs (hown.below hb) 1 1 _ [l] hx (SlS.one hl) ?_ (by simp;omega) (by simp;omega) (fun v' w' h1 h2=>h v' w' h1 ((hb.mono hbase).trans h2));intro j b o hj e A' n' c' hc hlj;obtain rfl:j=0:=by simpa using hj
 injection e with e
 injection e with e1 e2
 subst e1 e2;rw[World.cell?_alloc_at _ _ _ _ rfl]at hc;simp only[Option.some.injEq,Nat.zero_add,List.getElem?_toArray,List.getElem?_cons_zero,Value.slice.injEq]at hc;obtain⟨rfl,rfl,rfl⟩:=hc;exact hfar hlj
theorem SlS.two{w:World}{A1 A2:Option Addr}{n1 c1 n2 c2:Nat}{l1 l2:List Nat}(h1:Sl w A1 n1 c1 l1)(h2:Sl w A2 n2 c2 l2):
  SlS (w.alloc (.cells #[.slice A1 n1 c1,.slice A2 n2 c2] 50)) (some ⟨w.heap.size,0,none⟩) 2 2 [l1,l2]:=by
 have hb:=(Below.refl w.heap.size w).alloc zl (.cells #[.slice A1 n1 c1,.slice A2 n2 c2] 50);refine⟨fun _=>⟨_,0,rfl,by simp,fun j hj=> ?_⟩,rfl,zl,by unfold maxLen;omega,fun h=>by cases h⟩;have hj2:j=0\/j=1:=by simp at hj;omega
 rcases hj2 with rfl|rfl
 ·exact⟨A1,n1,c1,by rw[World.cell?_alloc_at _ _ _ _ rfl];rfl,h1.on hb⟩
 ·exact⟨A2,n2,c2,by rw[World.cell?_alloc_at _ _ _ _ rfl];rfl,h2.on hb⟩
def jtw(w:World)(e:Ending)(w':World):Prop:=∃v,e= .returned v/\OwnB w' w.heap.size v []/\zF w w'
theorem jtx(n:Nat)(w:World)(hn:n<=1000000000):
  Calls Tryz.prog 159 #[.slice none 0 0,.int .i64 n] w (jtw w):=by
 obtain⟨i0,hi0,hz0,hz1,hz2⟩:=info_parts jb3;by_cases h0:n=0
 ·subst h0
  go_in;go_wp2;go_ret;exact⟨_,rfl,OwnB.none_ _ _,zD⟩
 ·have hold:(Builtin.firstCells i0.size 0 (.slice none 0 0)).run Tryz.prog w.drew= .ok #[] w.drew:=run_firstCells_none w.drew i0.size 0 0 0
  have hrz:∀ty,(Builtin.append_ #[50,3] ty #[.slice none 0 0,.int .i64 (n:Int)]).run Tryz.prog w=
    .ok (.slice (some ⟨w.heap.size,0,none⟩) (0+n) (grownCap w (0+n) 0 5)) (w.drew.alloc (.cells (#[]++Builtin.zeroCells (Value.int .u8 0).cells n++Builtin.zeroCells (Value.int .u8 0).cells (grownCap w (0+n) 0 5 -(0+n))) 5)):=fun ty=>
   Lib.run_append_grow_zeros w 50 3 ty 5 i0 (.int .u8 0) .i64 .i64 Tryz.underlying50 Tryz.underlying3 hi0 hz0 none 0 0 [] hold n zv zv zv zv (by rw[hz2];omega)
    (growslice_fits zv (by rw[hz2];omega))
  have hge:0+n<=grownCap w (0+n) 0 5:=grownCap_ge w _ _ _;have hm:grownCap w (0+n) 0 5<=maxLen:=grownCap_le_maxLen w _ _ _ (by unfold maxLen;omega);generalize grownCap w (0+n) 0 5=G at*;have hsz:(#[]++Builtin.zeroCells (Value.int .u8 0).cells n++Builtin.zeroCells (Value.int .u8 0).cells (G -(0+n))).size=G:=by
   rw[Array.size_append,Array.size_append,size_zeroCells,size_zeroCells];simp[Value.cells];omega
  generalize(#[]++Builtin.zeroCells (Value.int .u8 0).cells n++Builtin.zeroCells (Value.int .u8 0).cells (G -(0+n)))=cs at*;have O:Hid (OwnB (w.alloc (.cells cs 5)).drew w.heap.size (.slice (some ⟨w.heap.size,0,none⟩) 0 G) []):=
   ⟨World.ownsRow_made w cs G zl hm (by rw[hsz,Nat.mul_one]),by simp⟩
  have HZ:=zh hrz;clear hrz hold hi0 hz0 hz1 hz2 hsz;unfold maxLen at hm;go_in;go_wp2_with(at_builtin;refine Lib.wpList_append_run _ rfl _ _ _ _ rfl _ _ rfl rfl _ _ (HZ.o _) ?_);go_ret;exact⟨_,rfl,O.o,((Below.refl w.heap.size w).alloc zl _).drew⟩
theorem jje(ls:List (List Nat))(k:Nat)(h:k<ls.length):(ls.take (k+1)).flatten=(ls.take k).flatten++ls.getD k []:=by
 rw[List.take_succ_eq_append_getElem h,List.flatten_append,jal h];simp
theorem jpe(ls:List (List Nat))(k:Nat):(ls.take k).flatten.length<=ls.flatten.length:=by
 have h:ls.flatten=(ls.take k).flatten++(ls.drop k).flatten:=by rw[<-List.flatten_append,List.take_append_drop]
 rw[h,zA];omega
def fln(ls:List (List Nat))(k:Nat):Nat:=(ls.take k).flatten.length
theorem jty(ls:List (List Nat))(k:Nat)(h:k<ls.length):fln ls (k+1)=fln ls k+(ls.getD k []).length:=by
 unfold fln;rw[jje ls k h,zA]
theorem fln_le(ls:List (List Nat))(k:Nat):fln ls k<=ls.flatten.length:=jpe ls k
theorem fln_all(ls:List (List Nat)):fln ls ls.length=ls.flatten.length:=by unfold fln;rw[List.take_length]
theorem jhq(n c:Nat)(A:Option Addr)(ls:List (List Nat))(w:World)(h:SlS w A n c ls)(hl:ls.flatten.length<=1000000000)(hn:n<=1000000000):
  Calls Tryz.prog 100 #[.slice A n c] w (jep ls.flatten w):=by
 have H:=zh h;clear h;have HL:=zh hl;clear hl;go_in;go_wp2_with fail;go_loop [3,11] (fun s i=>∃k:Nat,k<=n/\i= .int .i64 k/\s= .int .i64 (fln ls k:Nat)) (fun _ i=>n -(intOf i).toNat)
 case atStart=>exact⟨0,zv,rfl,rfl⟩
 case round=>
  obtain⟨k,hk,rfl,rfl⟩:=hrel;by_cases hlt:k<n
  ·have hkl:k<ls.length:=by rw[<-H.o.len];exact hlt
   obtain⟨b,o,rfl,_,hc⟩:=H.o.rd zv;obtain⟨A',n',c',hck,hs'⟩:=hc k hkl;clear hc;have h1:=fln_le ls k;have h2:=fln_le ls (k+1);have hlen:=hs'.len;have h3:=jty ls k hkl;have h4:=HL.o;clear hs';generalize fln ls k=x at*;generalize hy:fln ls (k+1)=y at*;have HY:=zh hy;clear hy;have h5:x<=1000000000:=by omega
   have h6:n'<=1000000000:=by omega
   rw[<-hlen]at h3;have H3:=zh h3;clear h3;clear h1 h2 h4 hlen;go_wp2_with fail;refine⟨⟨k+1,zv,by go_num,?_⟩,by simp[intOf];omega⟩;rw[HY.o,H3.o];go_num
  ·obtain rfl:k=n:=by omega
   have HT:Hid (fln ls k=ls.flatten.length):=by show _=_;rw[H.o.len,fln_all]
   have hf0:=HL.o;generalize hfl:fln ls k=x at*;have HX:Hid (x<=1000000000):=by show _<=_;rw[HT.o];exact hf0
   clear hf0 hfl;go_wp2_with fail
   refine(jtx x _ HX.o).mono ?_
   rintro e w1 ⟨v1,rfl,ho1,hb1⟩;have O1:=zh ho1;clear ho1;have B1:=zh hb1;clear hb1;clear HT;go_wp2_with fail;go_loopw [6,27] (fun v i wr=>∃m:Nat,m<=k/\i= .int .i64 m/\OwnB wr w.heap.size v (ls.take m).flatten/\zF w wr) (fun _ i _=>k -(intOf i).toNat)
   case atStart=>exact⟨0,zv,rfl,O1.o,B1.o⟩
   case round=>
    obtain⟨m,hm,rfl,ho,hb⟩:=hrel;clear O1 B1;have O:=zh ho;clear ho;have B:=zh hb;clear hb;by_cases hlm:m<k
    ·have hml:m<ls.length:=by rw[<-H.o.len];exact hlm
     obtain⟨b,o,rfl,_,hc⟩:=(H.o.on B.o).rd zv;obtain⟨A',n',c',hck,hs'⟩:=hc m hml;clear hc;have S':=zh hs';clear hs';have HS:=zh (jje ls m hml);have HV:Hid ((ls.take m).flatten.length+(ls.getD m []).length<=140737488355328):=by
      show _<=_;have:=jpe ls (m+1);rw[HS.o,zA]at this;have:=HL.o;omega
     go_wp2_with(at_builtin;refine jan rfl (.tmp 31) (.tmp 32) rfl w.heap.size _ _ rfl O.o n' c' A' _ rfl S'.o HV.o B.o.size ?_;intro v2 w2 hown2 hb2;have O2:=zh hown2;have B2:=zh hb2;clear hown2 hb2);go_roundw
     case rel=>exact⟨m+1,zv,by go_num,by rw[HS.o];exact O2.o,B.o.trans B2.o⟩
     case measure=>simp[intOf];omega
    ·obtain rfl:m=k:=by omega
     have HT:Hid ((ls.take m).flatten=ls.flatten):=by show _=_;rw[H.o.len,List.take_length]
     go_wp2;go_ret;exact jep.mk (by rw[<-HT.o];exact O.o) B.o
open Fr
theorem jpf(n:Nat)(w:World)(hn:n<=1000000000000):
  Calls Tryz.prog 240 #[.int .i64 n] w fun e w'=>e= .returned (.int .i64 ((sizeN n:Nat):Int))/\w=w':=by
 by_cases h1:n<1
 ·have HS:=zh (sizeN_no (.inl h1))
  obtain rfl:n=0:=by omega
  go_in;go_wp2;go_ret;rw[HS.o];exact⟨rfl,rfl⟩
 ·have h1':¬(n:Int)<1:=by omega
  by_cases h2:1000<n
  ·have HS:=zh (sizeN_no (n:=n) (.inr h2))
   go_in;go_wp2;go_ret;rw[HS.o];exact⟨rfl,rfl⟩
  ·have HS:=zh (sizeN_yes (n:=n) zv zv)
   have h2':¬1000<(n:Int):=by omega
   go_in;go_wp2;go_ret;rw[HS.o];exact⟨jch zv,rfl⟩
theorem jjf(a:Nat)(ha:a<9223372036854775808):(BitVec.ofInt 64 (a:Int)).toNat=a:=by
 rw[BitVec.ofInt_natCast,BitVec.toNat_ofNat];exact Nat.mod_eq_of_lt zv
theorem jnd(a b:Nat)(ha:a<9223372036854775808)(hb:b<9223372036854775808):bits .or .i64 (a:Int) (b:Int)=((a||| b:Nat):Int):=by
 have hx:a||| b<2^63:=Nat.or_lt_two_pow zv zv;show IntKind.i64.wrap ((BitVec.ofInt 64 (a:Int)||| BitVec.ofInt 64 (b:Int)).toNat:Int)=_;rw[BitVec.toNat_or,jjf a ha,jjf b hb,IntKind.wrap_i64];omega
theorem or_two(a b:Nat)(ha:a<256)(hb:b<256):bits .or .i64 ((a:Int)*256) (b:Int)=((a*256+b:Nat):Int):=by
 rw[show(a:Int)*256=((a*256:Nat):Int)from by omega,jnd _ _ zv zv]
 congr 1
 exact nat_join 8 _ _ zv zv
theorem jne(n c:Nat)(A:Option Addr)(l:List Nat)(w:World)(h:Sl w A n c l)(hn:n<=1000000000):
  Calls Tryz.prog 194 #[.slice A n c] w fun e w'=>e= .returned (.int .i64 ((whole l:Nat):Int))/\zF w w':=by
 have H:=zh h;have hlen:=h.len;by_cases h2:n<2
 ·have HW:Hid (whole l=0):=by show whole l=0;unfold whole;rw[if_pos zv]
  clear h hlen;go_in;go_wp2;go_ret;rw[HW.o];exact⟨rfl,zD⟩
 ·have x0:=h.rd.byte 0
  have x1:=h.rd.byte 1;obtain⟨b,o,rfl,_,hc⟩:=h.rd.2 zv;have c0:=hc 0 zv;rw[Nat.add_zero]at c0;have c1:=hc 1 zv;have HN:Hid (num2 l=l.getD 0 0*256+l.getD 1 0):=rfl;have HW:Hid (whole l=if n<sizeN (num2 l)then 0 else sizeN (num2 l)):=by show whole l=_;unfold whole;rw[if_neg zv,<-hlen]
  clear hc h hlen H;generalize l.getD 0 0=p at*;generalize l.getD 1 0=q at*;have HO:=or_two p q x0 x1;rw[<-HN.o]at HO;have hnl:num2 l<65536:=by rw[HN.o];omega
  generalize num2 l=m at*;have HC:Hid (∀W,Calls Tryz.prog 240 #[.int .i64 m] W fun e w'=>e= .returned (.int .i64 ((sizeN m:Nat):Int))/\w'=W):=fun W=>same_of (jpf m W zv);have hsl:=sizeN_le m;generalize sizeN m=s at*;by_cases hs:n<s
  ·rw[if_pos hs]at HW
   go_in;go_wp2_with fail;go_quiet ((go_at_call 240;exact Calls.quiet_of_same (HC.o _)));go_wp2;go_ret;rw[HW.o];exact⟨rfl,Below.drewN zD _⟩
  ·rw[if_neg hs]at HW
   go_in;go_wp2_with fail;go_quiet ((go_at_call 240;exact Calls.quiet_of_same (HC.o _)));go_wp2;go_ret;rw[HW.o];exact⟨rfl,Below.drewN zD _⟩
def putE(p:List Nat):Nat:=if p.length=0 then 1 else if 1000<p.length then 12 else 0
def putL(b p:List Nat):List Nat:=if p.length=0\/1000<p.length then b else b++fr p
theorem jie{b p:List Nat}(h:p.length=0):putE p=1/\putL b p=b:=by unfold putE putL;rw[if_pos h,if_pos (.inl h)];exact⟨rfl,rfl⟩
theorem jmf{b p:List Nat}(h:1000<p.length):putE p=12/\putL b p=b:=by unfold putE putL;rw[if_neg zv,if_pos h,if_pos (.inr h)];exact⟨rfl,rfl⟩
theorem jif{b p:List Nat}(h:p.length≠0)(h2:p.length<=1000):putE p=0/\putL b p=b++fr p:=by unfold putE putL;rw[if_neg h,if_neg zv,if_neg zv];exact⟨rfl,rfl⟩
def jfp(l:List Nat)(er:Nat)(w:World)(e:Ending)(w':World):Prop:=
 ∃A c,e= .returned (.tuple #[.slice A l.length c,.int .i64 (er:Int)])/\OwnB w' w.heap.size (.slice A l.length c) l/\zF w w'
theorem jfp.mk{l:List Nat}{er:Nat}{w w':World}{v:Value}{x:Int}(h:OwnB w' w.heap.size v l)(hx:x=(er:Int))(hb:zF w w'):jfp l er w (.returned (.tuple #[v,.int .i64 x])) w':=by
 obtain⟨A,c,rfl,_⟩:=h.sl;subst hx;exact⟨A,c,rfl,h,hb⟩
theorem jig(n c m d:Nat)(A D:Option Addr)(b p:List Nat)(w:World)(hb:Sl w A n c b)(hp:Sl w D m d p)(hn:n<=900000000)(hm:m<=900000000):
  Calls Tryz.prog 56 #[.slice A n c,.slice D m d] w (jfp (putL b p) (putE p) w):=by
 have hlp:=hp.len;have HB:=zh hb;have HP:=zh hp;clear hb hp;by_cases h0:m=0
 ·have HX:=zh (jie (b:=b) (p:=p) zv)
  subst h0;clear hlp;go_in;go_wp2_with fail
  refine(jda n c A b _ HB.o zv).mono ?_
  rintro e w1 ⟨A1,c1,rfl,ho,hb1⟩;have O:=zh ho;clear ho;have B:=zh hb1;clear hb1;go_wp2;go_ret2;rw[HX.o.1,HX.o.2];exact jfp.mk O.o rfl B.o
 ·have e0:((m:Int)==0)=false:=by rw[zq];omega
  by_cases h1:1000<m
  ·have HX:=zh (jmf (b:=b) (p:=p) zv)
   clear hlp h0;go_in;go_wp2_with fail
   refine(jda n c A b _ HB.o zv).mono ?_
   rintro e w1 ⟨A1,c1,rfl,ho,hb1⟩;have O:=zh ho;clear ho;have B:=zh hb1;clear hb1;go_wp2;go_ret2;rw[HX.o.1,HX.o.2];exact jfp.mk O.o rfl B.o
  ·have HX:=zh (jif (b:=b) (p:=p) zv zv)
   have LP:=zh hlp;have LB:Hid (n=b.length):=HB.o.len;have h1':m<=1000:=by omega
   clear hlp h0 h1;go_in;go_wp2_with fail;have HS:=zh (sl_two w (m/256%256) (m%256) zv zv ((m:Int)/256) ((m:Int)%256) zv rfl);have B1:=zh ((Below.refl w.heap.size w).alloc zl (.cells #[.int .u8 ((m:Int)/256),.int .u8 ((m:Int)%256)] 5));have hz1:(w.alloc (.cells #[.int .u8 ((m:Int)/256),.int .u8 ((m:Int)%256)] 5)).heap.size=w.heap.size+1:=by simp
   generalize w.alloc (.cells #[.int .u8 ((m:Int)/256),.int .u8 ((m:Int)%256)] 5)=w1 at*;rw[<-hz1];have Z1:=zh hz1;clear hz1;have T1:=zh (SlS.two HS.o (HP.o.on B1.o));have C1:=zh (jhq 2 2 _ _ _ T1.o (by have:=LP.o;simp;omega) zv);have B2:=zh (B1.o.alloc B1.o.size (.cells #[.slice (some ⟨w.heap.size,0,none⟩) 2 2,.slice D m d] 50))
   refine C1.o.mono ?_
   rintro e w3 ⟨A3,c3,rfl,ho3,hb3⟩;have B3:=zh (B2.o.trans (hb3.mono B2.o.size));clear hb3;have S3:=zh ho3.sls;clear ho3;obtain⟨q,hq⟩:∃q,q=[[m/256%256,m%256],p].flatten:=zx;have Q:Hid (q=hd2 p.length++p):=by show q=_;rw[hq,LP.o];simp[hd2]
   rw[<-hq]at S3⊢;have QL:Hid (q.length<=1002):=by show _<=_;rw[Q.o,zA,hd2_length,<-LP.o];omega
   clear hq HS B1 B2 T1 C1 Z1;go_wp2_with fail;have C4:=zh (jtt q.length c3 A3 q w3 S3.o.rd rfl S3.o.nil (by have:=QL.o;omega))
   refine C4.o.mono ?_
   rintro e w4 ⟨g4,c4,rfl,ho4,hb4⟩;have O4:Hid (OwnB w4 w3.heap.size (.slice (some ⟨g4,0,none⟩) (q.length+4) c4) (fr p)):=by
    have e4:fr p=q++be4 (Crc.sum q):=by rw[Q.o];rfl
    have l4:(fr p).length=q.length+4:=by rw[e4,zA,jdp]
    refine⟨by rw[l4,e4];exact ho4,?_⟩;exact fr_byte HP.o.rd.1
   have B4:=zh (B3.o.trans (hb4.mono B3.o.size));clear hb4 ho4;clear C4 S3 B3;have SB:=zh (HB.o.on B4.o);have S4:=zh O4.o.sls;have T4:=zh (SlS.two SB.o S4.o);go_wp2_with fail;have C5:=zh (jhq 2 2 _ _ _ T4.o (by have:=QL.o;have:=LB.o;have:=LP.o;simp[fr_length];omega) zv);have B5:=zh (B4.o.alloc B4.o.size (.cells #[.slice A n c,.slice (some ⟨g4,0,none⟩) (q.length+4) c4] 50))
   refine C5.o.mono ?_
   rintro e w6 ⟨A6,c6,rfl,ho6,hb6⟩;have O6:=zh ho6;clear ho6;have B6:=zh (B5.o.trans (hb6.mono B5.o.size));clear hb6;obtain⟨r,hr⟩:∃r,r=[b,fr p].flatten:=zx;rw[<-hr]at O6⊢;have R:Hid (r=b++fr p):=by show r=_;rw[hr];simp
   clear hr;go_wp2;go_ret2;rw[HX.o.1,HX.o.2,<-R.o];refine jfp.mk ?_ rfl B6.o;have hsz:w.heap.size<=(w4.alloc (.cells #[.slice A n c,.slice (some ⟨g4,0,none⟩) (q.length+4) c4] 50)).heap.size:=B5.o.size;exact O6.o.lower hsz
def jhr(l:List Nat)(w:World)(e:Ending)(w':World):Prop:=
 ∃A c,e= .returned (.tuple #[.slice A (gP l).length c,.int .i64 ((gN l:Nat):Int),.int .i64 ((gE l:Nat):Int)])/\OwnB w' w.heap.size (.slice A (gP l).length c) (gP l)/\zF w w'
theorem jhr.mk{l:List Nat}{w w':World}{v:Value}{x y:Int}(h:OwnB w' w.heap.size v (gP l))(hx:x=(gN l:Nat))(hy:y=(gE l:Nat))(hb:zF w w'):jhr l w (.returned (.tuple #[v,.int .i64 x,.int .i64 y])) w':=by
 obtain⟨A,c,rfl,_⟩:=h.sl;subst hx hy;exact⟨A,c,rfl,h,hb⟩
theorem get_no{l:List Nat}(h:gE l≠0):gP l=[]/\gN l=0:=by unfold gP gN;rw[if_neg h,if_neg h];exact⟨rfl,rfl⟩
theorem jkw{l:List Nat}(h:gE l=0):gP l=(l.take (whole l -4)).drop 2/\gN l=whole l:=by unfold gP gN;rw[if_pos h,if_pos h];exact⟨rfl,rfl⟩
theorem jmg(n c:Nat)(A:Option Addr)(l:List Nat)(w:World)(h:Sl w A n c l)(hn:n<=1000000000):
  Calls Tryz.prog 145 #[.slice A n c] w (jhr l w):=by
 have H:=zh h;have hlen:=h.len;have hcap:=h.cap;have hmax:=h.max;unfold maxLen at hmax;have hw:=whole_cases l;have HC:=zh (jne n c A l w h hn);by_cases h0:whole l=0
 ·have HE:=zh (gE_two h0)
  have HX:=zh (get_no (l:=l) (by rw[HE.o];omega));rw[h0]at HC;clear h hlen hcap hmax hw h0;go_in;go_wp2_with fail
  refine HC.o.mono ?_
  rintro e w1 ⟨rfl,hb1⟩;have B1:=zh hb1;clear hb1;go_wp2_with fail;go_ret3;refine jhr.mk ?_ ?_ ?_ B1.o
  ·rw[HX.o.1];exact OwnB.none_ _ _
  ·rw[HX.o.2];rfl
  ·rw[HE.o];rfl
 ·obtain⟨h7,h6,hle,hnm⟩:7<=whole l/\whole l<=1006/\whole l<=l.length/\whole l=num2 l+6:=by
   rcases hw with hw|hw
   ·exact absurd hw h0
   ·exact hw
  have HT:=zh (h.take (k:=whole l) zv);have HY:Hid (good (l.take (whole l))=true->gE l=0):=fun hg=>gE_yes h0 hg;have HZ:Hid (good (l.take (whole l))=false->gE l=3):=fun hg=>gE_three h0 hg;have HV:Hid (gE l=0->gP l=(l.take (whole l -4)).drop 2/\gN l=whole l):=jkw;have HL:Hid ((l.take (whole l)).length<=100000):=by show _<=_;rw[List.length_take];omega
  have HD:=zh ((h.take (k:=whole l -4) zv).drop (k:=2) zv zv);have hwn:whole l<=n:=by omega
  clear hw hnm hle h0 hlen h;generalize whole l=W at*;generalize l.take W=t at*;obtain⟨g,hg⟩:∃g,good t=g:=⟨_,rfl⟩;have HG:=zh hg;clear hg;have hw0:((W:Int)==0)=false:=by rw[zq];omega
  have GC:=fun(W':World) (hb:zF w W')=>(good_at W' HT.o HL.o hb);rw[HG.o]at HY HZ;simp only[HG.o]at GC;have GC:=zh GC
  cases g
  ·have HE:=zh (HZ.o rfl)
   have HX:=zh (get_no (l:=l) (by rw[HE.o];omega));go_in;go_wp2_with fail
   refine HC.o.mono ?_
   rintro e w1 ⟨rfl,hb1⟩;have B1:=zh hb1;clear hb1;go_wp2_with fail
   refine(GC.o _ B1.o).mono ?_
   rintro e w2 ⟨rfl,hb2⟩;have B2:=zh hb2;clear hb2;go_wp2_with fail;go_ret3;refine jhr.mk ?_ ?_ ?_ B2.o
   ·rw[HX.o.1];exact OwnB.none_ _ _
   ·rw[HX.o.2];rfl
   ·rw[HE.o];rfl
  ·have HE:=zh (HY.o rfl)
   have HX:=zh (HV.o HE.o);rw[<-HX.o.1]at HD;have hP:(gP l).length<=100000:=by rw[<-HD.o.len];omega
   obtain⟨P,hPe⟩:∃P,P=gP l:=zx;rw[<-hPe]at HD hP;have PE:=zh hPe;clear hPe;go_in;go_wp2_with fail
   refine HC.o.mono ?_
   rintro e w1 ⟨rfl,hb1⟩;have B1:=zh hb1;clear hb1;go_wp2_with fail
   refine(GC.o _ B1.o).mono ?_
   rintro e w2 ⟨rfl,hb2⟩;have B2:=zh hb2;clear hb2;go_wp2_with fail;have e2:(fun x:Addr=>x.add 2)=fun x=>{block:=x.block,off:=x.off+2}:=by funext x;simp[Addr.add]
   rw[e2]at HD;have C3:=zh (jda _ _ _ P w2 (HD.o.on B2.o) zv)
   refine C3.o.mono ?_
   rintro e w3 ⟨A3,c3,rfl,ho,hb3⟩;have O:=zh ho;clear ho;have B3:=zh (B2.o.trans (hb3.mono B2.o.size));clear hb3;clear C3 e2;go_wp2_with fail;go_ret3;refine jhr.mk ?_ ?_ ?_ B3.o
   ·rw[<-PE.o];exact O.o.lower B2.o.size
   ·rw[HX.o.2]
   ·rw[HE.o];rfl
