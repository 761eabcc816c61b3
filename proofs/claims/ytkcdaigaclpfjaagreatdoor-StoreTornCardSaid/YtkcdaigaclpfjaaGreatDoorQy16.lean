import Derived.Lib.ConvBytes
import Derived.Test.YtkcdaigaclpfjaaGreatDoorQy15
import Derived.Laws.BitsAllLaws
import Derived.Deep.OwnRows
import Derived.Deep.Matrix
import Derived.Lib.AppendZerosOnto
set_option maxHeartbeats 6400000
set_option maxRecDepth 100000
set_option linter.unusedSimpArgs false
set_option linter.unusedVariables false
namespace Go.Proofs.YtkcdaigaclpfjaaGreatDoor
open Go.RowKit
def jou(R:Int)(A B:ByteArray)(x:Int)(w:World)(e:Ending)(w':World):Prop:=e= .returned (.tuple #[.agg #[.int .i64 R,.string A,.string B],.int .i64 x])/\Below w.heap.size w w'
theorem jei(w:World)(o1 o2:Obj):Below w.heap.size w ((w.alloc o1).alloc o2):=((Below.refl _ _).alloc (Nat.le_refl _) o1).alloc (by simp) o2
theorem jr7(n:Int)(w:World):
  Calls Tryz.prog 34 #[.int .i64 n] w fun e w'=>e= .returned (.agg #[.int .i64 (Dk.fits n:Nat),.string ⟨#[]⟩,.string ⟨#[]⟩])/\Below w.heap.size w w':=by
 have hf:min (max n 0) 1048576=(Dk.fits n:Nat):=by unfold Dk.fits;omega
 generalize Dk.fits n=q at*;go_enter Tryz.func34,Tryz.ntmps34;go_wp2_with fail;exact bodyPost_ret (v:= .agg #[.int .i64 (q:Nat),.string ⟨#[]⟩,.string ⟨#[]⟩]) (by simp[results,Tryz.results34,go_sem]) rfl ⟨rfl,(Below.refl _ _).alloc (Nat.le_refl _) _⟩
theorem jmm(R:Int)(A B L:ByteArray)(w:World)(h:A.size+B.size<=1000000000)(hL:L.size<=1000000000):
  Calls Tryz.prog 94 #[.agg #[.int .i64 R,.string A,.string B],.string L] w (jou R A (if(A.size:Int)+B.size+L.size<=R then B++L else B) (if(A.size:Int)+B.size+L.size<=R then 0 else 4) w):=by
 by_cases hg:(A.size:Int)+B.size+L.size<=R
 ·rw[if_pos hg,if_pos hg]
  go_enter Tryz.func94,Tryz.ntmps94;go_wp2_with fail;exact bodyPost_ret (v:= .tuple #[.agg #[.int .i64 R,.string A,.string (B++L)],.int .i64 0]) (by simp[results,Tryz.results94,go_sem]) rfl ⟨rfl,jei _ _ _⟩
 ·rw[if_neg hg,if_neg hg]
  go_enter Tryz.func94,Tryz.ntmps94;go_wp2_with fail;exact bodyPost_ret (v:= .tuple #[.agg #[.int .i64 R,.string A,.string B],.int .i64 4]) (by simp[results,Tryz.results94,go_sem]) rfl ⟨rfl,jei _ _ _⟩
theorem jov(R:Int)(A B:ByteArray)(w:World)(h:A.size+B.size<=1000000000):
  Calls Tryz.prog 39 #[.agg #[.int .i64 R,.string A,.string B]] w (jou R (A++B) ⟨#[]⟩ (B.size:Nat) w):=by
 go_enter Tryz.func39,Tryz.ntmps39;go_wp2_with fail;exact bodyPost_ret (v:= .tuple #[.agg #[.int .i64 R,.string (A++B),.string ⟨#[]⟩],.int .i64 (B.size:Nat)]) (by simp[results,Tryz.results39,go_sem]) rfl ⟨rfl,jei _ _ _⟩
def tA(d:Dk.St):ByteArray:=txt (d.l.take d.safe)
def tB(d:Dk.St):ByteArray:=txt (d.l.drop d.safe)
theorem tA_size{d:Dk.St}(h:Dk.Okay d):(tA d).size=d.safe:=by unfold tA;rw[jbi,List.length_take];have:=h.1;omega
theorem jow(d:Dk.St):(tB d).size=Dk.opens d:=by unfold tB;rw[jbi,List.length_drop];rfl
theorem tAB(d:Dk.St):tA d++tB d=txt d.l:=by unfold tA tB;rw[jep,List.take_append_drop]
theorem jox{d:Dk.St}(h:Dk.Okay d):(tA d).size+(tB d).size=d.l.length/\(tA d).size+(tB d).size<=1000000000:=by
 rw[tA_size h,jow];have h1:=h.1;have h2:=h.2.1;have h3:=h.2.2;unfold Dk.opens;omega
def jkb(d:Dk.St)(x:Int)(w:World)(e:Ending)(w':World):Prop:=e= .returned (.tuple #[.agg #[.int .i64 (d.room:Nat),.string (tA d),.string (tB d)],.int .i64 x])/\Below w.heap.size w w'
theorem jkb.of{d:Dk.St}{R:Int}{A B:ByteArray}{x y:Int}{w:World}{e:Ending}{w':World}(h:jou R A B x w e w')(h1:R=(d.room:Nat))(h2:A=tA d)(h3:B=tB d)(h4:x=y):jkb d y w e w':=by
 subst h1 h2 h3 h4;exact h
theorem qWrite{d:Dk.St}(h:Dk.Okay d)(b:List Nat)(hb:b.length<=1000000000)(w:World):
  Calls Tryz.prog 94 #[.agg #[.int .i64 (d.room:Nat),.string (tA d),.string (tB d)],.string (txt b)] w (jkb (Dk.write d b) (Dk.writeE d b) w):=by
 obtain⟨h1,h2⟩:=jox h;have hs:(txt b).size=b.length:=jbi b;refine(jmm (d.room:Nat) (tA d) (tB d) (txt b) w h2 zv).mono fun e w' hp=> ?_;by_cases hg:Dk.goes d b
 ·have hc:((tA d).size:Int)+(tB d).size+(txt b).size<=(d.room:Nat):=by unfold Dk.goes at hg;omega
  rw[if_pos hc,if_pos hc]at hp;unfold Dk.write Dk.writeE;rw[if_pos hg,if_pos hg];have hsl:=h.1;refine jkb.of hp rfl ?_ ?_ rfl
  ·unfold tA;simp only;rw[List.take_append_of_le_length hsl]
  ·unfold tB;simp only;rw[List.drop_append_of_le_length hsl,jep]
 ·have hc:¬((tA d).size:Int)+(tB d).size+(txt b).size<=(d.room:Nat):=by unfold Dk.goes at hg;omega
  rw[if_neg hc,if_neg hc]at hp;unfold Dk.write Dk.writeE;rw[if_neg hg,if_neg hg];exact hp
theorem jr8(R:Nat)(l:List Nat)(n:Nat)(hn:n=l.length):tA ⟨R,n,l⟩=txt l/\tB ⟨R,n,l⟩=⟨#[]⟩:=by
 subst hn;unfold tA tB;simp only;rw[List.take_length,List.drop_length];exact⟨rfl,rfl⟩
theorem qSync{d:Dk.St}(h:Dk.Okay d)(w:World):
  Calls Tryz.prog 39 #[.agg #[.int .i64 (d.room:Nat),.string (tA d),.string (tB d)]] w (jkb (Dk.sync d) (Dk.opens d:Nat) w):=by
 obtain⟨h1,h2⟩:=jox h;refine(jov (d.room:Nat) (tA d) (tB d) w h2).mono fun e w' hp=> ?_;obtain⟨t1,t2⟩:=jr8 d.room d.l d.l.length rfl;exact jkb.of hp rfl ((tAB d).trans t1.symm) t2.symm (by rw[jow])
end Go.Proofs.YtkcdaigaclpfjaaGreatDoor
namespace Go.Proofs.YtkcdaigaclpfjaaGreatDoor.Crc
def mv1(w:Nat):Nat:=if w%2=1 then(w/2)^^^3988292384 else w/2
def mvN:Nat->Nat->Nat
 |0,w=>w
 |k+1,w=>mv1 (mvN k w)
def mv8(w:Nat):Nat:=mvN 8 w
def step(w x:Nat):Nat:=mv8 (w^^^x)
def crc(w:Nat)(l:List Nat):Nat:=l.foldl step w
def more(s:Nat)(l:List Nat):Nat:=4294967295 -crc (4294967295 -s) l
def sum(l:List Nat):Nat:=more 0 l
theorem xor_lt{a b:Nat}(ha:a<4294967296)(hb:b<4294967296):a^^^b<4294967296:=
 Nat.xor_lt_two_pow (n:=32) ha hb
theorem mv1_lt{w:Nat}(h:w<4294967296):mv1 w<4294967296:=by
 unfold mv1;split
 ·exact xor_lt zv zv
 ·omega
theorem mvN_lt{w:Nat}(h:w<4294967296)(k:Nat):mvN k w<4294967296:=by
 induction k with
 |zero=>exact h
 |succ k ih=>exact mv1_lt ih
theorem mv8_lt{w:Nat}(h:w<4294967296):mv8 w<4294967296:=mvN_lt h 8
theorem xor_mod_two(a b:Nat):(a^^^b)%2=(a%2+b%2)%2:=by
 have h:(a^^^b).testBit 0=(a.testBit 0^^b.testBit 0):=Nat.testBit_xor ..;simp only[Nat.testBit_zero]at h;have ha:=Nat.mod_two_eq_zero_or_one a;have hb:=Nat.mod_two_eq_zero_or_one b;have hc:=Nat.mod_two_eq_zero_or_one (a^^^b);rcases ha with ha|ha<;>rcases hb with hb|hb<;>rcases hc with hc|hc<;>simp_all
theorem xor_div_two(a b:Nat):(a^^^b)/2=(a/2)^^^(b/2):=by
 apply Nat.eq_of_testBit_eq;intro i;rw[Nat.testBit_xor,<-Nat.testBit_succ,<-Nat.testBit_succ,<-Nat.testBit_succ,Nat.testBit_xor]
theorem mv1_xor(a b:Nat):mv1 (a^^^b)=mv1 a^^^mv1 b:=by
 unfold mv1;rw[xor_mod_two,xor_div_two];rcases Nat.mod_two_eq_zero_or_one a with ha|ha<;>rcases Nat.mod_two_eq_zero_or_one b with hb|hb<;>rw[ha,hb]<;>simp
 ·rw[Nat.xor_assoc]
 ·rw[Nat.xor_assoc,Nat.xor_assoc,Nat.xor_comm (b/2)]
 ·rw[Nat.xor_comm (b/2),Nat.xor_assoc,<-Nat.xor_assoc 3988292384,Nat.xor_self,Nat.zero_xor]
theorem mvN_xor(k a b:Nat):mvN k (a^^^b)=mvN k a^^^mvN k b:=by
 induction k with
 |zero=>rfl
 |succ k ih=>show mv1 (mvN k (a^^^b))=_;rw[ih,mv1_xor];rfl
theorem mv8_xor(a b:Nat):mv8 (a^^^b)=mv8 a^^^mv8 b:=mvN_xor 8 a b
theorem mvN_up(k h:Nat):mvN k (2^k*h)=h:=by
 induction k generalizing h with
 |zero=>simp[mvN]
 |succ k ih=>
  show mv1 (mvN k (2^(k+1)*h))=h;rw[Nat.pow_succ,Nat.mul_assoc,ih];unfold mv1;rw[if_neg zv];omega
theorem split256(w:Nat):w=(256*(w/256))^^^(w%256):=by
 apply Nat.eq_of_testBit_eq;intro i;rw[Nat.testBit_xor,show(256:Nat)=2^8 from rfl,Nat.testBit_two_pow_mul,Nat.testBit_mod_two_pow,Nat.testBit_div_two_pow];by_cases h:8<=i
 ·simp[h,Nat.not_lt.2 h]
 ·simp[h,Nat.lt_of_not_le h]
theorem step_eq(w x:Nat):step w x=(w/256)^^^mv8 ((w%256)^^^x):=by
 unfold step
 conv=>lhs;rw[split256 w]
 rw[Nat.xor_assoc,mv8_xor]
 congr 1
 exact mvN_up 8 (w/256)
theorem step_lt{w x:Nat}(hw:w<4294967296)(hx:x<256):step w x<4294967296:=mv8_lt (xor_lt hw zv)
theorem crc_lt{w:Nat}{l:List Nat}(hw:w<4294967296)(hl:∀x∈l,x<256):crc w l<4294967296:=by
 induction l generalizing w with
 |nil=>exact hw
 |cons x l ih=>exact ih (step_lt hw (hl x (by simp))) (fun y hy=>hl y (by simp[hy]))
theorem crc_append(w:Nat)(a b:List Nat):crc w (a++b)=crc (crc w a) b:=List.foldl_append ..
theorem more_lt(s:Nat)(l:List Nat):more s l<4294967296:=by unfold more;omega
theorem sum_lt(l:List Nat):sum l<4294967296:=more_lt 0 l
theorem more_nil{s:Nat}(hs:s<4294967296):more s []=s:=by show 4294967295 -(4294967295 -s)=s;omega
theorem eff_put:∀j,j<8->∀r,r<2^j->mv8 (2^j+r)=mv8 (2^j)^^^mv8 r:=by
 have h:∀j,j<8->∀r,r<2^j->2^j+r=2^j^^^r:=by decide+kernel
 intro j hj r hr;rw[h j hj r hr,mv8_xor]
theorem not_xor{a:Nat}(ha:a<4294967296):4294967295 -a=4294967295^^^a:=by
 have h:2^32 -(a+1)=(2^32 -1)^^^a:=by
  apply Nat.eq_of_testBit_eq;intro i;rw[Nat.testBit_two_pow_sub_succ zv,Nat.testBit_xor,Nat.testBit_two_pow_sub_one];by_cases hi:i<32
  ·simp[hi]
  ·have:a.testBit i=false:=Nat.testBit_lt_two_pow (Nat.lt_of_lt_of_le ha (Nat.pow_le_pow_right zv (Nat.le_of_not_lt hi):2^32<=2^i))
   simp[hi,this]
 rw[show(4294967295:Nat)=2^32 -1 from rfl,<-h];omega
end Go.Proofs.YtkcdaigaclpfjaaGreatDoor.Crc
namespace Go.Proofs.YtkcdaigaclpfjaaGreatDoor
open Go.RowKit
theorem odd_of(m:Nat)(hm:m<4294967296):bits .and .u32 (m:Int) 1=((m%2:Nat):Int):=by
 rw[show(1:Int)=((1:Nat):Int)from rfl,u32_and_nat m 1 hm zv,nat_mask1]
theorem mv1_odd(m:Nat)(hm:m<4294967296)(h:(bits .and .u32 (m:Int) 1==1)=true):bits .xor .u32 ((m:Int)/2) 3988292384=((Crc.mv1 m:Nat):Int):=by
 rw[odd_of m hm,beq_iff_eq]at h;unfold Crc.mv1;rw[if_pos zv,show(m:Int)/2=((m/2:Nat):Int)from rfl,show(3988292384:Int)=((3988292384:Nat):Int)from rfl,u32_xor_nat _ _ zv zv]
theorem jr9(m:Nat)(hm:m<4294967296)(h:(bits .and .u32 (m:Int) 1==1)=false):(m:Int)/2=((Crc.mv1 m:Nat):Int):=by
 rw[odd_of m hm,beq_eq_false_iff_ne]at h;unfold Crc.mv1;rw[if_neg zv];rfl
theorem jiv(n:Nat)(w:World)(hn:n<4294967296):
  Calls Tryz.prog 218 #[.int .u32 n] w fun e w'=>e= .returned (.int .u32 (Crc.mv8 n))/\w=w':=by
 go_enter Tryz.func218,Tryz.ntmps218;go_wp2;go_loop [0,4] (fun v i=>∃k:Nat,k<=8/\i= .int .i64 k/\v= .int .u32 (Crc.mvN k n)) (fun _ i=>8 -(intOf i).toNat)
 case atStart=>exact⟨0,zv,rfl,rfl⟩
 case round=>
  obtain⟨k,hk,rfl,rfl⟩:=hrel;have hm:=Crc.mvN_lt hn k;go_wp2
  ·have h1:(k:Int)<8:=by assumption
   have h2:(bits BinOp.and IntKind.u32 (↑(Crc.mvN k n)) 1==1)=true:=by assumption
   refine⟨⟨k+1,zv,rfl,jfr ?_⟩,by simp[intOf];omega⟩;exact mv1_odd _ hm h2
  ·have h1:(k:Int)<8:=by assumption
   have h2:(bits BinOp.and IntKind.u32 (↑(Crc.mvN k n)) 1==1)=false:=by assumption
   refine⟨⟨k+1,zv,rfl,jfr ?_⟩,by simp[intOf];omega⟩;exact jr9 _ hm h2
  ·have h1:8<=(k:Int):=by assumption
   obtain rfl:k=8:=by omega
   go_ret;exact⟨rfl,rfl⟩
def zrow:Array Value:=Array.replicate 256 (.int .u32 0)
theorem joy(i:Nat)(h:i<256):zrow[i]? =some (.int .u32 0):=by simp[zrow,h]
theorem jej:zrow.size=256:=by simp[zrow]
def jgt(m i:Nat):Value:= .int .u32 (((if i<m then Crc.mv8 i else 0:Nat):Nat):Int)
def Pow(p:Nat):Prop:=∃j,j<=8/\p=2^j
theorem Pow.le{p:Nat}(h:Pow p):1<=p/\p<=256:=by
 obtain⟨j,hj,rfl⟩:=h;exact⟨Nat.pos_of_ne_zero (by simp),(Nat.pow_le_pow_right zv hj:2^j<=2^8)⟩
theorem Pow.twice{p:Nat}(h:Pow p)(hp:p<256):Pow (p*2):=by
 obtain⟨j,hj,rfl⟩:=h;have:j≠8:=by rintro rfl;omega
 exact⟨j+1,zv,by rw[Nat.pow_succ]⟩
theorem Pow.half{p:Nat}(h:Pow p)(hp:p<256):p<=128:=by have:=(h.twice hp).le;omega
theorem Pow.put{p r:Nat}(h:Pow p)(hp:p<256)(hr:r<p):Crc.mv8 (p+r)=Crc.mv8 p^^^Crc.mv8 r:=by
 obtain⟨j,hj,rfl⟩:=h;have:j≠8:=by rintro rfl;omega
 exact Crc.eff_put j zv r hr
theorem Pow.one:Pow 1:=⟨0,zv,rfl⟩
def jsa(c:Array Value):Prop:=c.size=256/\∀i,i<256->c[i]? =some (.int .u32 ((Crc.mv8 i:Nat):Int))
def EffPost(w:World)(e:Ending)(w':World):Prop:=∃c,e= .returned (.agg c)/\jsa c/\Below w.heap.size w w'
theorem jho{m i:Nat}(h:i<m):jgt m i= .int .u32 ((Crc.mv8 i:Nat):Int):=by unfold jgt;rw[if_pos h]
theorem jsb{w:World}{g m:Nat}{t:TypeId}{v:Value}(h:w.rowIs g t 256 (jgt m))(hv:v= .int .u32 ((Crc.mv8 m:Nat):Int)):(w.setCell ⟨g,m,none⟩ v).rowIs g t 256 (jgt (m+1)):=by
 refine(h.set m v).congr fun i _=> ?_;by_cases e:i=m
 ·subst e;rw[if_pos rfl,hv,jho zv]
 ·rw[if_neg e];unfold jgt
  by_cases h1:i<m
  ·rw[if_pos h1,if_pos zv]
  ·rw[if_neg h1,if_neg zv]
theorem eff_val{p r:Nat}(h:Pow p)(hp:p<256)(hr:r<p):Value.int .u32 (bits .xor .u32 ((Crc.mv8 p:Nat):Int) ((Crc.mv8 r:Nat):Int))= .int .u32 ((Crc.mv8 (p+r):Nat):Int):=by
 rw[u32_xor_nat _ _ (Crc.mv8_lt zv) (Crc.mv8_lt zv),h.put hp hr]
theorem jsc{w:World}{g:Nat}{t:TypeId}(h:w.rowIs g t 256 (jgt 256)):∃c,w.heap[g]? =some (.cells c t (0,0))/\jsa c:=by
 obtain⟨c,hc,hs,hi⟩:=h;exact⟨c,hc,hs,fun i h=>by rw[hi i h,jho h]⟩
theorem jsa.one{c:Array Value}(h:jsa c):c.all (·.oneCell')=true:=by
 rw[Array.all_eq_true];intro i hi;have:=h.2 i (by have:=h.1;omega);rw[Array.getElem?_eq_getElem hi]at this;injection this with this
 rw[this];rfl
theorem joz(w:World):(zeroValue 254).run Tryz.prog w= .ok (.agg zrow) w:=by kernel_rfl
theorem jgc(w:World):
  Calls Tryz.prog 213 #[] w (EffPost w):=by
 have hz:=joz;go_enter Tryz.func213,Tryz.ntmps213;go_wp2_with fail;go_loopw [2] (fun b wr=>∃p:Nat,p<=256/\b= .int .i64 p/\Pow p/\wr.rowIs (w.heap.size+1) 254 256 (jgt p)/\wr.rowIs w.heap.size 254 256 (fun _=> .int .u32 0)/\Below w.heap.size w wr) (fun b _=>512 -(intOf b).toNat)
 case atStart=>
  have g0:=World.rowIs_alloc w zrow 254 (fun _=> .int .u32 0) (fun i hi=>joy i (by rw[jej]at hi;exact hi));have g1:=World.rowIs_alloc (w.alloc (.cells zrow 254)) zrow 254 (jgt 1) (fun i hi=>by
   rw[joy i (by rw[jej]at hi;exact hi)];unfold jgt;split
   ·rename_i h;obtain rfl:i=0:=by omega
    rfl
   ·rfl)
  rw[jej]at g0 g1;exact⟨1,zv,rfl,Pow.one,by simpa using g1,g0.alloc _,((Below.refl _ _).alloc (Nat.le_refl _) _).alloc (by simp) _⟩
 case round=>
  obtain⟨p,hp,rfl,hpow,hr1,hr0,hb⟩:=hrel;have hp1:=hpow.le.1;have H1:=zh hr1;clear hr1;have H0:=zh hr0;clear hr0;have HB:=zh hb;clear hb;have HP:=zh hpow;clear hpow hz;by_cases hlt:p<256
  ·have hh:p<=128:=HP.out.half hlt
   go_wp2_with fail;refine(jiv p _ zv).mono ?_;rintro e w1 ⟨rfl,rfl⟩;go_wp2_with fail;obtain⟨wo,rfl⟩:∃wo:World,wo=wr:=⟨_,rfl⟩;go_loopw [13] (fun k wr'=>∃r:Nat,r<=p/\k= .int .i64 r/\wr'.rowIs (w.heap.size+1) 254 256 (jgt (p+r))/\wr'.rowIs w.heap.size 254 256 (fun _=> .int .u32 0)/\Below w.heap.size w wr') (fun k _=>p -(intOf k).toNat)
   case atStart=>exact⟨0,zv,rfl,H1.out,H0.out,HB.out⟩
   case round=>
    obtain⟨r,hr,rfl,hr1,hr0,hb⟩:=hrel;clear H1 H0 HB;by_cases hlt2:r<p
    ·have hc1:=hr1.cell (i:=r) zv
     have hc2:=hr1.cell (i:=p+r) zv;have hf2:=hr1.frozen (p+r);rw[jho zv]at hc1;have H1:=zh hr1;clear hr1;have H0:=zh hr0;clear hr0;have HB:=zh hb;clear hb;go_wp2_with fail;refine⟨⟨r+1,zv,rfl,jsb H1.out (eff_val HP.out hlt hlt2),H0.out.setOther (by simp) _,HB.out.setCell (by simp) _⟩,by simp[intOf];omega⟩
    ·obtain rfl:r=p:=by omega
     have H1:=zh hr1;clear hr1;have H0:=zh hr0;clear hr0;have HB:=zh hb;clear hb;go_wp2_with fail;refine⟨⟨r*2,zv,by go_num,HP.out.twice hlt,by rw[Nat.mul_two];exact H1.out,H0.out,HB.out⟩,by simp[intOf];omega⟩
  ·obtain rfl:p=256:=by omega
   obtain⟨c,hc,he⟩:=jsc H1.out;obtain⟨z,hz,hzs,_⟩:=H0.out;have hcs:(Tryz.prog.info? 254).map (·.size)=some c.size:=by rw[he.1];kernel_rfl
   have hu:Tryz.prog.underlying 254=some (.array 256 228):=by kernel_rfl
   have HC:=zh hc;clear hc;have HZ:=zh hz;clear hz;have HS:=zh hzs;clear hzs;have HE:=zh he;clear he;have HI:=zh hcs;clear hcs;have HU:=zh hu;clear hu;clear hlt hp hp1
   go_wp2_with(first
    |(refine wpList_load_row rfl 254 (.tmp 1) rfl (w.heap.size+1) rfl 254 c (0,0) _ HC.out HU.out rfl HI.out ?_)
    |(refine wpList_store_row rfl 254 (.tmp 0) (.tmp 26) rfl w.heap.size c rfl rfl 254 z HZ.out HI.out (HS.out.trans HE.out.1.symm) HE.out.one ?_))
   exact bodyPost_ret (results_cell_row rfl _ _ w.heap.size 254 c (0,0) _ rfl (setRow_heap wr _ z c 254 _ HZ.out) HU.out rfl HI.out) rfl ⟨c,rfl,HE.out,below_setRow HB.out (Nat.le_refl _) c⟩
theorem jo0(s:Nat)(hs:s<4294967296):bits .xor .u32 IntKind.u32.max (s:Int)=((4294967295 -s:Nat):Int):=by
 rw[show IntKind.u32.max=((4294967295:Nat):Int)from rfl,u32_xor_nat _ _ zv hs,<-Crc.not_xor hs]
theorem idx_u8(wd x:Nat)(hx:x<256):bits .xor .u8 ((wd:Int)%256) (x:Int)=(((wd%256)^^^x:Nat):Int):=by
 rw[show(wd:Int)%256=((wd%256:Nat):Int)from rfl,u8_xor_nat _ _ zv hx]
theorem jsd(wd x:Nat)(hw:wd<4294967296)(hx:x<256):bits .xor .u32 ((wd:Int)/256) ((Crc.mv8 ((wd%256)^^^x):Nat):Int)=((Crc.step wd x:Nat):Int):=by
 have hi:(wd%256)^^^x<256:=Nat.xor_lt_two_pow (n:=8) zv hx;rw[show(wd:Int)/256=((wd/256:Nat):Int)from rfl,u32_xor_nat _ _ zv (Crc.mv8_lt zv),Crc.step_eq]
theorem jla(w:Nat)(l:List Nat)(k:Nat)(h:k<l.length):Crc.crc w (l.take (k+1))=Crc.step (Crc.crc w (l.take k)) (l.getD k 0):=by
 rw[jh7 l k h,Crc.crc_append];rfl
theorem jse(s n c:Nat)(A:Option Addr)(l:List Nat)(w:World)(hs:s<4294967296)(hr:Rd w w.heap.size A l)(hn:n=l.length)(hl:l.length<=2147483647):
  Calls Tryz.prog 205 #[.int .u32 s,.slice A n c] w fun e w'=>e= .returned (.int .u32 ((Crc.more s l:Nat):Int))/\Below w.heap.size w w':=by
 by_cases h0:l=[]
 ·subst h0
  subst hn;go_enter Tryz.func205,Tryz.ntmps205;go_wp2_with fail;go_ret;exact⟨by rw[Crc.more_nil hs];rfl,Below.refl _ _⟩
 ·have hpos:0<l.length:=List.length_pos_iff.2 h0
  have hne:((n:Int)==0)=false:=by rw[beq_eq_false_iff_ne];omega
  have hz:=joz;have HN:=zh hn;have hn1:n<=2147483647:=by omega
  have hn2:0<n:=by omega
  have HR:=zh hr;have H0:=zh h0;clear hr h0 hn hpos hl;go_enter Tryz.func205,Tryz.ntmps205;go_wp2_with fail;refine(jgc _).mono ?_;rintro e w1 ⟨t,rfl,he,hb1⟩;have HE:=zh he;clear he;have HB:=zh hb1;clear hb1;have HI:Hid ((Tryz.prog.info? 254).map (·.size)=some t.size):=by rw[HE.out.1];exact(by kernel_rfl:(Tryz.prog.info? 254).map (·.size)=some 256)
  have HG:Hid ((w1.alloc (.cells zrow 254)).heap[w1.heap.size]? =some (.cells zrow 254 (0,0))):=heap_alloc_last w1 _;have HX:=zh (jo0 s hs);go_wp2_with(refine wpList_store_row rfl 254 (.tmp 5) (.tmp 13) rfl w1.heap.size t rfl rfl 254 zrow HG.out HI.out (jej.trans HE.out.1.symm) HE.out.one ?_;rw[World.setRow_alloc_new]);rw[HX.out];clear HG HI hz hne;have FR:Hid (Rd (w1.alloc (.cells t 254)) (w1.heap.size+1) A l):=by
   have:=HR.out.on (HB.out.alloc HB.out.size (.cells t 254));exact this.more (by simp)
  have FT:Hid (∀i,i<256->(w1.alloc (.cells t 254)).cell? ⟨w1.heap.size,i,none⟩=some (.int .u32 ((Crc.mv8 i:Nat):Int))):=fun i hi=>by
   rw[World.cell?_alloc_at _ _ _ _ rfl];exact HE.out.2 i hi
  have FB:=zh (HB.out.alloc HB.out.size (.cells t 254));clear HE HB HR;generalize w1.alloc (.cells t 254)=wl at FR FT FB⊢;generalize w1.heap.size=g at FR FT⊢;go_loop [6,18] (fun v i=>∃k:Nat,k<=n/\i= .int .i64 k/\v= .int .u32 ((Crc.crc (4294967295 -s) (l.take k):Nat):Int)) (fun _ i=>n -(intOf i).toNat)
  case atStart=>exact⟨0,zv,rfl,rfl⟩
  case round=>
   obtain⟨k,hk,rfl,rfl⟩:=hrel;by_cases hlt:k<n
   ·have hkl:k<l.length:=by rw[<-HN.out];exact hlt
    have HS:=zh (jla (4294967295 -s) l k hkl);have hwd:Crc.crc (4294967295 -s) (l.take k)<4294967296:=Crc.crc_lt zv (fun x hx=>FR.out.1 x (List.mem_of_mem_take hx));have hx:=FR.out.byte k;obtain⟨b,o,rfl,hb,hc⟩:=FR.out.2 zv;have hck:=hc k hkl;clear hc hb;generalize Crc.crc (4294967295 -s) (l.take k)=wd at*;generalize l.getD k 0=x at*;have hidx:=idx_u8 wd x hx;have hil:((wd%256)^^^x:Nat)<256:=Nat.xor_lt_two_pow (n:=8) zv hx;have hct:=FT.out _ hil;have HV:=zh (jsd wd x hwd hx);generalize((wd%256)^^^x:Nat)=ix at*;go_wp2_with fail;refine⟨⟨k+1,zv,rfl,jfr ?_⟩,by simp[intOf];omega⟩;rw[HV.out,HS.out]
   ·obtain rfl:k=n:=by omega
    have hwd:Crc.crc (4294967295 -s) (l.take k)<4294967296:=Crc.crc_lt zv (fun x hx=>FR.out.1 x (List.mem_of_mem_take hx));have HV:=zh (jo0 _ hwd);go_wp2_with fail;go_ret;refine⟨jb6 ?_,FB.out⟩;show bits _ _ _ _=_;rw[HV.out,HN.out,List.take_length];rfl
theorem jo1(n c:Nat)(A:Option Addr)(l:List Nat)(w:World)(hr:Rd w w.heap.size A l)(hn:n=l.length)(hl:l.length<=2147483647):
  Calls Tryz.prog 188 #[.slice A n c] w fun e w'=>e= .returned (.int .u32 ((Crc.sum l:Nat):Int))/\Below w.heap.size w w':=by
 have HR:=zh hr;clear hr;have HN:=zh hn;clear hn;go_enter Tryz.func188,Tryz.ntmps188;go_wp2_with fail;refine(jse 0 n c A l _ zv HR.out HN.out hl).mono ?_;rintro e w1 ⟨rfl,hb⟩;go_wp2_with fail;go_ret;exact⟨rfl,hb⟩
def be4(s:Nat):List Nat:=[s/16777216%256,s/65536%256,s/256%256,s%256]
def rdN(l:List Nat):Nat:=if l.length=4 then l.getD 0 0*16777216+l.getD 1 0*65536+l.getD 2 0*256+l.getD 3 0 else 0
def rdE(l:List Nat):Int:=if l.length=4 then 0 else 2
theorem jhp(s:Nat):∀x∈be4 s,x<256:=by
 intro x hx;simp only[be4,List.mem_cons,List.mem_nil_iff,or_false]at hx;rcases hx with rfl|rfl|rfl|rfl<;>omega
theorem rdN_be4{s:Nat}(h:s<4294967296):rdN (be4 s)=s:=by
 simp only[rdN,be4,List.length_cons,List.length_nil,List.getD_cons_zero,List.getD_cons_succ,if_pos];omega
theorem or4(a b c d:Nat)(ha:a<256)(hb:b<256)(hc:c<256)(hd:d<256):
  bits .or .u32 (bits .or .u32 (bits .or .u32 ((a:Int)*16777216) ((b:Int)*65536)) ((c:Int)*256)) (d:Int)=((a*16777216+b*65536+c*256+d:Nat):Int):=by
 rw[show(a:Int)*16777216=((a*16777216:Nat):Int)from by omega,show(b:Int)*65536=((b*65536:Nat):Int)from by omega,show(c:Int)*256=((c*256:Nat):Int)from by omega];rw[u32_or_nat _ _ zv zv,nat_join 24 _ _ zv zv,u32_or_nat _ _ zv zv,nat_join 16 _ _ zv zv,u32_or_nat _ _ zv zv,nat_join 8 _ _ zv zv]
def jiw(s:Nat)(w:World)(e:Ending)(w':World):Prop:=
 e= .returned (.slice (some ⟨w.heap.size,0,none⟩) 4 4)/\Rd w' w'.heap.size (some ⟨w.heap.size,0,none⟩) (be4 s)/\Below w.heap.size w w'/\w'.heap.size=w.heap.size+1
theorem jo2(s:Nat)(w:World)(hs:s<4294967296):
  Calls Tryz.prog 201 #[.int .u32 s] w (jiw s w):=by
 go_enter Tryz.func201,Tryz.ntmps201;go_wp2_with fail;go_ret;refine⟨rfl,⟨jhp s,fun _=>⟨_,0,rfl,by simp,fun j hj=> ?_⟩⟩,(Below.refl _ _).alloc (Nat.le_refl _) _,by simp⟩;rw[World.cell?_alloc_at _ _ _ _ rfl,Nat.zero_add];simp only[be4,List.length_cons,List.length_nil]at hj;have hq:j=0\/j=1\/j=2\/j=3:=by omega
 have e0:(s:Int)/16777216=((s/16777216%256:Nat):Int):=by omega
 rw[e0];rcases hq with rfl|rfl|rfl|rfl<;>rfl
theorem jsf(n c:Nat)(A:Option Addr)(l:List Nat)(w:World)(hr:Rd w w.heap.size A l)(hn:n=l.length):
  Calls Tryz.prog 187 #[.slice A n c] w fun e w'=>e= .returned (.tuple #[.int .u32 ((rdN l:Nat):Int),.int .i64 (rdE l)])/\Below w.heap.size w w':=by
 by_cases h4:n=4
 ·subst h4
  have h0:=hr.byte 0;have h1:=hr.byte 1;have h2:=hr.byte 2;have h3:=hr.byte 3;obtain⟨b,o,rfl,hb,hc⟩:=hr.2 zv;have c0:=hc 0 zv;rw[Nat.add_zero]at c0;have c1:=hc 1 zv;have c2:=hc 2 zv;have c3:=hc 3 zv;have HV:Hid (rdN l=l.getD 0 0*16777216+l.getD 1 0*65536+l.getD 2 0*256+l.getD 3 0):=by unfold rdN;rw[if_pos hn.symm];rfl
  have HW:Hid (rdE l=0):=by unfold rdE;rw[if_pos hn.symm];rfl
  clear hc hb hn hr;generalize l.getD 0 0=x0 at*;generalize l.getD 1 0=x1 at*;generalize l.getD 2 0=x2 at*;generalize l.getD 3 0=x3 at*;go_enter Tryz.func187,Tryz.ntmps187;go_wp2_with fail;go_quiet (fail);go_wp2_with fail;go_ret2;rw[HV.out,HW.out];exact⟨by rw[<-or4 x0 x1 x2 x3 h0 h1 h2 h3];rfl,Below.drewN (Below.refl _ _) _⟩
 ·have hne:((n:Int) !=4)=true:=by rw[bne_iff_ne];omega
  have HV:Hid (rdN l=0):=by unfold rdN;rw[if_neg zv];rfl
  have HW:Hid (rdE l=2):=by unfold rdE;rw[if_neg zv];rfl
  clear hn hr;go_enter Tryz.func187,Tryz.ntmps187;go_wp2_with fail;go_ret2;rw[HV.out,HW.out];exact⟨rfl,Below.refl _ _⟩
def good(l:List Nat):Bool:=decide (4<=l.length)&&decide (rdN (l.drop (l.length -4))=Crc.sum (l.take (l.length -4)))
theorem jsg(n c:Nat)(A:Option Addr)(l:List Nat)(w:World)(hr:Rd w w.heap.size A l)(hn:n=l.length)(hc:n<=c)(hl:l.length<=2147483647):
  Calls Tryz.prog 153 #[.slice A n c] w fun e w'=>e= .returned (.bool (good l))/\Below w.heap.size w w':=by
 by_cases h4:n<4
 ·have HG:Hid (good l=false):=by show good l=false;unfold good;rw[decide_eq_false zv];rfl
  clear hr hn hl;go_enter Tryz.func153,Tryz.ntmps153;go_wp2_with fail;go_ret;rw[HG.out];exact⟨rfl,Below.refl _ _⟩
 ·have hn1:n<=2147483647:=by omega
  have hn4:4<=n:=by omega
  have HG:Hid (good l=decide (rdN (l.drop (n -4))=Crc.sum (l.take (n -4)))):=by show good l=_;unfold good;rw[decide_eq_true (by omega:4<=l.length),hn];rfl
  have HR:=zh hr;obtain⟨b,o,rfl,hb,hcl⟩:=hr.2 zv;have HD:Hid (Rd w w.heap.size (some ⟨b,o+(n -4),none⟩) (l.drop (n -4))):=by
   have:=hr.drop (k:=n -4) (c:=n) zv (fun a=>⟨a.block,a.off+(n -4),a.spot⟩) (fun _ _=>rfl);rw[if_neg zv]at this;exact this
  have HL:Hid ((l.drop (n -4)).length=4):=by show _=_;rw[List.length_drop];omega
  have HN:=zh hn;clear hr hb hcl hn hl;go_enter Tryz.func153,Tryz.ntmps153;go_wp2_with fail;refine(jsf (n -(n -4)) _ _ (l.drop (n -4)) _ HD.out (by rw[HL.out];omega)).mono ?_;rintro e w1 ⟨rfl,hb1⟩;rw[show rdE (l.drop (n -4))=0 from by unfold rdE;rw[if_pos HL.out]];have HT:Hid (Rd w1 w1.heap.size (some ⟨b,o,none⟩) (l.take (n -4))):=(HR.out.take _).on hb1;have HB1:=zh hb1;clear hb1;have HK:Hid ((l.take (n -4)).length=n -4):=by show _=_;rw[List.length_take,<-HN.out];omega
  clear HD HL HR;generalize rdN (l.drop (n -4))=v at HG⊢;generalize l.take (n -4)=lt at*;go_wp2_with fail;refine(jo1 (n -4) _ _ lt _ HT.out HK.out.symm (by rw[HK.out];omega)).mono ?_;rintro e w2 ⟨rfl,hb2⟩;have HB2:=zh hb2;clear hb2;go_wp2_with fail;go_ret;rw[HG.out];refine⟨?_,HB1.out.trans (HB2.out.mono HB1.out.size)⟩;show Ending.returned (.bool _)=_
  congr 2
  rw[Bool.eq_iff_iff];simp[Int.ofNat_inj]
def jlb(l:List Nat)(w:World)(e:Ending)(w':World):Prop:=
 ∃g c,e= .returned (.slice (some ⟨g,0,none⟩) (l.length+4) c)/\w'.ownsRow w.heap.size 5 1 (.slice (some ⟨g,0,none⟩) (l.length+4) c) (l.length+4) (vals (l++be4 (Crc.sum l)))/\Below w.heap.size w w'
theorem jsh(n c:Nat)(A:Option Addr)(l:List Nat)(w:World)(hr:Rd w w.heap.size A l)(hn:n=l.length)(hA:A=none->c=0)(hl:l.length<=1073741823):
  Calls Tryz.prog 176 #[.slice A n c] w (jlb l w):=by
 obtain⟨i0,hi0,hz0,hz1,hz2⟩:=info_parts jbs;have hn1:n<=1073741823:=by omega
 have HR:=zh hr;clear hr;have HN:=zh hn;clear hn;have HA:=zh hA;clear hA;have I0:=zh hi0;clear hi0;have I1:=zh hz0;clear hz0;have I2:=zh hz1;clear hz1;have I3:=zh hz2;clear hz2;clear hl;go_enter Tryz.func176,Tryz.ntmps176
 go_wp2_with(first
  |(at_make;refine wpList_make_own _ rfl _ _ 78 rfl w.heap.size 5 i0 (.int .u8 0) 1 Tryz.underlying78 I0.out I1.out I2.out _ _ _ (n+4) rfl rfl zv (by rw[I3.out];omega) (by unfold maxLen;omega) (Nat.le_refl _) ?_;intro w1 hown1 hg1;have O1:=zh hown1;have G1:=zh hg1;clear hown1 hg1)
  |(at_builtin;refine jam rfl (.tmp 8) (.tmp 9) _ rfl w.heap.size 5 i0 _ Tryz.underlying78 I0.out I1.out I2.out I3.out rfl (.slice (some ⟨w.heap.size,0,none⟩) 0 (n+4)) 0 [] rfl O1.out w1.heap.size n c A l rfl (HR.out.on ((Below.refl _ _).grown G1.out (Nat.le_refl _) (by simp))) HN.out HA.out zv G1.out.size ?_;intro v2 w2 hown2 hg2;have O2:=zh hown2;have G2:=zh hg2;clear hown2 hg2))
 have B1:=zh ((Below.refl w.heap.size w).grown G1.out (Nat.le_refl _) (by simp));have B2:=zh (B1.out.grown G2.out B1.out.size (by simp[Value.ownBlock]));clear G1 G2 O1;refine(jo1 n c A l w2 (HR.out.on B2.out) HN.out (by rw[<-HN.out];omega)).mono ?_;rintro e w3 ⟨rfl,hb3⟩;have B3:=zh hb3;clear hb3;have hs:=Crc.sum_lt l;go_wp2_with fail;refine(jo2 (Crc.sum l) w3 hs).mono ?_;rintro e w4 ⟨rfl,hr4,hb4,_⟩;have R4:=zh hr4;clear hr4;have B4:=zh hb4;clear hb4;have O4:=zh (jb7 (jb7 O2.out B3.out) B4.out);have B5:=zh (B2.out.trans ((B3.out.trans (B4.out.mono B3.out.size)).mono B2.out.size));clear O2 B3 B4 hs;go_wp2_with(at_builtin;refine jam rfl (.tmp 11) (.tmp 14) _ rfl w.heap.size 5 i0 _ Tryz.underlying78 I0.out I1.out I2.out I3.out rfl v2 (0+n) ([]++vals l) rfl O4.out w4.heap.size 4 4 _ (be4 (Crc.sum l)) rfl R4.out rfl (by simp) zv B5.out.size ?_;intro v6 w6 hown6 hg6;have O6:=zh hown6;have G6:=zh hg6;clear hown6 hg6);go_ret;have hO:=O6.out;rw[Nat.zero_add,List.nil_append,<-jbc,HN.out]at hO;obtain⟨g,c',rfl⟩:=jky hO zv;refine⟨g,c',rfl,hO,B5.out.grown G6.out B5.out.size ?_⟩;intro k hk;rcases O4.out.2 with⟨rfl,_⟩|⟨g',cap,cur,rfl,hg',_⟩
 ·simp[Value.ownBlock]at hk
 ·simp only[Value.ownBlock,Option.some.injEq]at hk;omega
section
variable{w:World}{A:Option Addr}{n c:Nat}{l:List Nat}
theorem good_at{w0:World}(W:World)(h:Sl w0 A n c l)(hl:l.length<=100000)(hb:Below w0.heap.size w0 W):
  Calls Tryz.prog 153 #[.slice A n c] W fun e w'=>e= .returned (.bool (good l))/\Below w0.heap.size w0 w':=
 (jsg n c A l W (h.rd.on hb) h.len h.cap zv).mono fun _ _ ⟨he,h2⟩=>⟨he,hb.trans (h2.mono hb.size)⟩
end
end Go.Proofs.YtkcdaigaclpfjaaGreatDoor
namespace Go.Proofs.YtkcdaigaclpfjaaGreatDoor
def je9(L:List Nat):List Nat:=L++be4 (Crc.sum L)
theorem jdk(s:Nat):(be4 s).length=4:=rfl
theorem jhq(L:List Nat):(je9 L).length=L.length+4:=by simp[je9,jdk]
theorem jkc{L:List Nat}(h:∀x∈L,x<256):∀x∈je9 L,x<256:=by
 intro x hx;rcases List.mem_append.1 hx with hx|hx
 ·exact h x hx
 ·exact jhp _ x hx
theorem jg5(a b:List Nat)(hb:b.length=4):good (a++b)=decide (rdN b=Crc.sum a):=by
 unfold good;rw[decide_eq_true (by simp[hb]),Bool.true_and];have h:(a++b).length -4=a.length:=by simp[hb]
 rw[h,List.drop_left,List.take_left]
theorem jkd(L:List Nat):good (je9 L)=true:=by
 unfold je9;rw[jg5 _ _ (jdk _),rdN_be4 (Crc.sum_lt _)];simp
theorem rd4_eq(a b c d:Nat):rdN [a,b,c,d]=a*16777216+b*65536+c*256+d:=rfl
end Go.Proofs.YtkcdaigaclpfjaaGreatDoor
namespace Go.Proofs.YtkcdaigaclpfjaaGreatDoor.Fr
def hd2(n:Nat):List Nat:=[n/256%256,n%256]
def fr(p:List Nat):List Nat:=je9 (hd2 p.length++p)
def ok(p:List Nat):Prop:=1<=p.length/\p.length<=1000/\∀x∈p,x<256
def num2(b:List Nat):Nat:=b.getD 0 0*256+b.getD 1 0
def sizeN(n:Nat):Nat:=if 1<=n/\n<=1000 then n+6 else 0
def whole(b:List Nat):Nat:=if b.length<2 then 0 else if b.length<sizeN (num2 b)then 0 else sizeN (num2 b)
def gE(b:List Nat):Nat:=if whole b=0 then 2 else if good (b.take (whole b))=true then 0 else 3
def gN(b:List Nat):Nat:=if gE b=0 then whole b else 0
def gP(b:List Nat):List Nat:=if gE b=0 then(b.take (whole b -4)).drop 2 else[]
theorem sizeN_yes{n:Nat}(h1:1<=n)(h2:n<=1000):sizeN n=n+6:=by unfold sizeN;rw[if_pos ⟨h1,h2⟩]
theorem sizeN_no{n:Nat}(h:n<1\/1000<n):sizeN n=0:=by unfold sizeN;rw[if_neg zv]
theorem sizeN_le(n:Nat):sizeN n<=1006:=by unfold sizeN;split<;>omega
theorem sizeN_cases(n:Nat):sizeN n=0\/(7<=sizeN n/\sizeN n=n+6/\n<=1000):=by unfold sizeN;split<;>omega
theorem whole_le(b:List Nat):whole b<=b.length:=by unfold whole;split<;>(try split)<;>omega
theorem whole_cases(b:List Nat):whole b=0\/(7<=whole b/\whole b<=1006/\whole b<=b.length/\whole b=num2 b+6):=by
 have h:=whole_le b;unfold whole at*;have:=sizeN_cases (num2 b);split<;>(try split)<;>simp_all<;>omega
theorem hd2_length(n:Nat):(hd2 n).length=2:=rfl
theorem hd2_byte(n:Nat):∀x∈hd2 n,x<256:=by
 intro x hx;simp only[hd2,List.mem_cons,List.mem_nil_iff,or_false]at hx;rcases hx with rfl|rfl<;>omega
theorem bare_byte{p:List Nat}(h:∀x∈p,x<256):∀x∈hd2 p.length++p,x<256:=by
 intro x hx;rcases List.mem_append.1 hx with hx|hx
 ·exact hd2_byte _ x hx
 ·exact h x hx
theorem fr_byte{p:List Nat}(h:∀x∈p,x<256):∀x∈fr p,x<256:=jkc (bare_byte h)
theorem fr_length(p:List Nat):(fr p).length=p.length+6:=by unfold fr;rw[jhq,List.length_append,hd2_length];omega
theorem fr_parts(p:List Nat):fr p=p.length/256%256::p.length%256::(p++be4 (Crc.sum (hd2 p.length++p))):=by
 unfold fr je9;simp[hd2]
theorem gE_zero{b:List Nat}(h:gE b=0):7<=whole b/\whole b<=1006/\whole b<=b.length/\whole b=num2 b+6/\good (b.take (whole b))=true:=by
 unfold gE at h;split at h
 ·cases h
 ·rename_i h0
  split at h
  ·rename_i h1
   rcases whole_cases b with h2|h2
   ·exact absurd h2 h0
   ·exact⟨h2.1,h2.2.1,h2.2.2.1,h2.2.2.2,h1⟩
  ·cases h
theorem gP_length{b:List Nat}(h:gE b=0):(gP b).length=whole b -6:=by
 have h2:=gE_zero h;unfold gP;rw[if_pos h,List.length_drop,List.length_take];omega
theorem gP_byte{b:List Nat}(h:∀x∈b,x<256):∀x∈gP b,x<256:=by
 intro x hx;unfold gP at hx;split at hx
 ·exact h x (List.mem_of_mem_take (List.mem_of_mem_drop hx))
 ·cases hx
theorem gE_two{b:List Nat}(h:whole b=0):gE b=2:=by unfold gE;rw[if_pos h]
theorem gE_three{b:List Nat}(h:whole b≠0)(hg:good (b.take (whole b))=false):gE b=3:=by unfold gE;rw[if_neg h,if_neg (by rw[hg];decide)]
theorem gE_yes{b:List Nat}(h:whole b≠0)(hg:good (b.take (whole b))=true):gE b=0:=by unfold gE;rw[if_neg h,if_pos hg]
def scan(b:List Nat):List (List Nat)×Nat×Nat:=
 if b=[]then([],0,0)
 else if _h:gE b=0 then(gP b::(scan (b.drop (whole b))).1,whole b+(scan (b.drop (whole b))).2.1,(scan (b.drop (whole b))).2.2)
 else([],0,gE b)
termination_by b.length
decreasing_by
 all_goals
  have:=gE_zero _h;rw[List.length_drop];omega
theorem scan_nil:scan []=([],0,0):=by rw[scan];simp
theorem scan_no{b:List Nat}(h0:b≠[])(h:gE b≠0):scan b=([],0,gE b):=by rw[scan,if_neg h0,dif_neg h]
theorem scan_yes{b:List Nat}(h:gE b=0):scan b=(gP b::(scan (b.drop (whole b))).1,whole b+(scan (b.drop (whole b))).2.1,(scan (b.drop (whole b))).2.2):=by
 have h0:b≠[]:=by
  rintro rfl;have:=(gE_zero h).2.2.1;have:=(gE_zero h).1;simp at*;omega
 conv=>lhs;rw[scan]
 rw[if_neg h0,dif_pos h]
theorem scan_count(b:List Nat):(scan b).1.length<=b.length:=by
 obtain⟨n,hn⟩:∃n,b.length<=n:=⟨_,Nat.le_refl _⟩
 induction n generalizing b with
 |zero=>
  have:b=[]:=List.eq_nil_of_length_eq_zero zv;subst this;rw[scan_nil];simp
 |succ n ih=>
  by_cases h0:b=[]
  ·subst h0;rw[scan_nil];simp
  ·by_cases h:gE b=0
   ·have h7:=gE_zero h
    have:=ih (b.drop (whole b)) (by rw[List.length_drop];omega);rw[List.length_drop]at this;rw[scan_yes h];simp only[List.length_cons];omega
   ·rw[scan_no h0 h];simp
theorem num2_fr{p r:List Nat}(h:p.length<=1000):num2 (fr p++r)=p.length:=by
 rw[fr_parts];unfold num2;simp only[List.cons_append,List.getD_cons_zero,List.getD_cons_succ];omega
theorem whole_fr{p r:List Nat}(h:ok p):whole (fr p++r)=p.length+6:=by
 unfold whole;rw[num2_fr h.2.1,sizeN_yes h.1 h.2.1,if_neg (by rw[List.length_append,fr_length];omega),if_neg (by rw[List.length_append,fr_length];omega)]
theorem take_fr{p r:List Nat}:(fr p++r).take (p.length+6)=fr p:=by
 rw[<-fr_length p,List.take_left]
theorem gE_fr{p r:List Nat}(h:ok p):gE (fr p++r)=0:=by
 apply gE_yes
 ·rw[whole_fr h];omega
 ·rw[whole_fr h,take_fr];exact jkd _
theorem gP_fr{p r:List Nat}(h:ok p):gP (fr p++r)=p:=by
 unfold gP;rw[if_pos (gE_fr h),whole_fr h,fr_parts,show p.length+6 -4=p.length+1+1 from by omega,List.cons_append,List.cons_append,List.take_succ_cons,List.take_succ_cons];simp
theorem scan_fr{p r:List Nat}(h:ok p):scan (fr p++r)=(p::(scan r).1,p.length+6+(scan r).2.1,(scan r).2.2):=by
 have hd:(fr p++r).drop (whole (fr p++r))=r:=by rw[whole_fr h,<-fr_length p,List.drop_left]
 rw[scan_yes (gE_fr h),hd,gP_fr h,whole_fr h]
def all(ps:List (List Nat)):List Nat:=ps.flatMap fr
theorem all_nil:all []=[]:=rfl
theorem all_cons(p:List Nat)(ps:List (List Nat)):all (p::ps)=fr p++all ps:=rfl
theorem all_append(a b:List (List Nat)):all (a++b)=all a++all b:=by unfold all;rw[List.flatMap_append]
theorem all_one(p:List Nat):all [p]=fr p:=by simp[all]
theorem all_byte{ps:List (List Nat)}(h:∀p∈ps,ok p):∀x∈all ps,x<256:=by
 intro x hx;obtain⟨p,hp,hx⟩:=List.mem_flatMap.1 hx;exact fr_byte (h p hp).2.2 x hx
theorem scan_all{ps:List (List Nat)}(h:∀p∈ps,ok p)(r:List Nat):scan (all ps++r)=(ps++(scan r).1,(all ps).length+(scan r).2.1,(scan r).2.2):=by
 induction ps with
 |nil=>simp[all_nil]
 |cons p ps ih=>
  rw[all_cons,List.append_assoc,scan_fr (h p (by simp)),ih (fun q hq=>h q (by simp[hq]))];simp only[List.length_append,fr_length,List.cons_append,Nat.add_assoc]
theorem scan_whole{ps:List (List Nat)}(h:∀p∈ps,ok p):scan (all ps)=(ps,(all ps).length,0):=by
 have:=scan_all h [];rw[List.append_nil,scan_nil]at this;simpa using this
theorem scan_cut{p:List Nat}(h:ok p){k:Nat}(hk:k<p.length+6):scan ((fr p).take k)=([],0,if k=0 then 0 else 2):=by
 by_cases h0:k=0
 ·subst h0
  rw[List.take_zero,scan_nil,if_pos rfl]
 ·have hl:((fr p).take k).length=k:=by rw[List.length_take,fr_length];omega
  have hw:whole ((fr p).take k)=0:=by
   unfold whole;rw[hl];by_cases h2:k<2
   ·rw[if_pos h2]
   ·have hn:num2 ((fr p).take k)=p.length:=by
     have e:k=k -2+1+1:=by omega
     rw[fr_parts,e,List.take_succ_cons,List.take_succ_cons];unfold num2;simp only[List.getD_cons_zero,List.getD_cons_succ];have:=h.2.1;omega
    rw[if_neg h2,hn,sizeN_yes h.1 h.2.1,if_pos zv]
  have he:=gE_two hw;rw[scan_no (fun e=>by rw[e]at hl;simp at hl;omega) zv,he,if_neg h0]
theorem all_take_le(ps:List (List Nat))(j:Nat):(all (ps.take j)).length<=(all ps).length:=by
 have h:all ps=all (ps.take j)++all (ps.drop j):=by rw[<-all_append,List.take_append_drop]
 rw[h,List.length_append];omega
theorem same_fr{b:List Nat}(hb:∀x∈b,x<256)(hw:whole b≠0):(fr ((b.take (whole b -4)).drop 2)=b.take (whole b))↔good (b.take (whole b))=true:=by
 obtain⟨h7,h6,hl,hn⟩:7<=whole b/\whole b<=1006/\whole b<=b.length/\whole b=num2 b+6:=by
  rcases whole_cases b with h|h
  ·exact absurd h hw
  ·exact h
 match b,hb,hl with
 |[],_,hl=>simp at hl;omega
 |[_],_,hl=>simp at hl;omega
 |x::y::t,hb,hl=>
  have hx:=hb x (by simp);have hy:=hb y (by simp);have hnn:num2 (x::y::t)=x*256+y:=rfl;generalize whole (x::y::t)=W at*;rw[hnn]at hn;have hm:W=W -6+4+1+1:=by omega
  have e1:(x::y::t).take W=(x::y::t.take (W -6))++(t.drop (W -6)).take 4:=by
   conv=>lhs;rw[hm]
   rw[List.take_succ_cons,List.take_succ_cons,List.take_add];rfl
  have e2:((x::y::t).take (W -4)).drop 2=t.take (W -6):=by
   rw[show W -4=W -6+1+1 from by omega,List.take_succ_cons,List.take_succ_cons];rfl
  have hlt:(t.take (W -6)).length=W -6:=by rw[List.length_take];simp at hl;omega
  have hhd:hd2 (t.take (W -6)).length++t.take (W -6)=x::y::t.take (W -6):=by
   rw[hlt];simp only[hd2,List.cons_append,List.nil_append,List.cons.injEq,and_true];omega
  have hl4:((t.drop (W -6)).take 4).length=4:=by rw[List.length_take,List.length_drop];simp at hl;omega
  rw[e1,e2];unfold fr;rw[hhd,jg5 _ _ hl4,decide_eq_true_eq];unfold je9;rw[List.append_cancel_left_eq];have hs:=Crc.sum_lt (x::y::t.take (W -6));generalize Crc.sum (x::y::t.take (W -6))=s at hs;have hb4:∀z∈(t.drop (W -6)).take 4,z<256:=fun z hz=>hb z (by simp[List.mem_of_mem_drop (List.mem_of_mem_take hz)]);generalize(t.drop (W -6)).take 4=q at hl4 hb4
  match q,hl4,hb4 with
  |[a,b,c,d],_,hb=>
   have h1:=hb a (by simp);have h2:=hb b (by simp);have h3:=hb c (by simp);have h4:=hb d (by simp);rw[rd4_eq];simp only[be4,List.cons.injEq,and_true];constructor
   ·rintro⟨e1,e2,e3,e4⟩;omega
   ·intro e;subst e;omega
theorem all_take_snoc{ls:List (List Nat)}{k:Nat}(h:k<ls.length):all (ls.take (k+1))=all (ls.take k)++fr (ls.getD k []):=by
 rw[List.take_succ_eq_append_getElem h,all_append,all_one,jak h]
theorem all_small{ls:List (List Nat)}(h:∀p∈ls,p.length<=30):(all ls).length<=36*ls.length:=by
 induction ls with
 |nil=>simp[all_nil]
 |cons p ls ih=>
  have h1:=h p (by simp);have h2:=ih (fun q hq=>h q (by simp[hq]));rw[all_cons,List.length_append,fr_length,List.length_cons];omega
end Go.Proofs.YtkcdaigaclpfjaaGreatDoor.Fr
namespace Go.Proofs.YtkcdaigaclpfjaaGreatDoor
open Go.RowKit
theorem jo3{m:Nat}(h:((m:Int)%2==1)=true):m%2=1:=by rw[beq_iff_eq]at h;omega
theorem jmn{m:Nat}(h:((m:Int)%2==1)=false):¬m%2=1:=by rw[beq_eq_false_iff_ne]at h;omega
theorem ref_odd(m:Nat)(hm:m<4294967296)(h:((m:Int)%2==1)=true):bits .xor .u32 ((m:Int)/2) 3988292384=((Crc.mv1 m:Nat):Int):=by
 unfold Crc.mv1;rw[if_pos (jo3 h),show(m:Int)/2=((m/2:Nat):Int)from rfl,show(3988292384:Int)=((3988292384:Nat):Int)from rfl,u32_xor_nat _ _ zv zv]
theorem jsi(m:Nat)(h:((m:Int)%2==1)=false):(m:Int)/2=((Crc.mv1 m:Nat):Int):=by
 unfold Crc.mv1;rw[if_neg (jmn h)];rfl
theorem jsj(k w:Nat):Crc.mvN (k+1) w=Crc.mv1 (Crc.mvN k w):=rfl
theorem jke(s n c:Nat)(A:Option Addr)(l:List Nat)(w:World)(hs:s<4294967296)(hr:Rd w w.heap.size A l)(hn:n=l.length)(hl:l.length<=2147483647):
  Calls Tryz.prog 212 #[.int .u32 s,.slice A n c] w fun e w'=>e= .returned (.int .u32 ((Crc.crc s l:Nat):Int))/\w=w':=by
 have HN:=zh hn;have hn1:n<=2147483647:=by omega
 have HR:=zh hr;clear hr hn hl;go_enter Tryz.func212,Tryz.ntmps212;go_wp2_with fail;go_loop [0,5] (fun v i=>∃k:Nat,k<=n/\i= .int .i64 k/\v= .int .u32 ((Crc.crc s (l.take k):Nat):Int)) (fun _ i=>n -(intOf i).toNat)
 case atStart=>exact⟨0,zv,rfl,rfl⟩
 case round=>
  obtain⟨k,hk,rfl,rfl⟩:=hrel;by_cases hlt:k<n
  ·have hkl:k<l.length:=by rw[<-HN.out];exact hlt
   have HS:=zh (jla s l k hkl);have hwd:Crc.crc s (l.take k)<4294967296:=Crc.crc_lt hs (fun x hx=>HR.out.1 x (List.mem_of_mem_take hx));have hx:=HR.out.byte k;obtain⟨b,o,rfl,hb,hc⟩:=HR.out.2 zv;have hck:=hc k hkl;clear hc hb;generalize Crc.crc s (l.take k)=wd at*;generalize l.getD k 0=x at*;have hxor:bits .xor .u32 (wd:Int) (x:Int)=((wd^^^x:Nat):Int):=u32_xor_nat _ _ hwd zv;have hin:wd^^^x<4294967296:=Crc.xor_lt hwd zv;have HS2:Hid (Crc.crc s (l.take (k+1))=Crc.mvN 8 (wd^^^x)):=HS.out;clear HS;generalize wd^^^x=y at*;go_wp2_with fail;go_loop [0,6] (fun v i=>∃j:Nat,j<=8/\i= .int .i64 j/\v= .int .u32 ((Crc.mvN j y:Nat):Int)) (fun _ i=>8 -(intOf i).toNat)
   case atStart=>exact⟨0,zv,rfl,rfl⟩
   case round=>
    obtain⟨j,hj,rfl,rfl⟩:=hrel;have hm:=Crc.mvN_lt hin j;have HM:=zh (jsj j y);clear hck;by_cases hlj:j<8
    ·generalize Crc.mvN j y=z at*
     by_cases hp:((z:Int)%2==1)=true
     ·have HV:=zh (ref_odd z hm hp)
      go_wp2_with fail;refine⟨⟨j+1,zv,rfl,jfr ?_⟩,by simp[intOf];omega⟩;rw[HV.out,HM.out]
     ·have hp':((z:Int)%2==1)=false:=by simpa using hp
      have HV:=zh (jsi z hp');clear hp;go_wp2_with fail;refine⟨⟨j+1,zv,rfl,jfr ?_⟩,by simp[intOf];omega⟩;rw[HV.out,HM.out]
    ·obtain rfl:j=8:=by omega
     go_wp2_with fail;refine⟨⟨k+1,zv,rfl,jfr ?_⟩,by simp[intOf];omega⟩;rw[HS2.out]
  ·obtain rfl:k=n:=by omega
   go_wp2_with fail;go_ret;refine⟨jb6 ?_,rfl⟩;show(_:Int)=_;rw[HN.out,List.take_length]
theorem jmo(n c:Nat)(A:Option Addr)(l:List Nat)(w:World)(hr:Rd w w.heap.size A l)(hn:n=l.length)(hl:l.length<=2147483647):
  Calls Tryz.prog 204 #[.slice A n c] w fun e w'=>e= .returned (.int .u32 ((Crc.sum l:Nat):Int))/\w=w':=by
 have HR:=zh hr;clear hr;have HN:=zh hn;clear hn;go_enter Tryz.func204,Tryz.ntmps204;go_wp2_with fail;refine(jke 4294967295 n c A l _ zv HR.out HN.out hl).mono ?_;rintro e w1 ⟨rfl,rfl⟩;have hcl:Crc.crc 4294967295 l<4294967296:=Crc.crc_lt zv HR.out.1;have HS:Hid (Crc.sum l=4294967295 -Crc.crc 4294967295 l):=rfl;generalize Crc.crc 4294967295 l=x at*;go_wp2_with fail;go_ret;refine⟨jb6 ?_,rfl⟩;show(4294967295 -(x:Int))=_;rw[HS.out];omega
theorem jix(s:Nat)(w:World)(hs:s<4294967296):
  Calls Tryz.prog 203 #[.int .u32 s] w (jiw s w):=by
 go_enter Tryz.func203,Tryz.ntmps203;go_wp2_with fail;go_ret;refine⟨rfl,⟨jhp s,fun _=>⟨_,0,rfl,by simp,fun j hj=> ?_⟩⟩,(Below.refl _ _).alloc (Nat.le_refl _) _,by simp⟩;rw[World.cell?_alloc_at _ _ _ _ rfl,Nat.zero_add];simp only[be4,List.length_cons,List.length_nil]at hj;have hq:j=0\/j=1\/j=2\/j=3:=by omega
 have e0:(s:Int)/16777216=((s/16777216%256:Nat):Int):=by omega
 rw[e0];rcases hq with rfl|rfl|rfl|rfl<;>rfl
theorem jkf(n c:Nat)(A:Option Addr)(l:List Nat)(w:World)(hr:Rd w w.heap.size A l)(hn:n=l.length)(hA:A=none->c=0)(hl:l.length<=1073741823):
  Calls Tryz.prog 185 #[.slice A n c] w (jlb l w):=by
 obtain⟨i0,hi0,hz0,hz1,hz2⟩:=info_parts jbs;have hn1:n<=1073741823:=by omega
 have HR:=zh hr;clear hr;have HN:=zh hn;clear hn;have HA:=zh hA;clear hA;have I0:=zh hi0;clear hi0;have I1:=zh hz0;clear hz0;have I2:=zh hz1;clear hz1;have I3:=zh hz2;clear hz2;clear hl;have O1:Hid (w.ownsRow w.heap.size 5 1 (.slice none 0 0) 0 []):=⟨by simp,.inl ⟨rfl,rfl⟩⟩;go_enter Tryz.func185,Tryz.ntmps185;go_wp2_with(at_builtin;refine jam rfl (.tmp 4) (.tmp 5) _ rfl w.heap.size 5 i0 _ Tryz.underlying78 I0.out I1.out I2.out I3.out rfl (.slice none 0 0) 0 [] rfl O1.out w.heap.size n c A l rfl HR.out HN.out HA.out zv (Nat.le_refl _) ?_;intro v2 w2 hown2 hg2;have O2:=zh hown2;have G2:=zh hg2;clear hown2 hg2);have B2:=zh ((Below.refl w.heap.size w).grown G2.out (Nat.le_refl _) (by simp[Value.ownBlock]));clear G2 O1;refine(jmo n c A l w2 (HR.out.on B2.out) HN.out (by rw[<-HN.out];omega)).mono ?_;rintro e w3 ⟨rfl,rfl⟩;have hs:=Crc.sum_lt l;go_wp2_with fail;refine(jix (Crc.sum l) w2 hs).mono ?_;rintro e w4 ⟨rfl,hr4,hb4,_⟩;have R4:=zh hr4;clear hr4;have B4:=zh hb4;clear hb4;have O4:=zh (jb7 O2.out B4.out);have B5:=zh (B2.out.trans (B4.out.mono B2.out.size));clear O2 B4 hs;go_wp2_with(at_builtin;refine jam rfl (.tmp 7) (.tmp 10) _ rfl w.heap.size 5 i0 _ Tryz.underlying78 I0.out I1.out I2.out I3.out rfl v2 (0+n) ([]++vals l) rfl O4.out w4.heap.size 4 4 _ (be4 (Crc.sum l)) rfl R4.out rfl (by simp) zv B5.out.size ?_;intro v6 w6 hown6 hg6;have O6:=zh hown6;have G6:=zh hg6;clear hown6 hg6);go_ret;have hO:=O6.out;rw[Nat.zero_add,List.nil_append,<-jbc,HN.out]at hO;obtain⟨g,c',rfl⟩:=jky hO zv;refine⟨g,c',rfl,hO,B5.out.grown G6.out B5.out.size ?_⟩;intro k hk;rcases O4.out.2 with⟨rfl,_⟩|⟨g',cap,cur,rfl,hg',_⟩
 ·simp[Value.ownBlock]at hk
 ·simp only[Value.ownBlock,Option.some.injEq]at hk;omega
theorem jo4:(Tryz.prog.info? 78).map (fun i=>(i.zero,i.size,i.bytes))=some (some (.slice none 0 0),1,24):=by kernel_rfl
structure SlS(w:World)(A:Option Addr)(n c:Nat)(ls:List (List Nat)):Prop where
 rd:0<ls.length->∃b o,A=some ⟨b,o,none⟩/\b<w.heap.size/\∀j,j<ls.length->∃A' n' c',w.cell? ⟨b,o+j,none⟩=some (.slice A' n' c')/\Sl w A' n' c' (ls.getD j [])
 len:n=ls.length
 cap:n<=c
 max:c<=maxLen
 nil:A=none->c=0
theorem SlS.on{w w':World}{A:Option Addr}{n c:Nat}{ls:List (List Nat)}(h:SlS w A n c ls)(hb:Below w.heap.size w w'):SlS w' A n c ls:=
 ⟨fun hl=>by
  obtain⟨b,o,e,h1,h2⟩:=h.rd hl;refine⟨b,o,e,Nat.lt_of_lt_of_le h1 hb.size,fun j hj=> ?_⟩;obtain⟨A',n',c',h3,h4⟩:=h2 j hj;exact⟨A',n',c',(hb.cell (p:=⟨b,o+j,none⟩) h1).trans h3,h4.on hb⟩,h.len,h.cap,h.max,h.nil⟩
theorem SlS.none_(w:World):SlS w none 0 0 []:=⟨by simp,rfl,Nat.le_refl _,Nat.zero_le _,fun _=>rfl⟩
theorem SlS.take{w:World}{A:Option Addr}{n c:Nat}{ls:List (List Nat)}(h:SlS w A n c ls){k:Nat}(hk:k<=n):SlS w A k c (ls.take k):=
 ⟨fun hl=>by
  rw[List.length_take]at hl;obtain⟨b,o,e,h1,h2⟩:=h.rd zv;refine⟨b,o,e,h1,fun j hj=> ?_⟩;rw[List.length_take]at hj;obtain⟨A',n',c',h3,h4⟩:=h2 j zv;refine⟨A',n',c',h3,?_⟩;rw[jak (by rw[List.length_take];omega),List.getElem_take,<-jak (d:=[])];exact h4,by rw[List.length_take,<-h.len];omega,by have:=h.cap;omega,h.max,h.nil⟩
def Fits(w:World)(v x:Value)(l:List Nat):Prop:=∃A n c,x= .slice A n c/\Sl w A n c l/\(0<l.length->∀a,A=some a->v.ownBlock≠some a.block)
def OwnS(w:World)(B:Nat)(v:Value)(ls:List (List Nat)):Prop:=
 ∃xs,w.ownsRow B 78 1 v ls.length xs/\∀j,j<ls.length->∃x,xs[j]? =some x/\Fits w v x (ls.getD j [])
theorem OwnS.none_(w:World)(B:Nat):OwnS w B (.slice none 0 0) []:=⟨[],World.ownsRow_nil _ _ _ _,fun j hj=>by simp at hj⟩
theorem OwnS.base{w:World}{B:Nat}{v:Value}{ls:List (List Nat)}(h:OwnS w B v ls):∀k,v.ownBlock=some k->B<=k/\k<w.heap.size:=by
 obtain⟨xs,h1,_⟩:=h;exact h1.lt
theorem OwnS.sls{w:World}{B:Nat}{v:Value}{ls:List (List Nat)}(h:OwnS w B v ls):∃A c,v= .slice A ls.length c/\SlS w A ls.length c ls:=by
 obtain⟨xs,ho,hf⟩:=h;rcases ho.2 with⟨rfl,h0⟩|⟨g,cap,cur,rfl,_,hg,h1,h2,_⟩
 ·have hl:ls=[]:=by simpa using h0
  subst hl;exact⟨none,0,rfl,SlS.none_ w⟩
 ·refine⟨_,cap,rfl,fun _=>⟨g,0,rfl,(Array.getElem?_eq_some_iff.1 hg).1,fun j hj=> ?_⟩,rfl,h1,h2,fun h=>by cases h⟩
  obtain⟨x,hx,A',n',c',rfl,hs,_⟩:=hf j hj;exact⟨A',n',c',by rw[Nat.zero_add,ho.cellAt j zv,hx],hs⟩
theorem OwnS.below{w w':World}{B:Nat}{v:Value}{ls:List (List Nat)}(h:OwnS w B v ls)(hb:Below w.heap.size w w'):OwnS w' B v ls:=by
 obtain⟨xs,ho,hf⟩:=h;refine⟨xs,jb7 ho hb,fun j hj=> ?_⟩;obtain⟨x,hx,A',n',c',e,hs,hfar⟩:=hf j hj;exact⟨x,hx,A',n',c',e,hs.on hb,hfar⟩
theorem Fits.grown{w w':World}{v v' x:Value}{l:List Nat}(h:Fits w v x l)(hg:w.grownBy w' v.ownBlock)(hv:v'.ownBlock=v.ownBlock\/v'.ownBlock=some w.heap.size):Fits w' v' x l:=by
 obtain⟨A,n,c,e,hs,hf⟩:=h;refine⟨A,n,c,e,hs.off hg hf,fun hl a ha=> ?_⟩;rcases hv with hv|hv
 ·rw[hv];exact hf hl a ha
 ·rw[hv]
  have:=hs.block hl a ha;intro e2;injection e2;omega
theorem jek{w:World}{ops:Array Oper}{rest:List Oper}{op:Oper}{a:Act}{Q:Exit->Act->World->Prop}(hgd:op.guard=none)(s x:Operand)
  (ho:op.op= .call {callee:= .builtin .append,args:=#[s,x],argTypes:=#[72,72]})
  (base:Nat) (v:Value) (ls:List (List Nat)) (hs:a.eval s=v) (hown:OwnS w base v ls) (m c:Nat) (A:Option Addr) (ms:List (List Nat)) (hx:a.eval x= .slice A m c) (hr:SlS w A m c ms)
  (hfar:∀j b o,j<ms.length->A=some ⟨b,o,none⟩->∀A' n' c',w.cell? ⟨b,o+j,none⟩=some (.slice A' n' c')->0<(ms.getD j []).length->∀a,A'=some a->v.ownBlock≠some a.block)
  (hlen:ls.length+ms.length<=4000000000) (hbase:base<=w.heap.size)
  (h:∀v' w',OwnS w' base v' (ls++ms)->Below base w w'->wpList Tryz.prog ops Q rest (a.put op.dst v') w'):wpList Tryz.prog ops Q (op::rest) a w:=by
 obtain⟨i0,hi0,hz0,hz1,hz2⟩:=info_parts jo4;obtain⟨xs,ho1,hf⟩:=hown;have hxl:=ho1.1;rw[Nat.mul_one]at hxl;rcases A with _|ad
 ·obtain rfl:=hr.nil rfl
  have hm:ms=[]:=by
   rcases ms with _|⟨y,l⟩
   ·rfl
   ·obtain⟨_,_,h0,_⟩:=hr.rd (by simp);cases h0
  subst hm;obtain rfl:=hr.len;refine wpList_append_own_none hgd s x 72 ho base 78 i0 1 Tryz.underlying72 hi0 v ls.length xs hs ho1 hx ?_;exact h v w (by rw[List.append_nil];exact⟨xs,ho1,hf⟩) (Below.refl _ _)
 ·obtain⟨news,hnl,hnw⟩:∃news:List Value,news.length=ms.length/\∀j,j<ms.length->∃u,news[j]? =some u/\w.cell? (ad.add j)=some u/\Fits w v u (ms.getD j []):=by
   rcases Nat.eq_zero_or_pos ms.length with h0|h0
   ·exact⟨[],by rw[h0];rfl,fun j hj=>by omega⟩
   ·obtain⟨b,o,e,_,hc⟩:=hr.rd h0
    injection e with e
    subst e;refine⟨(List.range ms.length).map fun j=>(w.cell? ⟨b,o+j,none⟩).getD default,by simp,fun j hj=> ?_⟩;obtain⟨A',n',c',h1,h2⟩:=hc j hj;refine⟨.slice A' n' c',?_,?_,A',n',c',rfl,h2,fun hl=>hfar j b o hj rfl A' n' c' h1 hl⟩
    ·rw[List.getElem?_map,List.getElem?_range hj,Option.map_some,h1,Option.getD_some]
    ·have:(⟨b,o,none⟩:Addr).add j=⟨b,o+j,none⟩:=by unfold Addr.add;split<;>simp_all
     rw[this,h1]
  refine wpList_append_own_at w hgd s x 72 ho base 78 i0 _ 1 24 Tryz.underlying72 hi0 hz0 hz1 hz2 rfl zv v ls.length xs hs ho1 ad m c news hx (by rw[hnl,hr.len,Nat.mul_one]) ?_ ?_ (by unfold maxLen;rw[hr.len];omega) (by rw[hr.len];omega) hbase ?_
  ·intro j u hu
   have hj:j<ms.length:=by
    rcases Nat.lt_or_ge j ms.length with h|h
    ·exact h
    ·rw[List.getElem?_eq_none zv]at hu;cases hu
   obtain⟨u',e1,e2,_⟩:=hnw j hj;rw[hu]at e1;injection e1 with e1;subst e1;exact e2
  ·intro u hu
   obtain⟨j,hj,rfl⟩:=List.mem_iff_getElem.1 hu;obtain⟨u',e1,_,A',n',c',rfl,_⟩:=hnw j zv;rw[List.getElem?_eq_getElem hj]at e1;injection e1 with e1
   rw[e1];rfl
  ·intro v' w' h1 h2 _ h4
   refine h v' w' ⟨xs++news,?_,fun j hj=> ?_⟩ ((Below.refl base w).grown h2 hbase (ja0 ho1))
   ·rw[List.length_append,<-hr.len];exact h1
   ·rw[List.length_append]at hj
    by_cases hjl:j<ls.length
    ·obtain⟨y,hy,hfy⟩:=hf j hjl
     refine⟨y,?_,?_⟩
     ·rw[List.getElem?_append_left zv];exact hy
     ·rw[jd5 _ _ _ _ hjl];exact hfy.grown h2 h4
    ·obtain⟨u,e1,_,hfu⟩:=hnw (j -ls.length) zv
     refine⟨u,?_,?_⟩
     ·rw[List.getElem?_append_right zv,hxl];exact e1
     ·rw[jd6 _ _ _ _ zv hj];exact hfu.grown h2 h4
theorem SlS.one{w:World}{A:Option Addr}{n c:Nat}{l:List Nat}(h:Sl w A n c l):SlS (w.alloc (.cells #[.slice A n c] 78)) (some ⟨w.heap.size,0,none⟩) 1 1 [l]:=
 ⟨fun _=>⟨_,0,rfl,by simp,fun j hj=>by
  obtain rfl:j=0:=by simpa using hj
  exact⟨A,n,c,by rw[World.cell?_alloc_at _ _ _ _ rfl];rfl,h.on ((Below.refl _ _).alloc (Nat.le_refl _) _)⟩⟩,rfl,Nat.le_refl _,by unfold maxLen;omega,fun h=>by cases h⟩
theorem je0{w:World}{ops:Array Oper}{rest:List Oper}{op:Oper}{a:Act}{Q:Exit->Act->World->Prop}(hgd:op.guard=none)(s x:Operand)
  (ho:op.op= .call {callee:= .builtin .append,args:=#[s,x],argTypes:=#[72,72]})
  (base:Nat) (v:Value) (ls:List (List Nat)) (hs:a.eval s=v) (hown:OwnS w base v ls) (A:Option Addr) (n c:Nat) (l:List Nat) (hl:Sl w A n c l) (hx:a.eval x= .slice (some ⟨w.heap.size,0,none⟩) 1 1)
  (hfar:0<l.length->∀a,A=some a->v.ownBlock≠some a.block)
  (hlen:ls.length<=3000000000) (hbase:base<=w.heap.size)
  (h:∀v' w',OwnS w' base v' (ls++[l])->Below base w w'->wpList Tryz.prog ops Q rest (a.put op.dst v') w'):wpList Tryz.prog ops Q (op::rest) a (w.alloc (.cells #[.slice A n c] 78)):=by
 have hb:=(Below.refl w.heap.size w).alloc (Nat.le_refl _) (.cells #[.slice A n c] 78);refine jek hgd s x ho base v ls hs (hown.below hb) 1 1 _ [l] hx (SlS.one hl) ?_ (by simp;omega) (by simp;omega) (fun v' w' h1 h2=>h v' w' h1 ((hb.mono hbase).trans h2));intro j b o hj e A' n' c' hc hlj;obtain rfl:j=0:=by simpa using hj
 injection e with e
 injection e with e1 e2
 subst e1 e2;rw[World.cell?_alloc_at _ _ _ _ rfl]at hc;simp only[Option.some.injEq,Nat.zero_add,List.getElem?_toArray,List.getElem?_cons_zero,Value.slice.injEq]at hc;obtain⟨rfl,rfl,rfl⟩:=hc;exact hfar hlj
theorem SlS.two{w:World}{A1 A2:Option Addr}{n1 c1 n2 c2:Nat}{l1 l2:List Nat}(h1:Sl w A1 n1 c1 l1)(h2:Sl w A2 n2 c2 l2):
  SlS (w.alloc (.cells #[.slice A1 n1 c1,.slice A2 n2 c2] 78)) (some ⟨w.heap.size,0,none⟩) 2 2 [l1,l2]:=by
 have hb:=(Below.refl w.heap.size w).alloc (Nat.le_refl _) (.cells #[.slice A1 n1 c1,.slice A2 n2 c2] 78);refine⟨fun _=>⟨_,0,rfl,by simp,fun j hj=> ?_⟩,rfl,Nat.le_refl _,by unfold maxLen;omega,fun h=>by cases h⟩;have hj2:j=0\/j=1:=by simp at hj;omega
 rcases hj2 with rfl|rfl
 ·exact⟨A1,n1,c1,by rw[World.cell?_alloc_at _ _ _ _ rfl];rfl,h1.on hb⟩
 ·exact⟨A2,n2,c2,by rw[World.cell?_alloc_at _ _ _ _ rfl];rfl,h2.on hb⟩
def jsk(w:World)(e:Ending)(w':World):Prop:=∃v,e= .returned v/\OwnB w' w.heap.size v []/\Below w.heap.size w w'
theorem jsl(n:Nat)(w:World)(hn:n<=1000000000):
  Calls Tryz.prog 200 #[.slice none 0 0,.int .i64 n] w (jsk w):=by
 obtain⟨i0,hi0,hz0,hz1,hz2⟩:=info_parts jbs;by_cases h0:n=0
 ·subst h0
  go_enter Tryz.func200,Tryz.ntmps200;go_wp2_with fail;go_ret;exact⟨_,rfl,OwnB.none_ _ _,Below.refl _ _⟩
 ·have hold:(Builtin.firstCells i0.size 0 (.slice none 0 0)).run Tryz.prog w.drew= .ok #[] w.drew:=run_firstCells_none w.drew i0.size 0 0 0
  have hrz:∀ty,(Builtin.append_ #[78,3] ty #[.slice none 0 0,.int .i64 (n:Int)]).run Tryz.prog w=
    .ok (.slice (some ⟨w.heap.size,0,none⟩) (0+n) (grownCap w (0+n) 0 5)) (w.drew.alloc (.cells (#[]++Builtin.zeroCells (Value.int .u8 0).cells n++Builtin.zeroCells (Value.int .u8 0).cells (grownCap w (0+n) 0 5 -(0+n))) 5)):=fun ty=>
   Lib.run_append_grow_zeros w 78 3 ty 5 i0 (.int .u8 0) .i64 .i64 Tryz.underlying78 Tryz.underlying3 hi0 hz0 none 0 0 [] hold n zv zv zv zv (by rw[hz2];omega)
    (growslice_fits zv (by rw[hz2];omega))
  have hge:0+n<=grownCap w (0+n) 0 5:=grownCap_ge w _ _ _;have hm:grownCap w (0+n) 0 5<=maxLen:=grownCap_le_maxLen w _ _ _ (by unfold maxLen;omega);generalize grownCap w (0+n) 0 5=G at*;have hsz:(#[]++Builtin.zeroCells (Value.int .u8 0).cells n++Builtin.zeroCells (Value.int .u8 0).cells (G -(0+n))).size=G:=by
   rw[Array.size_append,Array.size_append,size_zeroCells,size_zeroCells];simp[Value.cells];omega
  generalize(#[]++Builtin.zeroCells (Value.int .u8 0).cells n++Builtin.zeroCells (Value.int .u8 0).cells (G -(0+n)))=cs at*;have O:Hid (OwnB (w.alloc (.cells cs 5)).drew w.heap.size (.slice (some ⟨w.heap.size,0,none⟩) 0 G) []):=
   ⟨World.ownsRow_made w cs G (Nat.le_refl _) hm (by rw[hsz,Nat.mul_one]),by simp⟩
  have HZ:=zh hrz;clear hrz hold hi0 hz0 hz1 hz2 hsz;unfold maxLen at hm;go_enter Tryz.func200,Tryz.ntmps200;go_wp2_with(at_builtin;refine Lib.wpList_append_run _ rfl _ _ _ _ rfl _ _ rfl rfl _ _ (HZ.out _) ?_);go_ret;exact⟨_,rfl,O.out,((Below.refl w.heap.size w).alloc (Nat.le_refl _) _).drew⟩
theorem jiy(ls:List (List Nat))(k:Nat)(h:k<ls.length):(ls.take (k+1)).flatten=(ls.take k).flatten++ls.getD k []:=by
 rw[List.take_succ_eq_append_getElem h,List.flatten_append,jak h];simp
theorem jo5(ls:List (List Nat))(k:Nat):(ls.take k).flatten.length<=ls.flatten.length:=by
 have h:ls.flatten=(ls.take k).flatten++(ls.drop k).flatten:=by rw[<-List.flatten_append,List.take_append_drop]
 rw[h,List.length_append];omega
def fln(ls:List (List Nat))(k:Nat):Nat:=(ls.take k).flatten.length
theorem jsm(ls:List (List Nat))(k:Nat)(h:k<ls.length):fln ls (k+1)=fln ls k+(ls.getD k []).length:=by
 unfold fln;rw[jiy ls k h,List.length_append]
theorem fln_le(ls:List (List Nat))(k:Nat):fln ls k<=ls.flatten.length:=jo5 ls k
theorem fln_all(ls:List (List Nat)):fln ls ls.length=ls.flatten.length:=by unfold fln;rw[List.take_length]
theorem jg6(n c:Nat)(A:Option Addr)(ls:List (List Nat))(w:World)(h:SlS w A n c ls)(hl:ls.flatten.length<=1000000000)(hn:n<=1000000000):
  Calls Tryz.prog 175 #[.slice A n c] w (jex ls.flatten w):=by
 have H:=zh h;clear h;have HL:=zh hl;clear hl;go_enter Tryz.func175,Tryz.ntmps175;go_wp2_with fail;go_loop [3,11] (fun s i=>∃k:Nat,k<=n/\i= .int .i64 k/\s= .int .i64 (fln ls k:Nat)) (fun _ i=>n -(intOf i).toNat)
 case atStart=>exact⟨0,zv,rfl,rfl⟩
 case round=>
  obtain⟨k,hk,rfl,rfl⟩:=hrel;by_cases hlt:k<n
  ·have hkl:k<ls.length:=by rw[<-H.out.len];exact hlt
   obtain⟨b,o,rfl,_,hc⟩:=H.out.rd zv;obtain⟨A',n',c',hck,hs'⟩:=hc k hkl;clear hc;have h1:=fln_le ls k;have h2:=fln_le ls (k+1);have hlen:=hs'.len;have h3:=jsm ls k hkl;have h4:=HL.out;clear hs';generalize fln ls k=x at*;generalize hy:fln ls (k+1)=y at*;have HY:=zh hy;clear hy;have h5:x<=1000000000:=by omega
   have h6:n'<=1000000000:=by omega
   rw[<-hlen]at h3;have H3:=zh h3;clear h3;clear h1 h2 h4 hlen;go_wp2_with fail;refine⟨⟨k+1,zv,by go_num,?_⟩,by simp[intOf];omega⟩;rw[HY.out,H3.out];go_num
  ·obtain rfl:k=n:=by omega
   have HT:Hid (fln ls k=ls.flatten.length):=by show _=_;rw[H.out.len,fln_all]
   have hf0:=HL.out;generalize hfl:fln ls k=x at*;have HX:Hid (x<=1000000000):=by show _<=_;rw[HT.out];exact hf0
   clear hf0 hfl;go_wp2_with fail
   (with_reducible refine(jsl x _ HX.out).mono ?_)
   rintro e w1 ⟨v1,rfl,ho1,hb1⟩;have O1:=zh ho1;clear ho1;have B1:=zh hb1;clear hb1;clear HT;go_wp2_with fail;go_loopw [6,27] (fun v i wr=>∃m:Nat,m<=k/\i= .int .i64 m/\OwnB wr w.heap.size v (ls.take m).flatten/\Below w.heap.size w wr) (fun _ i _=>k -(intOf i).toNat)
   case atStart=>exact⟨0,zv,rfl,O1.out,B1.out⟩
   case round=>
    obtain⟨m,hm,rfl,ho,hb⟩:=hrel;clear O1 B1;have O:=zh ho;clear ho;have B:=zh hb;clear hb;by_cases hlm:m<k
    ·have hml:m<ls.length:=by rw[<-H.out.len];exact hlm
     obtain⟨b,o,rfl,_,hc⟩:=(H.out.on B.out).rd zv;obtain⟨A',n',c',hck,hs'⟩:=hc m hml;clear hc;have S':=zh hs';clear hs';have HS:=zh (jiy ls m hml);have HV:Hid ((ls.take m).flatten.length+(ls.getD m []).length<=140737488355328):=by
      show _<=_;have:=jo5 ls (m+1);rw[HS.out,List.length_append]at this;have:=HL.out;omega
     go_wp2_with(at_builtin;refine jal rfl (.tmp 31) (.tmp 32) rfl w.heap.size _ _ rfl O.out n' c' A' _ rfl S'.out HV.out B.out.size ?_;intro v2 w2 hown2 hb2;have O2:=zh hown2;have B2:=zh hb2;clear hown2 hb2);go_roundw
     case rel=>exact⟨m+1,zv,by go_num,by rw[HS.out];exact O2.out,B.out.trans B2.out⟩
     case measure=>simp[intOf];omega
    ·obtain rfl:m=k:=by omega
     have HT:Hid ((ls.take m).flatten=ls.flatten):=by show _=_;rw[H.out.len,List.take_length]
     go_wp2_with fail;go_ret;exact jex.mk (by rw[<-HT.out];exact O.out) B.out
end Go.Proofs.YtkcdaigaclpfjaaGreatDoor
