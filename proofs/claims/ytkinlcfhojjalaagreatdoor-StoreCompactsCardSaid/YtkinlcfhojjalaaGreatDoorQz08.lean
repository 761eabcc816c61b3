import Derived.Test.YtkinlcfhojjalaaGreatDoorQz07
set_option maxHeartbeats 6400000
set_option maxRecDepth 100000
set_option linter.all false
namespace Go.Proofs.YtkinlcfhojjalaaGreatDoor
open Go.RowKit
theorem jp5(s:Spc.Sp)(i:Nat)(hi:i<4)(hin:Spc.In s)(hs:0<i->s.g=0->Spc.at_ s (i -1)<=1000)(w:World):Calls Tryz.prog 192 #[Spc.val s,.int .i64 (i:Nat)] w (APos w (.bool (Spc.st s i))):=by
 obtain⟨v,d,u,n,g,a,b,c,f,wi,x,k⟩:=s;have ha:Spc.i64 a:=hin a (by simp[Spc.flds]);have hb:Spc.i64 b:=hin b (by simp[Spc.flds]);have hc:Spc.i64 c:=hin c (by simp[Spc.flds]);rcases i with _|_|_|_|i
 ·exact rstep0 v d u n g a b c f wi x k w
 ·exact rstep1 v d u n g a b c f wi x k w (fun h=>⟨ha.1,hs zv h⟩)
 ·exact rstep2 v d u n g a b c f wi x k w (fun h=>⟨hb.1,hs zv h⟩)
 ·exact rstep3 v d u n g a b c f wi x k w (fun h=>⟨hc.1,hs zv h⟩)
 ·omega
theorem st_le{s:Spc.Sp}{i:Nat}(hg:s.g=0)(h:Spc.st s i=true)(hi:i<4):Spc.at_ s i<=1000:=by
 unfold Spc.st at h;rw[if_neg zv]at h;by_cases h0:i=0
 ·subst h0
  rw[if_pos rfl]at h;have:=Spc.inn_iff.1 h;show s.a<=1000;omega
 ·rw[if_neg h0,Bool.or_eq_true,decide_eq_true_eq,Bool.and_eq_true]at h
  rcases h with h|⟨_,h⟩
  ·omega
  ·have:=Spc.inn_iff.1 h
   omega
def jcu(s:Spc.Sp)(w:World)(e:Ending)(w':World):Prop:=e= .returned (.tuple #[.int .i64 (Spc.chk s:Nat),.int .i64 (Spc.chkE s)])/\zF w w'
theorem jcu.mk{s:Spc.Sp}{w w':World}{x y:Int}{z:Nat}(h:Spc.chk s=z)(hx:x=(z:Int))(hy:y=if z=0 then 0 else 11)(hb:zF w w'):jcu s w (.returned (.tuple #[.int .i64 x,.int .i64 y])) w':=by
 refine⟨?_,hb⟩;have:Spc.chkE s=if z=0 then 0 else 11:=by unfold Spc.chkE;rw[h]
 rw[this,h,hx,hy]
theorem jnk(s:Spc.Sp)(hin:Spc.In s)(w:World):Calls Tryz.prog 139 #[Spc.val s] w (jcu s w):=by
 have HI:=zh hin;have hb:=(Below.refl w.heap.size w).alloc zl (.cells (Spc.cells s) 33);have hk:=heap_alloc_new w (.cells (Spc.cells s) 33);have B1:=zh hb;have A1:=zh (jae hk);have Z1:Hid (w.heap.size<(w.alloc (.cells (Spc.cells s) 33)).heap.size):=by show _<_;simp
 have HC:Hid (∀(W:World) (i:Nat),i<4->(0<i->s.g=0->Spc.at_ s (i -1)<=1000)->Calls Tryz.prog 192 #[Spc.val s,.int .i64 (i:Nat)] W (APos W (.bool (Spc.st s i)))):=fun W i hi hs=>jp5 s i hi hin hs W;obtain⟨f0,f1,f2,f3,f4,f5,f6,f7,f8,f9,f10,f11⟩:=A1.o;clear hb hk hin;unfold Spc.val at*;unfold Spc.cells at*;go_in;go_wp2_with fail;generalize w.alloc (.cells #[.int .i64 s.v,.int .i64 s.d,.int .i64 s.u,.int .i64 s.n,.int .i64 s.g,.int .i64 s.a,.int .i64 s.b,.int .i64 s.c,.int .i64 s.e,.int .i64 s.w,.int .i64 s.x,.int .i64 s.k] 33)=w1 at*
 cases h1:Spc.inn s.v 1 1048576
 case false=>
  refine(ja7 s.v 1 1048576 _).mono ?_;rw[h1];rintro en wx ⟨rfl,rfl⟩;go_wp2;go_ret2;exact jcu.mk (z:=1) (by unfold Spc.chk;simp[h1]) rfl rfl B1.o
 case true=>
  refine(ja7 s.v 1 1048576 _).mono ?_;rw[h1];rintro en wx ⟨rfl,rfl⟩;go_wp2_with fail
  cases h2:Spc.inn s.d 1 16
  case false=>
   refine(ja7 s.d 1 16 _).mono ?_;rw[h2];rintro en wx ⟨rfl,rfl⟩;go_wp2;go_ret2;exact jcu.mk (z:=2) (by unfold Spc.chk;simp[h1,h2]) rfl rfl B1.o
  case true=>
   refine(ja7 s.d 1 16 _).mono ?_;rw[h2];rintro en wx ⟨rfl,rfl⟩;have hd2:=Spc.inn_iff.1 h2;go_wp2_with fail
   cases h3:Spc.inn s.u 0 (16 -s.d)
   case false=>
    refine(ja7 s.u 0 (16 -s.d) _).mono ?_;rw[h3];rintro en wx ⟨rfl,rfl⟩;go_wp2;go_ret2;exact jcu.mk (z:=3) (by unfold Spc.chk;simp[h1,h2,h3]) rfl rfl B1.o
   case true=>
    refine(ja7 s.u 0 (16 -s.d) _).mono ?_;rw[h3];rintro en wx ⟨rfl,rfl⟩;go_wp2_with fail
    cases h4:Spc.inn s.n 0 s.d
    case false=>
     refine(ja7 s.n 0 s.d _).mono ?_;rw[h4];rintro en wx ⟨rfl,rfl⟩;go_wp2;go_ret2;exact jcu.mk (z:=4) (by unfold Spc.chk;simp[h1,h2,h3,h4]) rfl rfl B1.o
    case true=>
     refine(ja7 s.n 0 s.d _).mono ?_;rw[h4];rintro en wx ⟨rfl,rfl⟩;have key:∀(nz uz:Bool),(s.n==0)=nz->(s.u==0)=uz->(nz&&uz)=true->Spc.chk s=4:=fun nz uz e1 e2 e3=>by
      rw[Bool.and_eq_true]at e3;rw[e3.1,beq_iff_eq]at e1;rw[e3.2,beq_iff_eq]at e2;unfold Spc.chk;rw[h1,h2,h3];simp[e1,e2]
     have H4:Hid ((∃nz uz,(s.n==0)=nz/\(s.u==0)=uz/\(nz&&uz)=false)->(!Spc.inn s.n 0 s.d|| (decide (s.n=0)&&decide (s.u=0)))=false):=fun h=>by
      obtain⟨nz,uz,e1,e2,e3⟩:=h;rw[h4,Bool.not_true,Bool.false_or,<-e3,<-e1,<-e2];rfl
     have KEY:=zh key;clear key
     cases hnz:(s.n==0)
     case' true=>
      cases huz:(s.u==0)
     case true.true=>
      go_wp2;go_ret2;exact jcu.mk (z:=4) (KEY.o true true hnz huz rfl) rfl rfl B1.o
     all_goals
      have P4:Hid ((!Spc.inn s.n 0 s.d|| (decide (s.n=0)&&decide (s.u=0)))=false):=by first|exact H4.o ⟨_,_,hnz,huz,rfl⟩|exact H4.o ⟨_,_,hnz,rfl,rfl⟩
      clear KEY H4;go_wp2_with fail
      cases h5:Spc.inn s.g 0 2
      case false=>
       refine(ja7 s.g 0 2 _).mono ?_;rw[h5];rintro en wx ⟨rfl,rfl⟩;go_wp2;go_ret2;exact jcu.mk (z:=5) (by unfold Spc.chk;rw[P4.o];simp[h1,h2,h3,h5]) rfl rfl B1.o
      case true=>
       refine(ja7 s.g 0 2 _).mono ?_;rw[h5];rintro en wx ⟨rfl,rfl⟩;have H5:Hid ((∃gz uz,(s.g==2)=gz/\decide (s.u<s.d)=uz/\(gz&&uz)=false)->(!Spc.inn s.g 0 2|| (decide (s.g=2)&&decide (s.u<s.d)))=false):=fun h=>by
        obtain⟨gz,uz,e1,e2,e3⟩:=h;rw[h5,Bool.not_true,Bool.false_or,<-e3,<-e1,<-e2];rfl
       have KEY:Hid ((s.g==2)=true->decide (s.u<s.d)=true->Spc.chk s=5):=fun e1 e2=>by
        rw[beq_iff_eq]at e1;unfold Spc.chk;rw[P4.o,e2];simp[h1,h2,h3,e1]
       cases hgz:(s.g==2)
       case' true=>
        cases hud:decide (s.u<s.d)
       case true.true=>
        go_wp2;go_ret2;exact jcu.mk (z:=5) (KEY.o hgz hud) rfl rfl B1.o
       all_goals
        have P5:Hid ((!Spc.inn s.g 0 2|| (decide (s.g=2)&&decide (s.u<s.d)))=false):=by first|exact H5.o ⟨_,_,hgz,hud,rfl⟩|exact H5.o ⟨_,_,hgz,rfl,rfl⟩
        clear KEY H5;go_wp2_with fail;go_loopw [4] (fun i wr=>∃j:Nat,j<=4/\i= .int .i64 (j:Nat)/\(∀m,m<j->Spc.st s m=true)/\zF w wr/\SpAt wr w.heap.size s/\w.heap.size<wr.heap.size) (fun i _=>4 -(intOf i).toNat)
        case atStart=>exact⟨0,zv,rfl,fun m hm=>absurd hm zv,B1.o,A1.o,Z1.o⟩
        case round=>
         obtain⟨j,hj,rfl,hst,hbr,har,hzr⟩:=hrel;have BR:=zh hbr;have AR:=zh har;have ZR:=zh hzr;have ST:=zh hst;obtain⟨f0,f1,f2,f3,f4,f5,f6,f7,f8,f9,f10,f11⟩:=har;clear hbr hzr hst B1 A1 Z1;by_cases hlt:j<4
         ·have C:=zh (HC.o wr j hlt (fun h0 hg=>st_le hg (ST.o (j -1) zv) zv))
          go_wp2_with fail
          cases hs:Spc.st s j
          case false=>
           refine C.o.mono ?_;rw[hs];rintro en wx ⟨rfl,hbx⟩;have BX:=zh (BR.o.trans (hbx.mono BR.o.size));clear hbx;have HK:Hid (Spc.chk s=6+j):=by
            show Spc.chk s=_;have s0:0<j->Spc.st s 0=true:=fun h=>ST.o 0 h;have s1:1<j->Spc.st s 1=true:=fun h=>ST.o 1 h;have s2:2<j->Spc.st s 2=true:=fun h=>ST.o 2 h;unfold Spc.chk;rw[P4.o,P5.o];rcases j with _|_|_|_|j
            ·simp[h1,h2,h3,hs]
            ·simp[h1,h2,h3,hs,s0]
            ·simp[h1,h2,h3,hs,s0,s1]
            ·simp[h1,h2,h3,hs,s0,s1,s2]
            ·omega
           go_wp2_with fail;refine bodyPost_ret (results_tmp2 rfl _ _ _) rfl ?_;exact jcu.mk (z:=6+j) HK.o (by show(6:Int)+(j:Int)=_;omega) (by rw[if_neg zv]) BX.o
          case true=>
           refine C.o.mono ?_;rw[hs];rintro en wx ⟨rfl,hbx⟩;have BX:=zh (BR.o.trans (hbx.mono BR.o.size));have AX:=zh (AR.o.below ZR.o hbx);have ZX:=Nat.lt_of_lt_of_le ZR.o hbx.size;clear hbx;go_wp2_with fail;exact⟨⟨j+1,zv,by go_num,(fun m hm=>by rcases Nat.lt_or_ge m j with h|h;exact ST.o m h;rw[show m=j from by omega];exact hs),BX.o,AX.o,ZX⟩,by simp[intOf];omega⟩
         ·obtain rfl:j=4:=by omega
          have s0:=ST.o 0 zv;have s1:=ST.o 1 zv;have s2:=ST.o 2 zv;have s3:=ST.o 3 zv;have S0:=zh s0;have S1:=zh s1;have S2:=zh s2;have S3:=zh s3;clear s0 s1 s2 s3 ST HC;go_wp2_with fail
          cases h10:Spc.inn s.w 1 1048576
          case false=>
           refine(ja7 s.w 1 1048576 _).mono ?_;rw[h10];rintro en wx ⟨rfl,rfl⟩;go_wp2;go_ret2;exact jcu.mk (z:=10) (by unfold Spc.chk;rw[P4.o,P5.o];simp[h1,h2,h3,S0.o,S1.o,S2.o,S3.o,h10]) rfl rfl BR.o
          case true=>
           refine(ja7 s.w 1 1048576 _).mono ?_;rw[h10];rintro en wx ⟨rfl,rfl⟩;go_wp2_with fail
           cases h11:Spc.inn s.x 0 1048576
           case false=>
            refine(ja7 s.x 0 1048576 _).mono ?_;rw[h11];rintro en wx ⟨rfl,rfl⟩;go_wp2;go_ret2;exact jcu.mk (z:=11) (by unfold Spc.chk;rw[P4.o,P5.o];simp[h1,h2,h3,S0.o,S1.o,S2.o,S3.o,h10,h11]) rfl rfl BR.o
           case true=>
            refine(ja7 s.x 0 1048576 _).mono ?_;rw[h11];rintro en wx ⟨rfl,rfl⟩;go_wp2_with fail
            cases h12:Spc.inn s.k 1 1048576
            case false=>
             refine(ja7 s.k 1 1048576 _).mono ?_;rw[h12];rintro en wx ⟨rfl,rfl⟩;go_wp2;go_ret2;exact jcu.mk (z:=12) (by unfold Spc.chk;rw[P4.o,P5.o];simp[h1,h2,h3,S0.o,S1.o,S2.o,S3.o,h10,h11,h12]) rfl rfl BR.o
            case true=>
             refine(ja7 s.k 1 1048576 _).mono ?_;rw[h12];rintro en wx ⟨rfl,rfl⟩;go_wp2;go_ret2;exact jcu.mk (z:=0) (by unfold Spc.chk;rw[P4.o,P5.o];simp[h1,h2,h3,S0.o,S1.o,S2.o,S3.o,h10,h11,h12]) rfl rfl BR.o
theorem jco(n lo hi:Int)(w:World):Calls Tryz.prog 137 #[.int .i64 n,.int .i64 lo,.int .i64 hi] w fun e w'=>e= .returned (.bool (Spc.inn n lo hi))/\w'=w:=by
 exact zzn
theorem jat(n least many:Int)(hl:0<=least/\least<=1000)(hm:0<many/\many<=1000)(w:World):Calls Tryz.prog 75 #[.int .i64 n,.int .i64 least,.int .i64 many] w fun e w'=>e= .returned (.int .i64 (Spc.near n least many))/\w'=w:=by
 exact zzl
theorem jgo{t:ByteArray}(h:t.size<=maxLen):(t.size:Int)<=9223372036854775807:=by unfold maxLen at h;omega
theorem jfe(t:ByteArray):t.toList.isEmpty=decide (t.size=0):=by
 rw[ByteArray.toList_eq,Bool.eq_iff_iff,List.isEmpty_iff,decide_eq_true_eq];constructor
 ·intro h
  have:t.data.toList.length=0:=by rw[h];rfl
  rw[Array.length_toList]at this;exact this
 ·intro h
  exact List.length_eq_zero_iff.1 (by rw[Array.length_toList];exact h)
theorem jey(r:Rc.R)(w:World):Calls Tryz.prog 138 #[Rc.val r,.bool false] w (APos w (.bool (Rc.bare r))):=by
 have B1:=zh ((Below.refl w.heap.size w).alloc zl (.cells (Rc.cells r) 56));have he:=jfe r.text;unfold Rc.bare;have c5:=(RcAt.new w r).cs.c5;generalize decide (r.text.size=0)=b at*;unfold Rc.val Rc.cells at*;go_in;go_wp2;go_ret;exact⟨rfl,B1.o⟩
theorem jff(r:Rc.R)(w:World)(hs:r.text.size<=maxLen):Calls Tryz.prog 138 #[Rc.val r,.bool true] w (APos w (.bool (Rc.told r))):=by
 have B1:=zh ((Below.refl w.heap.size w).alloc zl (.cells (Rc.cells r) 56));have hz:=jgo hs;have c5:=(RcAt.new w r).cs.c5;have E:Hid (Rc.told r=(decide (1<=(r.text.size:Int))&&decide ((r.text.size:Int)<=64))):=by
  show _=_;unfold Rc.told;rw[Bool.eq_iff_iff];simp only[Bool.and_eq_true,decide_eq_true_eq];omega
 unfold Rc.val Rc.cells at*;go_in;go_wp2_with fail
 all_goals
  go_ret;refine⟨?_,B1.o⟩;show Ending.returned (.bool _)=_;refine congrArg (fun b=>Ending.returned (.bool b)) ?_;rw[E.o];simp[*]<;>omega
theorem jde(x:Int):(x==0)=decide (x=0):=by rw[Bool.eq_iff_iff];simp
theorem jak(r:Rc.R):(Tryz.prog.info? 56).map (·.size)=some (Rc.cells r).size:=by kernel_rfl
theorem jud(kind epoch who n seq:Int)(text:ByteArray)(sp:Spc.Sp)(hs:text.size<=maxLen)(hin:Spc.In sp)(w:World)(k1:¬kind=1)(k2:¬kind=2)(k3:¬kind=3)(k4:¬kind=4)(k5:¬kind=5)(k6:¬kind=6)(k7:¬kind=7):
   Calls Tryz.prog 82 #[Rc.val (⟨kind,epoch,who,n,seq,text,sp⟩:Rc.R)] w (APos w (.bool (Rc.right (⟨kind,epoch,who,n,seq,text,sp⟩:Rc.R)))):=by
 have RA:=zh (RcAt.new w (⟨kind,epoch,who,n,seq,text,sp⟩:Rc.R));have B1:=zh ((Below.refl w.heap.size w).alloc zl (.cells (Rc.cells (⟨kind,epoch,who,n,seq,text,sp⟩:Rc.R)) 56));have hne:=fun W=>jc2 sp Spc.zero W;have hgd:=jbz;have EP:Hid (Rc.plain (⟨kind,epoch,who,n,seq,text,sp⟩:Rc.R)=Spc.same sp Spc.zero):=by
   show _=_;rw[Bool.eq_iff_iff,Rc.plain_iff,Spc.same_iff]
 have ER:Hid (Rc.right (⟨kind,epoch,who,n,seq,text,sp⟩:Rc.R)=(Spc.inn epoch 1 1099511627776&&false)):=by
   show _=_;unfold Rc.right;simp only[if_neg k1,if_neg k2,if_neg k3,if_neg k4,if_neg k5,if_neg k6,if_neg k7]
 rw[ER.o];clear ER;obtain⟨ans,hans⟩:∃ans,ans=(Spc.inn epoch 1 1099511627776&&false):=zx;rw[<-hans];have HANS:=zh hans;clear hans;clear EP;generalize Spc.same sp Spc.zero=pb at*;unfold Rc.val at*;unfold Spc.val Spc.cells at hne;unfold Spc.zero at hne;simp only at hne;go_in;go_upto_region 1 with fail
 obtain⟨g,hg⟩:∃g,g=w.heap.size:=zx;rw[<-hg]at RA⊢;clear hg;generalize w.alloc (.cells (Rc.cells (⟨kind,epoch,who,n,seq,text,sp⟩:Rc.R)) 56)=ws at*;obtain⟨c0,c1,c2,c3,c4,c5,c6,c7,c8,c9,c10,c11,c12,c13,c14,c15,c16,c17,clt⟩:=RA.o.cs;simp only at c0 c1 c2 c3 c4 c5 c6 c7 c8 c9 c10 c11 c12 c13 c14 c15 c16 c17
 cases pb
 all_goals
  go_wp2_with(first
   |(go_at_call 137;refine(jco _ _ _ _).mono ?_;rintro e w1 ⟨rfl,rfl⟩;generalize hbb:Spc.inn _ _ _=bb;cases bb))
 all_goals
   go_ret;refine⟨?_,B1.o⟩;show Ending.returned (.bool _)=_;refine congrArg (fun b=>Ending.returned (.bool b)) ?_;rw[HANS.o]
   first
    |(simp[*];done)
    |(simp[*];exact jde _)
theorem jue(epoch who n seq:Int)(text:ByteArray)(sp:Spc.Sp)(hs:text.size<=maxLen)(hin:Spc.In sp)(w:World):
   Calls Tryz.prog 82 #[Rc.val (⟨1,epoch,who,n,seq,text,sp⟩:Rc.R)] w (APos w (.bool (Rc.right (⟨1,epoch,who,n,seq,text,sp⟩:Rc.R)))):=by
 have RA:=zh (RcAt.new w (⟨1,epoch,who,n,seq,text,sp⟩:Rc.R));have B1:=zh ((Below.refl w.heap.size w).alloc zl (.cells (Rc.cells (⟨1,epoch,who,n,seq,text,sp⟩:Rc.R)) 56));have CB:Hid (∀W,Calls Tryz.prog 138 #[Rc.val (⟨1,epoch,who,n,seq,text,sp⟩:Rc.R),.bool false] W (APos W (.bool (Rc.bare (⟨1,epoch,who,n,seq,text,sp⟩:Rc.R))))):=fun W=>jey _ W;have hne:=fun W=>jc2 sp Spc.zero W;have hgd:=jbz;have EP:Hid (Rc.plain (⟨1,epoch,who,n,seq,text,sp⟩:Rc.R)=Spc.same sp Spc.zero):=by
   show _=_;rw[Bool.eq_iff_iff,Rc.plain_iff,Spc.same_iff]
 have ER:Hid (Rc.right (⟨1,epoch,who,n,seq,text,sp⟩:Rc.R)=(Spc.inn epoch 1 1099511627776&&(Rc.plain (⟨1,epoch,who,n,seq,text,sp⟩:Rc.R)&&(Rc.bare (⟨1,epoch,who,n,seq,text,sp⟩:Rc.R)&&(Spc.inn who 0 63&&(Spc.inn n 0 1099511627776&&Spc.inn seq 1 1048576)))))):=by
   show _=_;unfold Rc.right;simp only[if_true]
 rw[EP.o]at ER;rw[ER.o];clear ER;obtain⟨ans,hans⟩:∃ans,ans=(Spc.inn epoch 1 1099511627776&&(Spc.same sp Spc.zero&&(Rc.bare (⟨1,epoch,who,n,seq,text,sp⟩:Rc.R)&&(Spc.inn who 0 63&&(Spc.inn n 0 1099511627776&&Spc.inn seq 1 1048576))))):=zx;rw[<-hans];have HANS:=zh hans;clear hans;generalize Rc.bare (⟨1,epoch,who,n,seq,text,sp⟩:Rc.R)=tb at*;clear EP;generalize Spc.same sp Spc.zero=pb at*;unfold Rc.val at*;unfold Spc.val Spc.cells at hne;unfold Spc.zero at hne;simp only at hne;have HSZ:Hid ((Tryz.prog.info? 56).map (·.size)=some (Rc.cells (⟨1,epoch,who,n,seq,text,sp⟩:Rc.R)).size):=jak _;go_in;go_upto_region 1 with fail
 obtain⟨g,hg⟩:∃g,g=w.heap.size:=zx;rw[<-hg]at RA⊢;clear hg;generalize w.alloc (.cells (Rc.cells (⟨1,epoch,who,n,seq,text,sp⟩:Rc.R)) 56)=ws at*;obtain⟨c0,c1,c2,c3,c4,c5,c6,c7,c8,c9,c10,c11,c12,c13,c14,c15,c16,c17,clt⟩:=RA.o.cs;simp only at c0 c1 c2 c3 c4 c5 c6 c7 c8 c9 c10 c11 c12 c13 c14 c15 c16 c17
 cases pb
 all_goals
  go_wp2_with(first
   |(go_at_call 137;refine(jco _ _ _ _).mono ?_;rintro e w1 ⟨rfl,rfl⟩;generalize hbb:Spc.inn _ _ _=bb;cases bb)
   |((with_reducible show zL 33);refine wpList_load_row rfl 56 (.tmp 1) rfl g rfl 56 _ (0,0) _ RA.o.row jag rfl HSZ.o ?_)
   |(go_at_call 138;refine(CB.o _).mono ?_;rintro e w2 ⟨rfl,hb2⟩;have RA:=zh (RA.o.on hb2);have B1:=zh (B1.o.trans (hb2.mono B1.o.size));clear hb2 c0 c1 c2 c3 c4 c5 c6 c7 c8 c9 c10 c11 c12 c13 c14 c15 c16 c17 clt;obtain⟨c0,c1,c2,c3,c4,c5,c6,c7,c8,c9,c10,c11,c12,c13,c14,c15,c16,c17,clt⟩:=RA.o.cs;simp only at c0 c1 c2 c3 c4 c5 c6 c7 c8 c9 c10 c11 c12 c13 c14 c15 c16 c17;cases tb))
 all_goals
   go_ret;refine⟨?_,B1.o⟩;show Ending.returned (.bool _)=_;refine congrArg (fun b=>Ending.returned (.bool b)) ?_;rw[HANS.o]
   first
    |(simp[*];done)
    |(simp[*];exact jde _)
theorem juf(epoch who n seq:Int)(text:ByteArray)(sp:Spc.Sp)(hs:text.size<=maxLen)(hin:Spc.In sp)(w:World):
   Calls Tryz.prog 82 #[Rc.val (⟨2,epoch,who,n,seq,text,sp⟩:Rc.R)] w (APos w (.bool (Rc.right (⟨2,epoch,who,n,seq,text,sp⟩:Rc.R)))):=by
 have RA:=zh (RcAt.new w (⟨2,epoch,who,n,seq,text,sp⟩:Rc.R));have B1:=zh ((Below.refl w.heap.size w).alloc zl (.cells (Rc.cells (⟨2,epoch,who,n,seq,text,sp⟩:Rc.R)) 56));have CB:Hid (∀W,Calls Tryz.prog 138 #[Rc.val (⟨2,epoch,who,n,seq,text,sp⟩:Rc.R),.bool true] W (APos W (.bool (Rc.told (⟨2,epoch,who,n,seq,text,sp⟩:Rc.R))))):=fun W=>jff _ W hs;have hne:=fun W=>jc2 sp Spc.zero W;have hgd:=jbz;have EP:Hid (Rc.plain (⟨2,epoch,who,n,seq,text,sp⟩:Rc.R)=Spc.same sp Spc.zero):=by
   show _=_;rw[Bool.eq_iff_iff,Rc.plain_iff,Spc.same_iff]
 have ER:Hid (Rc.right (⟨2,epoch,who,n,seq,text,sp⟩:Rc.R)=(Spc.inn epoch 1 1099511627776&&(Rc.plain (⟨2,epoch,who,n,seq,text,sp⟩:Rc.R)&&(Rc.told (⟨2,epoch,who,n,seq,text,sp⟩:Rc.R)&&(decide (who=0)&&(Spc.inn n 1 1048576&&decide (seq=0))))))):=by
   show _=_;unfold Rc.right;simp only[if_true,if_neg (show¬(2:Int)=1 by omega)]
 rw[EP.o]at ER;rw[ER.o];clear ER;obtain⟨ans,hans⟩:∃ans,ans=(Spc.inn epoch 1 1099511627776&&(Spc.same sp Spc.zero&&(Rc.told (⟨2,epoch,who,n,seq,text,sp⟩:Rc.R)&&(decide (who=0)&&(Spc.inn n 1 1048576&&decide (seq=0)))))):=zx;rw[<-hans];have HANS:=zh hans;clear hans;generalize Rc.told (⟨2,epoch,who,n,seq,text,sp⟩:Rc.R)=tb at*;clear EP;generalize Spc.same sp Spc.zero=pb at*;unfold Rc.val at*;unfold Spc.val Spc.cells at hne;unfold Spc.zero at hne;simp only at hne;have HSZ:Hid ((Tryz.prog.info? 56).map (·.size)=some (Rc.cells (⟨2,epoch,who,n,seq,text,sp⟩:Rc.R)).size):=jak _;go_in;go_upto_region 1 with fail
 obtain⟨g,hg⟩:∃g,g=w.heap.size:=zx;rw[<-hg]at RA⊢;clear hg;generalize w.alloc (.cells (Rc.cells (⟨2,epoch,who,n,seq,text,sp⟩:Rc.R)) 56)=ws at*;obtain⟨c0,c1,c2,c3,c4,c5,c6,c7,c8,c9,c10,c11,c12,c13,c14,c15,c16,c17,clt⟩:=RA.o.cs;simp only at c0 c1 c2 c3 c4 c5 c6 c7 c8 c9 c10 c11 c12 c13 c14 c15 c16 c17
 cases pb
 all_goals
  go_wp2_with(first
   |(go_at_call 137;refine(jco _ _ _ _).mono ?_;rintro e w1 ⟨rfl,rfl⟩;generalize hbb:Spc.inn _ _ _=bb;cases bb)
   |((with_reducible show zL 54);refine wpList_load_row rfl 56 (.tmp 1) rfl g rfl 56 _ (0,0) _ RA.o.row jag rfl HSZ.o ?_)
   |(go_at_call 138;refine(CB.o _).mono ?_;rintro e w2 ⟨rfl,hb2⟩;have RA:=zh (RA.o.on hb2);have B1:=zh (B1.o.trans (hb2.mono B1.o.size));clear hb2 c0 c1 c2 c3 c4 c5 c6 c7 c8 c9 c10 c11 c12 c13 c14 c15 c16 c17 clt;obtain⟨c0,c1,c2,c3,c4,c5,c6,c7,c8,c9,c10,c11,c12,c13,c14,c15,c16,c17,clt⟩:=RA.o.cs;simp only at c0 c1 c2 c3 c4 c5 c6 c7 c8 c9 c10 c11 c12 c13 c14 c15 c16 c17;cases tb))
 all_goals
   go_ret;refine⟨?_,B1.o⟩;show Ending.returned (.bool _)=_;refine congrArg (fun b=>Ending.returned (.bool b)) ?_;rw[HANS.o]
   first
    |(simp[*];done)
    |(simp[*];exact jde _)
theorem jug(epoch who n seq:Int)(text:ByteArray)(sp:Spc.Sp)(hs:text.size<=maxLen)(hin:Spc.In sp)(w:World):
   Calls Tryz.prog 82 #[Rc.val (⟨3,epoch,who,n,seq,text,sp⟩:Rc.R)] w (APos w (.bool (Rc.right (⟨3,epoch,who,n,seq,text,sp⟩:Rc.R)))):=by
 have RA:=zh (RcAt.new w (⟨3,epoch,who,n,seq,text,sp⟩:Rc.R));have B1:=zh ((Below.refl w.heap.size w).alloc zl (.cells (Rc.cells (⟨3,epoch,who,n,seq,text,sp⟩:Rc.R)) 56));have CB:Hid (∀W,Calls Tryz.prog 138 #[Rc.val (⟨3,epoch,who,n,seq,text,sp⟩:Rc.R),.bool false] W (APos W (.bool (Rc.bare (⟨3,epoch,who,n,seq,text,sp⟩:Rc.R))))):=fun W=>jey _ W;have CC:Hid (∀W,Calls Tryz.prog 139 #[Spc.val sp] W (jcu sp W)):=fun W=>jnk sp hin W;unfold jcu at CC;have EC:Hid (decide (Spc.chk sp=0)=(Spc.chkE sp==0)):=by
   show _=_;unfold Spc.chkE;by_cases h:Spc.chk sp=0
   ·rw[if_pos h];simp[h]
   ·rw[if_neg h];simp[h]
 have ER:Hid (Rc.right (⟨3,epoch,who,n,seq,text,sp⟩:Rc.R)=(Spc.inn epoch 1 1099511627776&&(Rc.bare (⟨3,epoch,who,n,seq,text,sp⟩:Rc.R)&&(decide (who=0)&&(Spc.inn n 0 1099511627776&&(decide (seq=0)&&decide (Spc.chk sp=0))))))):=by
   show _=_;unfold Rc.right;simp only[if_true,if_neg (show¬(3:Int)=1 by omega),if_neg (show¬(3:Int)=2 by omega)]
 rw[EC.o]at ER;rw[ER.o];clear ER;obtain⟨ans,hans⟩:∃ans,ans=(Spc.inn epoch 1 1099511627776&&(Rc.bare (⟨3,epoch,who,n,seq,text,sp⟩:Rc.R)&&(decide (who=0)&&(Spc.inn n 0 1099511627776&&(decide (seq=0)&&(Spc.chkE sp==0)))))):=zx;rw[<-hans];have HANS:=zh hans;clear hans;generalize Rc.bare (⟨3,epoch,who,n,seq,text,sp⟩:Rc.R)=tb at*;clear EC;generalize Spc.chkE sp=ce at*;unfold Rc.val at*;unfold Spc.val Spc.cells at*;have HSZ:Hid ((Tryz.prog.info? 56).map (·.size)=some (Rc.cells (⟨3,epoch,who,n,seq,text,sp⟩:Rc.R)).size):=jak _;go_in;go_upto_region 1 with fail
 obtain⟨g,hg⟩:∃g,g=w.heap.size:=zx;rw[<-hg]at RA⊢;clear hg;generalize w.alloc (.cells (Rc.cells (⟨3,epoch,who,n,seq,text,sp⟩:Rc.R)) 56)=ws at*;obtain⟨c0,c1,c2,c3,c4,c5,c6,c7,c8,c9,c10,c11,c12,c13,c14,c15,c16,c17,clt⟩:=RA.o.cs;simp only at c0 c1 c2 c3 c4 c5 c6 c7 c8 c9 c10 c11 c12 c13 c14 c15 c16 c17
 all_goals
  go_wp2_with(first
   |(go_at_call 137;refine(jco _ _ _ _).mono ?_;rintro e w1 ⟨rfl,rfl⟩;generalize hbb:Spc.inn _ _ _=bb;cases bb)
   |((with_reducible show zL 74);refine wpList_load_row rfl 56 (.tmp 1) rfl g rfl 56 _ (0,0) _ RA.o.row jag rfl HSZ.o ?_)
   |(go_at_call 138;refine(CB.o _).mono ?_;rintro e w2 ⟨rfl,hb2⟩;have RA:=zh (RA.o.on hb2);have B1:=zh (B1.o.trans (hb2.mono B1.o.size));clear hb2 c0 c1 c2 c3 c4 c5 c6 c7 c8 c9 c10 c11 c12 c13 c14 c15 c16 c17 clt;obtain⟨c0,c1,c2,c3,c4,c5,c6,c7,c8,c9,c10,c11,c12,c13,c14,c15,c16,c17,clt⟩:=RA.o.cs;simp only at c0 c1 c2 c3 c4 c5 c6 c7 c8 c9 c10 c11 c12 c13 c14 c15 c16 c17;cases tb)
   |(go_at_call 139;refine(CC.o _).mono ?_;rintro e w2 ⟨rfl,hb2⟩;have RA:=zh (RA.o.on hb2);have B1:=zh (B1.o.trans (hb2.mono B1.o.size));clear hb2 c0 c1 c2 c3 c4 c5 c6 c7 c8 c9 c10 c11 c12 c13 c14 c15 c16 c17 clt;obtain⟨c0,c1,c2,c3,c4,c5,c6,c7,c8,c9,c10,c11,c12,c13,c14,c15,c16,c17,clt⟩:=RA.o.cs;simp only at c0 c1 c2 c3 c4 c5 c6 c7 c8 c9 c10 c11 c12 c13 c14 c15 c16 c17))
 all_goals
   go_ret;refine⟨?_,B1.o⟩;show Ending.returned (.bool _)=_;refine congrArg (fun b=>Ending.returned (.bool b)) ?_;rw[HANS.o]
   first
    |(simp[*];done)
    |(simp[*];exact jde _)
theorem juh(epoch who n seq:Int)(text:ByteArray)(sp:Spc.Sp)(hs:text.size<=maxLen)(hin:Spc.In sp)(w:World):
   Calls Tryz.prog 82 #[Rc.val (⟨4,epoch,who,n,seq,text,sp⟩:Rc.R)] w (APos w (.bool (Rc.right (⟨4,epoch,who,n,seq,text,sp⟩:Rc.R)))):=by
 have RA:=zh (RcAt.new w (⟨4,epoch,who,n,seq,text,sp⟩:Rc.R));have B1:=zh ((Below.refl w.heap.size w).alloc zl (.cells (Rc.cells (⟨4,epoch,who,n,seq,text,sp⟩:Rc.R)) 56));have CB:Hid (∀W,Calls Tryz.prog 138 #[Rc.val (⟨4,epoch,who,n,seq,text,sp⟩:Rc.R),.bool true] W (APos W (.bool (Rc.told (⟨4,epoch,who,n,seq,text,sp⟩:Rc.R))))):=fun W=>jff _ W hs;have hne:=fun W=>jc2 sp Spc.zero W;have hgd:=jbz;have EP:Hid (Rc.plain (⟨4,epoch,who,n,seq,text,sp⟩:Rc.R)=Spc.same sp Spc.zero):=by
   show _=_;rw[Bool.eq_iff_iff,Rc.plain_iff,Spc.same_iff]
 have ER:Hid (Rc.right (⟨4,epoch,who,n,seq,text,sp⟩:Rc.R)=(Spc.inn epoch 1 1099511627776&&(Rc.plain (⟨4,epoch,who,n,seq,text,sp⟩:Rc.R)&&(Rc.told (⟨4,epoch,who,n,seq,text,sp⟩:Rc.R)&&(decide (who=0)&&(Spc.inn n 1 5&&decide (seq=0))))))):=by
   show _=_;unfold Rc.right;simp only[if_true,if_neg (show¬(4:Int)=1 by omega),if_neg (show¬(4:Int)=2 by omega),if_neg (show¬(4:Int)=3 by omega)]
 rw[EP.o]at ER;rw[ER.o];clear ER;obtain⟨ans,hans⟩:∃ans,ans=(Spc.inn epoch 1 1099511627776&&(Spc.same sp Spc.zero&&(Rc.told (⟨4,epoch,who,n,seq,text,sp⟩:Rc.R)&&(decide (who=0)&&(Spc.inn n 1 5&&decide (seq=0)))))):=zx;rw[<-hans];have HANS:=zh hans;clear hans;generalize Rc.told (⟨4,epoch,who,n,seq,text,sp⟩:Rc.R)=tb at*;clear EP;generalize Spc.same sp Spc.zero=pb at*;unfold Rc.val at*;unfold Spc.val Spc.cells at hne;unfold Spc.zero at hne;simp only at hne;have HSZ:Hid ((Tryz.prog.info? 56).map (·.size)=some (Rc.cells (⟨4,epoch,who,n,seq,text,sp⟩:Rc.R)).size):=jak _;go_in;go_upto_region 1 with fail
 obtain⟨g,hg⟩:∃g,g=w.heap.size:=zx;rw[<-hg]at RA⊢;clear hg;generalize w.alloc (.cells (Rc.cells (⟨4,epoch,who,n,seq,text,sp⟩:Rc.R)) 56)=ws at*;obtain⟨c0,c1,c2,c3,c4,c5,c6,c7,c8,c9,c10,c11,c12,c13,c14,c15,c16,c17,clt⟩:=RA.o.cs;simp only at c0 c1 c2 c3 c4 c5 c6 c7 c8 c9 c10 c11 c12 c13 c14 c15 c16 c17
 cases pb
 all_goals
  go_wp2_with(first
   |(go_at_call 137;refine(jco _ _ _ _).mono ?_;rintro e w1 ⟨rfl,rfl⟩;generalize hbb:Spc.inn _ _ _=bb;cases bb)
   |((with_reducible show zL 105);refine wpList_load_row rfl 56 (.tmp 1) rfl g rfl 56 _ (0,0) _ RA.o.row jag rfl HSZ.o ?_)
   |(go_at_call 138;refine(CB.o _).mono ?_;rintro e w2 ⟨rfl,hb2⟩;have RA:=zh (RA.o.on hb2);have B1:=zh (B1.o.trans (hb2.mono B1.o.size));clear hb2 c0 c1 c2 c3 c4 c5 c6 c7 c8 c9 c10 c11 c12 c13 c14 c15 c16 c17 clt;obtain⟨c0,c1,c2,c3,c4,c5,c6,c7,c8,c9,c10,c11,c12,c13,c14,c15,c16,c17,clt⟩:=RA.o.cs;simp only at c0 c1 c2 c3 c4 c5 c6 c7 c8 c9 c10 c11 c12 c13 c14 c15 c16 c17;cases tb))
 all_goals
   go_ret;refine⟨?_,B1.o⟩;show Ending.returned (.bool _)=_;refine congrArg (fun b=>Ending.returned (.bool b)) ?_;rw[HANS.o]
   first
    |(simp[*];done)
    |(simp[*];exact jde _)
theorem jui(epoch who n seq:Int)(text:ByteArray)(sp:Spc.Sp)(hs:text.size<=maxLen)(hin:Spc.In sp)(w:World):
   Calls Tryz.prog 82 #[Rc.val (⟨5,epoch,who,n,seq,text,sp⟩:Rc.R)] w (APos w (.bool (Rc.right (⟨5,epoch,who,n,seq,text,sp⟩:Rc.R)))):=by
 have RA:=zh (RcAt.new w (⟨5,epoch,who,n,seq,text,sp⟩:Rc.R));have B1:=zh ((Below.refl w.heap.size w).alloc zl (.cells (Rc.cells (⟨5,epoch,who,n,seq,text,sp⟩:Rc.R)) 56));have CB:Hid (∀W,Calls Tryz.prog 138 #[Rc.val (⟨5,epoch,who,n,seq,text,sp⟩:Rc.R),.bool false] W (APos W (.bool (Rc.bare (⟨5,epoch,who,n,seq,text,sp⟩:Rc.R))))):=fun W=>jey _ W;have hne:=fun W=>jc2 sp Spc.zero W;have hgd:=jbz;have EP:Hid (Rc.plain (⟨5,epoch,who,n,seq,text,sp⟩:Rc.R)=Spc.same sp Spc.zero):=by
   show _=_;rw[Bool.eq_iff_iff,Rc.plain_iff,Spc.same_iff]
 have ER:Hid (Rc.right (⟨5,epoch,who,n,seq,text,sp⟩:Rc.R)=(Spc.inn epoch 1 1099511627776&&(Rc.plain (⟨5,epoch,who,n,seq,text,sp⟩:Rc.R)&&(Rc.bare (⟨5,epoch,who,n,seq,text,sp⟩:Rc.R)&&(Spc.inn who 0 15&&(Spc.inn n 0 1048576&&Spc.inn seq 1 1099511627776)))))):=by
   show _=_;unfold Rc.right;simp only[if_true,if_neg (show¬(5:Int)=1 by omega),if_neg (show¬(5:Int)=2 by omega),if_neg (show¬(5:Int)=3 by omega),if_neg (show¬(5:Int)=4 by omega)]
 rw[EP.o]at ER;rw[ER.o];clear ER;obtain⟨ans,hans⟩:∃ans,ans=(Spc.inn epoch 1 1099511627776&&(Spc.same sp Spc.zero&&(Rc.bare (⟨5,epoch,who,n,seq,text,sp⟩:Rc.R)&&(Spc.inn who 0 15&&(Spc.inn n 0 1048576&&Spc.inn seq 1 1099511627776))))):=zx;rw[<-hans];have HANS:=zh hans;clear hans;generalize Rc.bare (⟨5,epoch,who,n,seq,text,sp⟩:Rc.R)=tb at*;clear EP;generalize Spc.same sp Spc.zero=pb at*;unfold Rc.val at*;unfold Spc.val Spc.cells at hne;unfold Spc.zero at hne;simp only at hne;have HSZ:Hid ((Tryz.prog.info? 56).map (·.size)=some (Rc.cells (⟨5,epoch,who,n,seq,text,sp⟩:Rc.R)).size):=jak _;go_in;go_upto_region 1 with fail
 obtain⟨g,hg⟩:∃g,g=w.heap.size:=zx;rw[<-hg]at RA⊢;clear hg;generalize w.alloc (.cells (Rc.cells (⟨5,epoch,who,n,seq,text,sp⟩:Rc.R)) 56)=ws at*;obtain⟨c0,c1,c2,c3,c4,c5,c6,c7,c8,c9,c10,c11,c12,c13,c14,c15,c16,c17,clt⟩:=RA.o.cs;simp only at c0 c1 c2 c3 c4 c5 c6 c7 c8 c9 c10 c11 c12 c13 c14 c15 c16 c17
 cases pb
 all_goals
  go_wp2_with(first
   |(go_at_call 137;refine(jco _ _ _ _).mono ?_;rintro e w1 ⟨rfl,rfl⟩;generalize hbb:Spc.inn _ _ _=bb;cases bb)
   |((with_reducible show zL 125);refine wpList_load_row rfl 56 (.tmp 1) rfl g rfl 56 _ (0,0) _ RA.o.row jag rfl HSZ.o ?_)
   |(go_at_call 138;refine(CB.o _).mono ?_;rintro e w2 ⟨rfl,hb2⟩;have RA:=zh (RA.o.on hb2);have B1:=zh (B1.o.trans (hb2.mono B1.o.size));clear hb2 c0 c1 c2 c3 c4 c5 c6 c7 c8 c9 c10 c11 c12 c13 c14 c15 c16 c17 clt;obtain⟨c0,c1,c2,c3,c4,c5,c6,c7,c8,c9,c10,c11,c12,c13,c14,c15,c16,c17,clt⟩:=RA.o.cs;simp only at c0 c1 c2 c3 c4 c5 c6 c7 c8 c9 c10 c11 c12 c13 c14 c15 c16 c17;cases tb))
 all_goals
   go_ret;refine⟨?_,B1.o⟩;show Ending.returned (.bool _)=_;refine congrArg (fun b=>Ending.returned (.bool b)) ?_;rw[HANS.o]
   first
    |(simp[*];done)
    |(simp[*];exact jde _)
theorem juj(epoch who n seq:Int)(text:ByteArray)(sp:Spc.Sp)(hs:text.size<=maxLen)(hin:Spc.In sp)(w:World):
   Calls Tryz.prog 82 #[Rc.val (⟨6,epoch,who,n,seq,text,sp⟩:Rc.R)] w (APos w (.bool (Rc.right (⟨6,epoch,who,n,seq,text,sp⟩:Rc.R)))):=by
 have RA:=zh (RcAt.new w (⟨6,epoch,who,n,seq,text,sp⟩:Rc.R));have B1:=zh ((Below.refl w.heap.size w).alloc zl (.cells (Rc.cells (⟨6,epoch,who,n,seq,text,sp⟩:Rc.R)) 56));have CB:Hid (∀W,Calls Tryz.prog 138 #[Rc.val (⟨6,epoch,who,n,seq,text,sp⟩:Rc.R),.bool false] W (APos W (.bool (Rc.bare (⟨6,epoch,who,n,seq,text,sp⟩:Rc.R))))):=fun W=>jey _ W;have hne:=fun W=>jc2 sp Spc.zero W;have hgd:=jbz;have EP:Hid (Rc.plain (⟨6,epoch,who,n,seq,text,sp⟩:Rc.R)=Spc.same sp Spc.zero):=by
   show _=_;rw[Bool.eq_iff_iff,Rc.plain_iff,Spc.same_iff]
 have ER:Hid (Rc.right (⟨6,epoch,who,n,seq,text,sp⟩:Rc.R)=(Spc.inn epoch 1 1099511627776&&(Rc.plain (⟨6,epoch,who,n,seq,text,sp⟩:Rc.R)&&(Rc.bare (⟨6,epoch,who,n,seq,text,sp⟩:Rc.R)&&(Spc.inn who 0 15&&(decide (n=0)&&Spc.inn seq 1 1099511627776)))))):=by
   show _=_;unfold Rc.right;simp only[if_true,if_neg (show¬(6:Int)=1 by omega),if_neg (show¬(6:Int)=2 by omega),if_neg (show¬(6:Int)=3 by omega),if_neg (show¬(6:Int)=4 by omega),if_neg (show¬(6:Int)=5 by omega)]
 rw[EP.o]at ER;rw[ER.o];clear ER;obtain⟨ans,hans⟩:∃ans,ans=(Spc.inn epoch 1 1099511627776&&(Spc.same sp Spc.zero&&(Rc.bare (⟨6,epoch,who,n,seq,text,sp⟩:Rc.R)&&(Spc.inn who 0 15&&(decide (n=0)&&Spc.inn seq 1 1099511627776))))):=zx;rw[<-hans];have HANS:=zh hans;clear hans;generalize Rc.bare (⟨6,epoch,who,n,seq,text,sp⟩:Rc.R)=tb at*;clear EP;generalize Spc.same sp Spc.zero=pb at*;unfold Rc.val at*;unfold Spc.val Spc.cells at hne;unfold Spc.zero at hne;simp only at hne;have HSZ:Hid ((Tryz.prog.info? 56).map (·.size)=some (Rc.cells (⟨6,epoch,who,n,seq,text,sp⟩:Rc.R)).size):=jak _;go_in;go_upto_region 1 with fail
 obtain⟨g,hg⟩:∃g,g=w.heap.size:=zx;rw[<-hg]at RA⊢;clear hg;generalize w.alloc (.cells (Rc.cells (⟨6,epoch,who,n,seq,text,sp⟩:Rc.R)) 56)=ws at*;obtain⟨c0,c1,c2,c3,c4,c5,c6,c7,c8,c9,c10,c11,c12,c13,c14,c15,c16,c17,clt⟩:=RA.o.cs;simp only at c0 c1 c2 c3 c4 c5 c6 c7 c8 c9 c10 c11 c12 c13 c14 c15 c16 c17
 cases pb
 all_goals
  go_wp2_with(first
   |(go_at_call 137;refine(jco _ _ _ _).mono ?_;rintro e w1 ⟨rfl,rfl⟩;generalize hbb:Spc.inn _ _ _=bb;cases bb)
   |((with_reducible show zL 146);refine wpList_load_row rfl 56 (.tmp 1) rfl g rfl 56 _ (0,0) _ RA.o.row jag rfl HSZ.o ?_)
   |(go_at_call 138;refine(CB.o _).mono ?_;rintro e w2 ⟨rfl,hb2⟩;have RA:=zh (RA.o.on hb2);have B1:=zh (B1.o.trans (hb2.mono B1.o.size));clear hb2 c0 c1 c2 c3 c4 c5 c6 c7 c8 c9 c10 c11 c12 c13 c14 c15 c16 c17 clt;obtain⟨c0,c1,c2,c3,c4,c5,c6,c7,c8,c9,c10,c11,c12,c13,c14,c15,c16,c17,clt⟩:=RA.o.cs;simp only at c0 c1 c2 c3 c4 c5 c6 c7 c8 c9 c10 c11 c12 c13 c14 c15 c16 c17;cases tb))
 all_goals
   go_ret;refine⟨?_,B1.o⟩;show Ending.returned (.bool _)=_;refine congrArg (fun b=>Ending.returned (.bool b)) ?_;rw[HANS.o]
   first
    |(simp[*];done)
    |(simp[*];exact jde _)
theorem juk(epoch who n seq:Int)(text:ByteArray)(sp:Spc.Sp)(hs:text.size<=maxLen)(hin:Spc.In sp)(w:World):
   Calls Tryz.prog 82 #[Rc.val (⟨7,epoch,who,n,seq,text,sp⟩:Rc.R)] w (APos w (.bool (Rc.right (⟨7,epoch,who,n,seq,text,sp⟩:Rc.R)))):=by
 have RA:=zh (RcAt.new w (⟨7,epoch,who,n,seq,text,sp⟩:Rc.R));have B1:=zh ((Below.refl w.heap.size w).alloc zl (.cells (Rc.cells (⟨7,epoch,who,n,seq,text,sp⟩:Rc.R)) 56));have CB:Hid (∀W,Calls Tryz.prog 138 #[Rc.val (⟨7,epoch,who,n,seq,text,sp⟩:Rc.R),.bool true] W (APos W (.bool (Rc.told (⟨7,epoch,who,n,seq,text,sp⟩:Rc.R))))):=fun W=>jff _ W hs;have hne:=fun W=>jc2 sp Spc.zero W;have hgd:=jbz;have EP:Hid (Rc.plain (⟨7,epoch,who,n,seq,text,sp⟩:Rc.R)=Spc.same sp Spc.zero):=by
   show _=_;rw[Bool.eq_iff_iff,Rc.plain_iff,Spc.same_iff]
 have ER:Hid (Rc.right (⟨7,epoch,who,n,seq,text,sp⟩:Rc.R)=(Spc.inn epoch 1 1099511627776&&(Rc.plain (⟨7,epoch,who,n,seq,text,sp⟩:Rc.R)&&(Rc.told (⟨7,epoch,who,n,seq,text,sp⟩:Rc.R)&&(Spc.inn who 1 4&&(Spc.inn n 0 1099511627776&&decide (seq=0))))))):=by
   show _=_;unfold Rc.right;simp only[if_true,if_neg (show¬(7:Int)=1 by omega),if_neg (show¬(7:Int)=2 by omega),if_neg (show¬(7:Int)=3 by omega),if_neg (show¬(7:Int)=4 by omega),if_neg (show¬(7:Int)=5 by omega),if_neg (show¬(7:Int)=6 by omega)]
 rw[EP.o]at ER;rw[ER.o];clear ER;obtain⟨ans,hans⟩:∃ans,ans=(Spc.inn epoch 1 1099511627776&&(Spc.same sp Spc.zero&&(Rc.told (⟨7,epoch,who,n,seq,text,sp⟩:Rc.R)&&(Spc.inn who 1 4&&(Spc.inn n 0 1099511627776&&decide (seq=0)))))):=zx;rw[<-hans];have HANS:=zh hans;clear hans;generalize Rc.told (⟨7,epoch,who,n,seq,text,sp⟩:Rc.R)=tb at*;clear EP;generalize Spc.same sp Spc.zero=pb at*;unfold Rc.val at*;unfold Spc.val Spc.cells at hne;unfold Spc.zero at hne;simp only at hne;have HSZ:Hid ((Tryz.prog.info? 56).map (·.size)=some (Rc.cells (⟨7,epoch,who,n,seq,text,sp⟩:Rc.R)).size):=jak _;go_in;go_upto_region 1 with fail
 obtain⟨g,hg⟩:∃g,g=w.heap.size:=zx;rw[<-hg]at RA⊢;clear hg;generalize w.alloc (.cells (Rc.cells (⟨7,epoch,who,n,seq,text,sp⟩:Rc.R)) 56)=ws at*;obtain⟨c0,c1,c2,c3,c4,c5,c6,c7,c8,c9,c10,c11,c12,c13,c14,c15,c16,c17,clt⟩:=RA.o.cs;simp only at c0 c1 c2 c3 c4 c5 c6 c7 c8 c9 c10 c11 c12 c13 c14 c15 c16 c17
 cases pb
 all_goals
  go_wp2_with(first
   |(go_at_call 137;refine(jco _ _ _ _).mono ?_;rintro e w1 ⟨rfl,rfl⟩;generalize hbb:Spc.inn _ _ _=bb;cases bb)
   |((with_reducible show zL 167);refine wpList_load_row rfl 56 (.tmp 1) rfl g rfl 56 _ (0,0) _ RA.o.row jag rfl HSZ.o ?_)
   |(go_at_call 138;refine(CB.o _).mono ?_;rintro e w2 ⟨rfl,hb2⟩;have RA:=zh (RA.o.on hb2);have B1:=zh (B1.o.trans (hb2.mono B1.o.size));clear hb2 c0 c1 c2 c3 c4 c5 c6 c7 c8 c9 c10 c11 c12 c13 c14 c15 c16 c17 clt;obtain⟨c0,c1,c2,c3,c4,c5,c6,c7,c8,c9,c10,c11,c12,c13,c14,c15,c16,c17,clt⟩:=RA.o.cs;simp only at c0 c1 c2 c3 c4 c5 c6 c7 c8 c9 c10 c11 c12 c13 c14 c15 c16 c17;cases tb))
 all_goals
   go_ret;refine⟨?_,B1.o⟩;show Ending.returned (.bool _)=_;refine congrArg (fun b=>Ending.returned (.bool b)) ?_;rw[HANS.o]
   first
    |(simp[*];done)
    |(simp[*];exact jde _)
theorem ja5(r:Rc.R)(hin:Rc.In r)(w:World):Calls Tryz.prog 82 #[Rc.val r] w (APos w (.bool (Rc.right r))):=by
 obtain⟨kind,epoch,who,n,seq,text,sp⟩:=r;by_cases k1:kind=1
 ·subst k1;exact jue epoch who n seq text sp hin.text hin.sp w
 by_cases k2:kind=2
 ·subst k2;exact juf epoch who n seq text sp hin.text hin.sp w
 by_cases k3:kind=3
 ·subst k3;exact jug epoch who n seq text sp hin.text hin.sp w
 by_cases k4:kind=4
 ·subst k4;exact juh epoch who n seq text sp hin.text hin.sp w
 by_cases k5:kind=5
 ·subst k5;exact jui epoch who n seq text sp hin.text hin.sp w
 by_cases k6:kind=6
 ·subst k6;exact juj epoch who n seq text sp hin.text hin.sp w
 by_cases k7:kind=7
 ·subst k7;exact juk epoch who n seq text sp hin.text hin.sp w
 exact jud kind epoch who n seq text sp hin.text hin.sp w k1 k2 k3 k4 k5 k6 k7
theorem jbs{P:Program}{ops:Array Oper}{rest:List Oper}{o:Oper}{a:Act}{w:World}{Q:Exit->Act->World->Prop}(hgd:Region.wanted o (yielded ops a.tmps)=true)(ty:TypeId)(x:Operand)(ho:o.op= .load ty x)
  (g:Nat) (hx:a.eval x= .pointer (some ⟨g,0,none⟩)) (t:TypeId) (cs:Array Value) (fr:Nat×Nat) (d:TypeDesc) (hg:w.heap[g]? =some (.cells cs t fr))
  (hu:P.underlying ty=some d) (hd:(match d with| .struct _| .array _ _=>true|_=>false)=true) (hi:(P.info? ty).map (·.size)=some cs.size)
  (h:wpList P ops Q rest (a.put o.dst (.agg cs)) w):wpList P ops Q (o::rest) a w:=by
 simp only[wpList,hgd,if_true];exact .inl (wp_load_row ty x ho g hx t cs fr d hg hu hd hi h)
theorem Rc.one_cell(r:Rc.R):(Rc.cells r).all (·.oneCell')=true:=by simp[Rc.cells,Value.oneCell']
def RgC:Prop:=∀W r,Rc.In r->Calls Tryz.prog 42 #[.agg (Rc.cells r)] W (APos W (.agg (Rc.cells (Rc.good r))))
theorem jaa{ops:Array Oper}{rest:List Oper}{op:Oper}{a:Act}{w:World}{Q:Exit->Act->World->Prop}(hgd:op.guard=none)(x y:Operand)(ho:op.op= .store 56 x y)
  (g:Nat) (r s:Rc.R) (hx:a.eval x= .pointer (some ⟨g,0,none⟩)) (hy:a.eval y= .agg (Rc.cells r)) (hg:RcAt w g s)
  (h:wpList Tryz.prog ops Q rest (a.put op.dst undef) (w.setRow g (Rc.cells r))):wpList Tryz.prog ops Q (op::rest) a w:=
 wpList_plain hgd fun _ hK=>wp_store_row 56 x y ho g (Rc.cells r) hx hy 56 _ hg.row (jak r) rfl (Rc.one_cell r) (hK _ _ h)
