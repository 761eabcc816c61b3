import Derived.Test.YtabandbigckfkaaGreatDoorQx14
import Derived.Lib.AppendStr
set_option maxHeartbeats 6400000
set_option maxRecDepth 100000
set_option linter.unusedSimpArgs false
set_option linter.unusedVariables false
namespace Go.Proofs.YtabandbigckfkaaGreatDoor
open Go.RowKit Fr
def jck(A0:Option Addr)(l:List Nat)(w:World)(e:Ending)(w':World):Prop:=
 ∃A c,e= .returned (.tuple #[.slice A (gP l).length c,.int .i64 ((gN l:Nat):Int),.int .i64 ((gE l:Nat):Int)])∧Sl w' A (gP l).length c (gP l)∧(∀a,A=some a→∃a0,A0=some a0∧a.block=a0.block)∧Below w.heap.size w w'
theorem jck.no{A0:Option Addr}{l:List Nat}{w w':World}{k:Nat}(hk:gE l=k)(h:k≠0)(hb:Below w.heap.size w w'):jck A0 l w (.returned (.tuple #[.slice none 0 0,.int .i64 0,.int .i64 (k:Int)])) w':=by
 have hX:=jph (l:=l) (by omega);unfold jck;rw[hX.1,hX.2,hk];exact⟨none,0,rfl,Sl.none_ _,(fun a h=>by cases h),hb⟩
theorem jpj{l:List Nat}(h:2≤l.length):(whole l=0∧(num2 l<1∨1000<num2 l∨l.length<num2 l+6))∨(whole l=num2 l+6∧1≤num2 l∧num2 l≤1000∧num2 l+6≤l.length):=by
 have h1:whole l=if l.length<sizeN (num2 l)then 0 else sizeN (num2 l):=by unfold whole;rw[if_neg (by omega)]
 rw[h1];by_cases hn:1≤num2 l∧num2 l≤1000
 ·rw[sizeN_yes hn.1 hn.2]
  by_cases hl:l.length<num2 l+6
  ·rw[if_pos hl];exact .inl ⟨rfl,.inr (.inr hl)⟩
  ·rw[if_neg hl];exact .inr ⟨rfl,hn.1,hn.2,by omega⟩
 ·rw[sizeN_no (by omega)]
  exact .inl ⟨by split<;>rfl,by omega⟩
theorem jpk(n c:Nat)(A:Option Addr)(l:List Nat)(w:World)(h:Sl w A n c l)(hn:n≤1000000000):
  Calls Tryz.prog 234 #[.slice A n c] w (jck A l w):=by
 have H:=zh h;have hlen:=h.len;have hcap:=h.cap;have hmax:=h.max;unfold maxLen at hmax;by_cases h2:n<2
 ·have HE:Hid (gE l=2):=gE_two (by unfold whole;rw[if_pos (by rw[←hlen];omega)])
  clear h hlen;go_enter Tryz.func234,Tryz.ntmps234;go_wp2_with fail;go_ret3;exact jck.no (k:=2) HE.out (by omega) (Below.refl _ _)
 ·have x0:=h.rd.byte 0
  have x1:=h.rd.byte 1;have W2:=jpj (l:=l) (by omega);rw[←hlen]at W2;have W3:=zh W2;clear W2;obtain⟨b,o,rfl,_,hc⟩:=h.rd.2 (by omega);have c0:=hc 0 (by omega);rw[Nat.add_zero]at c0;have c1:=hc 1 (by omega);have HN:Hid (num2 l=l.getD 0 0*256+l.getD 1 0):=rfl;have LE:=zh hlen;clear hc h hlen;generalize l.getD 0 0=p at*;generalize l.getD 1 0=q at*;have hs1:IntKind.i64.wrap ((p:Int)*256)=(p:Int)*256:=IntWalk.i64_in _ (by omega);have hs2:IntKind.i64.wrap ((p:Int)*256+(q:Int))=(p:Int)*256+(q:Int):=IntWalk.i64_in _ (by omega);go_enter Tryz.func234,Tryz.ntmps234;go_wp2_with fail;go_quiet (fail);have hm:(p:Int)*256+(q:Int)=((num2 l:Nat):Int):=by rw[HN.out];omega
  rw[hm];clear hs1 hs2 c0 c1 hm HN x0 x1;have B1:=zh (jbo (Below.refl w.heap.size w) nq);generalize w.drewN nq=w1 at*;rcases W3.out with⟨hw,hno⟩|⟨hw,hm1,hm2,hm3⟩
  ·have HE:Hid (gE l=2):=gE_two hw
   have hcases:num2 l<1∨(1≤num2 l∧1000<num2 l)∨(1≤num2 l∧num2 l≤1000∧n<num2 l+6):=by omega
   clear W3 hno hw;generalize num2 l=m at*;rcases hcases with h3|⟨h3,h4⟩|⟨h3,h4,h5⟩
   ·obtain rfl:m=0:=by omega
    go_wp2_with fail;go_ret3;exact jck.no (k:=2) HE.out (by omega) B1.out
   ·have h3':¬(m:Int)<1:=by omega
    go_wp2_with fail;go_ret3;exact jck.no (k:=2) HE.out (by omega) B1.out
   ·have h3':¬(m:Int)<1:=by omega
    have h4':¬1000<(m:Int):=by omega
    go_wp2_with fail;go_ret3;exact jck.no (k:=2) HE.out (by omega) B1.out
  ·have SF:=zh (same_fr H.out.rd.1 (by omega))
   have TL:=zh (H.out.take (k:=whole l) (by omega));have TP:=zh ((H.out.take (k:=whole l -4) (by omega)).drop (k:=2) (by omega) (by omega));have EY:Hid (good (l.take (whole l))=true→gE l=0):=fun hg=>gE_yes (by omega) hg;have EN:Hid (good (l.take (whole l))=false→gE l=3):=fun hg=>gE_three (by omega) hg;have PV:Hid (gE l=0→gP l=(l.take (whole l -4)).drop 2∧gN l=whole l):=jf5;rw[hw]at SF TL TP EY EN PV;clear W3 hw;generalize num2 l=m at*;rw[show m+6 -4=m+2 from by omega]at SF TP PV;rw[show m+2 -2=m from by omega]at TP;simp only[Option.map_some]at TP;rw[show(⟨b,o,none⟩:Addr).add 2=⟨b,o+2,none⟩from by simp[Addr.add]]at TP;obtain⟨P,hP⟩:∃P,P=(l.take (m+2)).drop 2:=⟨_,rfl⟩;rw[←hP]at SF TP PV;clear hP;generalize l.take (m+6)=t at*;have hcv:∀W,Below w.heap.size w W→(convert 58 9 (.slice (some ⟨b,o,none⟩) (m+6) c)).run Tryz.prog W= .ok (.string (txt t)) W:=fun W hb=>ja8 (TL.out.rd.on hb) TL.out.len;have hdr:∀W,Below w.heap.size w W→Below w.heap.size w W.drew:=fun W hb=>hb.drew;have hb0:=B1.out;have h3':¬(m:Int)<1:=by omega
   have h4':¬1000<(m:Int):=by omega
   have hc2:¬c=2:=by omega
   have b1:(0:Int)≤2+(m:Int):=by omega
   have b2:2+(m:Int)≤(c:Int):=by omega
   have b3:max (2+(m:Int)) 0=2+(m:Int):=by omega
   have b4:(2+(m:Int)).toNat -2=m:=by omega
   have b5:(2:Int)≤2+(m:Int):=by omega
   have b6:(0:Int)≤(m:Int)+6:=by omega
   have b7:(m:Int)+6≤(c:Int):=by omega
   have b8:((m:Int)+6).toNat=m+6:=by omega
   go_wp2_with fail;have e1:IntKind.i64.wrap (2+(m:Int))=2+(m:Int):=IntWalk.i64_in _ (by omega);have e2:IntKind.i64.wrap ((m:Int)+6)=(m:Int)+6:=IntWalk.i64_in _ (by omega);refine wp_region_held_drew (S:=fun W=>Below w.heap.size w W) (by kernel_rfl) (hdr _ hb0) (fun hS=> ?_);refine tY 0 hS ?_;refine tY 1 hS ?_;refine tY 2 hS ?_;refine tY 3 hS ?_;refine tY 6 hS ?_;refine tY 7 hS ?_;simp only[Act.put,zT,zO,zS];refine tY 8 hS ?_;refine tY 9 hS ?_;refine tZ 10 rfl (by intro W hW;have hcv1:=hcv W hW;go_simp;(try with_reducible rfl)) hS ?_;simp only[Act.put,zT,zO,zS];refine rO 4 (fun K hK=> ?_);go_simp;refine(jlm m (c -2) (some ⟨b,o+2,none⟩) P _ (TP.out.on hS) hm2).mono ?_;rintro e w' ⟨A2,c2,rfl,ho,hb⟩;have hb1:Below w.heap.size w w':=hS.trans (hb.mono hS.size);have hcv2:=ja8 (c:=c2) ho.sls.rd rfl;clear ho hb hS;have hS:=hb1;refine hK.out _ _ hS (fun _=> ?_);clear hK K;try simp only[Act.put,zT,zO,zS]
   refine rO 5 (fun K hK=> ?_);go_simp;refine hK.out _ _ hS (fun _=> ?_);clear hK K;refine tY 11 hS ?_;simp only[Act.put,zT,zO,zS];clear e1 e2 b3 b4 b8;refine wpAnyH_done (by kernel_rfl) ?_ _;by_cases hg:good t=true
   ·have HE:=zh (EY.out hg)
    have HX:=zh (PV.out HE.out);have heq:=SF.out.2 hg;have hne:(!((txt (fr P)).toList==(txt t).toList))=false:=by rw[heq];simp
    rw[hne];clear heq hg hcv2 hne;go_wp2_with fail;go_ret3;rw[show 2+m -2=m from by omega];unfold jck;rw[HX.out.1,HX.out.2,HE.out];have hPl:=TP.out.len;refine⟨some ⟨b,o+2,none⟩,c -2,?_,?_,?_,hS⟩
    ·rw[←hPl];rfl
    ·rw[←hPl];exact TP.out.on hS
    ·intro a ha;injection ha with ha;subst ha;exact⟨_,rfl,rfl⟩
   ·have hg:good t=false:=by simpa using hg
    have HE:=zh (EN.out hg);have hne:(!((txt (fr P)).toList==(txt t).toList))=true:=by
     rw[jk0 (fr_byte TP.out.rd.1) TL.out.rd.1,decide_eq_false (fun e=>by have:=SF.out.1 e;rw[hg]at this;cases this)];rfl
    rw[hne];clear hg hcv2 hne;go_wp2_with fail;go_ret3;exact jck.no (k:=3) HE.out (by omega) hS
def jds(l:List Nat)(w:World)(e:Ending)(w':World):Prop:=
 ∃A c,e= .returned (.tuple #[.slice A (scan l).1.length c,.int .i64 (((scan l).2.1:Nat):Int),.int .i64 (((scan l).2.2:Nat):Int)])∧OwnS w' w.heap.size (.slice A (scan l).1.length c) (scan l).1∧Below w.heap.size w w'
theorem jds.mk{l:List Nat}{w w':World}{v:Value}{x y:Int}{ps:List (List Nat)}{k z:Nat}(hs:scan l=(ps,k,z))(h:OwnS w' w.heap.size v ps)(hx:x=(k:Nat))(hy:y=(z:Nat))(hb:Below w.heap.size w w'):jds l w (.returned (.tuple #[v,.int .i64 x,.int .i64 y])) w':=by
 obtain⟨A,c,rfl,_⟩:=h.sls;subst hx hy;unfold jds;rw[hs];exact⟨A,c,rfl,h,hb⟩
def Far(l:List Nat)(k:Nat)(ps:List (List Nat)):Prop:=scan l=(ps++(scan (l.drop k)).1,k+(scan (l.drop k)).2.1,(scan (l.drop k)).2.2)
theorem Far.start(l:List Nat):Far l 0 []:=by unfold Far;simp
theorem Far.stop{l:List Nat}{k:Nat}{ps:List (List Nat)}(h:Far l k ps)(hk:k=l.length):scan l=(ps,k,0):=by
 unfold Far at h;rw[hk,List.drop_length,scan_nil]at h;rw[h,hk];simp
theorem Far.no{l:List Nat}{k:Nat}{ps:List (List Nat)}(h:Far l k ps)(hk:k<l.length)(he:gE (l.drop k)≠0):scan l=(ps,k,gE (l.drop k)):=by
 unfold Far at h;have h0:l.drop k≠[]:=fun e=>by have:=congrArg List.length e;simp at this;omega
 rw[scan_no h0 he]at h;rw[h];simp
theorem Far.yes{l:List Nat}{k:Nat}{ps:List (List Nat)}(h:Far l k ps)(he:gE (l.drop k)=0):Far l (k+whole (l.drop k)) (ps++[gP (l.drop k)]):=by
 unfold Far at*;rw[scan_yes he,List.drop_drop]at h;rw[h];simp;omega
def FJat(w:World)(A:Option Addr)(n c:Nat)(l:List Nat)(a':Act)(w':World):Prop:=
 ∃(k:Nat) (v:Value) (ps:List (List Nat)) (u7 u8 u9 u10 u11 u12 u13 u14 u15 u16 u17 u18 u19 u20 u21 u22 u23 u24 u25 u26 u27 u28 u29 u30 u31 u32 u33 u34 u35:Value),a'={tmps:=#[.slice A n c,undef,.slice none 0 0,.int .i64 0,.int .i64 0,v,.int .i64 (k:Int),u7,u8,u9,u10,u11,u12,u13,u14,u15,u16,u17,u18,u19,u20,u21,u22,u23,u24,u25,u26,u27,u28,u29,u30,u31,u32,u33,u34,u35],defers:=[]}∧k≤n∧ps.length≤k∧OwnS w' w.heap.size v ps∧Below w.heap.size w w'∧Far l k ps
theorem jpl(n c:Nat)(A:Option Addr)(l:List Nat)(w:World)(h:Sl w A n c l)(hn:n≤1000000000):
  Calls Tryz.prog 180 #[.slice A n c] w (jds l w):=by
 have hlen:=h.len;have hcap:=h.cap;have hmax:=h.max;unfold maxLen at hmax;have H:=zh h;clear h;have HN:=zh hlen;clear hlen;go_enter Tryz.func180,Tryz.ntmps180;go_wp2;refine jdp 0 (FJat w A n c l) (fun a' _=>n -(intOf (a'.tmps.getD 6 undef)).toNat) rfl ?_ ?_
 ·intro key
  go_wp2;go_step3;rename_i K hK;refine hK _ _ (key _ _ ?_);exact⟨0,_,[],_,_,_,_,_,_,_,_,_,_,_,_,_,_,_,_,_,_,_,_,_,_,_,_,_,_,_,_,_,rfl,by omega,by simp,OwnS.none_ _ _,Below.refl _ _,Far.start l⟩
 ·rintro a' w' ⟨k,v,ps,u7,u8,u9,u10,u11,u12,u13,u14,u15,u16,u17,u18,u19,u20,u21,u22,u23,u24,u25,u26,u27,u28,u29,u30,u31,u32,u33,u34,u35,rfl,hk,hpk,ho,hb,hf⟩
  have O:=zh ho;clear ho;have B:=zh hb;clear hb;have F:=zh hf;clear hf;by_cases hend:k=n
  ·have hs:=zh (F.out.stop (hend.trans HN.out))
   subst hend;go_wp2_with fail;simp only[Exit.jump];go_ret3;exact jds.mk hs.out O.out rfl rfl B.out
  ·have hlt:k<n:=by omega
   have hne:((k:Int)==(n:Int))=false:=by rw[beq_eq_false_iff_ne];omega
   have hck:¬c=k:=by omega
   have HD:=zh ((H.out.drop (k:=k) (by omega) hck).on B.out);have hnk:n -k≤1000000000:=by omega
   have HP:Hid (gE (l.drop k)≠0→scan l=(ps,k,gE (l.drop k))):=fun he=>F.out.no (by rw[←HN.out];exact hlt) he;have HY:Hid (gE (l.drop k)=0→Far l (k+whole (l.drop k)) (ps++[gP (l.drop k)])):=fun he=>F.out.yes he;have HZ:Hid (gE (l.drop k)=0→7≤whole (l.drop k)∧k+whole (l.drop k)≤n):=fun he=>by
    have h1:=gE_zero he;have h2:=h1.2.2.1;rw[List.length_drop,←HN.out]at h2;exact⟨h1.1,by omega⟩
   have HX:Hid (gE (l.drop k)=0→gN (l.drop k)=whole (l.drop k)):=fun he=>(jf5 he).2;generalize l.drop k=d at*;clear hend;go_wp2_with fail;have C:=zh (jll _ _ _ d w' HD.out hnk)
   (with_reducible refine C.out.mono ?_)
   rintro e w2 ⟨A2,c2,rfl,ho2,hb2⟩;have O2:=zh ho2;clear ho2;have OO:=zh (O.out.below hb2);have B2:=zh (B.out.trans (hb2.mono B.out.size));clear hb2;have HF:Hid (0<(gP d).length→∀a,A2=some a→v.ownBlock≠some a.block):=fun _ a ha e2=>by
    have h1:=O2.out.from_ a ha;have h2:=(O.out.base a.block e2).2;omega
   obtain⟨p,hp⟩:∃p,p=gP d:=⟨_,rfl⟩;rw[←hp]at O2 HF HY⊢;clear hp C;by_cases he:gE d=0
   ·have G:=zh (HY.out he)
    have HW:=zh (HZ.out he);rw[he,HX.out he];have hw1:=HW.out.1;have hw2:=HW.out.2;clear he HP HY HZ HX;generalize whole d=W at*;clear HW;have hpl:ps.length≤3000000000:=by omega
    go_wp2_with(at_builtin;refine jcm rfl (.tmp 29) (.tmp 31) rfl w.heap.size v ps rfl OO.out A2 p.length c2 p O2.out.sls rfl HF.out hpl B2.out.size ?_;intro v3 w3 ho3 hb3;have O3:=zh ho3;have B3:=zh hb3;clear ho3 hb3);go_step3;refine⟨rfl,⟨k+W,v3,ps++[p],_,_,_,_,_,_,_,_,_,_,_,_,_,_,_,_,_,_,_,_,_,_,_,_,_,_,_,_,_,rfl,hw2,by rw[List.length_append];simp;omega,O3.out,B2.out.trans B3.out,G.out⟩,?_⟩;simp[intOf];omega
   ·have HS:=zh (HP.out he)
    have hee:(((gE d:Nat):Int) !=0)=true:=by rw[bne_iff_ne];omega
    clear he HP HY HZ HX;generalize gE d=ee at*;generalize gN d=nn at*;go_wp2_with fail;simp only[Exit.jump];go_ret3;exact jds.mk HS.out OO.out rfl rfl B2.out
def FRRel(w:World)(n:Nat)(l:List Nat)(v i:Value)(wr:World):Prop:=
 ∃(k:Nat) (ps:List (List Nat)),i= .int .i64 k∧k≤n∧ps.length≤k∧OwnS wr w.heap.size v ps∧Below w.heap.size w wr∧Far l k ps
theorem jg2(n c:Nat)(A:Option Addr)(l:List Nat)(w:World)(h:Sl w A n c l)(hn:n≤1000000000):
  Calls Tryz.prog 167 #[.slice A n c] w (jds l w):=by
 have hlen:=h.len;have hcap:=h.cap;have hmax:=h.max;unfold maxLen at hmax;have H:=zh h;clear h;have HN:=zh hlen;clear hlen;go_enter Tryz.func167,Tryz.ntmps167;go_wp2_with fail;go_loopw [5,6] (fun v i wr=>FRRel w n l v i wr) (fun _ i _=>n -(intOf i).toNat)
 case atStart=>exact⟨0,[],rfl,by omega,by simp,OwnS.none_ _ _,Below.refl _ _,Far.start l⟩
 case round=>
  obtain⟨k,ps,rfl,hk,hpk,ho,hb,hf⟩:=hrel;have O:=zh ho;clear ho;have B:=zh hb;clear hb;have F:=zh hf;clear hf;by_cases hend:k=n
  ·have hs:=zh (F.out.stop (hend.trans HN.out))
   subst hend;go_wp2_with fail;go_ret3;exact jds.mk hs.out O.out rfl rfl B.out
  ·have hlt:k<n:=by omega
   have hck:¬c=k:=by omega
   have HD:=zh ((H.out.drop (k:=k) (by omega) hck).on B.out);have hnk:n -k≤1000000000:=by omega
   have HP:Hid (gE (l.drop k)≠0→scan l=(ps,k,gE (l.drop k))):=fun he=>F.out.no (by rw[←HN.out];exact hlt) he;have HY:Hid (gE (l.drop k)=0→Far l (k+whole (l.drop k)) (ps++[gP (l.drop k)])):=fun he=>F.out.yes he;have HZ:Hid (gE (l.drop k)=0→7≤whole (l.drop k)∧k+whole (l.drop k)≤n):=fun he=>by
    have h1:=gE_zero he;have h2:=h1.2.2.1;rw[List.length_drop,←HN.out]at h2;exact⟨h1.1,by omega⟩
   have HX:Hid (gE (l.drop k)=0→gN (l.drop k)=whole (l.drop k)):=fun he=>(jf5 he).2;have HK:Hid (∀a,A=some a→a.block<w.heap.size):=H.out.block (by rw[←HN.out];omega);generalize l.drop k=d at*;clear hend;go_wp2_with fail;have C:=zh (jpk _ _ _ d wr HD.out hnk)
   (with_reducible refine C.out.mono ?_)
   rintro e w2 ⟨A2,c2,rfl,hs2,hf2,hb2⟩;have S2:=zh hs2;clear hs2;have OO:=zh (O.out.below hb2);have B2:=zh (B.out.trans (hb2.mono B.out.size));clear hb2;have HF:Hid (0<(gP d).length→∀a,A2=some a→u5.ownBlock≠some a.block):=fun _ a ha e2=>by
    obtain⟨a0,ha0,hblk⟩:=hf2 a ha;have h2:=(O.out.base a.block e2).1;rw[Option.map_eq_some_iff]at ha0;obtain⟨a1,ha1,rfl⟩:=ha0;have h3:=HK.out a1 ha1;have h4:(a1.add k).block=a1.block:=by unfold Addr.add;split<;>rfl
    omega
   obtain⟨p,hp⟩:∃p,p=gP d:=⟨_,rfl⟩;rw[←hp]at S2 HF HY⊢;clear hp C hf2;by_cases he:gE d=0
   ·have G:=zh (HY.out he)
    have HW:=zh (HZ.out he);rw[he,HX.out he];have hw1:=HW.out.1;have hw2:=HW.out.2;clear he HP HY HZ HX;generalize whole d=W at*;clear HW;have hpl:ps.length≤3000000000:=by omega
    go_wp2_with(at_builtin;refine jcm rfl (.tmp 27) (.tmp 29) rfl w.heap.size u5 ps rfl OO.out A2 p.length c2 p S2.out rfl HF.out hpl B2.out.size ?_;intro v3 w3 ho3 hb3;have O3:=zh ho3;have B3:=zh hb3;clear ho3 hb3);go_roundw
    case rel=>exact⟨k+W,ps++[p],by go_num,hw2,by rw[List.length_append];simp;omega,O3.out,B2.out.trans B3.out,G.out⟩
    case measure=>simp[intOf];omega
   ·have HS:=zh (HP.out he)
    have hee:(((gE d:Nat):Int) !=0)=true:=by rw[bne_iff_ne];omega
    clear he HP HY HZ HX;generalize gE d=ee at*;generalize gN d=nn at*;go_wp2_with fail;go_ret3;exact jds.mk HS.out OO.out rfl rfl B2.out
theorem jpm{l:List Nat}{w:World}{e:Ending}{w':World}(h:jds l w e w'):∃A c,e= .returned (.tuple #[.slice A (scan l).1.length c,.int .i64 (((scan l).2.1:Nat):Int),.int .i64 (((scan l).2.2:Nat):Int)])∧OwnS w' w.heap.size (.slice A (scan l).1.length c) (scan l).1∧Below w.heap.size w w':=h
theorem jqAll{d:Dk.St}(h:Dk.Okay d)(hb:Jn.Byt d)(w:World):
  Calls Tryz.prog 100 #[.agg #[.int .i64 (d.room:Nat),.string (tA d),.string (tB d)]] w
   fun e w'=>∃A c,e= .returned (.slice A (Jn.ents d).length c)∧OwnS w' w.heap.size (.slice A (Jn.ents d).length c) (Jn.ents d)∧Below w.heap.size w w':=by
 obtain⟨hz1,hz2⟩:=jkc h;have hlen:d.l.length≤1048576:=Nat.le_trans h.2.1 h.2.2;have hz:(tA d).size+(tB d).size≤9223372036854775807:=by omega
 have hab:=tAB d;obtain⟨A3,c3,W3,hcv,h3,hb3⟩:=jld d.l hb (w.alloc (.cells #[.int .i64 (d.room:Nat),.string (tA d),.string (tB d)] 27)) (by omega);have B1:=(Below.refl w.heap.size w).alloc (Nat.le_refl _) (.cells #[.int .i64 (d.room:Nat),.string (tA d),.string (tB d)] 27);have B3:=zh (B1.trans (hb3.mono B1.size));have C4:=zh (jg2 d.l.length c3 A3 d.l W3 h3 (by omega));have EN:Hid ((Jn.ents d)=(scan d.l).1):=rfl;obtain⟨q,hq⟩:∃q,q=(scan d.l).1.length:=⟨_,rfl⟩;have HQ:=zh hq;clear h3 hb3 B1 hlen hz1 hz2 hq;go_enter Tryz.func100,Tryz.ntmps100;go_wp2_with fail
 (with_reducible refine C4.out.mono ?_)
 rintro e w4 hp;obtain⟨A4,c4,rfl,ho4,hb4⟩:=jpm hp;have O4:=zh ho4;have B4:=zh (B3.out.trans (hb4.mono B3.out.size));rw[←HQ.out];clear hp ho4 hb4 hcv;go_wp2_with fail;go_ret;rw[EN.out];exact⟨A4,c4,by rw[←HQ.out];rfl,by have:=O4.out.lower B3.out.size;exact this,B4.out⟩
theorem jqOpen{d:Dk.St}(h:Dk.Okay d)(hb:Jn.Byt d)(w:World):
  Calls Tryz.prog 99 #[.agg #[.int .i64 (d.room:Nat),.string (tA d),.string (tB d)]] w (jf2 (Jn.opened d) ((d.l.length:Nat) -(Jn.cutN d:Nat)) w):=by
 obtain⟨hz1,hz2⟩:=jkc h;have hlen:d.l.length≤1048576:=Nat.le_trans h.2.1 h.2.2;have hz:(tA d).size+(tB d).size≤9223372036854775807:=by omega
 have hab:=tAB d;have hts:(txt d.l).size=d.l.length:=jbj _;have hcl:=Jn.cutN_le d hb;obtain⟨hc1,hc2⟩:=Jn.cut_opened d hb;have CC:=zh (fun W=>qCut h (Jn.cutN d:Nat) W);rw[hc1,hc2]at CC;obtain⟨A3,c3,W3,hcv,h3,hb3⟩:=jld d.l hb ((w.alloc (.cells #[.int .i64 (d.room:Nat),.string (tA d),.string (tB d)] 27)).alloc (.cells #[.int .i64 0,.string ⟨#[]⟩,.string ⟨#[]⟩] 27)) (by omega);have B1:=jby w (.cells #[.int .i64 (d.room:Nat),.string (tA d),.string (tB d)] 27) (.cells #[.int .i64 0,.string ⟨#[]⟩,.string ⟨#[]⟩] 27);have D1:=jae (heap_alloc_new w (.cells #[.int .i64 (d.room:Nat),.string (tA d),.string (tB d)] 27)) (jdv _ (.cells #[.int .i64 0,.string ⟨#[]⟩,.string ⟨#[]⟩] 27));have E1:=heap_alloc_new (w.alloc (.cells #[.int .i64 (d.room:Nat),.string (tA d),.string (tB d)] 27)) (.cells #[.int .i64 0,.string ⟨#[]⟩,.string ⟨#[]⟩] 27);rw[show(w.alloc (.cells #[.int .i64 (d.room:Nat),.string (tA d),.string (tB d)] 27)).heap.size=w.heap.size+1 from by simp]at E1;have D3:=zh (jae D1 hb3);have E3:=zh (jae E1 hb3);have B3:=zh (B1.trans (hb3.mono B1.size));have C4:=zh (jg2 d.l.length c3 A3 d.l W3 h3 (by omega));have SN:Hid ((scan d.l).2.1=Jn.cutN d):=rfl;clear h3 hb3 B1 hz1 hz2 D1 E1 hc1 hc2;obtain⟨d',hd'⟩:∃d',d'=Jn.opened d:=⟨_,rfl⟩;rw[←hd']at CC⊢;clear hd';generalize Jn.cutN d=k at*;go_enter Tryz.func99,Tryz.ntmps99;go_wp2_with fail
 (with_reducible refine C4.out.mono ?_)
 rintro e w4 hp;obtain⟨A4,c4,rfl,ho4,hb4⟩:=jpm hp;rw[SN.out];have B4:=zh (B3.out.trans (hb4.mono B3.out.size));have D4:=zh (jae D3.out hb4);have E4:=zh (jae E3.out hb4);obtain⟨f0,f1,f2,_,_,_⟩:=jde D4.out;obtain⟨q,hq⟩:∃q,q=(scan d.l).1.length:=⟨_,rfl⟩;rw[←hq];generalize(scan d.l).2.2=z at*;clear hp ho4 hb4 hcv D3 E3 hq;go_wp2_with fail
 (with_reducible refine(CC.out _).mono ?_)
 rintro e w5 ⟨rfl,hb5⟩;have hb6:=jdv w5 (.cells #[.int .i64 (d'.room:Nat),.string (tA d'),.string (tB d')] 27);have B6:=zh ((B4.out.trans (hb5.mono B4.out.size)).trans (hb6.mono (Nat.le_trans B4.out.size hb5.size)));have E6:=zh (jae (jae E4.out hb5) hb6);obtain⟨r0,r1,r2,r3,r4,r5⟩:=jde E6.out;have E7:=zh (jf1 E6.out (.int .i64 (d'.room:Nat)) (.string (tA d')) (.string (tB d')));obtain⟨t0,t1,t2⟩:=jhi E7.out;have B7:=zh (B6.out.grown (jev _ (w.heap.size+1) (.int .i64 (d'.room:Nat)) (.string (tA d')) (.string (tB d'))) B6.out.size (fun i hi=>by injection hi with hi;omega))
 clear hb5 hb6 f0 f1 f2;go_wp2_with fail;exact bodyPost_ret (v:= .tuple #[.agg #[.int .i64 (d'.room:Nat),.string (tA d'),.string (tB d')],.int .i64 ((d.l.length:Nat) -(k:Nat))]) (by simp[results,Tryz.results99,go_sem,t0,t1,t2]) rfl ⟨rfl,B7.out⟩
theorem jm1(w:World)(o1 o2:Obj):((w.alloc o1).alloc o2).heap[w.heap.size]? =some o1∧((w.alloc o1).alloc o2).heap[w.heap.size+1]? =some o2:=by
 refine⟨jae (heap_alloc_new w o1) (jdv _ o2),?_⟩;have:=heap_alloc_new (w.alloc o1) o2
 rwa [show(w.alloc o1).heap.size=w.heap.size+1 from by simp]at this
theorem jqSwap{d:Dk.St}(n c:Nat)(A:Option Addr)(ls:List (List Nat))(w:World)(hs:SlS w A n c ls)(hl:ls.length≤1000)(hpl:∀p∈ls,p.length≤900000000):
  Calls Tryz.prog 53 #[.agg #[.int .i64 (d.room:Nat),.string (tA d),.string (tB d)],.slice A n c] w (jf2 (Jn.swap d ls) (Jn.swapE d ls) w):=by
 obtain⟨D1,E1⟩:=jm1 w (.cells #[.int .i64 (d.room:Nat),.string (tA d),.string (tB d)] 27) (.cells #[.int .i64 0,.string ⟨#[]⟩,.string ⟨#[]⟩] 27);have HB1:=zh (jby w (.cells #[.int .i64 (d.room:Nat),.string (tA d),.string (tB d)] 27) (.cells #[.int .i64 0,.string ⟨#[]⟩,.string ⟨#[]⟩] 27));have HD1:=zh D1;have HE1:=zh E1;have H:=zh hs;have hnl:n=ls.length:=hs.len;have hn1000:n≤1000:=by omega
 have HN:=zh hnl;have HPL:=zh hpl;obtain⟨g1,hg1⟩:∃g1,g1=w.heap.size+1:=⟨_,rfl⟩;have GW:Hid (w.heap.size≤g1):=by show _≤_;omega
 rw[←hg1]at HE1;have HG1:=zh hg1;clear D1 E1 hs hl hnl hpl hg1;go_enter Tryz.func53,Tryz.ntmps53;go_wp2_with fail;rw[←HG1.out];obtain⟨W1,hW1⟩:∃W1,W1=(w.alloc (.cells #[.int .i64 (d.room:Nat),.string (tA d),.string (tB d)] 27)).alloc (.cells #[.int .i64 0,.string ⟨#[]⟩,.string ⟨#[]⟩] 27):=⟨_,rfl⟩;rw[←hW1]at HB1 HD1 HE1⊢;clear hW1;go_loopw [6,7] (fun v i wr=>∃(m:Nat) (A':Option Addr) (c' q:Nat),m≤n∧i= .int .i64 m∧(∀j,j<m→putE (ls.getD j [])=0)∧v= .slice A' q c'∧Sl wr A' q c' (all (ls.take m))∧Below W1.heap.size W1 wr) (fun _ i _=>n -(intOf i).toNat)
 case atStart=>exact⟨0,none,0,0,by omega,rfl,fun j hj=>absurd hj (by omega),rfl,Sl.none_ _,Below.refl _ _⟩
 case round=>
  obtain⟨m,A',c',q,hm,rfl,hput,rfl,hsl,hb⟩:=hrel;have S:=zh hsl;have B:=zh hb;have P:=zh hput;have BW:=zh (HB1.out.trans (hb.mono HB1.out.size));have hq:q≤1006*m:=by rw[hsl.len];exact Jn.all_len (by rw[←HN.out];exact hm) hput
  clear hsl hb hput;by_cases hlt:m<n
  ·have hml:m<ls.length:=by rw[←HN.out];exact hlt
   obtain⟨b,o,rfl,hbb,hc⟩:=H.out.rd (by omega);obtain⟨A2,n2,c2,hcell,hs2⟩:=hc m hml;have c0:=(BW.out.cell (p:=⟨b,o+m,none⟩) hbb).trans hcell;have hp9:n2≤900000000:=by rw[hs2.len,jag hml];exact HPL.out _ (List.getElem_mem hml)
   have C2:=zh (jpi q c' n2 c2 A' A2 (all (ls.take m)) (ls.getD m []) wr S.out (hs2.on BW.out) (by omega) hp9);have SN:=zh (all_take_snoc hml);have D3:=zh (jae HD1.out B.out);have E3:=zh (jae HE1.out B.out);have PM:=zh (fun he=>Jn.bad_at P.out hml he);clear hc hcell hs2 hq hp9;unfold jdr at C2;generalize all (ls.take m)=x at*;by_cases he:putE (ls.getD m [])=0
   ·have HE:=zh he
    have hpo:=Jn.put_ok he;have hL:putL x (ls.getD m [])=x++fr (ls.getD m []):=(jf4 hpo.1 hpo.2).2;rw[hL,he]at C2;have i1:(0:Int)≤(m:Int):=by omega
    have i2:(m:Int)<(n:Int):=by omega
    obtain⟨y,hy⟩:∃y,y=(x++fr (ls.getD m [])).length:=⟨_,rfl⟩;rw[←hy]at C2;clear he hpo hL hy;go_wp2_with fail
    (with_reducible refine C2.out.mono ?_)
    rintro e w4 ⟨A4,c4,rfl,hs4,_,hb4⟩;have S4:=zh hs4;have B4:=zh (B.out.trans (hb4.mono B.out.size));clear hs4 hb4;go_wp2_with fail;go_roundw
    case rel=>exact⟨m+1,A4,c4,y,by omega,by go_num,(fun j hj=>by rcases Nat.lt_or_ge j m with h|h;exact P.out j h;rw[show j=m from by omega];exact HE.out),rfl,by rw[SN.out];exact S4.out,B4.out⟩
    case measure=>simp[intOf];omega
   ·have HBD:=zh (PM.out he)
    have hne:(((putE (ls.getD m []):Nat):Int) !=0)=true:=by rw[bne_iff_ne];omega
    have HX:Hid (Jn.swap d ls=d∧Jn.swapE d ls=(putE (ls.getD m []):Nat)):=by
     show _∧_;unfold Jn.swap Jn.swapE;rw[HBD.out,if_pos he,if_pos he];exact⟨rfl,rfl⟩
    have i1:(0:Int)≤(m:Int):=by omega
    have i2:(m:Int)<(n:Int):=by omega
    obtain⟨y,hy⟩:∃y,y=(putL x (ls.getD m [])).length:=⟨_,rfl⟩;rw[←hy]at C2;clear he hy HBD;generalize putE (ls.getD m [])=z at*;go_wp2_with fail
    (with_reducible refine C2.out.mono ?_)
    rintro e w4 ⟨A4,c4,rfl,_,_,hb4⟩;have B4:=zh (BW.out.trans (hb4.mono BW.out.size));have E4:=zh (jae E3.out hb4);obtain⟨f0,f1,f2,_,_,_⟩:=jde (jae D3.out hb4);obtain⟨r0,r1,r2,r3,r4,r5⟩:=jde E4.out;have E7:=zh (jf1 E4.out (.int .i64 (d.room:Nat)) (.string (tA d)) (.string (tB d)));obtain⟨t0,t1,t2⟩:=jhi E7.out;have B7:=zh (B4.out.grown (jev _ g1 (.int .i64 (d.room:Nat)) (.string (tA d)) (.string (tB d))) B4.out.size (fun i hi=>by injection hi with hi;rw[←hi];exact GW.out))
    clear hb4;go_wp2_with fail;exact bodyPost_ret (v:= .tuple #[.agg #[.int .i64 (d.room:Nat),.string (tA d),.string (tB d)],.int .i64 (z:Nat)]) (by simp[results,Tryz.results53,go_sem,t0,t1,t2]) rfl ⟨by rw[HX.out.1,HX.out.2],B7.out⟩
  ·obtain rfl:m=n:=by omega
   have HT:Hid (ls.take m=ls):=by show _=_;rw[HN.out,List.take_length]
   have h0:=Jn.bad_none (fun j hj=>P.out j (by rw[HN.out];exact hj));have HX:Hid (Jn.swap d ls=Dk.swap d (all ls)∧Jn.swapE d ls=Dk.swapE d (all ls)):=by
    show _∧_;unfold Jn.swap Jn.swapE;rw[h0,if_neg (by omega),if_neg (by omega)];exact⟨rfl,rfl⟩
   rw[HT.out]at S;have CW:=zh (fun W=>qSwap (d:=d) (all ls) W);obtain⟨d',hd'⟩:∃d',d'=Dk.swap d (all ls):=⟨_,rfl⟩;obtain⟨E,hE⟩:∃E,E=Dk.swapE d (all ls):=⟨_,rfl⟩;rw[←hd',←hE]at CW;have HD':=zh hd';have HE':=zh hE;have hcv:=ja8 (c:=c') S.out.rd S.out.len;have E4:=zh (jae HE1.out B.out);obtain⟨f0,f1,f2,_,_,_⟩:=jde (jae HD1.out B.out);clear hd' hE h0 hq HT;generalize all ls=f at*;go_wp2_with fail
   (with_reducible refine(CW.out _).mono ?_)
   rintro e w5 ⟨rfl,hb5⟩;have B5:=zh (BW.out.trans (hb5.mono BW.out.size));have E5:=zh (jae E4.out hb5);obtain⟨r0,r1,r2,r3,r4,r5⟩:=jde E5.out;have E7:=zh (jf1 E5.out (.int .i64 (d'.room:Nat)) (.string (tA d')) (.string (tB d')));obtain⟨t0,t1,t2⟩:=jhi E7.out;have B7:=zh (B5.out.grown (jev _ g1 (.int .i64 (d'.room:Nat)) (.string (tA d')) (.string (tB d'))) B5.out.size (fun i hi=>by injection hi with hi;rw[←hi];exact GW.out))
   clear hb5 f0 f1 f2 hcv;go_wp2_with fail;exact bodyPost_ret (v:= .tuple #[.agg #[.int .i64 (d'.room:Nat),.string (tA d'),.string (tB d')],.int .i64 E]) (by simp[results,Tryz.results53,go_sem,t0,t1,t2]) rfl ⟨by rw[HX.out.1,HX.out.2,←HD'.out,←HE'.out],B7.out⟩
end Go.Proofs.YtabandbigckfkaaGreatDoor
namespace Go.Proofs.YtabandbigckfkaaGreatDoor
open Go.RowKit
namespace Jn
open Fr
def Js(R k:Nat)(ps:List (List Nat)):Dk.St:=⟨R,(all (ps.take k)).length,all ps⟩
theorem putE_ok{p:List Nat}(h:ok p):putE p=0:=by unfold putE;rw[if_neg (by have:=h.1;omega),if_neg (by have:=h.2.1;omega)]
theorem all_front(ps:List (List Nat))(k:Nat):(all ps).take (all (ps.take k)).length=all (ps.take k):=by
 conv=>lhs;rw[←List.take_append_drop k ps,all_append]
 rw[List.take_append_drop,List.take_left'];rfl
section
variable{R k:Nat}{ps:List (List Nat)}(h:∀p∈ps,ok p)(hk:k≤ps.length)
include h
theorem js_ents:ents (Js R k ps)=ps:=by unfold ents Js;rw[scan_whole h]
theorem js_byt:Byt (Js R k ps):=all_byte h
include hk in
theorem js_safe:safeN (Js R k ps)=k:=by
 unfold safeN Js;show(scan ((all ps).take (all (ps.take k)).length)).1.length=k;rw[all_front,scan_whole (fun p hp=>h p (List.mem_of_mem_take hp)),List.length_take];omega
omit h in
include hk in
theorem js_app{p:List Nat}(hp:ok p)(hr:(all ps).length+(p.length+6)≤R):app (Js R k ps) p=Js R k (ps++[p])∧appE (Js R k ps) p=0:=by
 have hg:Dk.goes (Js R k ps) (fr p):=by unfold Dk.goes Js;rw[fr_length];exact hr
 unfold app appE;rw[if_neg (by rw[putE_ok hp];decide),if_neg (by rw[putE_ok hp];decide)];unfold Dk.write Dk.writeE;rw[if_pos hg,if_pos hg];refine⟨?_,rfl⟩;unfold Js;rw[List.take_append_of_le_length hk,all_append,all_one]
omit h in
theorem js_sync:Dk.sync (Js R k ps)=Js R ps.length ps:=by unfold Dk.sync Js;rw[List.take_length]
omit h in
theorem js_swap{qs:List (List Nat)}(hq:∀p∈qs,ok p)(hr:(all qs).length≤R):swap (Js R k ps) qs=Js R qs.length qs∧swapE (Js R k ps) qs=0:=by
 have hb:bad qs=0:=bad_none fun j hj=>by
  rw[List.getD_eq_getElem?_getD,List.getElem?_eq_getElem hj];exact putE_ok (hq _ (List.getElem_mem hj))
 unfold swap swapE;rw[if_neg (by omega),if_neg (by omega)];unfold Dk.swap Dk.swapE;rw[if_pos (show(all qs).length≤(Js R k ps).room from hr),if_pos (show(all qs).length≤(Js R k ps).room from hr)];refine⟨?_,rfl⟩;unfold Js;rw[List.take_length]
include hk in
theorem js_torn{p:List Nat}(hp:ok p)(hr:(all ps).length+(p.length+6)≤R)(keep:Int):
  torn (Js R k ps) p keep=(if(p.length+6:Nat)≤keep then Js R (ps.length+1) (ps++[p])else Js R ps.length ps)∧tornE (Js R k ps) p=13:=by
 have he:=(js_app (k:=k) hk hp hr).2;unfold torn tornE;have hne:¬appE (Js R k ps) p≠0:=fun hx=>hx he;rw[if_neg hne,if_neg hne];refine⟨?_,rfl⟩;have hm:keptN p keep≤p.length+6:=by unfold keptN;rw[fr_length];omega
 have hg:Dk.goes (Js R k ps) ((fr p).take (keptN p keep)):=by
  unfold Dk.goes Js;rw[List.length_take,fr_length];show(all ps).length+_≤R;omega
 have hl:Dk.sync (Dk.write (Js R k ps) ((fr p).take (keptN p keep)))=⟨R,((all ps)++(fr p).take (keptN p keep)).length,(all ps)++(fr p).take (keptN p keep)⟩:=by
  unfold Dk.write;rw[if_pos hg];rfl
 rw[hl];unfold opened cutN Dk.leave;show(⟨R,(scan (all ps++(fr p).take (keptN p keep))).2.1,(all ps++(fr p).take (keptN p keep)).take (scan (all ps++(fr p).take (keptN p keep))).2.1⟩:Dk.St)=_;rw[scan_all h];by_cases hc:((p.length+6:Nat):Int)≤keep
 ·rw[if_pos hc]
  have e1:keptN p keep=p.length+6:=by unfold keptN;rw[fr_length];omega
  have e2:(fr p).take (keptN p keep)=fr p:=by rw[e1];exact List.take_of_length_le (by rw[fr_length];omega)
  have e3:scan (fr p)=([p],p.length+6,0):=by have:=scan_whole (ps:=[p]) (by simpa using hp);rw[all_one]at this;rw[this,fr_length]
  rw[e2,e3];unfold Js;have e4:(ps++[p]).take (ps.length+1)=ps++[p]:=List.take_of_length_le (by simp);rw[e4,all_append,all_one];show(⟨R,(all ps).length+(p.length+6),(all ps++fr p).take ((all ps).length+(p.length+6))⟩:Dk.St)=_;rw[List.take_of_length_le (by rw[List.length_append,fr_length];omega),List.length_append,fr_length]
 ·rw[if_neg hc]
  have e1:keptN p keep<p.length+6:=by unfold keptN;rw[fr_length];omega
  rw[scan_cut hp e1];unfold Js;show(⟨R,(all ps).length+0,(all ps++(fr p).take (keptN p keep)).take ((all ps).length+0)⟩:Dk.St)=_;rw[Nat.add_zero,List.take_left',List.take_length];rfl
end
end Jn
end Go.Proofs.YtabandbigckfkaaGreatDoor
namespace Go.Proofs.YtabandbigckfkaaGreatDoor.Cdc
def digs(n:Nat):List Nat:=if n<128 then[n]else(n%128+128)::digs (n/128)
termination_by n
decreasing_by omega
theorem digs_lt{n:Nat}(h:n<128):digs n=[n]:=by rw[digs,if_pos h]
theorem digs_ge{n:Nat}(h:128≤n):digs n=(n%128+128)::digs (n/128):=by rw[digs,if_neg (by omega)]
theorem digs_ind{p:Nat→Prop}(a:∀n,n<128→p n)(b:∀n,128≤n→p (n/128)→p n)(n:Nat):p n:=by
 induction n using Nat.strongRecOn with
 |_ n ih=>
  by_cases h:n<128
  ·exact a n h
  ·exact b n (by omega) (ih _ (by omega))
theorem digs_byte(n:Nat):∀x∈digs n,x<256:=by
 refine digs_ind (p:=fun n=>∀x∈digs n,x<256) ?_ ?_ n
 ·intro n h x hx;rw[digs_lt h]at hx;simp at hx;omega
 ·intro n h ih x hx
  rw[digs_ge h]at hx;rcases List.mem_cons.1 hx with rfl|hx
  ·omega
  ·exact ih x hx
theorem digs_pos(n:Nat):1≤(digs n).length:=by
 rw[digs];split<;>simp
theorem digs_le{n k:Nat}(hk:1≤k)(h:n<128^k):(digs n).length≤k:=by
 induction k generalizing n with
 |zero=>omega
 |succ k ih=>
  by_cases hn:n<128
  ·rw[digs_lt hn];simp
  ·rw[digs_ge (by omega),List.length_cons]
   have:n/128<128^k:=by rw[Nat.pow_succ]at h;omega
   rcases k with _|k
   ·simp at this;omega
   ·have:=ih (by omega) this;omega
theorem digs_nine{n:Nat}(h:n<9223372036854775808):(digs n).length≤9:=digs_le (by omega) (by rw[show(128:Nat)^9=9223372036854775808 from by decide];exact h)
def val:List Nat→Nat
 |[]=>0
 |x::l=>x%128+128*val l
theorem val_digs(n:Nat):val (digs n)=n:=by
 refine digs_ind (p:=fun n=>val (digs n)=n) ?_ ?_ n
 ·intro n h;rw[digs_lt h];simp only[val];omega
 ·intro n h ih;rw[digs_ge h];simp only[val,ih];omega
theorem val_lt(l:List Nat):val l<128^l.length:=by
 induction l with
 |nil=>simp[val]
 |cons x l ih=>rw[val,List.length_cons,Nat.pow_succ];omega
theorem val_snoc(l:List Nat)(x:Nat):val (l++[x])=val l+x%128*128^l.length:=by
 induction l with
 |nil=>simp[val]
 |cons y l ih=>
  have e:x%128*(128^l.length*128)=128*(x%128*128^l.length):=by rw[←Nat.mul_assoc,Nat.mul_comm]
  rw[List.cons_append,val,ih,val,List.length_cons,Nat.pow_succ,e,Nat.mul_add];omega
def run:List Nat→Nat
 |[]=>0
 |x::l=>if 128≤x then run l+1 else 0
theorem run_of{l:List Nat}{k:Nat}(h:∀j,j<k→128≤l.getD j 0)(hk:k<l.length)(hl:l.getD k 0<128):run l=k:=by
 induction l generalizing k with
 |nil=>simp at hk
 |cons x l ih=>
  rcases k with _|k
  ·simp at hl;rw[run,if_neg (by omega)]
  ·have h0:=h 0 (by omega)
   simp at h0;rw[run,if_pos h0,ih (k:=k) (fun j hj=>by have:=h (j+1) (by omega);simpa using this) (by simpa using hk) (by simpa using hl)]
theorem run_ge{l:List Nat}{k:Nat}(h:∀j,j<k→128≤l.getD j 0):k≤run l:=by
 induction l generalizing k with
 |nil=>
  rcases k with _|k
  ·omega
  ·have:=h 0 (by omega);simp at this
 |cons x l ih=>
  rcases k with _|k
  ·omega
  ·have h0:=h 0 (by omega)
   simp at h0;rw[run,if_pos h0];have:=ih (k:=k) (fun j hj=>by have:=h (j+1) (by omega);simpa using this);omega
def isNum(l:List Nat):Bool:=decide (run l<l.length)&&decide (run l<9)&&decide ((digs (val (l.take (run l+1)))).length=run l+1)&&decide (val (l.take (run l+1))<4611686018427387904)
def dk(l:List Nat):Nat:=if isNum l then run l+1 else 0
def dn(l:List Nat):Nat:=if isNum l then val (l.take (run l+1))else 0
theorem dk_le(l:List Nat):dk l≤l.length:=by
 unfold dk;split
 ·rename_i h;simp[isNum]at h;omega
 ·omega
theorem dn_lt(l:List Nat):dn l<4611686018427387904:=by
 unfold dn;split
 ·rename_i h;simp[isNum]at h;omega
 ·omega
theorem dn_none{l:List Nat}(h:dk l=0):dn l=0:=by
 unfold dk at h;unfold dn;split
 ·rename_i h1;rw[if_pos h1]at h;omega
 ·rfl
theorem digs_val(l:List Nat)(hb:∀x∈l,x<256)(hr:run l<l.length):(digs (val (l.take (run l+1)))).length≤run l+1∧((digs (val (l.take (run l+1)))).length=run l+1→digs (val (l.take (run l+1)))=l.take (run l+1)):=by
 induction l with
 |nil=>simp[run]at hr
 |cons x l ih=>
  rw[run]at hr⊢;have hx:=hb x (by simp);by_cases h:128≤x
  ·rw[if_pos h]at hr⊢
   rw[List.take_succ_cons,val];have ih:=ih (fun y hy=>hb y (by simp[hy])) (by simpa using hr);generalize l.take (run l+1)=q at*;by_cases hq:val q=0
   ·rw[hq,digs_lt (by omega)]
    refine⟨by simp,fun h=>by simp at h⟩
   ·rw[digs_ge (by omega),show(x%128+128*val q)/128=val q by omega,show(x%128+128*val q)%128+128=x by omega]
    refine⟨by simp;omega,fun h=>by rw[ih.2 (by simp at h;omega)]⟩
  ·rw[if_neg h]
   rw[List.take_succ_cons,List.take_zero,val,val];rw[digs_lt (by omega)];refine⟨by simp,fun _=>by rw[show x%128+128*0=x by omega]⟩
theorem run_digs(n:Nat)(r:List Nat):run (digs n++r)+1=(digs n).length:=by
 refine digs_ind (p:=fun n=>run (digs n++r)+1=(digs n).length) ?_ ?_ n
 ·intro n h;rw[digs_lt h,List.cons_append,run,if_neg (by omega)];simp
 ·intro n h ih;rw[digs_ge h,List.cons_append,run,if_pos (by omega),List.length_cons,ih]
theorem isNum_digs{n:Nat}(h:n<4611686018427387904)(r:List Nat):isNum (digs n++r)=true:=by
 have h1:=run_digs n r;have h2:(digs n++r).take (run (digs n++r)+1)=digs n:=by rw[h1];exact List.take_left
 have h3:=digs_nine (n:=n) (by omega);simp only[isNum,h2,val_digs,Bool.and_eq_true,decide_eq_true_eq,List.length_append];omega
theorem dk_digs{n:Nat}(h:n<4611686018427387904)(r:List Nat):dk (digs n++r)=(digs n).length:=by
 unfold dk;rw[if_pos (isNum_digs h r),run_digs]
theorem dn_digs{n:Nat}(h:n<4611686018427387904)(r:List Nat):dn (digs n++r)=n:=by
 unfold dn;rw[if_pos (isNum_digs h r),run_digs,List.take_left,val_digs]
theorem digs_dn{l:List Nat}(hb:∀x∈l,x<256)(h:dk l≠0):digs (dn l)=l.take (dk l):=by
 unfold dk dn at*;by_cases h1:isNum l=true
 ·rw[if_pos h1,if_pos h1]
  simp only[isNum,Bool.and_eq_true,decide_eq_true_eq]at h1;exact(digs_val l hb (by omega)).2 (by omega)
 ·rw[if_neg h1]at h;omega
structure St where
 l:List Nat
 e:Int
def lost:St:=⟨[],2⟩
def num(s:St):St:=if s.e=0 then(if dk s.l=0 then lost else⟨s.l.drop (dk s.l),0⟩)else s
def numV(s:St):Nat:=if s.e=0 then dn s.l else 0
def cnt(s:St):St:=if numV s≤64 then num s else lost
def cntV(s:St):Nat:=if numV s≤64 then numV s else 0
def tk(s:St)(n:Nat):St:=if s.e=0 then(if n≤s.l.length then⟨s.l.drop n,0⟩else lost)else s
def tkV(s:St)(n:Nat):List Nat:=if s.e=0 then(if n≤s.l.length then s.l.take n else[])else[]
def text(s:St):St:=tk (cnt s) (cntV s)
def textV(s:St):List Nat:=tkV (cnt s) (cntV s)
def numsAt(s:St):Nat→St
 |0=>s
 |k+1=>num (numsAt s k)
def numsV(s:St):Nat→List Nat
 |0=>[]
 |k+1=>numsV s k++[numV (numsAt s k)]
def list(s:St):St:=numsAt (cnt s) (cntV s)
def listV(s:St):List Nat:=if(list s).e=0 then numsV (cnt s) (cntV s)else[]
def endE(s:St):Int:=if 0<s.l.length then 2 else s.e
structure Okay(s:St):Prop where
 byte:∀x∈s.l,x<256
 none_:s.e≠0→s.l=[]
theorem okay_lost:Okay lost:=⟨by simp[lost],fun _=>rfl⟩
theorem Okay.drop{s:St}(h:Okay s)(n:Nat):Okay ⟨s.l.drop n,0⟩:=⟨fun x hx=>h.byte x (List.mem_of_mem_drop hx),fun h=>absurd rfl h⟩
theorem Okay.num{s:St}(h:Okay s):Okay (num s):=by
 unfold Cdc.num;split
 ·split
  ·exact okay_lost
  ·exact h.drop _
 ·exact h
theorem Okay.cnt{s:St}(h:Okay s):Okay (cnt s):=by
 unfold Cdc.cnt;split
 ·exact h.num
 ·exact okay_lost
theorem Okay.tk{s:St}(h:Okay s)(n:Nat):Okay (tk s n):=by
 unfold Cdc.tk;split
 ·split
  ·exact h.drop _
  ·exact okay_lost
 ·exact h
theorem Okay.numsAt{s:St}(h:Okay s)(k:Nat):Okay (numsAt s k):=by
 induction k with
 |zero=>exact h
 |succ k ih=>exact ih.num
theorem numV_lt(s:St):numV s<4611686018427387904:=by
 unfold numV;split
 ·exact dn_lt _
 ·omega
theorem cntV_le(s:St):cntV s≤64:=by unfold cntV;split<;>omega
theorem num_err{s:St}(h:s.e≠0):num s=s:=by unfold num;rw[if_neg h]
theorem numV_err{s:St}(h:s.e≠0):numV s=0:=by unfold numV;rw[if_neg h]
theorem numsAt_err{s:St}{i:Nat}(h:(numsAt s i).e≠0)(j:Nat):numsAt s (i+j)=numsAt s i:=by
 induction j with
 |zero=>rfl
 |succ j ih=>rw[←Nat.add_assoc,numsAt,ih,num_err h]
theorem numsV_length(s:St)(k:Nat):(numsV s k).length=k:=by
 induction k with
 |zero=>rfl
 |succ k ih=>simp[numsV,ih]
theorem num_digs{n:Nat}(h:n<4611686018427387904)(r:List Nat):num ⟨digs n++r,0⟩=⟨r,0⟩∧numV ⟨digs n++r,0⟩=n:=by
 unfold num numV;simp only[if_pos,dn_digs h,dk_digs h,and_true];rw[if_neg (by have:=digs_pos n;omega),List.drop_left]
theorem numsAt_all(ns:List Nat)(h:∀n∈ns,n<4611686018427387904)(r:List Nat)(k:Nat)(hk:k≤ns.length):numsAt ⟨(ns.flatMap digs)++r,0⟩ k=⟨((ns.drop k).flatMap digs)++r,0⟩∧numsV ⟨(ns.flatMap digs)++r,0⟩ k=ns.take k:=by
 induction k with
 |zero=>exact⟨by simp[numsAt],by simp[numsV]⟩
 |succ k ih=>
  obtain⟨h1,h2⟩:=ih (by omega);have hk':k<ns.length:=by omega
  have h3:=num_digs (h ns[k] (List.getElem_mem hk')) ((ns.drop (k+1)).flatMap digs++r);rw[numsAt,numsV,h1,h2,List.drop_eq_getElem_cons hk',List.flatMap_cons,List.append_assoc,h3.1,h3.2];exact⟨rfl,by rw[List.take_succ_eq_append_getElem hk']⟩
end Go.Proofs.YtabandbigckfkaaGreatDoor.Cdc
namespace Go.Proofs.YtabandbigckfkaaGreatDoor
open Go.RowKit Cdc
def sz(n:Int):Nat:=if 0≤n∧n<4611686018427387904 then(digs n.toNat).length else 0
theorem js0{n:Int}(h:n<0∨4611686018427387903<n):sz n=0:=by unfold sz;rw[if_neg (by omega)]
theorem jln{n:Nat}(h:n<4611686018427387904):sz (n:Int)=(digs n).length:=by
 unfold sz;rw[if_pos (by omega),Int.toNat_natCast]
theorem jlo(n:Nat)(w:World)(h:n<4611686018427387904):
  Calls Tryz.prog 236 #[.int .i64 n] w fun e w'=>e= .returned (.int .i64 ((digs n).length:Nat))∧w=w':=by
 have h9:=digs_nine (n:=n) (by omega);have hb:(n:Int)≤4611686018427387903:=by omega
 have HN:=zh h;clear h;go_enter Tryz.func236,Tryz.ntmps236;go_wp2_with fail;clear hb;go_loop [0,3] (fun a s=>∃m k:Nat,a= .int .i64 m∧s= .int .i64 k∧k+(digs m).length=(digs n).length+1∧1≤k∧m<4611686018427387904) (fun a _=>(intOf a).toNat)
 case atStart=>exact⟨n,1,rfl,rfl,by omega,by omega,HN.out⟩
 case round=>
  obtain⟨m,k,rfl,rfl,hk,hk1,hm⟩:=hrel;have HM:=zh hm;have hm2:(m:Int)≤4611686018427387903:=by omega
  clear hm;have hp:=digs_pos m;by_cases hlt:128≤m
  ·have hq:Hid (k+1+(digs (m/128)).length=(digs n).length+1):=by
    show _=_;rw[digs_ge hlt,List.length_cons]at hk;omega
   have hk9:k≤9:=by omega
   clear hk;go_wp2_with fail;go_round
   case rel=>exact⟨m/128,k+1,rfl,by go_num,hq.out,by omega,by have:=HM.out;omega⟩
   case measure=>simp[intOf];omega
  ·have hq:Hid (k=(digs n).length):=by
    show _=_;rw[digs_lt (by omega)]at hk;simp at hk;omega
   clear hk;go_wp2_with fail;go_ret;exact⟨jbh (by rw[hq.out]),rfl⟩
theorem jei(n:Int)(w:World):
  Calls Tryz.prog 236 #[.int .i64 n] w fun e w'=>e= .returned (.int .i64 (sz n:Nat))∧w=w':=by
 by_cases h0:n<0
 ·rw[js0 (.inl h0)]
  go_enter Tryz.func236,Tryz.ntmps236;go_wp2_with fail;go_ret;exact⟨rfl,rfl⟩
 ·by_cases h1:4611686018427387903<n
  ·rw[js0 (.inr h1)]
   have h0':0≤n:=by omega
   go_enter Tryz.func236,Tryz.ntmps236;go_wp2_with fail;go_ret;exact⟨rfl,rfl⟩
  ·obtain⟨m,rfl⟩:∃m:Nat,n=(m:Int):=⟨n.toNat,by omega⟩
   rw[jln (by omega)];exact jlo m w (by omega)
def jhn(B:Nat)(l:List Nat)(w:World)(e:Ending)(w':World):Prop:=∃v,e= .returned v∧OwnB w' B v l∧Below B w w'
theorem jbz(n c more:Nat)(A:Option Addr)(l:List Nat)(w:World)(hs:Sl w A n c l)(hl:n≤1000000)(hm:more≤1000):
  Calls Tryz.prog 188 #[.slice A n c,.int .i64 more] w (jhn w.heap.size l w):=by
 obtain⟨i0,hi0,hz0,hz1,hz2⟩:=info_parts jbu;have HS:=zh hs;clear hs;have I0:=zh hi0;clear hi0;have I1:=zh hz0;clear hz0;have I2:=zh hz1;clear hz1;have I3:=zh hz2;clear hz2;go_enter Tryz.func188,Tryz.ntmps188
 go_wp2_with(first
  |(at_make;refine wpList_make_own _ rfl _ _ 58 rfl w.heap.size 5 i0 (.int .u8 0) 1 Tryz.underlying58 I0.out I1.out I2.out _ _ _ (n+more) rfl rfl (by omega) (by rw[I3.out];omega) (by unfold maxLen;omega) (Nat.le_refl _) ?_;intro w1 hown1 hg1;have O1:=zh hown1;have G1:=zh hg1;clear hown1 hg1)
  |(at_builtin;refine jam rfl (.tmp 9) (.tmp 10) _ rfl w.heap.size 5 i0 _ Tryz.underlying58 I0.out I1.out I2.out I3.out rfl (.slice (some ⟨w.heap.size,0,none⟩) 0 (n+more)) 0 [] rfl O1.out w1.heap.size n c A l rfl (HS.out.rd.on ((Below.refl _ _).grown G1.out (Nat.le_refl _) (by simp))) HS.out.len HS.out.nil (by omega) G1.out.size ?_;intro v2 w2 hown2 hg2;have O2:=zh hown2;have G2:=zh hg2;clear hown2 hg2))
 go_ret;have B1:=(Below.refl w.heap.size w).grown G1.out (Nat.le_refl _) (by simp);have hO:=O2.out;rw[Nat.zero_add,List.nil_append,HS.out.len]at hO;exact⟨v2,rfl,⟨hO,HS.out.rd.1⟩,B1.grown G2.out B1.size (by simp[Value.ownBlock])⟩
theorem jlp{l l':List Nat}{n m:Nat}(h:l'++digs m=l++digs n)(hm:128≤m):(l'++[m%128+128])++digs (m/128)=l++digs n:=by
 rw[←h,digs_ge hm,List.append_assoc];rfl
theorem jlq{l l':List Nat}{n m:Nat}(h:l'++digs m=l++digs n)(hm:m<128):l'++[m]=l++digs n:=by rw[←h,digs_lt hm]
theorem jho(B n:Nat)(v:Value)(l:List Nat)(w:World)(ho:OwnB w B v l)(hB:B≤w.heap.size)(hl:l.length≤2000000)(hn:n<4611686018427387904):
  Calls Tryz.prog 237 #[v,.int .i64 n] w (jhn B (l++digs n) w):=by
 have HO:=zh ho;clear ho;have h9:=digs_nine (n:=n) (by omega);have HL:Hid ((l++digs n).length≤2000009):=by show _≤_;rw[List.length_append];omega
 have HN:=zh hn;clear hn;have HB:=zh hB;clear hB;have HH:Hid (∀x∈l++digs n,x<256):=fun x hx=>(List.mem_append.1 hx).elim (HO.out.2 x) (digs_byte n x);go_enter Tryz.func237,Tryz.ntmps237;go_wp2_with fail;go_loopw [0,1] (fun v a wr=>∃(m:Nat) (l':List Nat),a= .int .i64 m∧(m:Int)≤4611686018427387903∧OwnB wr B v l'∧l'++digs m=l++digs n∧Below B w wr) (fun _ a _=>(intOf a).toNat)
 case atStart=>exact⟨n,l,rfl,by have:=HN.out;omega,HO.out,rfl,Below.refl _ _⟩
 case round=>
  obtain⟨m,l',rfl,hm,hO,hfull,hb⟩:=hrel;clear HO;have O:=zh hO;clear hO;have BB:=zh hb;clear hb;have FF:=zh hfull;clear hfull;have hlen:l'.length≤2000009:=by have h1:=HL.out;have h2:=FF.out;rw[←h2,List.length_append]at h1;omega
  by_cases hlt:128≤m
  ·go_wp2_with(at_builtin;refine ja9 rfl (.tmp 7) (.tmp 12) rfl B _ l' rfl O.out _ (m%128+128) (by omega) (by omega) rfl (by omega) (Nat.le_trans HB.out BB.out.size) ?_;intro v1 w1 ho1 hb1;have O1:=zh ho1;have B1:=zh (BB.out.trans hb1);clear ho1 hb1)
   go_roundw
   case rel=>exact⟨m/128,_,by go_num,by omega,O1.out,jlp FF.out hlt,B1.out⟩
   case measure=>simp[intOf];omega
  ·go_wp2_with(at_builtin;refine ja9 rfl (.tmp 16) (.tmp 19) rfl B _ l' rfl O.out _ m (by omega) (by omega) rfl (by omega) (Nat.le_trans HB.out BB.out.size) ?_;intro v1 w1 ho1 hb1;have O1:=zh ho1;have B1:=zh (BB.out.trans hb1);clear ho1 hb1)
   go_ret;exact⟨v1,rfl,by rw[←jlq FF.out (by omega)];exact O1.out,B1.out⟩
def jgq(l:List Nat)(err:Int)(w:World)(e:Ending)(w':World):Prop:=
 ∃A c,e= .returned (.tuple #[.slice A l.length c,.int .i64 err])∧Sl w' A l.length c l∧Below w.heap.size w w'∧∀a,A=some a→w.heap.size≤a.block
theorem js1(s:ByteArray):Lib.strCells s=vals (sb s):=by
 simp[Lib.strCells,vals,sb]
theorem jm2(n c m:Nat)(A:Option Addr)(l:List Nat)(w:World)(hs:Sl w A n c l)(hl:n≤1000000)(hm:m<4611686018427387904):
  Calls Tryz.prog 174 #[.slice A n c,.int .i64 m] w (jgq (l++digs m) 0 w):=by
 have hne:(((digs m).length:Int)==0)=false:=by have:=digs_pos m;rw[beq_eq_false_iff_ne];omega
 have HS:=zh hs;clear hs;have HM:=zh hm;clear hm;go_enter Tryz.func174,Tryz.ntmps174;go_wp2_with fail;refine(jlo m w HM.out).mono ?_;rintro e w1 ⟨rfl,rfl⟩;go_wp2_with fail;refine(jbz n c 9 A l w HS.out hl (by omega)).mono ?_;rintro e w1 ⟨v,rfl,ho,hb⟩;have O:=zh ho;clear ho;have B:=zh hb;clear hb;go_wp2_with fail;refine(jho w.heap.size m v l w1 O.out B.out.size (by rw[←HS.out.len];omega) HM.out).mono ?_;rintro e w2 ⟨v2,rfl,ho,hb⟩;have O2:=zh ho;clear ho;have B2:=zh hb;clear hb;obtain⟨A2,c2,hv,h2⟩:=O2.out.sl;have HV:=zh hv;clear hv;have H2:=zh h2;clear h2;go_wp2_with fail;go_ret2;rw[HV.out];exact⟨A2,c2,rfl,H2.out,B.out.trans B2.out,OwnB.far O2.out HV.out⟩
theorem jpn(n c:Nat)(m:Int)(A:Option Addr)(l:List Nat)(w:World)(hs:Sl w A n c l)(hl:n≤1000000)(hm:sz m=0):
  Calls Tryz.prog 174 #[.slice A n c,.int .i64 m] w (jgq l 1 w):=by
 have HS:=zh hs;clear hs;have HM:=zh hm;clear hm;go_enter Tryz.func174,Tryz.ntmps174;go_wp2_with fail;refine(jei m w).mono ?_;rintro e w1 ⟨rfl,rfl⟩;rw[HM.out];go_wp2_with fail;refine(jbz n c 0 A l w HS.out hl (by omega)).mono ?_;rintro e w1 ⟨v,rfl,ho,hb⟩;have O:=zh ho;clear ho;have B:=zh hb;clear hb;obtain⟨A2,c2,hv,h2⟩:=O.out.sl;have HV:=zh hv;clear hv;have H2:=zh h2;clear h2;go_wp2_with fail;go_ret2;rw[HV.out];exact⟨A2,c2,rfl,H2.out,B.out,OwnB.far O.out HV.out⟩
def numL(l:List Nat)(n:Int):List Nat:=if sz n=0 then l else l++digs n.toNat
def numE(n:Int):Int:=if sz n=0 then 1 else 0
theorem jg3{n:Int}(h:sz n≠0):∃m:Nat,n=(m:Int)∧m<4611686018427387904:=by
 unfold sz at h;split at h
 ·exact⟨n.toNat,by omega,by omega⟩
 ·omega
theorem jm3(n c:Nat)(m:Int)(A:Option Addr)(l:List Nat)(w:World)(hs:Sl w A n c l)(hl:n≤1000000):
  Calls Tryz.prog 174 #[.slice A n c,.int .i64 m] w (jgq (numL l m) (numE m) w):=by
 unfold numL numE;by_cases h:sz m=0
 ·rw[if_pos h,if_pos h];exact jpn n c m A l w hs hl h
 ·rw[if_neg h,if_neg h]
  obtain⟨k,rfl,hk⟩:=jg3 h;exact jm2 n c k A l w hs hl hk
theorem OwnB.text{w:World}{B n:Nat}{v:Value}{l:List Nat}{s:ByteArray}(h:w.ownsRow B 5 1 v (n+s.size) (vals l++Lib.strCells s))(hn:n=l.length)(hl:∀y∈l,y<256):OwnB w B v (l++sb s):=by
 subst hn;refine⟨?_,?_⟩
 ·rw[jbb,List.length_append,jbk,←js1];exact h
 ·intro y hy
  exact(List.mem_append.1 hy).elim (hl y) (jhb s y)
theorem js2(n c:Nat)(s:ByteArray)(A:Option Addr)(l:List Nat)(w:World)(hs:Sl w A n c l)(hl:n≤1000000)(hm:s.size≤64):
  Calls Tryz.prog 175 #[.slice A n c,.string s] w (jgq (l++digs s.size++sb s) 0 w):=by
 obtain⟨i0,hi0,hz0,hz1,hz2⟩:=info_parts jbu;have HS:=zh hs;clear hs;have I0:=zh hi0;clear hi0;have I1:=zh hz0;clear hz0;have I2:=zh hz1;clear hz1;have I3:=zh hz2;clear hz2;go_enter Tryz.func175,Tryz.ntmps175;go_wp2_with fail;refine(jbz n c (9+s.size) A l w HS.out hl (by omega)).mono ?_;rintro e w1 ⟨v,rfl,ho,hb⟩;have O:=zh ho;clear ho;have B:=zh hb;clear hb;go_wp2_with fail;refine(jho w.heap.size s.size v l w1 O.out B.out.size (by rw[←HS.out.len];omega) (by omega)).mono ?_;rintro e w2 ⟨v2,rfl,ho,hb⟩;have O2:=zh ho;clear ho;have B2:=zh (B.out.trans hb);clear hb;have hlen:(l++digs s.size).length≤1000010:=by have:=digs_nine (n:=s.size) (by omega);rw[List.length_append,←HS.out.len];omega
 go_wp2_with(at_builtin;refine Lib.wpList_append_own_string _ rfl (.tmp 18) (.tmp 19) 58 9 rfl w.heap.size 5 i0 Tryz.underlying58 Tryz.underlying9 I0.out I1.out I2.out I3.out v2 _ _ rfl O2.out.1 s rfl (by unfold maxLen;omega) (by omega) B2.out.size ?_;intro v3 w3 hown3 hg3 _;have O3:=zh hown3;have G3:=zh hg3;clear hown3 hg3);go_ret2;obtain⟨A2,c2,hv,h2⟩:=(OwnB.text O3.out rfl O2.out.2).sl;rw[hv];exact⟨A2,c2,rfl,h2,B2.out.grown G3.out B2.out.size (jap O2.out.1),OwnB.far (OwnB.text O3.out rfl O2.out.2) hv⟩
theorem text_no(n c:Nat)(s:ByteArray)(A:Option Addr)(l:List Nat)(w:World)(hs:Sl w A n c l)(hl:n≤1000000)(hm:64<s.size):
  Calls Tryz.prog 175 #[.slice A n c,.string s] w (jgq l 12 w):=by
 have HS:=zh hs;clear hs;go_enter Tryz.func175,Tryz.ntmps175;go_wp2_with fail;refine(jbz n c 0 A l w HS.out hl (by omega)).mono ?_;rintro e w1 ⟨v,rfl,ho,hb⟩;have O:=zh ho;clear ho;have B:=zh hb;clear hb;obtain⟨A2,c2,hv,h2⟩:=O.out.sl;have HV:=zh hv;clear hv;have H2:=zh h2;clear h2;go_wp2_with fail;go_ret2;rw[HV.out];exact⟨A2,c2,rfl,H2.out,B.out,OwnB.far O.out HV.out⟩
def jf6(l:List Nat)(s:ByteArray):List Nat:=if s.size≤64 then l++digs s.size++sb s else l
def jf7(s:ByteArray):Int:=if s.size≤64 then 0 else 12
theorem js3(n c:Nat)(s:ByteArray)(A:Option Addr)(l:List Nat)(w:World)(hs:Sl w A n c l)(hl:n≤1000000):
  Calls Tryz.prog 175 #[.slice A n c,.string s] w (jgq (jf6 l s) (jf7 s) w):=by
 unfold jf6 jf7;by_cases h:s.size≤64
 ·rw[if_pos h,if_pos h];exact js2 n c s A l w hs hl h
 ·rw[if_neg h,if_neg h];exact text_no n c s A l w hs hl (by omega)
def jb8(ns:List Int):Bool:=ns.all fun n=>decide (sz n≠0)
theorem jf8{ns:List Int}(h:∀j,j<ns.length→sz (ns.getD j 0)≠0):jb8 ns=true:=by
 unfold jb8;rw[List.all_eq_true];intro x hx;obtain⟨j,hj,rfl⟩:=List.mem_iff_getElem.1 hx;have:=h j hj;rw[jag hj]at this;exact decide_eq_true this
theorem jlr{ns:List Int}{j:Nat}(hj:j<ns.length)(h:sz (ns.getD j 0)=0):jb8 ns=false:=by
 unfold jb8;rw[List.all_eq_false];refine⟨ns[j],List.getElem_mem hj,?_⟩;rw[jag hj]at h;simp[h]
theorem jfe{ns:List Int}(h:jb8 ns=true){j:Nat}(hj:j<ns.length):∃m:Nat,ns.getD j 0=(m:Int)∧m<4611686018427387904:=by
 unfold jb8 at h;rw[List.all_eq_true]at h;have:=h ns[j] (List.getElem_mem hj);rw[jag hj];exact jg3 (by simpa using this)
def fl(ns:List Int):List Nat:=ns.flatMap fun n=>digs n.toNat
theorem jhp{ns:List Int}{j m:Nat}(hj:j<ns.length)(hm:ns.getD j 0=(m:Int)):fl (ns.take (j+1))=fl (ns.take j)++digs m:=by
 unfold fl;rw[List.take_succ_eq_append_getElem hj,List.flatMap_append,←jag (d:=0) hj,hm];simp
theorem jiw{ns:List Int}(h:jb8 ns=true)(k:Nat)(hk:k≤ns.length):(fl (ns.take k)).length≤9*k:=by
 induction k with
 |zero=>simp[fl]
 |succ k ih=>
  obtain⟨m,hm,hlt⟩:=jfe h (j:=k) (by omega);rw[jhp (by omega) hm,List.length_append];have:=ih (by omega);have:=digs_nine (n:=m) (by omega);omega
theorem jpo(n c:Nat)(A:Option Addr)(ns:List Int)(w:World)(hs:SlI w A n c ns)(hl:n≤1000000):
  Calls Tryz.prog 238 #[.slice A n c] w fun e w'=>e= .returned (.bool (jb8 ns))∧w=w':=by
 have HS:=zh hs;clear hs;go_enter Tryz.func238,Tryz.ntmps238;go_wp2_with fail;go_loop [7] (fun i=>∃k:Nat,k≤n∧i= .int .i64 k∧∀j,j<k→sz (ns.getD j 0)≠0) (fun i=>n -(intOf i).toNat)
 case atStart=>exact⟨0,by omega,rfl,fun j hj=>by omega⟩
 case round=>
  obtain⟨k,hk,rfl,hall⟩:=hrel;have HA:=zh hall;clear hall;by_cases hlt:k<n
  ·have hkl:k<ns.length:=by rw[←HS.out.len];exact hlt
   obtain⟨b,o,rfl,_,hc⟩:=HS.out.rd (by omega);have hck:=hc k hkl;clear hc;by_cases hz:sz (ns.getD k 0)=0
   ·have HZ:=zh hz
    have HN:=zh (jlr hkl hz);clear hz;generalize ns.getD k 0=x at*;go_wp2_with fail;refine(jei x w).mono ?_;rintro e w1 ⟨rfl,rfl⟩;rw[HZ.out];go_wp2_with fail;go_ret;exact⟨jb1 HN.out.symm,rfl⟩
   ·have hne:((sz (ns.getD k 0):Int)==0)=false:=by rw[beq_eq_false_iff_ne];omega
    have HZ:=zh hz;clear hz;have HG:Hid (∀j,j<k+1→sz (ns.getD j 0)≠0):=fun j hj=>by
     by_cases e:j=k
     ·subst e;exact HZ.out
     ·exact HA.out j (by omega)
    clear HA HZ;generalize ns.getD k 0=x at*;go_wp2_with fail;refine(jei x w).mono ?_;rintro e w1 ⟨rfl,rfl⟩;go_wp2_with fail;go_round
    case rel=>exact⟨k+1,by omega,by go_num,HG.out⟩
    case measure=>simp[intOf];omega
  ·obtain rfl:k=n:=by omega
   have HN:Hid (jb8 ns=true):=jf8 fun j hj=>HA.out j (by rw[HS.out.len];exact hj);go_wp2_with fail;go_ret;exact⟨jb1 HN.out.symm,rfl⟩
theorem jpp{w:World}{B m:Nat}{v:Value}{l:List Nat}{ns:List Int}(h:OwnB w B v (l++fl (ns.take m)))(hm:m=ns.length):OwnB w B v (l++fl ns):=by
 rwa [hm,List.take_length]at h
theorem js4(n c k d:Nat)(A D:Option Addr)(l:List Nat)(ns:List Int)(w:World)(hs:Sl w A n c l)(hl:n≤1000000)(hd:SlI w D k d ns)(hk:k≤64)(ha:jb8 ns=true):
  Calls Tryz.prog 176 #[.slice A n c,.slice D k d] w (jgq (l++digs k++fl ns) 0 w):=by
 have HS:=zh hs;clear hs;have HD:=zh hd;clear hd;have HA:=zh ha;clear ha;go_enter Tryz.func176,Tryz.ntmps176;go_wp2_with fail;refine(jpo k d D ns w HD.out (by omega)).mono ?_;rintro e w1 ⟨rfl,rfl⟩;rw[HA.out];go_wp2_with fail;refine(jbz n c (9*(1+k)) A l w HS.out hl (by omega)).mono ?_;rintro e w1 ⟨v,rfl,ho,hb⟩;have O:=zh ho;clear ho;have B:=zh hb;clear hb;go_wp2_with fail;refine(jho w.heap.size k v l w1 O.out B.out.size (by rw[←HS.out.len];omega) (by omega)).mono ?_;rintro e w2 ⟨v2,rfl,ho,hb⟩;have O2:=zh ho;clear ho;have B2:=zh (B.out.trans hb);clear hb O B;have hlen:(l++digs k).length≤1000010:=by have:=digs_nine (n:=k) (by omega);rw[List.length_append,←HS.out.len];omega
 go_wp2_with fail;go_loopw [6,30] (fun v i wr=>∃m:Nat,m≤k∧i= .int .i64 m∧OwnB wr w.heap.size v (l++digs k++fl (ns.take m))∧Below w.heap.size w wr) (fun _ i _=>k -(intOf i).toNat)
 case atStart=>exact⟨0,by omega,rfl,by simpa[fl]using O2.out,B2.out⟩
 case round=>
  obtain⟨m,hm,rfl,ho,hb⟩:=hrel;clear O2 B2;have O:=zh ho;clear ho;have B:=zh hb;clear hb;by_cases hlt:m<k
  ·have hml:m<ns.length:=by rw[←HD.out.len];exact hlt
   obtain⟨x,hx,hxl⟩:=jfe HA.out hml;obtain⟨b,o,rfl,_,hc⟩:=(HD.out.on B.out).rd (by omega);have hck:=hc m hml;rw[hx]at hck;have HX:=zh (jhp hml hx);have HB:=zh hxl;have HF:=zh (jiw HA.out m (by omega));clear hc hx hxl;go_wp2_with fail;refine(jho w.heap.size x _ _ wr O.out B.out.size (by have:=HF.out;rw[List.length_append];omega) HB.out).mono ?_;rintro e w3 ⟨v3,rfl,ho,hb⟩;have O3:=zh ho;clear ho;have B3:=zh (B.out.trans hb);clear hb;go_wp2_with fail;go_roundw
   case rel=>exact⟨m+1,by omega,by go_num,by rw[HX.out,←List.append_assoc];exact O3.out,B3.out⟩
   case measure=>simp[intOf];omega
  ·obtain rfl:m=k:=by omega
   have O4:=zh (jpp O.out HD.out.len);obtain⟨A2,c2,hv,h2⟩:=O4.out.sl;have HV:=zh hv;clear hv;have H2:=zh h2;clear h2;go_wp2_with fail;go_ret2;rw[HV.out];exact⟨A2,c2,rfl,H2.out,B.out,OwnB.far O4.out HV.out⟩
theorem js5(n c k d:Nat)(A D:Option Addr)(l:List Nat)(ns:List Int)(w:World)(hs:Sl w A n c l)(hl:n≤1000000)(hd:SlI w D k d ns)(hk:k≤64)(ha:jb8 ns=false):
  Calls Tryz.prog 176 #[.slice A n c,.slice D k d] w (jgq l 1 w):=by
 have HS:=zh hs;clear hs;have HD:=zh hd;clear hd;have HA:=zh ha;clear ha;go_enter Tryz.func176,Tryz.ntmps176;go_wp2_with fail;refine(jpo k d D ns w HD.out (by omega)).mono ?_;rintro e w1 ⟨rfl,rfl⟩;rw[HA.out];go_wp2_with fail;refine(jbz n c 0 A l w HS.out hl (by omega)).mono ?_;rintro e w1 ⟨v,rfl,ho,hb⟩;have O:=zh ho;clear ho;have B:=zh hb;clear hb;obtain⟨A2,c2,hv,h2⟩:=O.out.sl;have HV:=zh hv;clear hv;have H2:=zh h2;clear h2;go_wp2_with fail;go_ret2;rw[HV.out];exact⟨A2,c2,rfl,H2.out,B.out,OwnB.far O.out HV.out⟩
theorem jpq(n c k d:Nat)(A D:Option Addr)(l:List Nat)(w:World)(hs:Sl w A n c l)(hl:n≤1000000)(hk:64<k):
  Calls Tryz.prog 176 #[.slice A n c,.slice D k d] w (jgq l 12 w):=by
 have HS:=zh hs;clear hs;go_enter Tryz.func176,Tryz.ntmps176;go_wp2_with fail;refine(jbz n c 0 A l w HS.out hl (by omega)).mono ?_;rintro e w1 ⟨v,rfl,ho,hb⟩;have O:=zh ho;clear ho;have B:=zh hb;clear hb;obtain⟨A2,c2,hv,h2⟩:=O.out.sl;have HV:=zh hv;clear hv;have H2:=zh h2;clear h2;go_wp2_with fail;go_ret2;rw[HV.out];exact⟨A2,c2,rfl,H2.out,B.out,OwnB.far O.out HV.out⟩
def jdw(l:List Nat)(ns:List Int):List Nat:=if ns.length≤64 then(if jb8 ns then l++digs ns.length++fl ns else l)else l
def jdx(ns:List Int):Int:=if ns.length≤64 then(if jb8 ns then 0 else 1)else 12
theorem js6(n c k d:Nat)(A D:Option Addr)(l:List Nat)(ns:List Int)(w:World)(hs:Sl w A n c l)(hl:n≤1000000)(hd:SlI w D k d ns):
  Calls Tryz.prog 176 #[.slice A n c,.slice D k d] w (jgq (jdw l ns) (jdx ns) w):=by
 unfold jdw jdx;have hkn:=hd.len;by_cases h:k≤64
 ·have h64:ns.length≤64:=by omega
  simp only[if_pos h64];by_cases ha:jb8 ns=true
  ·simp only[if_pos ha]
   have:=js4 n c k d A D l ns w hs hl hd h ha;rw[hkn]at this⊢;exact this
  ·simp only[if_neg ha]
   exact js5 n c k d A D l ns w hs hl hd h (by simpa using ha)
 ·have h64:¬ns.length≤64:=by omega
  simp only[if_neg h64];exact jpq n c k d A D l w hs hl (by omega)
end Go.Proofs.YtabandbigckfkaaGreatDoor
