import Derived.Test.YtabandbigckfkaaGreatDoorQt23
set_option maxHeartbeats 6400000
set_option maxRecDepth 100000
set_option linter.unusedSimpArgs false
set_option linter.unusedVariables false
namespace Go.Proofs.YtabandbigckfkaaGreatDoor
open Go.RowKit Cdc
namespace Rc
def pt(v:List Int):R:=⟨v.getD 0 0,v.getD 1 0,v.getD 2 0,v.getD 3 0,v.getD 4 0,⟨#[]⟩,Spc.zero⟩
theorem pt_next{v:List Int}{k:Nat}(x:Int)(hk:v.length=k)(h:k<5):(cells (pt v)).setIfInBounds k (.int .i64 x)=cells (pt (v++[x])):=by
 subst hk
 match v,h with
 |[],_=>rfl
 |[_],_=>rfl
 |[_,_],_=>rfl
 |[_,_,_],_=>rfl
 |[_,_,_,_],_=>rfl
theorem no_byte(o:R)(x:Int):∀v∈(cells o).toList,v≠ .int .u8 x:=by
 intro v hv e;subst e;simp[cells]at hv
theorem listV_len(s:St):(listV s).length≤64:=by
 unfold listV;split
 ·rw[numsV_length];exact cntV_le s
 ·simp
end Rc
theorem jba{w:World}{r g:Nat}{s:St}{o:Rc.R}(h:Rdr w r s)(hg:RcAt w g o)(hne:r≠g)(k:Nat)(v:Value):Rdr (w.setCell ⟨g,k,none⟩ v) r s:=by
 obtain⟨A,c,h1,h2,h3,h4,h5⟩:=h;have G:=jad w g k v;refine⟨A,c,(G.block r (Array.getElem?_eq_some_iff.1 h1).1 (by simp;exact hne)).trans h1,⟨h2.1,fun hl=> ?_⟩,h3,h4,h5⟩;obtain⟨b,o',e,hb,hc⟩:=h2.2 hl;have hbg:b≠g:=fun e=>by
  subst e;have h0:=hc 0 hl;rw[cell_of_row w b (o'+0) _ _ _ hg.row]at h0;exact Rc.no_byte o _ _ (Array.mem_toList_iff.2 (Array.mem_of_getElem? h0)) rfl
 refine⟨b,o',e,hb,fun j hj=> ?_⟩;have hbs:b<w.heap.size:=Nat.lt_trans hb (Array.getElem?_eq_some_iff.1 h1).1;rw[←hc j hj];exact World.cell?_of_block (w:=w) (G.block b hbs (by simp;exact hbg))
theorem jc5{w w':World}{g r:Nat}{o:Rc.R}(h:RcAt w g o)(hg:w.grownBy w' (some r))(hne:g≠r):RcAt w' g o:=⟨(hg.block g h.cs.lt (by simp;exact hne)).trans h.row⟩
theorem jn8{w:World}{g:Nat}{o:Rc.R}(h:RcAt w g o)(i:Nat):w.frozen? ⟨g,i,none⟩=false:=frozen_of_row w g i _ _ h.row
theorem jhw:RcRd:=by
 intro W A n c l h hn;obtain rfl:n=l.length:=h.len;have HL:Hid (l.length≤1000):=hn;have HB:Hid (∀x∈l,x<256):=h.rd.1;obtain⟨gr,hgr⟩:∃gr,gr=W.heap.size:=⟨_,rfl⟩;obtain⟨g,hg⟩:∃g,g=gr+1:=⟨_,rfl⟩;have BA:=(Below.refl W.heap.size W).alloc (Nat.le_refl _) (.cells #[.int .i64 0,.int .i64 0,.int .i64 0,.int .i64 0,.int .i64 0,.string ⟨#[]⟩,.int .i64 0,.int .i64 0,.int .i64 0,.int .i64 0,.int .i64 0,.int .i64 0,.int .i64 0,.int .i64 0,.int .i64 0,.int .i64 0,.int .i64 0,.int .i64 0] 45);have BB:=(Below.refl (W.alloc (.cells #[.int .i64 0,.int .i64 0,.int .i64 0,.int .i64 0,.int .i64 0,.string ⟨#[]⟩,.int .i64 0,.int .i64 0,.int .i64 0,.int .i64 0,.int .i64 0,.int .i64 0,.int .i64 0,.int .i64 0,.int .i64 0,.int .i64 0,.int .i64 0,.int .i64 0] 45)).heap.size (W.alloc (.cells #[.int .i64 0,.int .i64 0,.int .i64 0,.int .i64 0,.int .i64 0,.string ⟨#[]⟩,.int .i64 0,.int .i64 0,.int .i64 0,.int .i64 0,.int .i64 0,.int .i64 0,.int .i64 0,.int .i64 0,.int .i64 0,.int .i64 0,.int .i64 0,.int .i64 0] 45))).alloc (Nat.le_refl _) (.cells #[.int .i64 0,.int .i64 0,.int .i64 0,.int .i64 0,.int .i64 0,.string ⟨#[]⟩,.int .i64 0,.int .i64 0,.int .i64 0,.int .i64 0,.int .i64 0,.int .i64 0,.int .i64 0,.int .i64 0,.int .i64 0,.int .i64 0,.int .i64 0,.int .i64 0] 45);have BX:=BA.trans (BB.mono BA.size);have E1:(W.alloc (.cells #[.int .i64 0,.int .i64 0,.int .i64 0,.int .i64 0,.int .i64 0,.string ⟨#[]⟩,.int .i64 0,.int .i64 0,.int .i64 0,.int .i64 0,.int .i64 0,.int .i64 0,.int .i64 0,.int .i64 0,.int .i64 0,.int .i64 0,.int .i64 0,.int .i64 0] 45)).heap.size=g:=by rw[hg,hgr];exact World.size_alloc _ _
 have R0:RcAt ((W.alloc (.cells #[.int .i64 0,.int .i64 0,.int .i64 0,.int .i64 0,.int .i64 0,.string ⟨#[]⟩,.int .i64 0,.int .i64 0,.int .i64 0,.int .i64 0,.int .i64 0,.int .i64 0,.int .i64 0,.int .i64 0,.int .i64 0,.int .i64 0,.int .i64 0,.int .i64 0] 45)).alloc (.cells #[.int .i64 0,.int .i64 0,.int .i64 0,.int .i64 0,.int .i64 0,.string ⟨#[]⟩,.int .i64 0,.int .i64 0,.int .i64 0,.int .i64 0,.int .i64 0,.int .i64 0,.int .i64 0,.int .i64 0,.int .i64 0,.int .i64 0,.int .i64 0,.int .i64 0] 45)) g (Rc.pt []):=by
  have:=heap_alloc_new (W.alloc (.cells #[.int .i64 0,.int .i64 0,.int .i64 0,.int .i64 0,.int .i64 0,.string ⟨#[]⟩,.int .i64 0,.int .i64 0,.int .i64 0,.int .i64 0,.int .i64 0,.int .i64 0,.int .i64 0,.int .i64 0,.int .i64 0,.int .i64 0,.int .i64 0,.int .i64 0] 45)) (.cells #[.int .i64 0,.int .i64 0,.int .i64 0,.int .i64 0,.int .i64 0,.string ⟨#[]⟩,.int .i64 0,.int .i64 0,.int .i64 0,.int .i64 0,.int .i64 0,.int .i64 0,.int .i64 0,.int .i64 0,.int .i64 0,.int .i64 0,.int .i64 0,.int .i64 0] 45);rw[E1]at this;exact⟨this⟩
 have X0:RcAt ((W.alloc (.cells #[.int .i64 0,.int .i64 0,.int .i64 0,.int .i64 0,.int .i64 0,.string ⟨#[]⟩,.int .i64 0,.int .i64 0,.int .i64 0,.int .i64 0,.int .i64 0,.int .i64 0,.int .i64 0,.int .i64 0,.int .i64 0,.int .i64 0,.int .i64 0,.int .i64 0] 45)).alloc (.cells #[.int .i64 0,.int .i64 0,.int .i64 0,.int .i64 0,.int .i64 0,.string ⟨#[]⟩,.int .i64 0,.int .i64 0,.int .i64 0,.int .i64 0,.int .i64 0,.int .i64 0,.int .i64 0,.int .i64 0,.int .i64 0,.int .i64 0,.int .i64 0,.int .i64 0] 45)) gr Rc.none_:=by
  have h1:RcAt (W.alloc (.cells #[.int .i64 0,.int .i64 0,.int .i64 0,.int .i64 0,.int .i64 0,.string ⟨#[]⟩,.int .i64 0,.int .i64 0,.int .i64 0,.int .i64 0,.int .i64 0,.int .i64 0,.int .i64 0,.int .i64 0,.int .i64 0,.int .i64 0,.int .i64 0,.int .i64 0] 45)) W.heap.size Rc.none_:=⟨heap_alloc_new W (.cells #[.int .i64 0,.int .i64 0,.int .i64 0,.int .i64 0,.int .i64 0,.string ⟨#[]⟩,.int .i64 0,.int .i64 0,.int .i64 0,.int .i64 0,.int .i64 0,.int .i64 0,.int .i64 0,.int .i64 0,.int .i64 0,.int .i64 0,.int .i64 0,.int .i64 0] 45)⟩;rw[hgr];exact h1.on BB
 have SX:((W.alloc (.cells #[.int .i64 0,.int .i64 0,.int .i64 0,.int .i64 0,.int .i64 0,.string ⟨#[]⟩,.int .i64 0,.int .i64 0,.int .i64 0,.int .i64 0,.int .i64 0,.int .i64 0,.int .i64 0,.int .i64 0,.int .i64 0,.int .i64 0,.int .i64 0,.int .i64 0] 45)).alloc (.cells #[.int .i64 0,.int .i64 0,.int .i64 0,.int .i64 0,.int .i64 0,.string ⟨#[]⟩,.int .i64 0,.int .i64 0,.int .i64 0,.int .i64 0,.int .i64 0,.int .i64 0,.int .i64 0,.int .i64 0,.int .i64 0,.int .i64 0,.int .i64 0,.int .i64 0] 45)).heap.size=g+1:=by rw[World.size_alloc,E1]
 have SL:=h.on BX;go_enter Tryz.func71,Tryz.ntmps71;go_upto_region 2 with fail
 simp only[World.size_alloc,←hgr,←hg]at⊢;clear E1 BA BB;generalize(W.alloc (.cells #[.int .i64 0,.int .i64 0,.int .i64 0,.int .i64 0,.int .i64 0,.string ⟨#[]⟩,.int .i64 0,.int .i64 0,.int .i64 0,.int .i64 0,.int .i64 0,.int .i64 0,.int .i64 0,.int .i64 0,.int .i64 0,.int .i64 0,.int .i64 0,.int .i64 0] 45)).alloc (.cells #[.int .i64 0,.int .i64 0,.int .i64 0,.int .i64 0,.int .i64 0,.string ⟨#[]⟩,.int .i64 0,.int .i64 0,.int .i64 0,.int .i64 0,.int .i64 0,.int .i64 0,.int .i64 0,.int .i64 0,.int .i64 0,.int .i64 0,.int .i64 0,.int .i64 0] 45)=X at*;have HG:Hid (W.heap.size≤gr∧W.heap.size≤g∧gr≠g):=⟨by omega,by omega,by omega⟩;have HGX:Hid (g<X.heap.size∧gr<X.heap.size):=⟨by omega,by omega⟩;clear hgr hg h hn SX;have RA:=zh R0;have RX:=zh X0;have B1:=zh BX;have CR:=zh (jkz l.length c A l X SL (by have:=HL.out;omega));have CNB:=zh (fun W=>jeh g W);clear R0 X0 BX SL
 go_wp2_with(first
  |(go_at_call 120;(with_reducible refine CR.out.mono ?_);rintro e w2 ⟨rd,rfl,hrd,hge,hb⟩;have RR:=zh hrd;have HR:Hid (g≠rd∧gr≠rd∧W.heap.size≤rd):=⟨by have:=HGX.out;omega,by have:=HGX.out;omega,by have:=HGX.out;have:=HG.out;omega⟩;have RA:=zh (RA.out.on hb);have RX:=zh (RX.out.on hb);have B1:=zh (B1.out.trans (hb.mono B1.out.size));clear hrd hge hb)
  |(go_at_call 121;(with_reducible refine(CNB.out _).mono ?_);rintro e w3 ⟨rfl,hb⟩;have RR:=zh (RR.out.below hb);have RA:=zh (RA.out.on hb);have RX:=zh (RX.out.on hb);have B1:=zh (B1.out.trans (hb.mono B1.out.size));clear hb))
 go_loopw [11] (fun i wr=>∃k:Nat,k≤5∧i= .int .i64 k∧RcAt wr g (Rc.pt (nI (numsV ⟨l,0⟩ k)))∧RcAt wr gr Rc.none_∧Rdr wr rd (numsAt ⟨l,0⟩ k)∧Below W.heap.size W wr) (fun i _=>5 -(intOf i).toNat)
 case atStart=>exact⟨0,by omega,rfl,RA.out,RX.out,RR.out,B1.out⟩
 case round=>
  obtain⟨k,hk,rfl,hra,hrx,hrr,hbr⟩:=hrel;clear RA RX RR B1 CR CNB;have RA:=zh hra;have RX:=zh hrx;have RR:=zh hrr;have B1:=zh hbr;clear hra hrx hrr hbr;by_cases hlt:k<5
  ·have hpj:=fun W=>jhs g k hlt W
   have CN:=zh (jgp wr rd (numsAt ⟨l,0⟩ k) RR.out (Nat.le_trans (jge ⟨l,0⟩ k) (Nat.le_trans HL.out (by omega))));have HX:Hid (nI (numsV ⟨l,0⟩ (k+1))=nI (numsV ⟨l,0⟩ k)++[((numV (numsAt ⟨l,0⟩ k):Nat):Int)]):=jlq _ _;have HLN:Hid ((nI (numsV ⟨l,0⟩ k)).length=k):=by show _=_;rw[jbu,numsV_length]
   have HT:Hid (num (numsAt ⟨l,0⟩ k)=numsAt ⟨l,0⟩ (k+1)):=rfl;rw[HT.out]at CN;generalize numV (numsAt ⟨l,0⟩ k)=x at*;go_wp2_with(go_at_call 122;(with_reducible refine CN.out.mono ?_);rintro e w4 ⟨rfl,hr4,hg4⟩;have RR4:=zh hr4;have RA4:=zh (jc5 RA.out hg4 HR.out.1);have RX4:=zh (jc5 RX.out hg4 HR.out.2.1);have B4:=zh (B1.out.grown hg4 B1.out.size (fun i hi=>by injection hi with hi;have:=HR.out;omega));have hcj:=rc_at RA4.out hlt;have hfz:=jn8 RA4.out k;clear hr4 hg4)
   refine⟨⟨k+1,by omega,by go_num,?_,jb3 RX4.out HG.out.2.2 _ _,jba RR4.out RA4.out (fun e=>HR.out.1 e.symm) _ _,B4.out.setCell (p:=⟨g,k,none⟩) HG.out.2.1 _⟩,by simp[intOf];omega⟩;rw[HX.out];exact jb2 RA4.out _ k _ (Rc.pt_next _ HLN.out hlt)
  ·obtain rfl:k=5:=by omega
   clear hk hlt;have EK1:Hid (numsAt ⟨l,0⟩ 5=Rc.k1 l):=rfl;have EV1:Hid (nI (numsV ⟨l,0⟩ 5)=Rc.v1 l):=rfl;have LK:Hid ((Rc.k1 l).l.length≤1000):=Nat.le_trans (jge ⟨l,0⟩ 5) HL.out;rw[EK1.out]at RR;rw[EV1.out]at RA;have CT:=zh (jn6 wr rd (Rc.k1 l) RR.out (Nat.le_trans LK.out (by omega)));have ET:Hid (text (Rc.k1 l)=Rc.k2 l):=rfl;have ETV:Hid (txt (textV (Rc.k1 l))=Rc.t2 l):=rfl;have LK2:Hid ((Rc.k2 l).l.length≤1000):=Nat.le_trans (jn1 _) LK.out;unfold jgq at CT;rw[ET.out,ETV.out]at CT;obtain⟨kd,hkd⟩:∃kd,kd=(Rc.v1 l).getD 0 0:=⟨_,rfl⟩;obtain⟨x1,hx1⟩:∃x,x=(Rc.v1 l).getD 1 0:=⟨_,rfl⟩;obtain⟨x2,hx2⟩:∃x,x=(Rc.v1 l).getD 2 0:=⟨_,rfl⟩;obtain⟨x3,hx3⟩:∃x,x=(Rc.v1 l).getD 3 0:=⟨_,rfl⟩;obtain⟨x4,hx4⟩:∃x,x=(Rc.v1 l).getD 4 0:=⟨_,rfl⟩;have EDEC:Hid (Rc.dec l=⟨kd,x1,x2,x3,x4,Rc.t2 l,Rc.s3 l⟩):=by rw[hkd,hx1,hx2,hx3,hx4];rfl
   have EK3:Hid (Rc.k3 l=if kd=3 then list (Rc.k2 l)else Rc.k2 l):=by rw[hkd];rfl
   have ES3:Hid (Rc.s3 l=if kd=3 then(if(listV (Rc.k2 l)).length=12 then Spc.of (nI (listV (Rc.k2 l)))else Spc.zero)else Spc.zero):=by rw[hkd];rfl
   have EPT:Rc.pt (Rc.v1 l)=⟨kd,x1,x2,x3,x4,⟨#[]⟩,Spc.zero⟩:=by rw[hkd,hx1,hx2,hx3,hx4];rfl
   rw[EPT]at RA;clear hkd hx1 hx2 hx3 hx4 EPT;generalize Rc.t2 l=tt at*;go_upto_region 9 with(go_at_call 123;(with_reducible refine CT.out.mono ?_);rintro e w5 ⟨rfl,hr5,hg5⟩;have RR5:=zh hr5;have RA5:=zh (jc5 RA.out hg5 HR.out.1);have RX5:=zh (jc5 RX.out hg5 HR.out.2.1);have B5:=zh (B1.out.grown hg5 B1.out.size (fun i hi=>by injection hi with hi;have:=HR.out;omega));clear hr5 hg5;obtain⟨c0,c1,c2,c3,c4,c5,c6,c7,c8,c9,c10,c11,c12,c13,c14,c15,c16,c17,clt⟩:=RA5.out.cs;have hfz:=jn8 RA5.out 5)
   clear c0 c1 c2 c3 c4 c5 c6 c7 c8 c9 c10 c11 c12 c13 c14 c15 c16 c17 clt hfz;have RR6:=zh (jba RR5.out RA5.out (fun e=>HR.out.1 e.symm) 5 (.string tt));have RA6:=zh (jb2 RA5.out ⟨kd,x1,x2,x3,x4,tt,Spc.zero⟩ 5 (.string tt) rfl);have RX6:=zh (jb3 RX5.out HG.out.2.2 5 (.string tt));have B6:=zh (B5.out.setCell (p:=⟨g,5,none⟩) HG.out.2.1 (.string tt));clear RR5 RA5 RX5 B5 RR RA RX B1 CT LK ET ETV EK1 EV1;generalize w5.setCell ⟨g,5,none⟩ (.string tt)=w6 at*;obtain⟨c0,c1,c2,c3,c4,c5,c6,c7,c8,c9,c10,c11,c12,c13,c14,c15,c16,c17,clt⟩:=RA6.out.cs;simp only at c0;go_upto_if 24 with fail
   clear c0 c1 c2 c3 c4 c5 c6 c7 c8 c9 c10 c11 c12 c13 c14 c15 c16 c17 clt;go_cut []from 24 to 32 (fun wx=>RcAt wx g (Rc.dec l)∧RcAt wx gr Rc.none_∧Rdr wx rd (Rc.k3 l)∧Below W.heap.size W wx)
   case first=>
    by_cases hk:kd=3
    ·have hke:(kd==3)=true:=by rw[beq_iff_eq];exact hk
     rw[if_pos hk]at EK3 ES3;clear hk;have CLS:=zh (jn7 w6 rd (Rc.k2 l) RR6.out (Nat.le_trans LK2.out (by omega)));have L64:=zh (Rc.listV_len (Rc.k2 l));unfold jep at CLS;rw[←EK3.out]at CLS;have EMK:Hid (mkS (nI (listV (Rc.k2 l)))=Rc.s3 l):=by
      show _=_;rw[ES3.out];unfold mkS;rw[jbu]
     have CM:=zh (fun W A c h=>jqq (nI (listV (Rc.k2 l))) A (listV (Rc.k2 l)).length c W h (by have:=L64.out;omega));rw[EMK.out]at CM;generalize Rc.s3 l=sp at*;obtain⟨pv,pd,pu,pn,pg,pa,pb,pc,pe,pw,px,pk⟩:=sp;unfold APos Spc.val Spc.cells at CM;simp only at CM;generalize mkE (nI (listV (Rc.k2 l)))=me at*
     go_wp2_with(first
      |(go_at_call 125;(with_reducible refine CLS.out.mono ?_);rintro e w7 ⟨A7,k7,rfl,hs7,hr7,hg7⟩;have S7:=zh hs7;have RR7:=zh hr7;have R7:=zh (jc5 RA6.out hg7 HR.out.1);have RX7:=zh (jc5 RX6.out hg7 HR.out.2.1);have B7:=zh (B6.out.grown hg7 B6.out.size (fun i hi=>by injection hi with hi;have:=HR.out;omega));clear hs7 hr7 hg7)
      |(go_at_call 124;(with_reducible refine(CM.out _ _ _ S7.out).mono ?_);rintro e w8 ⟨rfl,hb8⟩;have RR7:=zh (RR7.out.below hb8);have R7:=zh (R7.out.on hb8);have RX7:=zh (RX7.out.on hb8);have B7:=zh (B7.out.trans (hb8.mono B7.out.size));clear hb8;have hz:=fun i=>jn8 R7.out i;obtain⟨c0,c1,c2,c3,c4,c5,c6,c7,c8,c9,c10,c11,c12,c13,c14,c15,c16,c17,clt⟩:=R7.out.cs))
     have RR7:=zh (jba RR7.out R7.out (by have:=HR.out;omega) 6 (.int .i64 pv));have R7:=zh (jb2 R7.out ⟨kd,x1,x2,x3,x4,tt,⟨pv,0,0,0,0,0,0,0,0,0,0,0⟩⟩ 6 (.int .i64 pv) rfl);have RX7:=zh (jb3 RX7.out (g:=g) (by have:=HG.out;omega) 6 (.int .i64 pv));have B7:=zh (B7.out.setCell (p:=⟨g,6,none⟩) HG.out.2.1 (.int .i64 pv));have RR7:=zh (jba RR7.out R7.out (by have:=HR.out;omega) 7 (.int .i64 pd));have R7:=zh (jb2 R7.out ⟨kd,x1,x2,x3,x4,tt,⟨pv,pd,0,0,0,0,0,0,0,0,0,0⟩⟩ 7 (.int .i64 pd) rfl);have RX7:=zh (jb3 RX7.out (g:=g) (by have:=HG.out;omega) 7 (.int .i64 pd));have B7:=zh (B7.out.setCell (p:=⟨g,7,none⟩) HG.out.2.1 (.int .i64 pd));have RR7:=zh (jba RR7.out R7.out (by have:=HR.out;omega) 8 (.int .i64 pu));have R7:=zh (jb2 R7.out ⟨kd,x1,x2,x3,x4,tt,⟨pv,pd,pu,0,0,0,0,0,0,0,0,0⟩⟩ 8 (.int .i64 pu) rfl);have RX7:=zh (jb3 RX7.out (g:=g) (by have:=HG.out;omega) 8 (.int .i64 pu));have B7:=zh (B7.out.setCell (p:=⟨g,8,none⟩) HG.out.2.1 (.int .i64 pu));have RR7:=zh (jba RR7.out R7.out (by have:=HR.out;omega) 9 (.int .i64 pn));have R7:=zh (jb2 R7.out ⟨kd,x1,x2,x3,x4,tt,⟨pv,pd,pu,pn,0,0,0,0,0,0,0,0⟩⟩ 9 (.int .i64 pn) rfl);have RX7:=zh (jb3 RX7.out (g:=g) (by have:=HG.out;omega) 9 (.int .i64 pn));have B7:=zh (B7.out.setCell (p:=⟨g,9,none⟩) HG.out.2.1 (.int .i64 pn));have RR7:=zh (jba RR7.out R7.out (by have:=HR.out;omega) 10 (.int .i64 pg));have R7:=zh (jb2 R7.out ⟨kd,x1,x2,x3,x4,tt,⟨pv,pd,pu,pn,pg,0,0,0,0,0,0,0⟩⟩ 10 (.int .i64 pg) rfl);have RX7:=zh (jb3 RX7.out (g:=g) (by have:=HG.out;omega) 10 (.int .i64 pg));have B7:=zh (B7.out.setCell (p:=⟨g,10,none⟩) HG.out.2.1 (.int .i64 pg));have RR7:=zh (jba RR7.out R7.out (by have:=HR.out;omega) 11 (.int .i64 pa));have R7:=zh (jb2 R7.out ⟨kd,x1,x2,x3,x4,tt,⟨pv,pd,pu,pn,pg,pa,0,0,0,0,0,0⟩⟩ 11 (.int .i64 pa) rfl);have RX7:=zh (jb3 RX7.out (g:=g) (by have:=HG.out;omega) 11 (.int .i64 pa));have B7:=zh (B7.out.setCell (p:=⟨g,11,none⟩) HG.out.2.1 (.int .i64 pa));have RR7:=zh (jba RR7.out R7.out (by have:=HR.out;omega) 12 (.int .i64 pb));have R7:=zh (jb2 R7.out ⟨kd,x1,x2,x3,x4,tt,⟨pv,pd,pu,pn,pg,pa,pb,0,0,0,0,0⟩⟩ 12 (.int .i64 pb) rfl);have RX7:=zh (jb3 RX7.out (g:=g) (by have:=HG.out;omega) 12 (.int .i64 pb));have B7:=zh (B7.out.setCell (p:=⟨g,12,none⟩) HG.out.2.1 (.int .i64 pb));have RR7:=zh (jba RR7.out R7.out (by have:=HR.out;omega) 13 (.int .i64 pc));have R7:=zh (jb2 R7.out ⟨kd,x1,x2,x3,x4,tt,⟨pv,pd,pu,pn,pg,pa,pb,pc,0,0,0,0⟩⟩ 13 (.int .i64 pc) rfl);have RX7:=zh (jb3 RX7.out (g:=g) (by have:=HG.out;omega) 13 (.int .i64 pc));have B7:=zh (B7.out.setCell (p:=⟨g,13,none⟩) HG.out.2.1 (.int .i64 pc));have RR7:=zh (jba RR7.out R7.out (by have:=HR.out;omega) 14 (.int .i64 pe));have R7:=zh (jb2 R7.out ⟨kd,x1,x2,x3,x4,tt,⟨pv,pd,pu,pn,pg,pa,pb,pc,pe,0,0,0⟩⟩ 14 (.int .i64 pe) rfl);have RX7:=zh (jb3 RX7.out (g:=g) (by have:=HG.out;omega) 14 (.int .i64 pe));have B7:=zh (B7.out.setCell (p:=⟨g,14,none⟩) HG.out.2.1 (.int .i64 pe));have RR7:=zh (jba RR7.out R7.out (by have:=HR.out;omega) 15 (.int .i64 pw));have R7:=zh (jb2 R7.out ⟨kd,x1,x2,x3,x4,tt,⟨pv,pd,pu,pn,pg,pa,pb,pc,pe,pw,0,0⟩⟩ 15 (.int .i64 pw) rfl);have RX7:=zh (jb3 RX7.out (g:=g) (by have:=HG.out;omega) 15 (.int .i64 pw));have B7:=zh (B7.out.setCell (p:=⟨g,15,none⟩) HG.out.2.1 (.int .i64 pw));have RR7:=zh (jba RR7.out R7.out (by have:=HR.out;omega) 16 (.int .i64 px));have R7:=zh (jb2 R7.out ⟨kd,x1,x2,x3,x4,tt,⟨pv,pd,pu,pn,pg,pa,pb,pc,pe,pw,px,0⟩⟩ 16 (.int .i64 px) rfl);have RX7:=zh (jb3 RX7.out (g:=g) (by have:=HG.out;omega) 16 (.int .i64 px));have B7:=zh (B7.out.setCell (p:=⟨g,16,none⟩) HG.out.2.1 (.int .i64 px));have RR7:=zh (jba RR7.out R7.out (by have:=HR.out;omega) 17 (.int .i64 pk));have R7:=zh (jb2 R7.out ⟨kd,x1,x2,x3,x4,tt,⟨pv,pd,pu,pn,pg,pa,pb,pc,pe,pw,px,pk⟩⟩ 17 (.int .i64 pk) rfl);have RX7:=zh (jb3 RX7.out (g:=g) (by have:=HG.out;omega) 17 (.int .i64 pk));have B7:=zh (B7.out.setCell (p:=⟨g,17,none⟩) HG.out.2.1 (.int .i64 pk));go_meet
     case rel=>exact⟨by rw[EDEC.out];exact R7.out,RX7.out,RR7.out,B7.out⟩
    ·have hke:(kd==3)=false:=by rw[beq_eq_false_iff_ne];exact hk
     rw[if_neg hk]at EK3 ES3;clear hk;go_wp2_with fail;go_meet
     case rel=>exact⟨by rw[EDEC.out,ES3.out];exact RA6.out,RX6.out,by rw[EK3.out];exact RR6.out,B6.out⟩
   case rest=>
    obtain⟨hra,hrx,hrr,hbr⟩:=hcut;clear RA6 RX6 RR6 B6 EK3 ES3 EDEC LK2;have RA:=zh hra;have RX:=zh hrx;have B1:=zh hbr;have CE:=zh (end_any wc rd (Rc.k3 l) hrr);have CRT:=zh (fun W=>jd8 (Rc.dec l) (Rc.dec_in l) W);clear hra hrx hrr hbr;by_cases hee:endE (Rc.k3 l)=0
    ·rw[hee]at CE
     cases hr:Rc.right (Rc.dec l)with
     |true=>
      rw[hr]at CRT;have RDV:Hid (Rc.rdV l=Rc.dec l∧Rc.rdE l=0):=Rc.rd_yes (Rc.whole_of HB.out hee hr);clear hee hr
      go_wp2_with(first
       |(go_at_call 126;(with_reducible refine CE.out.mono ?_);rintro e w8 ⟨rfl,rfl⟩)
       |((with_reducible show zL 36);refine ja8 (by rfl) 45 (.tmp 4) rfl g rfl 45 _ (0,0) _ RA.out.row jaf rfl (jai (Rc.dec l)) ?_)
       |(go_at_call 75;(with_reducible refine(CRT.out _).mono ?_);rintro e w9 ⟨rfl,hb9⟩;have RA9:=zh (RA.out.on hb9);have RX9:=zh (RX.out.on hb9);have B9:=zh (B1.out.trans (hb9.mono B1.out.size));clear hb9)
       |((with_reducible show zL 41);refine wpList_load_row rfl 45 (.tmp 4) rfl g rfl 45 _ (0,0) _ RA9.out.row jaf rfl (jai (Rc.dec l)) ?_)
       |((with_reducible show zW);refine jaa rfl (.tmp 2) (.tmp 41) rfl gr (Rc.dec l) _ rfl rfl RX9.out ?_))
      exact bodyPost_ret (jd9 Tryz.results71 _ _ gr (Rc.dec l) rfl ⟨setRow_heap _ gr _ _ _ _ RX9.out.row⟩) rfl ⟨by rw[RDV.out.1,RDV.out.2];rfl,below_setRow B9.out HG.out.1 _⟩
     |false=>
      rw[hr]at CRT;have RDV:Hid (Rc.rdV l=Rc.none_∧Rc.rdE l=2):=Rc.rd_no (fun h=>by rw[h.1]at hr;cases hr);clear hee hr
      go_wp2_with(first
       |(go_at_call 126;(with_reducible refine CE.out.mono ?_);rintro e w8 ⟨rfl,rfl⟩)
       |((with_reducible show zL 36);refine ja8 (by rfl) 45 (.tmp 4) rfl g rfl 45 _ (0,0) _ RA.out.row jaf rfl (jai (Rc.dec l)) ?_)
       |(go_at_call 75;(with_reducible refine(CRT.out _).mono ?_);rintro e w9 ⟨rfl,hb9⟩;have RX9:=zh (RX.out.on hb9);have B9:=zh (B1.out.trans (hb9.mono B1.out.size));clear hb9)
       |((with_reducible show zW);refine jaa rfl (.tmp 2) (.tmp 40) rfl gr Rc.none_ _ rfl rfl RX9.out ?_))
      exact bodyPost_ret (jd9 Tryz.results71 _ _ gr Rc.none_ rfl ⟨setRow_heap _ gr _ _ _ _ RX9.out.row⟩) rfl ⟨by rw[RDV.out.1,RDV.out.2];rfl,below_setRow B9.out HG.out.1 _⟩
    ·have hne:(endE (Rc.k3 l) !=0)=true:=by rw[bne_iff_ne];exact hee
     have RDV:Hid (Rc.rdV l=Rc.none_∧Rc.rdE l=2):=Rc.rd_no (fun h=>hee (Rc.whole_end h));clear hee CRT;generalize endE (Rc.k3 l)=ee at*
     go_wp2_with(first
      |(go_at_call 126;(with_reducible refine CE.out.mono ?_);rintro e w8 ⟨rfl,rfl⟩)
      |((with_reducible show zW);refine jaa rfl (.tmp 2) (.tmp 40) rfl gr Rc.none_ _ rfl rfl RX.out ?_))
     exact bodyPost_ret (jd9 Tryz.results71 _ _ gr Rc.none_ rfl ⟨setRow_heap _ gr _ _ _ _ RX.out.row⟩) rfl ⟨by rw[RDV.out.1,RDV.out.2];rfl,below_setRow B1.out HG.out.1 _⟩
end Go.Proofs.YtabandbigckfkaaGreatDoor
namespace Go.Proofs.YtabandbigckfkaaGreatDoor
open Go.RowKit Go.Deep Go.Maps
theorem ji5{w0 W:World}{F:Nat→Prop}{b:Nat}{s:Bk.St}(h:BP w0 F b s W)(ht:BT W){rc:Rc.R}(hr:Rc.In rc):jgn Tryz.prog 63 #[.pointer (some ⟨b,0,none⟩),.agg (Rc.cells rc)] W (fun e w'=>e= .returned (.int .i64 (Bk.chk s rc))∧BP w0 F b (Bk.app s rc) w'∧Kept (fun i=>¬F i) W w'):=by
 obtain⟨X,h1,h2,h3,h4⟩:=h;refine(jjs h1 ht rc hr).mono fun _ w' hp=> ?_;obtain⟨X',e1,e2,e3,e4⟩:=hp;refine⟨e1,⟨X',e2,fun i hi=> ?_,fun b hb=>⟨fun hx=> ?_,Nat.lt_of_lt_of_le (h3 b hb).2 e4.size⟩,h4.trans (e4.below h4.size h2)⟩,e4.more fun i _ hi hf=>(h3 i hf).1 hi⟩
 ·rcases e3 i hi with h|h
  ·exact h2 i h
  ·exact Nat.le_trans h4.size h
 ·rcases e3 b hx with h|h
  ·exact(h3 b hb).1 h
  ·have:=(h3 b hb).2;omega
theorem So.load_at{m:Int}{ps:List (List Nat)}{j:Nat}(hj:j≤ps.length)(hc:Bk.cnt (Bk.new m) ((So.recs ps).take j)=j)(hs:∀h:j<ps.length,Bk.chk (Bk.run (Bk.new m) ((So.recs ps).take j)) (Rc.rdV (ps[j]))≠0):
  So.pre (Bk.new m) (So.recs ps)=(So.recs ps).take j∧((So.recs ps).take j).length=j∧So.ens ((So.recs ps).take j)=ps.take j:=by
 have hl:(So.recs ps).length=ps.length:=by unfold So.recs;exact List.length_map ..
 refine⟨So.pre_is (by omega) hc (fun h=> ?_),by rw[List.length_take];omega,So.ens_take hc hj⟩;have:=hs (by omega);unfold So.recs at*
 rwa [List.getElem_map]
theorem So.load_on{m:Int}{ps:List (List Nat)}{j:Nat}(hj:j<ps.length)(hc:Bk.cnt (Bk.new m) ((So.recs ps).take j)=j):
  Bk.run (Bk.new m) ((So.recs ps).take (j+1))=Bk.app (Bk.run (Bk.new m) ((So.recs ps).take j)) (Rc.rdV (ps[j]))∧(Bk.chk (Bk.run (Bk.new m) ((So.recs ps).take j)) (Rc.rdV (ps[j]))=0→Bk.cnt (Bk.new m) ((So.recs ps).take (j+1))=j+1):=by
 have hl:(So.recs ps).length=ps.length:=by unfold So.recs;exact List.length_map ..
 have hx:(So.recs ps)[j]'(by omega)=Rc.rdV (ps[j]):=by unfold So.recs;exact List.getElem_map ..
 have:=Bk.take_run (Bk.new m) (So.recs ps) (k:=j) (by omega);rw[hx,hc]at this;exact⟨this.1,fun h0=>by rw[this.2,if_pos h0]⟩
def LdPost(w0:World)(G:Nat→Prop)(p:Nat)(m:Int)(R:Nat)(ps:List (List Nat))(W:World)(e:Ending)(w':World):Prop:=
 SRes w0 G p m R (So.pre (Bk.new m) (So.recs ps)) (.int .i64 ((ps.length:Int) -((So.pre (Bk.new m) (So.recs ps)).length:Nat))) W e w'
theorem jc6{W:World}{B x c:Nat}{A:Option Addr}{ls:List (List Nat)}(hx:x=ls.length)(h:OwnF W B (.slice A x c) ls):SlS W A x c ls:=by
 obtain⟨A',c',e,h2⟩:=h.rows.sls;injection e with e1 e2 e3
 subst e1 e2 e3;exact h2
theorem BT.on0{w w':World}(h:BT w)(hb:Below w.heap.size w w'):BT w':=h.on hb
theorem jfh{w0 W:World}{G X:Nat→Prop}{p r q R:Nat}{m:Int}{ps:List (List Nat)}{v:Value}(h:StJ w0 G p m (Jn.Js R ps.length ps) v r q X W)(ht:BT w0)(hok:∀x∈ps,Fr.ok x)(hn:ps.length≤1000):
  jgn Tryz.prog 51 #[.pointer (some ⟨p,0,none⟩)] W (LdPost w0 G p m R ps W):=by
 have HL:=zh h.lts;have H0:=zh h;have HT:=zh ht;have HOK:=zh hok;have HN:=zh hn;have lq:=h.lt;have c3:=h.cells.2.2.2.2;have CN:=zh (bp_new W m);have e0:(Fr.scan (Jn.Js R ps.length ps).l).1=ps:=Jn.js_ents hok;have SWJ:Hid (∀j,j≤ps.length→Jn.swap (Jn.Js R ps.length ps) (ps.take j)=Jn.Js R j (ps.take j)∧Jn.swapE (Jn.Js R ps.length ps) (ps.take j)=0):=by
  intro j hj;have h1:=Jn.js_swap (R:=R) (k:=ps.length) (ps:=ps) (qs:=ps.take j) (fun x hx=>hok x (List.mem_of_mem_take hx)) (Nat.le_trans (Fr.all_take_le ps j) h.jr.dsk.okay.2.1)
  rwa [List.length_take,Nat.min_eq_left hj]at h1
 obtain⟨d,hd⟩:∃d,d=Jn.Js R ps.length ps:=⟨_,rfl⟩;rw[←hd]at H0 e0 SWJ;have HD:=zh hd;have E0:=zh e0;clear h ht hok hn hd e0;refine jf5 Tryz.func51 rfl ?_;simp only[Tryz.ntmps51,List.size_toArray,List.length_cons,List.length_nil,Nat.reduceAdd,Nat.reduceSub,Array.replicate_succ,Array.replicate_zero,List.push_toArray,List.append_toArray,List.nil_append,List.cons_append];go_upto_region 2 with(go_at_call 65;(with_reducible refine CN.out.mono ?_);rintro e w1 ⟨b,rfl,hbk⟩;have J1:=zh (H0.out.on (jbr hbk));have K1:=zh (jny hbk H0.out.below HL.out);have O1:=zh (fun i (hi:G i)=>(jbr hbk).block i (H0.out.g i hi));have lq1:=J1.out.lt;have c21:=J1.out.cells.2.2.2.1;have f21:=J1.out.frz 2;clear hbk lq c3)
 have J2:=zh (J1.out.put (.pointer (some ⟨b,0,none⟩)));have K2:=zh (jbn (ji2 K1.out (Kept.of_grown (F:=fun i=>i=p) (jad w1 p 2 (.pointer (some ⟨b,0,none⟩))) (fun k e=>by injection e with e;exact e.symm)) (fun i hi _=> .inr (.inl hi)) (fun i hi=>hi▸J1.out.pG.2)) (fun i (hi:StF G p X i)=> .inl hi))
 have O2:Hid (∀i,G i→(w1.setCell ⟨p,2,none⟩ (.pointer (some ⟨b,0,none⟩))).heap[i]? =W.heap[i]?):=fun i hi=>((jad w1 p 2 (.pointer (some ⟨b,0,none⟩))).block i (J1.out.g i hi) (fun e=>J1.out.pG.1 (by injection e with e;exact e▸hi))).trans (O1.out i hi)
 clear lq1 c21 f21 J1 K1 O1;generalize w1.setCell ⟨p,2,none⟩ (.pointer (some ⟨b,0,none⟩))=w2 at*;have CA:=zh (jjg J2.out.jr.ask);rw[E0.out]at CA;have lq2:=J2.out.lt;have c12:=J2.out.cells.2.2.1;go_upto_region 3 with(go_at_call 70;(with_reducible refine CA.out.mono ?_);rintro e w3 ⟨A3,c3,rfl,ho3,hb3⟩;have OF3:=zh ho3;have J3:=zh (J2.out.on hb3);have K3:=zh (ji1 K2.out hb3);have O3:=zh (fun i (hi:G i)=>(hb3.block i (J2.out.g i hi)).trans (O2.out i hi));have B3:=zh hb3.size;clear ho3 hb3)
 clear lq2 c12 CA CN;have SF:Hid (∀i,StF G p X i→StF G p X i∨(w2.heap.size≤i∧i<w3.heap.size)):=fun i hi=> .inl hi;have EF:Hid (∀i,w2.heap.size≤i→i<w3.heap.size→StF G p X i∨(w2.heap.size≤i∧i<w3.heap.size)):=fun i h1 h2=> .inr ⟨h1,h2⟩;have GF:Hid (∀i,G i→StF G p X i∨(w2.heap.size≤i∧i<w3.heap.size)):=fun i hi=> .inl (.inl hi);obtain⟨F1,hF1⟩:∃F1,F1=fun i=>StF G p X i∨(w2.heap.size≤i∧i<w3.heap.size):=⟨_,rfl⟩;rw[←hF1]at K3;replace SF:Hid (∀i,StF G p X i→F1 i):=by rw[hF1];exact SF.out
 replace EF:Hid (∀i,w2.heap.size≤i→i<w3.heap.size→F1 i):=by rw[hF1];exact EF.out
 replace GF:Hid (∀i,G i→F1 i):=by rw[hF1];exact GF.out
 clear hF1;have hcap:ps.length≤c3:=(jc6 rfl OF3.out).cap;have hmax:c3≤maxLen:=(jc6 rfl OF3.out).max;have hn2:ps.length≤1000:=HN.out;unfold maxLen at hmax;obtain⟨n,hnn⟩:∃n,n=ps.length:=⟨_,rfl⟩;rw[←hnn]at OF3 hcap hn2⊢;have NL:=zh hnn;clear hnn;go_wp2_with fail;go_loopw [23] (fun i wr=>∃j:Nat,j≤n∧i= .int .i64 j∧Bk.cnt (Bk.new m) ((So.recs ps).take j)=j∧StJ w0 G p m d (.pointer (some ⟨b,0,none⟩)) r q X wr∧BP w0 F1 b (Bk.run (Bk.new m) ((So.recs ps).take j)) wr∧Kept (fun i=>¬F1 i) w3 wr) (fun i _=>n -(intOf i).toNat)
 case atStart=>exact⟨0,Nat.zero_le _,rfl,rfl,J3.out,K3.out,Kept.refl _ _⟩
 case round=>
  obtain⟨j,hj,rfl,hcn,hj4,hk4,hw4⟩:=hrel;have J4:=zh hj4;have K4:=zh hk4;have KW4:=zh hw4;have CN:=zh hcn;clear hj4 hk4 hw4 hcn;have i1:(0:Int)≤(j:Int):=by omega
  by_cases hlt:j<n
  ·have HLT:Hid (j<ps.length):=by show _<_;have:=NL.out;omega
   have S4:=jc6 NL.out (OF3.out.kept KW4.out (fun i h1 h2 hn=>hn (EF.out i h1 h2)));obtain⟨b3,o3,hA3,hb3,hc3⟩:=S4.rd (by have:=NL.out;omega);obtain⟨A4,n4,c4,hcell,hs4⟩:=hc3 j HLT.out;have LO:=zh (So.load_on HLT.out CN.out);have PR:Hid (Bk.chk (Bk.run (Bk.new m) ((So.recs ps).take j)) (Rc.rdV (ps[j]'HLT.out))≠0→_):=fun h0=>So.load_at (Nat.le_of_lt HLT.out) CN.out (fun _=>h0);have hx:ps.getD j []=ps[j]'HLT.out:=by rw[List.getD_eq_getElem?_getD,List.getElem?_eq_getElem HLT.out];rfl
   have hok4:=HOK.out _ (List.getElem_mem HLT.out);rw[hx]at hs4;generalize ps[j]'HLT.out=x at*;have hn4:n4≤1000:=by have:=hs4.len;have:=hok4.2.1;omega
   have CR:=zh (jhw wr A4 n4 c4 x hs4 hn4);have HR:Hid (Rc.In (Rc.rdV x)):=Rc.rd_in x;have EQ:Hid (Bk.chk (Bk.run (Bk.new m) ((So.recs ps).take j)) (Rc.rdV x)=0→Rc.rdE x=0):=fun h0=>(So.rd_right (Bk.chk_right h0)).1;have SWP:=zh (SWJ.out j (Nat.le_of_lt HLT.out));generalize Rc.rdV x=rc at*;generalize Rc.rdE x=er at*;obtain⟨s,hs⟩:∃s,s=Bk.run (Bk.new m) ((So.recs ps).take j):=⟨_,rfl⟩;rw[←hs]at K4 LO PR EQ;have HS:=zh hs;clear hs hx hc3 hs4 hn4 hok4 S4;subst hA3;have q1:((j:Nat):Int)<(n:Nat):=by omega
   go_upto_region 7 with(first
   |(go_at_call 71;(with_reducible refine CR.out.mono ?_);rintro e w4 ⟨rfl,hb4⟩;have J5a:=zh (J4.out.on hb4);have K5a:=zh (jc8 K4.out hb4);have KW5a:=zh (KW4.out.trans (Kept.of_below (F:=fun i=>¬F1 i) hb4) (fun _ _ hf=>hf));clear hb4 CR)
   |((with_reducible show zW);refine jaa rfl (.tmp 6) (.tmp 31) rfl w4.heap.size rc Rc.none_ rfl rfl ⟨heap_alloc_new w4 _⟩ ?_))
   rw[World.setRow_alloc_new];have hb5:Below w4.heap.size w4 (w4.alloc (.cells (Rc.cells rc) 45)):=(Below.refl _ _).alloc (Nat.le_refl _) _;have RA:=zh (RcAt.new w4 rc);have J5:=zh (J5a.out.on hb5);have KW5:=zh (KW5a.out.trans (Kept.of_below (F:=fun i=>¬F1 i) hb5) (fun _ _ hf=>hf));have K5:Hid (BP w0 (fun i=>F1 i∨i=w4.heap.size) b s (w4.alloc (.cells (Rc.cells rc) 45))):=jbn (ji1 K5a.out hb5) (fun i hi=>hi.imp id fun e=>by rw[e];exact⟨Nat.le_refl _,by simp⟩);clear hb5 J5a K5a KW5a;obtain⟨g,hg⟩:∃g,g=w4.heap.size:=⟨_,rfl⟩;rw[←hg]at RA K5⊢;clear hg;generalize w4.alloc (.cells (Rc.cells rc) 45)=w5 at*;clear hcell hb3;by_cases hz:Bk.chk s rc=0
   ·have he:er=0:=EQ.out hz
    subst he;have CP:=zh (ji5 (jc8 K5.out (Below.refl _ _).drew) (HT.out.on0 (jbr (jc8 K5.out (Below.refl _ _).drew))) HR.out).1;rw[hz]at CP;have L1:=zh (LO.out.2 hz);refine wp_region_held_drew (S:=fun V=>StJ w0 G p m d (.pointer (some ⟨b,0,none⟩)) r q X V∧RcAt V g rc) (by kernel_rfl) ⟨J5.out.on (Below.refl _ _).drew,RA.out.on (Below.refl _ _).drew⟩ (fun hS=> ?_);refine tY 0 hS ?_;refine tY 1 hS ?_;refine tY 2 hS ?_;refine tY 3 hS ?_;refine tY 4 hS ?_;refine tY 5 hS ?_;simp only[Act.put,zT,zO,zS];refine tZ 6 rfl (by intro W hW;have lq:=hW.1.lt;have c2:=hW.1.cells.2.2.2.1;go_simp;(try with_reducible rfl)) hS ?_;refine tZ 7 (v:= .agg (Rc.cells rc)) rfl (fun W hW=>jap (.tmp 6) rfl g rc rfl hW.2) hS ?_;simp only[Act.put,zT,zO,zS];refine rO 8 (fun K hK=> ?_);go_simp
    with_reducible refine CP.out.mono ?_
    rintro e w7 ⟨rfl,hb7,hk7⟩;have KB7:=zh hb7;have KK7:=zh hk7;have hS2:=And.intro (hS.1.kept hk7 (fun i hi hn=>hn (.inl (SF.out i hi))) (jbr hb7)) (RcAt.mk ((hk7.block g hS.2.cs.lt (fun hn=>hn (.inr rfl))).trans hS.2.row));clear hS hb7 hk7;have hS:=hS2;clear hS2;refine hK.out _ _ hS (fun _=> ?_);clear hK K;refine tY 9 hS ?_;refine tY 10 hS ?_;simp only[Act.put,zT,zO,zS];refine wpAnyH_done (by kernel_rfl) ?_ _;have R7:=zh hS.1;clear hS;have KW7:=zh ((KW5.out.trans (Kept.of_below (F:=fun i=>¬F1 i) (Below.refl _ _).drew) (fun _ _ hf=>hf)).trans (KK7.out.more (G:=fun i=>¬F1 i) (fun i _ hi hf=>hi (.inl hf))) (fun _ _ hf=>hf));go_wp2_with fail;exact⟨⟨j+1,by omega,by go_num,L1.out,R7.out,by rw[LO.out.1];exact jbn KB7.out (fun i hi=> .inl hi),KW7.out⟩,by simp[intOf];omega⟩
   ·have PRE:=zh (PR.out hz)
    by_cases he:er=0
    ·subst he
     have CP:=zh (ji5 (jc8 K5.out (Below.refl _ _).drew) (HT.out.on0 (jbr (jc8 K5.out (Below.refl _ _).drew))) HR.out).1;have hz2:(Bk.chk s rc !=0)=true:=by simpa using hz
     have AN:=zh (Bk.app_no hz);rw[AN.out]at CP;generalize Bk.chk s rc=cc at*;refine wp_region_held_drew (S:=fun V=>StJ w0 G p m d (.pointer (some ⟨b,0,none⟩)) r q X V∧RcAt V g rc) (by kernel_rfl) ⟨J5.out.on (Below.refl _ _).drew,RA.out.on (Below.refl _ _).drew⟩ (fun hS=> ?_);refine tY 0 hS ?_;refine tY 1 hS ?_;refine tY 2 hS ?_;refine tY 3 hS ?_;refine tY 4 hS ?_;refine tY 5 hS ?_;simp only[Act.put,zT,zO,zS];refine tZ 6 rfl (by intro W hW;have lq:=hW.1.lt;have c2:=hW.1.cells.2.2.2.1;go_simp;(try with_reducible rfl)) hS ?_;refine tZ 7 (v:= .agg (Rc.cells rc)) rfl (fun W hW=>jap (.tmp 6) rfl g rc rfl hW.2) hS ?_;simp only[Act.put,zT,zO,zS];refine rO 8 (fun K hK=> ?_);go_simp
     with_reducible refine CP.out.mono ?_
     rintro e w7 ⟨rfl,hb7,hk7⟩;have KB7:=zh hb7;have KK7:=zh hk7;have hS2:=And.intro (hS.1.kept hk7 (fun i hi hn=>hn (.inl (SF.out i hi))) (jbr hb7)) (RcAt.mk ((hk7.block g hS.2.cs.lt (fun hn=>hn (.inr rfl))).trans hS.2.row));clear hS hb7 hk7;have hS:=hS2;clear hS2;refine hK.out _ _ hS (fun _=> ?_);clear hK K;refine tY 9 hS ?_;refine tY 10 hS ?_;simp only[Act.put,zT,zO,zS];refine wpAnyH_done (by kernel_rfl) ?_ _;have R7:=zh hS.1;clear hS;have KW7:=zh ((KW5.out.trans (Kept.of_below (F:=fun i=>¬F1 i) (Below.refl _ _).drew) (fun _ _ hf=>hf)).trans (KK7.out.more (G:=fun i=>¬F1 i) (fun i _ hi hf=>hi (.inl hf))) (fun _ _ hf=>hf));go_upto_region 8 with fail
     have J8:=zh (R7.out.on (Below.refl _ _).drew);have K8:=zh (jc8 (jbn KB7.out (fun i hi=> .inl hi):BP w0 F1 b s w7) (Below.refl _ _).drew);have O8:=zh (fun i (hi:G i)=>(KW7.out.block i (Nat.lt_of_lt_of_le (J3.out.g i hi) (Nat.le_refl _)) (fun hn=>hn (GF.out i hi))).trans (O3.out i hi));have S8:=zh (SlS.on (jc6 NL.out (OF3.out.kept (KW7.out) (fun i h1 h2 hn=>hn (EF.out i h1 h2)))) (Below.refl _ _).drew);have CW:=zh (jl0 J8.out.jrn J8.out.fresh (S8.out.take (k:=j) (by omega)) (by rw[List.length_take];have:=HN.out;omega) (fun x hx=>Nat.le_trans (HOK.out x (List.mem_of_mem_take hx)).2.1 (by omega)));rw[SWP.out.1,SWP.out.2]at CW;refine wp_region_held_drew (S:=fun V=>∃d' X',StJ w0 G p m d' (.pointer (some ⟨b,0,none⟩)) r q X' V) (by kernel_rfl) ⟨_,_,J8.out⟩ (fun hS=> ?_);refine tY 0 hS ?_;refine tY 1 hS ?_;refine tY 2 hS ?_;refine tZ 3 rfl (by intro W hW;obtain⟨d',X',hV⟩:=hW;have lq:=hV.lt;have c1:=hV.cells.2.2.1;go_simp;(try with_reducible rfl)) hS ?_;refine tY 4 hS ?_;refine tY 5 hS ?_;simp only[Act.put,zT,zO,zS];refine tZ 6 rfl (by intro W hW;have jc:j≤c3:=(by omega);go_simp;(try with_reducible rfl)) hS ?_;simp only[Act.put,zT,zO,zS];refine rO 7 (fun K hK=> ?_);go_simp
     with_reducible refine CW.out.mono ?_
     rintro e w9 ⟨rfl,hj9,hk9⟩;have T9:=zh (J8.out.turn hj9 hk9);have B9:=zh (J8.out.book (jbn K8.out SF.out) hk9);have O9:=zh (J8.out.others hk9);have hS2:(fun V=>∃d' X',StJ w0 G p m d' (.pointer (some ⟨b,0,none⟩)) r q X' V) w9:=⟨_,_,T9.out⟩;clear CW hj9 hk9 hS;have hS:=hS2;clear hS2;refine hK.out _ _ hS (fun _=> ?_);clear hK K;try simp only[Act.put,zT,zO,zS]
     refine wpAnyH_done (by kernel_rfl) ?_ _;clear hS;go_wp2_with fail;go_ret;have e:So.disk R (So.pre (Bk.new m) (So.recs ps))=Jn.Js R j (ps.take j):=by unfold So.disk;rw[PRE.out.1,PRE.out.2.1,PRE.out.2.2]
     have T10:=T9.out;rw[←e]at T10;have B10:=B9.out;rw[HS.out,←PRE.out.1]at B10;exact⟨by rw[PRE.out.1,PRE.out.2.1,←NL.out];rfl,⟨So.pre_cnt _ _,r,q,b,_,T10,B10⟩,fun i hi=>(O9.out i hi).trans (O8.out i hi)⟩
    ·have he2:(er !=0)=true:=by simpa using he
     refine wp_region_held_drew (S:=fun V=>StJ w0 G p m d (.pointer (some ⟨b,0,none⟩)) r q X V∧RcAt V g rc) (by kernel_rfl) ⟨J5.out.on (Below.refl _ _).drew,RA.out.on (Below.refl _ _).drew⟩ (fun hS=> ?_);refine tY 0 hS ?_;refine tY 1 hS ?_;refine tY 2 hS ?_;refine tN 3 hS ?_;refine tN 4 hS ?_;refine tN 5 hS ?_;simp only[Act.put,zT,zO,zS];refine tN 6 hS ?_;refine tN 7 hS ?_;refine tN 8 hS ?_;refine tN 9 hS ?_;refine tY 10 hS ?_;simp only[Act.put,zT,zO,zS];refine wpAnyH_done (by kernel_rfl) ?_ _;have R7:=zh hS.1;clear hS;have KW7:=zh (KW5.out.trans (Kept.of_below (F:=fun i=>¬F1 i) (Below.refl w5.heap.size w5).drew) (fun _ _ hf=>hf));have KB7:=zh (jc8 K5.out (Below.refl w5.heap.size w5).drew);generalize w5.drew=w7 at*;go_upto_region 8 with fail
     have J8:=zh (R7.out.on (Below.refl _ _).drew);have K8:=zh (jc8 (jbn KB7.out (fun i hi=> .inl hi):BP w0 F1 b s w7) (Below.refl _ _).drew);have O8:=zh (fun i (hi:G i)=>(KW7.out.block i (Nat.lt_of_lt_of_le (J3.out.g i hi) (Nat.le_refl _)) (fun hn=>hn (GF.out i hi))).trans (O3.out i hi));have S8:=zh (SlS.on (jc6 NL.out (OF3.out.kept (KW7.out) (fun i h1 h2 hn=>hn (EF.out i h1 h2)))) (Below.refl _ _).drew);have CW:=zh (jl0 J8.out.jrn J8.out.fresh (S8.out.take (k:=j) (by omega)) (by rw[List.length_take];have:=HN.out;omega) (fun x hx=>Nat.le_trans (HOK.out x (List.mem_of_mem_take hx)).2.1 (by omega)));rw[SWP.out.1,SWP.out.2]at CW;refine wp_region_held_drew (S:=fun V=>∃d' X',StJ w0 G p m d' (.pointer (some ⟨b,0,none⟩)) r q X' V) (by kernel_rfl) ⟨_,_,J8.out⟩ (fun hS=> ?_);refine tY 0 hS ?_;refine tY 1 hS ?_;refine tY 2 hS ?_;refine tZ 3 rfl (by intro W hW;obtain⟨d',X',hV⟩:=hW;have lq:=hV.lt;have c1:=hV.cells.2.2.1;go_simp;(try with_reducible rfl)) hS ?_;refine tY 4 hS ?_;refine tY 5 hS ?_;simp only[Act.put,zT,zO,zS];refine tZ 6 rfl (by intro W hW;have jc:j≤c3:=(by omega);go_simp;(try with_reducible rfl)) hS ?_;simp only[Act.put,zT,zO,zS];refine rO 7 (fun K hK=> ?_);go_simp
     with_reducible refine CW.out.mono ?_
     rintro e w9 ⟨rfl,hj9,hk9⟩;have T9:=zh (J8.out.turn hj9 hk9);have B9:=zh (J8.out.book (jbn K8.out SF.out) hk9);have O9:=zh (J8.out.others hk9);have hS2:(fun V=>∃d' X',StJ w0 G p m d' (.pointer (some ⟨b,0,none⟩)) r q X' V) w9:=⟨_,_,T9.out⟩;clear CW hj9 hk9 hS;have hS:=hS2;clear hS2;refine hK.out _ _ hS (fun _=> ?_);clear hK K;try simp only[Act.put,zT,zO,zS]
     refine wpAnyH_done (by kernel_rfl) ?_ _;clear hS;go_wp2_with fail;go_ret;have e:So.disk R (So.pre (Bk.new m) (So.recs ps))=Jn.Js R j (ps.take j):=by unfold So.disk;rw[PRE.out.1,PRE.out.2.1,PRE.out.2.2]
     have T10:=T9.out;rw[←e]at T10;have B10:=B9.out;rw[HS.out,←PRE.out.1]at B10;exact⟨by rw[PRE.out.1,PRE.out.2.1,←NL.out];rfl,⟨So.pre_cnt _ _,r,q,b,_,T10,B10⟩,fun i hi=>(O9.out i hi).trans (O8.out i hi)⟩
  ·have ej:j=n:=by omega
   have q1:((n:Nat):Int)≤(j:Nat):=by omega
   have PRE:=zh (So.load_at (m:=m) (ps:=ps) (j:=j) (by have:=NL.out;omega) CN.out (fun hx=>absurd hx (by have:=NL.out;omega)));have EJ:Hid (ps.take j=ps∧j=ps.length):=⟨List.take_of_length_le (by have:=NL.out;omega),by have:=NL.out;omega⟩;have KW7:=KW4;clear ej;go_wp2_with fail;go_ret;have EP:=EJ.out.1;have PR:=PRE.out;rw[EP]at PR;refine⟨by rw[PR.1,PR.2.1,EJ.out.2];simp,⟨So.pre_cnt _ _,r,q,b,X,?_,?_⟩,fun i (hi:G i)=>(KW7.out.block i (Nat.lt_of_lt_of_le (J3.out.g i hi) (Nat.le_refl _)) (fun hn=>hn (GF.out i hi))).trans (O3.out i hi)⟩
   ·have e:So.disk R (So.pre (Bk.new m) (So.recs ps))=d:=by unfold So.disk;rw[PR.1,PR.2.1,PR.2.2,HD.out,EJ.out.2]
    rw[e];exact J4.out
   ·rw[PR.1]
    exact jbn K4.out SF.out
namespace So
def comE(m:Int)(R:Nat)(L:List Rc.R)(r:Rc.R):Int:=if Bk.chk (Bk.all m L) r=0 then(if Fits R L r then 0 else 4)else Bk.chk (Bk.all m L) r
def com(m:Int)(R:Nat)(L:List Rc.R)(r:Rc.R):List Rc.R:=if Bk.chk (Bk.all m L) r=0∧Fits R L r then L++[r]else L
def torE(m:Int)(R:Nat)(L:List Rc.R)(r:Rc.R):Int:=if Bk.chk (Bk.all m L) r=0 then(if Fits R L r then 13 else 4)else Bk.chk (Bk.all m L) r
def tor(m:Int)(R:Nat)(L:List Rc.R)(r:Rc.R)(keep:Int):List Rc.R:=if Bk.chk (Bk.all m L) r=0∧Fits R L r∧Kept r keep then L++[r]else L
theorem com_no{m:Int}{R:Nat}{L:List Rc.R}{r:Rc.R}(h:Bk.chk (Bk.all m L) r≠0):com m R L r=L∧comE m R L r=Bk.chk (Bk.all m L) r:=by unfold com comE;rw[if_neg (fun x=>h x.1),if_neg h];exact⟨rfl,rfl⟩
theorem com_full{m:Int}{R:Nat}{L:List Rc.R}{r:Rc.R}(h:Bk.chk (Bk.all m L) r=0)(hf:¬Fits R L r):com m R L r=L∧comE m R L r=4:=by unfold com comE;rw[if_neg (fun x=>hf x.2),if_pos h,if_neg hf];exact⟨rfl,rfl⟩
theorem com_fits{m:Int}{R:Nat}{L:List Rc.R}{r:Rc.R}(h:Bk.chk (Bk.all m L) r=0)(hf:Fits R L r):com m R L r=L++[r]∧comE m R L r=0:=by unfold com comE;rw[if_pos ⟨h,hf⟩,if_pos h,if_pos hf];exact⟨rfl,rfl⟩
theorem tor_no{m:Int}{R:Nat}{L:List Rc.R}{r:Rc.R}(k:Int)(h:Bk.chk (Bk.all m L) r≠0):tor m R L r k=L∧torE m R L r=Bk.chk (Bk.all m L) r:=by unfold tor torE;rw[if_neg (fun x=>h x.1),if_neg h];exact⟨rfl,rfl⟩
theorem tor_full{m:Int}{R:Nat}{L:List Rc.R}{r:Rc.R}(k:Int)(h:Bk.chk (Bk.all m L) r=0)(hf:¬Fits R L r):tor m R L r k=L∧torE m R L r=4:=by unfold tor torE;rw[if_neg (fun x=>hf x.2.1),if_pos h,if_neg hf];exact⟨rfl,rfl⟩
theorem tor_fits{m:Int}{R:Nat}{L:List Rc.R}{r:Rc.R}(k:Int)(h:Bk.chk (Bk.all m L) r=0)(hf:Fits R L r):tor m R L r k=(if Kept r k then L++[r]else L)∧torE m R L r=13:=by
 unfold tor torE;rw[if_pos h,if_pos hf];by_cases hk:Kept r k
 ·rw[if_pos ⟨h,hf,hk⟩,if_pos hk];exact⟨rfl,rfl⟩
 ·rw[if_neg (fun x=>hk x.2.2),if_neg hk];exact⟨rfl,rfl⟩
end So
theorem SA.rec{w0 W:World}{G:Nat→Prop}{p R:Nat}{m:Int}{L:List Rc.R}(h:SA w0 G p m R L W)(rc:Rc.R):SA w0 (fun i=>G i∨i=W.heap.size) p m R L (W.alloc (.cells (Rc.cells rc) 45)):=
 (h.more ((Below.refl _ _).alloc (Nat.le_refl _) _)).less fun i hi=>hi.imp id fun e=>by rw[e];exact⟨Nat.le_refl _,by simp⟩
theorem jhx{w0 W:World}{G:Nat→Prop}{p R:Nat}{m:Int}{L:List Rc.R}(h:SA w0 G p m R L W)(ht:BT w0){rc:Rc.R}(hr:Rc.In rc):
  Calls Tryz.prog 23 #[.pointer (some ⟨p,0,none⟩),.agg (Rc.cells rc)] W (SRes w0 G p m R (So.com m R L rc) (.int .i64 (So.comE m R L rc)) W):=by
 obtain⟨L2,hL2⟩:∃L2,L2=So.com m R L rc:=⟨_,rfl⟩;obtain⟨E2,hE2⟩:∃E2,E2=So.comE m R L rc:=⟨_,rfl⟩;rw[←hL2,←hE2];have HC:=zh (And.intro hL2 hE2);clear hL2 hE2;have HR:=zh hr;have HT:=zh ht;have TK:=zh h.took;have HRT:=zh h.right;obtain⟨g,hg⟩:∃g,g=W.heap.size:=⟨_,rfl⟩;have h1:=h.rec rc;rw[←hg]at h1;have O1:Hid (∀i,G i→(W.alloc (.cells (Rc.cells rc) 45)).heap[i]? =W.heap[i]?):=by
  obtain⟨_,r,q,b,X,h2,_⟩:=h;exact fun i hi=>((Below.refl W.heap.size W).alloc (Nat.le_refl _) _).block i (h2.g i hi)
 have RA:Hid (RcAt (W.alloc (.cells (Rc.cells rc) 45)) g rc):=by rw[hg];exact RcAt.new W rc
 clear h hr ht;obtain⟨W1,hW1⟩:∃W1,W1=W.alloc (.cells (Rc.cells rc) 45):=⟨_,rfl⟩;rw[←hW1]at h1 O1 RA;obtain⟨_,r,q,b,X,hj,hk⟩:=h1;have J1:=zh hj;have K1:=zh hk;have CF:=zh (jht hj hk (HT.out.on0 hj.below) rc HR.out);have EQ:Hid (Bk.chk (Bk.all m L) rc=0→Rc.right rc=true):=fun h0=>Bk.chk_right h0;clear hj hk;obtain⟨s,hs⟩:∃s,s=Bk.all m L:=⟨_,rfl⟩;rw[←hs]at CF K1 EQ;have HS:=zh hs;clear hs;go_enter_defers Tryz.func23,Tryz.ntmps23;go_upto_region 1 with fail
 rw[←hW1];rw[←hg];clear hW1 hg;obtain⟨ans,hans⟩:∃ans,ans=Bk.chk s rc:=⟨_,rfl⟩;rw[←hans]at CF EQ;have AN:=zh hans;clear hans;by_cases h0:ans=0
 ·have HZ:Hid (Bk.chk s rc=0):=AN.out.symm.trans h0
  have RT:=zh (EQ.out h0);subst h0;go_upto_region 4 with(first
   |((with_reducible show zL 10);refine zR (.tmp 3) RA.out ?_)
   |(go_at_call 50;(with_reducible refine CF.out.mono ?_);rintro e w2 ⟨A,n,c,rfl,hs,hb⟩;have J2:=zh (J1.out.on hb);have K2:=zh (jc8 K1.out hb);have R2:=zh (RA.out.on hb);have O2:=zh (fun i (hi:G i)=>(hb.block i (J1.out.g i (.inl hi))).trans (O1.out i hi));have S2:=zh hs;clear hb hs CF J1 K1 O1 RA))
  have S3:=zh (S2.out (by trivial));clear S2;by_cases hf:So.Fits R L rc
  ·have HF:=zh hf
   have DF:=zh (So.disk_app (R:=R) RT.out HF.out);have CA:=zh (jg0 J2.out.jrn J2.out.fresh S3.out (by rw[S3.out.len];have:=Rc.bytes_len RT.out;omega));have lq2:=J2.out.lt;have c12:=J2.out.cells.2.2.1;rw[DF.out.2]at CA;go_upto_region 7 with(go_at_call 62;(with_reducible refine CA.out.mono ?_);rintro e w3 ⟨rfl,hj,hk⟩;have J3:=zh (J2.out.turn hj hk);have K3:=zh (J2.out.book K2.out hk);have R3:Hid (RcAt w3 g rc):=⟨(J2.out.others hk g (.inr rfl)).trans R2.out.row⟩;have O3:=zh (fun i (hi:G i)=>(J2.out.others hk i (.inl hi)).trans (O2.out i hi));clear hj hk CA lq2 c12)
   obtain⟨d',hd'⟩:∃d',d'=Jn.app (So.disk R L) (Rc.bytes rc):=⟨_,rfl⟩;rw[←hd']at J3 DF;clear hd';obtain⟨X',hX'⟩:∃X',X'=(fun i=>(X i∨w2.heap.size≤i)∧i<w3.heap.size):=⟨_,rfl⟩;rw[←hX']at J3 K3;clear hX';refine wp_mono (h:=?_) (fun e a w (h:e=Exit.normal∧_)=>h.2);refine wp_region_held_drew (S:=fun V=>StJ w0 (fun i=>G i∨i=g) p m d' (.pointer (some ⟨b,0,none⟩)) r q X' V∧RcAt V g rc) (by kernel_rfl) ⟨J3.out.on (Below.refl _ _).drew,R3.out.on (Below.refl _ _).drew⟩ (fun hS=> ?_);refine jib 0 (v:=?_) rfl (by kernel_rfl) (fun _ _ _ h=>nomatch h.1) rfl ?_ hS ?_
   rotate_left
   ·intro W hW;go_simp;(try with_reducible rfl)
   simp only[Act.put,zT,zO,zS];refine jib 1 (v:=?_) rfl (by kernel_rfl) (fun _ _ _ h=>nomatch h.1) rfl ?_ hS ?_
   rotate_left
   ·intro W hW;go_simp;(try with_reducible rfl)
   simp only[Act.put,zT,zO,zS];refine jib 2 (v:=?_) rfl (by kernel_rfl) (fun _ _ _ h=>nomatch h.1) rfl ?_ hS ?_
   rotate_left
   ·intro W hW;go_simp;(try with_reducible rfl)
   simp only[Act.put,zT,zO,zS];refine jib 3 (v:=?_) rfl (by kernel_rfl) (fun _ _ _ h=>nomatch h.1) rfl ?_ hS ?_
   rotate_left
   ·intro W hW;have lq:=hW.1.lt;have c2:=hW.1.cells.2.2.2.1;go_simp;(try with_reducible rfl)
   simp only[Act.put,zT,zO,zS];refine jib 4 (v:= .agg (Rc.cells rc)) rfl (by kernel_rfl) (fun _ _ _ h=>nomatch h.1) rfl (fun W hW=>jap (.tmp 3) rfl g rc rfl hW.2) hS ?_;simp only[Act.put,zT,zO,zS];refine rO 5 (fun K hK=> ?_);go_simp;refine hK.out _ _ hS (fun _=> ?_);clear hK K;try simp only[Act.put,zT,zO,zS]
   refine wpAnyH_done (by kernel_rfl) ?_ _;refine⟨rfl,?_⟩;have J7:=zh hS.1;have R7:=zh hS.2;clear hS;have K7:=zh (jc8 K3.out (Below.refl w3.heap.size w3).drew);have O7:Hid (∀i,G i→w3.drew.heap[i]? =W.heap[i]?):=O3.out;clear J3 K3 R3 O3;generalize w3.drew=w7 at*;have CS:=zh (jSync_x J7.out.jrn J7.out.fresh);have lq7:=J7.out.lt;have c17:=J7.out.cells.2.2.1;go_wp2_with(go_at_call 64;(with_reducible refine CS.out.mono ?_);rintro e w8 ⟨rfl,hj,hk⟩;have J8:=zh (J7.out.turn hj hk);have K8:=zh (J7.out.book K7.out hk);have O8:=zh (fun i (hi:G i)=>(J7.out.others hk i (.inl hi)).trans (O7.out i hi));clear hj hk CS lq7 c17);rw[DF.out.1]at J8;have C:=So.com_fits (by rw[←HS.out];exact HZ.out) HF.out;rw[←HC.out.1,←HC.out.2]at C;refine jf6 (by simp[go_sem]) (ji5 K8.out (HT.out.on0 J8.out.below) HR.out) ?_;rintro e w9 ⟨rfl,hb9,hk9⟩;have J9:=J8.out.kept hk9 (fun i hi hn=>hn hi) (jbr hb9);rw[HS.out]at hb9;refine⟨_,rfl,_,results_tmp rfl _ _ _,by rw[C.2];rfl,?_,fun i hi=>(hk9.block i (J8.out.g i (.inl hi)) (fun hn=>hn (.inl (.inl hi)))).trans (O8.out i hi)⟩;rw[C.1];have e:Bk.app (Bk.all m L) rc=Bk.all m (L++[rc]):=(Bk.run_snoc _ _ _).symm;rw[e]at hb9;exact SA.less (F:=G) ⟨So.took_snoc TK.out (by rw[←HS.out];exact HZ.out),r,q,b,_,J9,hb9⟩ (fun i hi=> .inl hi)
  ·have HF:=zh hf
   have DF:=zh (So.disk_full (R:=R) RT.out HF.out);have CA:=zh (jg0 J2.out.jrn J2.out.fresh S3.out (by rw[S3.out.len];have:=Rc.bytes_len RT.out;omega));have lq2:=J2.out.lt;have c12:=J2.out.cells.2.2.1;rw[DF.out.1,DF.out.2]at CA;go_wp2_with(go_at_call 62;(with_reducible refine CA.out.mono ?_);rintro e w3 ⟨rfl,hj,hk⟩;have J3:=zh (J2.out.turn hj hk);have K3:=zh (J2.out.book K2.out hk);have R3:Hid (RcAt w3 g rc):=⟨(J2.out.others hk g (.inr rfl)).trans R2.out.row⟩;have O3:=zh (fun i (hi:G i)=>(J2.out.others hk i (.inl hi)).trans (O2.out i hi));clear hj hk CA lq2 c12);have C:=So.com_full (by rw[←HS.out];exact HZ.out) HF.out;rw[←HC.out.1,←HC.out.2]at C;have K4:=K3.out;rw[HS.out]at K4;refine⟨_,results_tmp rfl _ _ _,by rw[C.2];rfl,?_,O3.out⟩;rw[C.1];exact SA.less (F:=G) ⟨TK.out,r,q,b,_,J3.out,K4⟩ (fun i hi=> .inl hi)
 ·have h1:(ans !=0)=true:=by simpa using h0
  go_wp2_with(first
   |((with_reducible show zL 10);refine zR (.tmp 3) RA.out ?_)
   |(go_at_call 50;(with_reducible refine CF.out.mono ?_);rintro e w2 ⟨A,n,c,rfl,hs,hb⟩;have J2:=zh (J1.out.on hb);have K2:=zh (jc8 K1.out hb);have R2:=zh (RA.out.on hb);have O2:=zh (fun i (hi:G i)=>(hb.block i (J1.out.g i (.inl hi))).trans (O1.out i hi));have S2:=zh hs;clear hb hs CF J1 K1 O1 RA))
  have C:=So.com_no (R:=R) (L:=L) (m:=m) (r:=rc) (by rw[←HS.out,←AN.out];exact h0);rw[←HC.out.1,←HC.out.2,←HS.out,←AN.out]at C;have K4:=K2.out;rw[HS.out]at K4;refine⟨_,results_tmp rfl _ _ _,by rw[C.2];rfl,?_,O2.out⟩;rw[C.1];exact SA.less (F:=G) ⟨TK.out,r,q,b,_,J2.out,K4⟩ (fun i hi=> .inl hi)
end Go.Proofs.YtabandbigckfkaaGreatDoor
namespace Go.Proofs.YtabandbigckfkaaGreatDoor
open Go.RowKit
def GoodC:Prop:=∀s W,Spc.In s→Calls Tryz.prog 128 #[Spc.val s] W (APos W (Spc.val (Spc.good s)))
end Go.Proofs.YtabandbigckfkaaGreatDoor
