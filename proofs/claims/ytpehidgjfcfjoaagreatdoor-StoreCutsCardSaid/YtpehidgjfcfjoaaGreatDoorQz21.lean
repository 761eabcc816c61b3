import Derived.Test.YtpehidgjfcfjoaaGreatDoorQz20
import Derived.Test.YtpehidgjfcfjoaaGreatDoorQz16
set_option maxHeartbeats 6400000
set_option maxRecDepth 100000
set_option linter.unusedSimpArgs false
set_option linter.unusedVariables false
namespace Go.Proofs.YtpehidgjfcfjoaaGreatDoor
open Go.RowKit Fr
section
variable{W:World}{X:Nat->Prop}{q r:Nat}{d:Dk.St}(h:Jrn W X q r d)(hX:∀i,W.heap.size<=i->X i)
include h hX
theorem jTorn_x{n c:Nat}{A:Option Addr}{p:List Nat}(hs:Sl W A n c p)(hn:n<=900000000){keep:Int}:
  Calls Tryz.prog 36 #[.pointer (some ⟨q,0,none⟩),.slice A n c,.int .i64 keep] W fun e w'=>e= .returned (.int .i64 (Jn.tornE d p))/\Jrn w' X q r (Jn.torn d p keep)/\Kept X W w':=by
 have H:=zh h;have HX:=zh hX;have C1:=zh (jmd h.ask rfl h.dsk.okay rfl n c A p hs hn);have HP:Hid (∀x∈p,x<256):=hs.rd.1;have HW:=zh (h.whole.torn hs.rd.1 keep);have hok:=h.dsk.okay;clear h hX hs;by_cases h0:Jn.appE d p=0
 ·obtain⟨kk,hkk⟩:∃kk,kk=Jn.keptN p keep:=⟨_,rfl⟩
  have hm:kk<=(fr p).length:=by rw[hkk];unfold Jn.keptN;omega
  have hmx:max 0 (min keep (((fr p).length:Nat):Int))=(kk:Nat):=by rw[hkk];unfold Jn.keptN;omega
  have E0:Hid (Jn.torn d p keep=Jn.opened (Dk.sync (Dk.write d ((fr p).take kk)))):=by show Jn.torn d p keep=_;unfold Jn.torn;rw[if_neg zv,<-hkk]
  have T0:Hid (Jn.tornE d p=13):=by show _=_;unfold Jn.tornE;rw[if_neg zv]
  have HY:Hid (Jn.Byt (Dk.write d ((fr p).take kk))):=H.out.whole.byt.write fun x hx=>fr_byte HP.out x (List.mem_of_mem_take hx);have HC:=zh (Jn.crash_all (Dk.write d ((fr p).take kk)) (hok.write _));have hfl:(fr p).length<=1048576:=by
   rw[fr_length];unfold Jn.appE at h0;by_cases hp:putE p=0
   ·have:=(Jn.put_ok hp).2;omega
   ·rw[if_pos hp]at h0;omega
  have hwl:(Dk.write d ((fr p).take kk)).l.length<=1048576:=Nat.le_trans (hok.write _).2.1 (hok.write _).2.2;rw[h0]at C1;clear hkk h0 hok;obtain⟨f,hf0⟩:∃f,f=fr p:=⟨_,rfl⟩;rw[<-hf0]at hm hmx E0 HY HC hfl hwl;have HF0:=zh hf0;clear hf0;generalize Jn.tornE d p=te at*;go_in;go_wp2_with fail;refine C1.out.mono ?_;rintro e w1 ⟨A1,c1,f1,rfl,ho1,hf,hb1⟩;obtain rfl:f1=f:=(hf (by trivial)).trans HF0.out.symm;have B1:=zh hb1;have S1:=zh ((ho1.sls).take (k:=kk) hm);have H1:=zh (H.out.below hb1);have hcap:=ho1.sls.cap;have hmax:=ho1.sls.max;unfold maxLen at hmax;clear ho1 hb1 hf C1;go_wp2_with fail;refine(jdd w1 q _ H1.out.blk).mono ?_;rintro e w1' ⟨rfl,rfl⟩;go_wp2_with fail
  (with_reducible refine(jma w1' H1.out.dsk (H1.out.fresh fun i hi=>HX.out i (Nat.le_trans B1.out.size hi)) S1.out).mono ?_)
  rintro e w2 ⟨rfl,hd2,hk2⟩;have D2:=zh hd2;have K2:=zh hk2;have F2:Hid (∀i,w2.heap.size<=i->X i/\i≠q):=fun i hi=>H1.out.fresh (fun i hi=>HX.out i (Nat.le_trans B1.out.size hi)) i (Nat.le_trans hk2.size hi);clear hd2 hk2;obtain⟨d2,hd2⟩:∃d2,d2=Dk.write d (f1.take kk):=⟨_,rfl⟩;rw[<-hd2]at E0 HY HC hwl D2;generalize Dk.writeE d (f1.take kk)=we at*;clear hd2;go_wp2_with fail;refine(dLen_x w2 D2.out).mono ?_;rintro e w3 ⟨rfl,hb3⟩;have D3:=zh (D2.out.below hb3);have K3:=zh (K2.out.trans (Kept.of_below (F:=fun i=>X i/\i≠q) hb3) fun i _ hi=>hi);have F3:Hid (∀i,w3.heap.size<=i->X i/\i≠q):=fun i hi=>F2.out i (Nat.le_trans hb3.size hi);clear hb3 F2 K2 D2;have CC:=zh (jug w3 D3.out F3.out (keep:=(d2.l.length:Nat)) zv);rw[HC.out]at CC;go_wp2_with fail
  (with_reducible refine CC.out.mono ?_)
  rintro e w4 ⟨rfl,hd4,hk4⟩;have D4:=zh hd4;have K4:=zh (K3.out.trans hk4 fun i _ hi=>hi);have F4:Hid (∀i,w4.heap.size<=i->X i/\i≠q):=fun i hi=>F3.out i (Nat.le_trans hk4.size hi);clear hd4 hk4 CC F3 D3 K3;generalize Dk.lost d2 (d2.l.length:Nat)=lo at*;go_wp2_with fail
  (with_reducible refine(jme w4 D4.out F4.out HY.out.sync).mono ?_)
  rintro e w5 hp;obtain⟨rfl,hj,hk⟩:=H1.out.step (hp.before K4.out) (by rw[<-E0.out];exact HW.out);rw[<-E0.out]at hj;have J5:=zh hj;have K5:=zh ((Kept.of_below (F:=X) B1.out).trans hk fun i _ hi=>hi);clear hp hj hk;go_wp2;go_ret;exact⟨by rw[T0.out];rfl,J5.out,K5.out⟩
 ·have E0:Hid (Jn.torn d p keep=d/\Jn.tornE d p=Jn.appE d p):=by
   show _/\_;unfold Jn.torn Jn.tornE;rw[if_pos h0,if_pos h0];exact⟨rfl,rfl⟩
  have hne:(Jn.appE d p !=0)=true:=by rw[bne_iff_ne];exact h0
  rw[E0.out.2];obtain⟨y,hy⟩:∃y,y=Jn.appE d p:=⟨_,rfl⟩;rw[<-hy]at C1 hne⊢;clear h0 hy;go_in;go_wp2_with fail;refine C1.out.mono ?_;rintro e w1 ⟨A1,c1,f,rfl,ho1,hf,hb1⟩;have B1:=zh hb1;clear ho1 hb1 hf C1;go_wp2;go_ret;exact⟨rfl,by rw[E0.out.1];exact H.out.below B1.out,Kept.of_below B1.out⟩
theorem jqo{n c:Nat}{A:Option Addr}{ls:List (List Nat)}(hs:SlS W A n c ls)(hl:ls.length<=1000)(hpl:∀p∈ls,p.length<=900000000):
  Calls Tryz.prog 50 #[.pointer (some ⟨q,0,none⟩),.slice A n c] W fun e w'=>e= .returned (.int .i64 (Jn.swapE d ls))/\Jrn w' X q r (Jn.swap d ls)/\Kept X W w':=by
 have H:=zh h;have HX:=zh hX;have HS:=zh hs;have hnl:n=ls.length:=hs.len;have hn1000:n<=1000:=by omega
 have HN:=zh hnl;have HPL:=zh hpl;have HB:Hid (∀p∈ls,∀x∈p,x<256):=fun p hp=>by
  obtain⟨j,hj,rfl⟩:=List.mem_iff_getElem.1 hp;obtain⟨b,o,_,_,hc⟩:=hs.rd zv;obtain⟨A',n',c',_,h2⟩:=hc j hj;have:=h2.rd.1
  rwa [jal hj]at this
 have HW:=zh (h.whole.swap HB.out);clear h hX hs hl hnl hpl;go_in;go_wp2_with fail;refine(jdd W q _ H.out.blk).mono ?_;rintro e W' ⟨rfl,rfl⟩;go_wp2_with fail;go_loopw [6,17] (fun v i wr=>∃(m:Nat) (A':Option Addr) (c' y:Nat),m<=n/\i= .int .i64 m/\(∀j,j<m->putE (ls.getD j [])=0)/\v= .slice A' y c'/\y=(all (ls.take m)).length/\OwnB wr W'.heap.size (.slice A' y c') (all (ls.take m))/\Below W'.heap.size W' wr) (fun _ i _=>n -(intOf i).toNat)
 case atStart=>exact⟨0,none,0,0,zv,rfl,fun j hj=>absurd hj zv,rfl,rfl,OwnB.none_ _ _,Below.refl _ _⟩
 case round=>
  obtain⟨m,A',c',y,hm,rfl,hput,rfl,hyl,hown,hb⟩:=hrel;have O:=zh hown;have B:=zh hb;have P:=zh hput;have YL:=zh hyl;have hy:y<=1006*m:=by rw[hyl];exact Jn.all_len (by rw[<-HN.out];exact hm) hput
  clear hown hb hput hyl;by_cases hlt:m<n
  ·have hml:m<ls.length:=by rw[<-HN.out];exact hlt
   obtain⟨b,o,rfl,hbb,hc⟩:=HS.out.rd zv;obtain⟨A2,n2,c2,hcell,hs2⟩:=hc m hml;have c0:=(B.out.cell (p:=⟨b,o+m,none⟩) hbb).trans hcell;have hp9:n2<=900000000:=by rw[hs2.len,jal hml];exact HPL.out _ (List.getElem_mem hml)
   have C2:=zh (jh7 0 0 n2 c2 none A2 [] (ls.getD m []) wr (Sl.none_ _) (hs2.on B.out) zv hp9);have SN:=zh (all_take_snoc hml);have PM:=zh (fun he=>Jn.bad_at P.out hml he);clear hc hcell hs2 hp9;have i1:(0:Int)<=(m:Int):=by omega
   have i2:(m:Int)<(n:Int):=by omega
   obtain⟨x,hx⟩:∃x,x=all (ls.take m):=⟨_,rfl⟩;rw[<-hx]at O YL SN;have HXx:=zh hx;clear hx;by_cases he:putE (ls.getD m [])=0
   ·have HE:=zh he
    have hpo:=Jn.put_ok he;have hL:putL [] (ls.getD m [])=fr (ls.getD m []):=(jh6 hpo.1 hpo.2).2;rw[hL,he]at C2;have HFL:Hid ((fr (ls.getD m [])).length<=1006):=by show _<=_;rw[fr_length];omega
    obtain⟨z,hz⟩:∃z,z=(fr (ls.getD m [])).length:=⟨_,rfl⟩;unfold jfm at C2;rw[<-hz]at C2 HFL;have HZ:=zh hz;clear he hpo hL hz;go_wp2_with fail
    (with_reducible refine C2.out.mono ?_)
    rintro e w4 ⟨A4,c4,rfl,ho4,hb4⟩;have S4:=zh ho4.sls;have O4:=zh (O.out.below hb4);have B4:=zh (B.out.trans (hb4.mono B.out.size));have LZ:Hid (x.length+(fr (ls.getD m [])).length<=140737488355328):=by show _<=_;have h1:=HFL.out;have h2:=YL.out;have h3:=HZ.out;omega
    have LX:Hid (y+z=(x++fr (ls.getD m [])).length):=by show _=_;rw[List.length_append,YL.out,HZ.out]
    clear ho4 hb4 C2;obtain⟨f,hf⟩:∃f,f=fr (ls.getD m []):=⟨_,rfl⟩;rw[<-hf]at S4 LZ SN LX;clear hf HZ;go_wp2_with(at_builtin;refine jan rfl (.tmp 29) (.tmp 30) rfl W'.heap.size _ x rfl O4.out z c4 A4 f rfl S4.out LZ.out B4.out.size ?_;intro v5 w5 ho5 hb5;have O5:=zh ho5;have B5:=zh (B4.out.trans hb5);obtain⟨A5,c5,rfl,_⟩:=ho5.sl;clear ho5 hb5);rw[<-LX.out]at O5;go_roundw
    case rel=>exact⟨m+1,A5,c5,y+z,zv,by go_num,(fun j hj=>by rcases Nat.lt_or_ge j m with h|h;exact P.out j h;rw[show j=m from by omega];exact HE.out),by rw[LX.out,List.length_append],by rw[SN.out,LX.out],by rw[SN.out];exact O5.out,B5.out⟩
    case measure=>simp[intOf];omega
   ·have HBD:=zh (PM.out he)
    have hne:(((putE (ls.getD m []):Nat):Int) !=0)=true:=by rw[bne_iff_ne];omega
    have HXX:Hid (Jn.swap d ls=d/\Jn.swapE d ls=(putE (ls.getD m []):Nat)):=by
     show _/\_;unfold Jn.swap Jn.swapE;rw[HBD.out,if_pos he,if_pos he];exact⟨rfl,rfl⟩
    obtain⟨z,hz⟩:∃z,z=(putL [] (ls.getD m [])).length:=⟨_,rfl⟩;unfold jfm at C2;rw[<-hz]at C2;clear he hz HBD PM;generalize putE (ls.getD m [])=ee at*;go_wp2_with fail
    (with_reducible refine C2.out.mono ?_)
    rintro e w4 ⟨A4,c4,rfl,_,hb4⟩;have B4:=zh (B.out.trans (hb4.mono B.out.size));clear hb4;go_wp2;go_ret;exact⟨by rw[HXX.out.2];rfl,by rw[HXX.out.1];exact H.out.below B4.out,Kept.of_below B4.out⟩
  ·obtain rfl:m=n:=by omega
   have HT:Hid (ls.take m=ls):=by show _=_;rw[HN.out,List.take_length]
   have h0:=Jn.bad_none (fun j hj=>P.out j (by rw[HN.out];exact hj));have HXX:Hid (Jn.swap d ls=Dk.swap d (all ls)/\Jn.swapE d ls=Dk.swapE d (all ls)):=by
    show _/\_;unfold Jn.swap Jn.swapE;rw[h0,if_neg zv,if_neg zv];exact⟨rfl,rfl⟩
   have S:=zh O.out.sls;rw[HT.out]at S;have H1:=zh (H.out.below B.out);clear h0 HT O YL;go_wp2_with fail
   (with_reducible refine(dSwap_x wr H1.out.dsk (H1.out.fresh fun i hi=>HX.out i (Nat.le_trans B.out.size hi)) S.out).mono ?_)
   rw[<-HXX.out.1,<-HXX.out.2];rintro e w2 hp;obtain⟨rfl,hj,hk⟩:=H1.out.step hp HW.out;have J2:=zh hj;have K2:=zh ((Kept.of_below (F:=X) B.out).trans hk fun i _ hi=>hi);clear hp hj hk;obtain⟨ee,hee⟩:∃ee,ee=Jn.swapE d ls:=⟨_,rfl⟩;rw[<-hee];have HEE:=zh hee;clear hee;go_wp2;go_ret;exact⟨by rw[<-HEE.out];rfl,J2.out,K2.out⟩
end
end Go.Proofs.YtpehidgjfcfjoaaGreatDoor
namespace Go.Proofs.YtpehidgjfcfjoaaGreatDoor
open Go.RowKit Go.Deep Go.Maps
structure RdC(w0:World)(q:Nat)(s:Bk.St)(ru:Nat->Bk.Un)(rv:Int)(lo ko:Option Nat)(H:Value)(K:Kv.St)(g:Nat)(r:Rc.R)(W:World):Prop where
 bd:BdIs W q s ru rv lo ko H K
 rc:RcAt W g r
 b:Below w0.heap.size w0 W
section
variable{w0 W W':World}{q g:Nat}{s:Bk.St}{ru:Nat->Bk.Un}{rv:Int}{lo ko:Option Nat}{H:Value}{K:Kv.St}{r:Rc.R}
theorem RdC.on(h:RdC w0 q s ru rv lo ko H K g r W)(hb:Below W.heap.size W W'):RdC w0 q s ru rv lo ko H K g r W':=⟨h.bd.on hb,h.rc.on hb,h.b.trans (hb.mono h.b.size)⟩
theorem RdC.open_(h:BdIs w0 q s ru rv lo ko H K)(r:Rc.R):RdC w0 q s ru rv lo ko H K w0.heap.size r (w0.alloc (.cells (Rc.cells r) 60)):=by
 have hb:Below w0.heap.size w0 (w0.alloc (.cells (Rc.cells r) 60)):=(Below.refl _ _).alloc (Nat.le_refl _) _;exact⟨h.on hb,RcAt.new _ _,hb⟩
end
theorem Ph.of_small(t:ByteArray):i64P (Ph.of t):=by
 have:=Ph.place_le t;unfold Ph.of i64P;split<;>omega
theorem zzz{p:Prop}(h:p:=by
 clear hx hl
 go_wp2_with(first
 |(go_at_call 164;(with_reducible refine(CH.out _ R0.out).mono ?_);rintro e w1 ⟨rfl,hb⟩;have R1:=zh (R0.out.on hb);clear hb c3;have lq:=R1.out.bd.lt.1)
 |(go_at_call 165;(with_reducible refine(CL.out _ R1.out).mono ?_);rintro e w2 ⟨rfl,hw⟩;obtain rfl:=hw))
 go_ret;exact⟨rfl,R1.out.b⟩):p:=h
theorem jqp(q:Nat)(s:Bk.St)(ru:Nat->Bk.Un)(rv:Int)(lo ko:Option Nat)(H:Value)(K:Kv.St)(w:World)(h:BdIs w q s ru rv lo ko H K)(ht:BT w)(r:Rc.R)(hin:Rc.In r):Calls Tryz.prog 110 #[.pointer (some ⟨q,0,none⟩),.agg (Rc.cells r)] w (BRet (.int .i64 (Bk.chk2 s r)) w):=by
 obtain⟨ans,hans⟩:∃ans,ans=Bk.chk2 s r:=⟨_,rfl⟩;rw[<-hans];have AN:=zh hans;clear hans;have HT:=zh ht;obtain⟨W,hW⟩:∃W,W=w.alloc (.cells (Rc.cells r) 60):=⟨_,rfl⟩;obtain⟨g,hg⟩:∃g,g=w.heap.size:=⟨_,rfl⟩;have R0:=zh (RdC.open_ h r);rw[<-hW,<-hg]at R0;have GE:Hid (w.heap.size<=g):=Nat.le_of_eq hg.symm;have HI:=zh (hin.nums r.n (by simp[Rc.nums]));have CH:Hid (∀W,RdC w q s ru rv lo ko H K g r W->Calls Tryz.prog 164 #[.pointer (some ⟨q,0,none⟩),.int .i64 r.n] W (BRet (.bool (Bk.has s.vs r.n)) W)):=fun W h=>jlw q s ru rv lo ko H K W h.bd (HT.out.on h.b) r.n HI.out;have CL:Hid (∀W,RdC w q s ru rv lo ko H K g r W->Calls Tryz.prog 165 #[.pointer (some ⟨q,2,none⟩)] W (fun e w'=>e= .returned (.int .i64 (s.vs.length:Nat))/\w'=W)):=fun W h=>by
  have:=ji0 W _ ko K h.bd.kvIs.ask;rw[h.bd.dg.len]at this;exact this
 clear h ht;go_in;go_upto_region 1 with fail
 rw[<-hW,<-hg];clear hW hg;have c3:=R0.out.rc.cs.c3
 cases hx:Bk.has s.vs r.n with
 |true=>
  have E:ans=6:=AN.out.trans (if_pos hx);subst E;rw[hx]at CH;clear hx;go_wp2_with(go_at_call 164;(with_reducible refine(CH.out _ R0.out).mono ?_);rintro e w1 ⟨rfl,hb⟩;have R1:=zh (R0.out.on hb);clear hb c3;have lq:=R1.out.bd.lt.1);go_ret;exact⟨rfl,R1.out.b⟩
 |false=>
  rw[hx]at CH;by_cases hl:64<=s.vs.length
  ·have E:ans=4:=by rw[AN.out];unfold Bk.chk2;rw[if_neg (by rw[hx];simp),if_pos hl]
   subst E;have hl2:(64:Int)<=(s.vs.length:Nat):=by omega
   exact zzz
  ·have E:ans=0:=by rw[AN.out];unfold Bk.chk2;rw[if_neg (by rw[hx];simp),if_neg hl]
   subst E;have hl2:¬(64:Int)<=(s.vs.length:Nat):=by omega
   exact zzz
theorem zz36{p:Prop}(h:p:=by
 clear hx hy hz;go_region;go_wp2;go_ret;exact⟨rfl,R2.out.b.drew⟩):p:=h
theorem jqq(q:Nat)(s:Bk.St)(ru:Nat->Bk.Un)(rv:Int)(lo ko:Option Nat)(H:Value)(K:Kv.St)(w:World)(h:BdIs w q s ru rv lo ko H K)(ht:BT w)(r:Rc.R)(hin:Rc.In r):Calls Tryz.prog 112 #[.pointer (some ⟨q,0,none⟩),.agg (Rc.cells r)] w (BRet (.int .i64 (Bk.chk3 s r)) w):=by
 obtain⟨ans,hans⟩:∃ans,ans=Bk.chk3 s r:=⟨_,rfl⟩;rw[<-hans];have AN:=zh hans;clear hans;have HT:=zh ht;obtain⟨W,hW⟩:∃W,W=w.alloc (.cells (Rc.cells r) 60):=⟨_,rfl⟩;obtain⟨g,hg⟩:∃g,g=w.heap.size:=⟨_,rfl⟩;have R0:=zh (RdC.open_ h r);rw[<-hW,<-hg]at R0;have GE:Hid (w.heap.size<=g):=Nat.le_of_eq hg.symm;have HI:=zh (hin.sp r.sp.v (by simp[Spc.flds]));have CH:Hid (∀W,RdC w q s ru rv lo ko H K g r W->Calls Tryz.prog 164 #[.pointer (some ⟨q,0,none⟩),.int .i64 r.sp.v] W (BRet (.bool (Bk.has s.vs r.sp.v)) W)):=fun W h=>jlw q s ru rv lo ko H K W h.bd (HT.out.on h.b) r.sp.v HI.out;have CO:=zh (fun W=>jpr s.ph W);clear h ht;go_in;go_upto_region 1 with fail
 rw[<-hW,<-hg];clear hW hg;have b9:=R0.out.bd.at_.cs.c9;have lq:=R0.out.bd.lt.1
 cases hx:Ph.open_ s.ph with
 |true=>
  have E:ans=10:=AN.out.trans (if_pos hx);subst E;rw[hx]at CO;clear hx;go_wp2_with(go_at_call 167;(with_reducible refine(CO.out _).mono ?_);rintro e w1 ⟨rfl,hb⟩;have R1:=zh (R0.out.on hb);clear hb b9;have c6:=R1.out.rc.cs.c6;have lq:=R1.out.bd.lt.1);go_ret;exact⟨rfl,R1.out.b⟩
 |false=>
  rw[hx]at CO
  cases hy:Bk.has s.vs r.sp.v with
  |false=>
   have E:ans=5:=by rw[AN.out];unfold Bk.chk3;rw[if_neg (by rw[hx];simp),if_pos hy]
   subst E;rw[hy]at CH;clear hx hy
   go_wp2_with(first
   |(go_at_call 167;(with_reducible refine(CO.out _).mono ?_);rintro e w1 ⟨rfl,hb⟩;have R1:=zh (R0.out.on hb);clear hb b9;have c6:=R1.out.rc.cs.c6;have lq:=R1.out.bd.lt.1)
   |(go_at_call 164;(with_reducible refine(CH.out _ R1.out).mono ?_);rintro e w2 ⟨rfl,hb⟩;have R2:=zh (R1.out.on hb);clear hb c6;have c6:=R2.out.rc.cs.c6;have b7:=R2.out.bd.at_.cs.c7;have lq:=R2.out.bd.lt.1))
   go_ret;exact⟨rfl,R2.out.b⟩
  |true=>
   rw[hy]at CH;go_upto_region 5 with(first
   |(go_at_call 167;(with_reducible refine(CO.out _).mono ?_);rintro e w1 ⟨rfl,hb⟩;have R1:=zh (R0.out.on hb);clear hb b9;have c6:=R1.out.rc.cs.c6;have lq:=R1.out.bd.lt.1)
   |(go_at_call 164;(with_reducible refine(CH.out _ R1.out).mono ?_);rintro e w2 ⟨rfl,hb⟩;have R2:=zh (R1.out.on hb);clear hb c6;have c6:=R2.out.rc.cs.c6;have b7:=R2.out.bd.at_.cs.c7;have lq:=R2.out.bd.lt.1))
   by_cases hz:r.sp.v=s.stable
   ·have E:ans=6:=by rw[AN.out];unfold Bk.chk3;rw[if_neg (by rw[hx];simp),if_neg (by rw[hy];simp),if_pos hz]
    subst E;have hz2:(r.sp.v==s.stable)=true:=by simpa using hz
    exact zz36
   ·have E:ans=0:=by rw[AN.out];unfold Bk.chk3;rw[if_neg (by rw[hx];simp),if_neg (by rw[hy];simp),if_neg hz]
    subst E;have hz2:(r.sp.v==s.stable)=false:=by simpa using hz
    exact zz36
theorem zz19{p:Prop}(h:p:=by
 go_wp2_with(go_at_call 169;(with_reducible refine(CF.out _ R0.out).mono ?_);rintro e w1 ⟨rfl,hb⟩;have R1:=zh (R0.out.on hb);clear hb c5;have b9:=R1.out.bd.at_.cs.c9;have lq:=R1.out.bd.lt.1);go_ret;exact⟨rfl,R1.out.b⟩):p:=h
theorem jqr(q:Nat)(s:Bk.St)(ru:Nat->Bk.Un)(rv:Int)(lo ko:Option Nat)(H:Value)(K:Kv.St)(w:World)(h:BdIs w q s ru rv lo ko H K)(ht:BT w)(r:Rc.R)(hin:Rc.In r):Calls Tryz.prog 114 #[.pointer (some ⟨q,0,none⟩),.agg (Rc.cells r)] w (BRet (.int .i64 (Bk.chk4 s r)) w):=by
 obtain⟨ans,hans⟩:∃ans,ans=Bk.chk4 s r:=⟨_,rfl⟩;rw[<-hans];have AN:=zh hans;clear hans;have HT:=zh ht;obtain⟨W,hW⟩:∃W,W=w.alloc (.cells (Rc.cells r) 60):=⟨_,rfl⟩;obtain⟨g,hg⟩:∃g,g=w.heap.size:=⟨_,rfl⟩;have R0:=zh (RdC.open_ h r);rw[<-hW,<-hg]at R0;have GE:Hid (w.heap.size<=g):=Nat.le_of_eq hg.symm;obtain⟨ev,hev⟩:∃ev,ev=Ph.of r.text:=⟨_,rfl⟩;obtain⟨ok,hok⟩:∃ok,ok=Ph.isWord r.text:=⟨_,rfl⟩;obtain⟨nx,hnx⟩:∃nx,nx=Ph.next s.ph ev:=⟨_,rfl⟩;obtain⟨dd,hdd⟩:∃dd,dd=Ph.did s.ph ev:=⟨_,rfl⟩;have HA:Hid (Bk.chk4 s r=if ok=false\/ev=0\/ev=3 then 2 else if dd=false\/nx≠r.n then 10 else 0):=by show _=_;rw[hok,hdd,hnx,hev];rfl
 have PHS:Hid (i64P s.ph):=by have:=h.lok.ok.ph;exact jpp zv
 have CF:Hid (∀W,RdC w q s ru rv lo ko H K g r W->Calls Tryz.prog 169 #[.string r.text] W (jfi W (.int .i64 ev) (.bool ok))):=fun W h=>by rw[hev,hok];exact pof_any r.text W (HT.out.on h.b).ph
 have CN:Hid (∀W,RdC w q s ru rv lo ko H K g r W->Calls Tryz.prog 170 #[.int .i64 s.ph,.int .i64 ev] W (jfi W (.int .i64 nx) (.bool dd))):=fun W h=>by rw[hnx,hdd];exact jpo s.ph ev PHS.out (by rw[hev];exact Ph.of_small _) W (HT.out.on h.b).ph
 clear hev hok hnx hdd;clear h ht;go_in;go_upto_region 1 with fail
 rw[<-hW,<-hg];clear hW hg;have AE:=zh (AN.out.trans HA.out);clear HA AN;have HA:=AE;clear AE;have c5:=R0.out.rc.cs.c5
 cases ok with
 |false=>
  obtain rfl:=HA.out.trans (if_pos (.inl rfl));clear HA;exact zz19
 |true=>
  by_cases h0:ev=0
  ·obtain rfl:=HA.out.trans (if_pos (.inr (.inl h0)))
   have h02:(ev==0)=true:=by simpa using h0
   clear HA h0;exact zz19
  ·have h02:(ev==0)=false:=by simpa using h0
   by_cases h3:ev=3
   ·obtain rfl:=HA.out.trans (if_pos (.inr (.inr h3)))
    have h32:(ev==3)=true:=by simpa using h3
    clear HA h0 h3;exact zz19
   ·have h32:(ev==3)=false:=by simpa using h3
    have HB:=zh (HA.out.trans (if_neg (by rintro(h|h|h);cases h;exact h0 h;exact h3 h)));clear HA;have HA:=HB;clear HB
    cases dd with
    |false=>
     obtain rfl:=HA.out.trans (if_pos (.inl rfl));clear HA h0 h3
     go_wp2_with(first
   |(go_at_call 169;(with_reducible refine(CF.out _ R0.out).mono ?_);rintro e w1 ⟨rfl,hb⟩;have R1:=zh (R0.out.on hb);clear hb c5;have b9:=R1.out.bd.at_.cs.c9;have lq:=R1.out.bd.lt.1)
   |(go_at_call 170;(with_reducible refine(CN.out _ R1.out).mono ?_);rintro e w2 ⟨rfl,hb⟩;have R2:=zh (R1.out.on hb);clear hb b9;have c3:=R2.out.rc.cs.c3;have lq:=R2.out.bd.lt.1))
     go_ret;exact⟨rfl,R2.out.b⟩
    |true=>
     by_cases hn:nx=r.n
     ·obtain rfl:=HA.out.trans (if_neg (by rintro(h|h);cases h;exact h hn))
      have hn2:(nx !=r.n)=false:=by simpa using hn
      clear HA h0 h3 hn
      go_wp2_with(first
   |(go_at_call 169;(with_reducible refine(CF.out _ R0.out).mono ?_);rintro e w1 ⟨rfl,hb⟩;have R1:=zh (R0.out.on hb);clear hb c5;have b9:=R1.out.bd.at_.cs.c9;have lq:=R1.out.bd.lt.1)
   |(go_at_call 170;(with_reducible refine(CN.out _ R1.out).mono ?_);rintro e w2 ⟨rfl,hb⟩;have R2:=zh (R1.out.on hb);clear hb b9;have c3:=R2.out.rc.cs.c3;have lq:=R2.out.bd.lt.1))
      go_ret;exact⟨rfl,R2.out.b⟩
     ·obtain rfl:=HA.out.trans (if_pos (.inr hn))
      have hn2:(nx !=r.n)=true:=by simpa using hn
      clear HA h0 h3 hn
      go_wp2_with(first
   |(go_at_call 169;(with_reducible refine(CF.out _ R0.out).mono ?_);rintro e w1 ⟨rfl,hb⟩;have R1:=zh (R0.out.on hb);clear hb c5;have b9:=R1.out.bd.at_.cs.c9;have lq:=R1.out.bd.lt.1)
   |(go_at_call 170;(with_reducible refine(CN.out _ R1.out).mono ?_);rintro e w2 ⟨rfl,hb⟩;have R2:=zh (R1.out.on hb);clear hb b9;have c3:=R2.out.rc.cs.c3;have lq:=R2.out.bd.lt.1))
      go_ret;exact⟨rfl,R2.out.b⟩
theorem jau{a:Act}{oi:Oper}(x:Operand)(ho:oi.op= .load 60 x)(g:Nat)(r:Rc.R)(hx:a.eval x= .pointer (some ⟨g,0,none⟩)){W:World}(h:RcAt W g r):(execOp a.eval oi).run Tryz.prog W= .ok (.value (.agg (Rc.cells r))) W:=by
 unfold execOp;simp only[ho,hx,Instr.loadAt,Instr.sureAddr,Sem.run_bind,Sem.run_pure,Result.andThen_ok,run_loadVar_row (P:=Tryz.prog) W g 60 60 (Rc.cells r) (0,0) _ h.row jaf rfl (jak r)]
section
variable{o:Oper}{a:Act}{w:World}{K:Act->World->Prop}{Q:Exit->Act->World->Prop}
theorem jcp{P:Program}{sl e:TypeId}{z:Value}{k by_:Nat}(hsl:P.underlying sl=some (.slice e))(hi0:(P.info? e).map (fun i=>(i.zero,i.size,i.bytes))=some (some z,k,by_))(hK0:0<k)(hK1:k<=1000)
  (x:Operand) (ho:o.op= .buildSlice sl 1 #[(0,x)]) (cs:Array Value) (hx:a.eval x= .agg cs) (hl:cs.size=k)
  (h:K (a.put o.dst (.slice (some ⟨w.heap.size,0,none⟩) 1 1)) (w.alloc (.cells cs e))):Oper.wp P o a w K Q:=by
 obtain⟨i0,hi,hz0,hz1,hz2⟩:=info_parts hi0;refine wp_buildSlice sl e 1 #[(0,x)] ho cs i0 z hsl hi hz0 (by rw[hz1];omega) (by rw[hz1];omega) ?_ h;have:=Great.fill_whole (s:=k) hK0 [.agg cs] ((Array.range (1*k)).map (z.cells[· %z.cells.size]!)) (fun v hv=>by rw[List.mem_singleton.1 hv];exact hl) (by simp);rw[hz1];simp only[List.zipIdx_cons,List.zipIdx_nil,List.map_cons,List.map_nil,List.flatMap_cons,List.flatMap_nil,List.append_nil]at this;simp only[List.map_toArray,List.map_cons,List.map_nil,hx];rw[this];rfl
theorem jcb(s x:Operand)(ho:o.op= .call {callee:= .builtin .append,args:=#[s,x],argTypes:=#[22,22]})(base:Nat)(v:Value)(ts:List Rc.R)(hs:a.eval s=v)(hown:OwF Bk.rcC 18 60 w base v ts)
  (m:Nat) (t:Rc.R) (hx:a.eval x= .slice (some ⟨m,0,none⟩) 1 1) (ht:RcAt w m t) (hlen:ts.length<=1000) (hB:base<=w.heap.size)
  (h:∀v' w',OwF Bk.rcC 18 60 w' base v' (ts++[t])->w.grownBy w' v.ownBlock->(v'.ownBlock=v.ownBlock\/v'.ownBlock=some w.heap.size)->K (a.put o.dst v') w'):Oper.wp Tryz.prog o a w K Q:=by
 obtain⟨i0,hi,hz0,hz1,hz2⟩:=info_parts jbp;obtain⟨v',w',hr,h2,h3,h4,h5⟩:=run_append_own_at (P:=Tryz.prog) w base 22 o.type 60 i0 _ 18 152 Tryz.underlying22 hi hz0 hz1 hz2 rfl zv v ts.length _ hown ⟨m,0,none⟩ 1 1 (Bk.rcC t) (Bk.rcC_len t) (fun j u hu=>by
  rw[jjb,Nat.zero_add,cell_of_row w m j _ _ _ ht.row];rw[<-hu];unfold Bk.rcC;simp) (Bk.rcC_one t) (by unfold maxLen;omega) zv hB
 unfold Oper.wp execOp;simp only[ho,resolve,invoke,builtin,Sem.run_bind,Sem.run_pure,Result.andThen_ok,List.map_toArray,List.map_cons,List.map_nil,hs,hx,hr];refine h v' w' ?_ h3 h5;unfold OwF;rw[List.length_append,List.flatMap_append];simpa using h2
end
def jb0(q:Nat)(s:Bk.St)(ru:Nat->Bk.Un)(rv:Int)(lm km H:Value)(r:Rc.R)(W:World)(e:Ending)(w':World):Prop:=
 ∃H',e= .returned (.tuple #[])/\BdAt w' q {s with h:=Bk.last24 (s.h++[r])} ru rv lm km H'/\OwF Bk.rcC 18 60 w' 0 H' (Bk.last24 (s.h++[r]))/\Kept (fun i=>i=q\/H.ownBlock=some i) W w'/\∀m,H'.ownBlock=some m->H.ownBlock=some m\/W.heap.size<=m
theorem jqs{l:List Rc.R}{r:Rc.R}(h:l.length=24):Bk.last24 (l++[r])=l.tail++[r]:=by
 unfold Bk.last24;rw[List.length_append,List.length_singleton,h]
 cases l with
 |nil=>simp at h
 |cons x l=>rfl
theorem jqt{l:List Rc.R}{r:Rc.R}(h:l.length<=23):Bk.last24 (l++[r])=l++[r]:=by
 unfold Bk.last24;rw[List.length_append,List.length_singleton,show l.length+1 -24=0 by omega];rfl
theorem zz0{p:Prop}(h:p:=by
 refine wp_region_held_drew (S:=fun W=>RcAt W g r) zk (RC3.out.on (Below.refl W3.heap.size W3).drew) (fun hS=> ?_);refine tY 0 hS ?_;refine tY 1 hS ?_;refine tY 2 hS ?_;refine tY 3 hS ?_;refine tZ 5 (v:= .agg (Rc.cells r)) rfl (fun W hW=>jau (.tmp 3) rfl g r rfl hW) hS ?_;simp only[Act.put,zT,zO,zS];refine jf9 4 6 rfl rfl zk rfl rfl (fun K hK=> ?_) (fun K hK=> ?_)
 ·go_simp
  refine hK.out _ _ hS (fun _=> ?_);clear hK K;try simp only[Act.put,zT,zO,zS]
  refine rO 6 (fun K hK=> ?_);refine jcp Tryz.underlying22 jbp zv zv (.tmp 23) rfl (Rc.cells r) rfl rfl ?_;have hb5:Below W3.drew.heap.size W3.drew (W3.drew.alloc (.cells (Rc.cells r) 60)):=(Below.refl _ _).alloc (Nat.le_refl _) _;have R5:Hid (RcAt (W3.drew.alloc (.cells (Rc.cells r) 60)) W3.drew.heap.size r):=RcAt.new _ _;have A5:=zh ((A3.out.on (w':=W3.drew) (Below.refl W3.heap.size W3).drew).on hb5);have O5:=zh ((O3.out.below (w':=W3.drew) (Below.refl W3.heap.size W3).drew).below hb5);have K5:=zh (K3.out.trans (Kept.of_below (F:=fun _=>False) ((Below.refl W3.heap.size W3).drew.trans hb5)) fun _ _ h=>h.elim);have hS2:=hS.on hb5;clear hS hb5;have hS:=hS2;clear hS2;have Z5:Hid (W3.drew.heap.size<(W3.drew.alloc (.cells (Rc.cells r) 60)).heap.size):=R5.out.cs.lt;generalize W3.drew.alloc (.cells (Rc.cells r) 60)=W5 at*;generalize W3.drew.heap.size=m5 at*;refine hK.out _ _ hS (fun _=> ?_);clear hK K;try simp only[Act.put,zT,zO,zS]
  refine rO 7 (fun K hK=> ?_);refine jcb (.tmp 22) (.tmp 24) rfl 0 H3 l3 rfl O5.out m5 r rfl R5.out (by have:=L3.out;omega) (Nat.zero_le _) ?_;intro v6 w6 ho6 hg6 hv6;have O6:=zh ho6;have A6:=zh (A5.out.keep (hg6.block q A5.out.lt (fun e=>NQ.out e.symm)));have K6:=zh (K5.out.trans (G:=fun i=>H3.ownBlock=some i) (Kept.of_grown hg6 fun k hk=>hk) fun i hi h=>HO.out i hi h);have V6:Hid (∀m,v6.ownBlock=some m->H.ownBlock=some m\/W.heap.size<=m):=fun m hm=>by
   rcases hv6 with e|e
   ·rw[e]at hm
    by_cases hlt:m<W.heap.size
    ·exact(HO.out m hlt hm).elim (fun e=>absurd (e▸hm) (fun h=>NQ.out h)) .inl
    ·exact .inr zv
   ·rw[e]at hm
    injection hm with hm
    have:=K5.out.size;exact .inr zv
  have NV:Hid (v6.ownBlock≠some q):=fun e=>by
   rcases hv6 with h|h
   ·exact NQ.out (h▸e)
   ·rw[h]at e
    injection e with e
    have:=A5.out.lt;omega
  obtain⟨A6v,c6v,hf6⟩:=ho6.form;generalize(l3++[r]).length=n6v at hf6;subst hf6;have hS2:RcAt w6 g r:=⟨(hg6.block g hS.cs.lt (fun e=>NG.out e.symm)).trans hS.row⟩;clear hS ho6 hg6 hv6;have hS:=hS2;clear hS2;have b74:=A6.out.cs.c74;have fz:=fun i=>A6.out.fz i;have lq:=A6.out.lt;refine hK.out _ _ hS (fun _=> ?_);clear hK K;refine tY 8 hS ?_;refine tY 9 hS ?_;simp only[Act.put,zT,zO,zS];refine rO 10 (fun K hK=> ?_);go_simp;have hS2:RcAt (w6.setCell ⟨q,74,none⟩ (.slice A6v n6v c6v)) g r:=⟨(heap_setCell_other _ _ _ _ (fun e=>GQ.out e)).trans hS.row⟩;have A7:=zh (A6.out.hs (.slice A6v n6v c6v) (l3++[r]));have O7:=zh (O6.out.kept (jad w6 q 74 (.slice A6v n6v c6v)) (fun e=>NV.out e));have K7:=zh (K6.out.trans (G:=fun i=>i=q) (Kept.of_grown (row:=some q) (jad w6 q 74 (.slice A6v n6v c6v)) (fun k hk=>by injection hk with hk;exact hk.symm)) fun i _ hi=> .inl hi)
  clear hS b74 fz lq;have hS:=hS2;clear hS2;refine hK.out _ _ hS (fun _=> ?_);clear hK K;try simp only[Act.put,zT,zO,zS]
  refine wpAnyH_done zk ?_ _;clear hS;go_wp2;go_end0;unfold jb0;rw[LE.out];exact⟨_,rfl,A7.out,O7.out,K7.out,V6.out⟩
 ·refine jcp Tryz.underlying22 jbp zv zv (.tmp 23) rfl (Rc.cells r) rfl rfl ?_
  have hb5:Below W3.drew.heap.size W3.drew (W3.drew.alloc (.cells (Rc.cells r) 60)):=(Below.refl _ _).alloc (Nat.le_refl _) _;have R5:Hid (RcAt (W3.drew.alloc (.cells (Rc.cells r) 60)) W3.drew.heap.size r):=RcAt.new _ _;have A5:=zh ((A3.out.on (w':=W3.drew) (Below.refl W3.heap.size W3).drew).on hb5);have O5:=zh ((O3.out.below (w':=W3.drew) (Below.refl W3.heap.size W3).drew).below hb5);have K5:=zh (K3.out.trans (Kept.of_below (F:=fun _=>False) ((Below.refl W3.heap.size W3).drew.trans hb5)) fun _ _ h=>h.elim);have hS2:=hS.on hb5;clear hS hb5;have hS:=hS2;clear hS2;have Z5:Hid (W3.drew.heap.size<(W3.drew.alloc (.cells (Rc.cells r) 60)).heap.size):=R5.out.cs.lt;generalize W3.drew.alloc (.cells (Rc.cells r) 60)=W5 at*;generalize W3.drew.heap.size=m5 at*;refine hK.out _ _ hS (fun _=> ?_);clear hK K;try simp only[Act.put,zT,zO,zS]
  refine rO 4 (fun K hK=> ?_);have b74:=A5.out.cs.c74;have lq:=A5.out.lt;go_simp;refine hK.out _ _ hS (fun _=> ?_);clear hK K;try simp only[Act.put,zT,zO,zS]
  refine rO 7 (fun K hK=> ?_);refine jcb (.tmp 22) (.tmp 24) rfl 0 H3 l3 rfl O5.out m5 r rfl R5.out (by have:=L3.out;omega) (Nat.zero_le _) ?_;intro v6 w6 ho6 hg6 hv6;have O6:=zh ho6;have A6:=zh (A5.out.keep (hg6.block q A5.out.lt (fun e=>NQ.out e.symm)));have K6:=zh (K5.out.trans (G:=fun i=>H3.ownBlock=some i) (Kept.of_grown hg6 fun k hk=>hk) fun i hi h=>HO.out i hi h);have V6:Hid (∀m,v6.ownBlock=some m->H.ownBlock=some m\/W.heap.size<=m):=fun m hm=>by
   rcases hv6 with e|e
   ·rw[e]at hm
    by_cases hlt:m<W.heap.size
    ·exact(HO.out m hlt hm).elim (fun e=>absurd (e▸hm) (fun h=>NQ.out h)) .inl
    ·exact .inr zv
   ·rw[e]at hm
    injection hm with hm
    have:=K5.out.size;exact .inr zv
  have NV:Hid (v6.ownBlock≠some q):=fun e=>by
   rcases hv6 with h|h
   ·exact NQ.out (h▸e)
   ·rw[h]at e
    injection e with e
    have:=A5.out.lt;omega
  obtain⟨A6v,c6v,hf6⟩:=ho6.form;generalize(l3++[r]).length=n6v at hf6;subst hf6;have hS2:RcAt w6 g r:=⟨(hg6.block g hS.cs.lt (fun e=>NG.out e.symm)).trans hS.row⟩;clear hS ho6 hg6 hv6;have hS:=hS2;clear hS2;have b74:=A6.out.cs.c74;have fz:=fun i=>A6.out.fz i;have lq:=A6.out.lt;refine hK.out _ _ hS (fun _=> ?_);clear hK K;refine tY 8 hS ?_;refine tY 9 hS ?_;simp only[Act.put,zT,zO,zS];refine rO 10 (fun K hK=> ?_);go_simp;have hS2:RcAt (w6.setCell ⟨q,74,none⟩ (.slice A6v n6v c6v)) g r:=⟨(heap_setCell_other _ _ _ _ (fun e=>GQ.out e)).trans hS.row⟩;have A7:=zh (A6.out.hs (.slice A6v n6v c6v) (l3++[r]));have O7:=zh (O6.out.kept (jad w6 q 74 (.slice A6v n6v c6v)) (fun e=>NV.out e));have K7:=zh (K6.out.trans (G:=fun i=>i=q) (Kept.of_grown (row:=some q) (jad w6 q 74 (.slice A6v n6v c6v)) (fun k hk=>by injection hk with hk;exact hk.symm)) fun i _ hi=> .inl hi)
  clear hS b74 fz lq;have hS:=hS2;clear hS2;refine hK.out _ _ hS (fun _=> ?_);clear hK K;try simp only[Act.put,zT,zO,zS]
  refine wpAnyH_done zk ?_ _;clear hS;go_wp2;go_end0;unfold jb0;rw[LE.out];exact⟨_,rfl,A7.out,O7.out,K7.out,V6.out⟩):p:=h
theorem jey(q:Nat)(s:Bk.St)(ru:Nat->Bk.Un)(rv:Int)(lm km H:Value)(r:Rc.R)(W:World)(hat:BdAt W q s ru rv lm km H)(ho:OwF Bk.rcC 18 60 W 0 H s.h)(hq:H.ownBlock≠some q)(hl:s.h.length<=24):Calls Tryz.prog 168 #[.pointer (some ⟨q,0,none⟩),.agg (Rc.cells r)] W (jb0 q s ru rv lm km H r W):=by
 obtain⟨W1,hW⟩:∃W1,W1=W.alloc (.cells (Rc.cells r) 60):=⟨_,rfl⟩;obtain⟨g,hg⟩:∃g,g=W.heap.size:=⟨_,rfl⟩;have hb:Below W.heap.size W W1:=by rw[hW];exact(Below.refl _ _).alloc (Nat.le_refl _) _
 have A1:=zh (hat.on hb);have O1:=zh (ho.below hb);have RC1:Hid (RcAt W1 g r):=by rw[hW,hg];exact RcAt.new _ _
 have NQ0:=zh hq;have HB:=zh hb;have HLT:=zh (fun m (e:H.ownBlock=some m)=>(ho.lt m e).2);have GQ:Hid (g≠q):=by have:=hat.lt;show g≠q;omega
 have GE:Hid (W.heap.size=g):=hg.symm;obtain⟨A,c,hH⟩:=ho.form;have HL:=zh hl;have HLN:=zh (show∀(n':Nat) (A':Option Addr) (c':Nat),H= .slice A' n' c'->n'=s.h.length from fun n' A' c' e=>by rw[hH]at e;injection e with _ e _;exact e.symm)
 have b74:=A1.out.cs.c74;rw[hH]at b74;have lq:=A1.out.lt;by_cases h24:s.h.length=24
 ·obtain⟨b,hA⟩:∃b,A=some ⟨b,0,none⟩:=by
   rcases ho.2 with⟨e,h0⟩|⟨g',c',cur,e,_⟩
   ·omega
   ·rw[hH]at e;injection e with e _ _;exact⟨g',e⟩
  subst hA;have hO1:=O1.out;rw[hH]at hO1;rw[h24]at b74 hO1 hH;have CD:=zh (jth W1 0 b c s.h hO1);have HH:=zh hH;have H24:=zh h24;clear hat ho hq hl hb hO1 hH h24;go_in;go_upto_region 1 with fail
  rw[<-hW,<-hg];clear hW hg;go_upto_region 3 with(go_at_call 207;(with_reducible refine CD.out.mono ?_);rintro e w2 ⟨rfl,ho2,hg2⟩;have O2:=zh ho2;have G2:=zh hg2;have A2:=zh (A1.out.keep (hg2.block q A1.out.lt (fun e=>NQ0.out (by rw[HH.out];exact e.symm))));clear ho2 hg2 b74 lq;have b74:=A2.out.cs.c74;have fz:=fun i=>A2.out.fz i;have lq:=A2.out.lt)
  obtain⟨l3,hl3⟩:∃l3,l3=s.h.tail:=⟨_,rfl⟩;have LE:Hid (Bk.last24 (s.h++[r])=l3++[r]):=by show _=_;rw[hl3];exact jqs H24.out
  have L3:Hid (l3.length<=23):=by show _<=_;rw[hl3,List.length_tail,H24.out];omega
  rw[<-hl3]at O2;have BQ:Hid (b≠q):=fun e=>NQ0.out (by rw[HH.out];show some b=_;rw[e]);have A3:=zh (A2.out.hs (.slice (some ⟨b,0,none⟩) 23 c) l3);have O3:=zh (O2.out.kept (jad w2 q 74 (.slice (some ⟨b,0,none⟩) 23 c)) (fun e=>BQ.out (by injection e)));have K2:=zh ((Kept.of_below (F:=fun i=>i=q\/H.ownBlock=some i) HB.out).trans (G:=fun i=>H.ownBlock=some i) (Kept.of_grown G2.out fun k hk=>by rw[HH.out];exact hk) fun i _ h=> .inr h);have K3:=zh (K2.out.trans (G:=fun i=>i=q) (Kept.of_grown (row:=some q) (jad w2 q 74 (.slice (some ⟨b,0,none⟩) 23 c)) (fun k hk=>by injection hk with hk;exact hk.symm)) fun i _ hi=> .inl hi)
  have NB:Hid (b≠g):=by have:=HLT.out b (by rw[HH.out];rfl);have:=GE.out;show b≠g;omega
  have RC3:Hid (RcAt (w2.setCell ⟨q,74,none⟩ (.slice (some ⟨b,0,none⟩) 23 c)) g r):=⟨(heap_setCell_other _ _ _ _ (fun e=>GQ.out e)).trans ((G2.out.block g RC1.out.cs.lt (fun e=>NB.out (by injection e with e;exact e.symm))).trans RC1.out.row)⟩
  have HO:Hid (∀i,i<W.heap.size->(Value.slice (some ⟨b,0,none⟩) 23 c).ownBlock=some i->i=q\/H.ownBlock=some i):=fun i _ e=> .inr (by rw[HH.out];exact e);have NQ:Hid ((Value.slice (some ⟨b,0,none⟩) 23 c).ownBlock≠some q):=fun e=>BQ.out (by injection e);have NG:Hid ((Value.slice (some ⟨b,0,none⟩) 23 c).ownBlock≠some g):=fun e=>NB.out (by injection e);clear b74 fz lq hl3;generalize hW3:w2.setCell ⟨q,74,none⟩ (.slice (some ⟨b,0,none⟩) 23 c)=W3 at*;generalize hH3:Value.slice (some ⟨b,0,none⟩) 23 c=H3 at*;have b74:=A3.out.cs.c74;have lq:=A3.out.lt;clear hW3 hH3;exact zz0
 ·obtain⟨l3,hl3⟩:∃l3,l3=s.h:=⟨_,rfl⟩
  have LE:Hid (Bk.last24 (s.h++[r])=l3++[r]):=by show _=_;rw[hl3];exact jqt zv
  have L3:Hid (l3.length<=23):=by show _<=_;rw[hl3];omega
  have hn24:((s.h.length:Int)==24)=false:=by rw[beq_eq_false_iff_ne];omega
  obtain⟨H3,hH3⟩:∃H3,H3=H:=⟨_,rfl⟩;have A3:Hid (BdAt W1 q {s with h:=l3} ru rv lm km H3):=by rw[hH3,hl3];exact A1.out
  have O3:Hid (OwF Bk.rcC 18 60 W1 0 H3 l3):=by rw[hH3,hl3];exact O1.out
  clear hl3;have K3:=zh (Kept.of_below (F:=fun i=>i=q\/H.ownBlock=some i) HB.out);have RC3:=RC1;have HO:Hid (∀i,i<W.heap.size->H3.ownBlock=some i->i=q\/H.ownBlock=some i):=fun i _ e=> .inr (by rw[<-hH3];exact e);have NQ:Hid (H3.ownBlock≠some q):=by rw[hH3];exact NQ0.out
  have NG:Hid (H3.ownBlock≠some g):=fun e=>by rw[hH3]at e;have:=HLT.out g e;have:=GE.out;omega
  have b75:=A3.out.cs.c74;have HH:=zh hH;clear hat ho hq hl hb h24 hH hH3;go_in;go_upto_region 1 with fail
  rw[<-hW,<-hg];clear hW hg;go_upto_region 3 with fail
  clear b74;have b74:=b75;clear b75;clear hn24;have W3E:∃W3,W3=W1:=⟨_,rfl⟩;obtain⟨W3,hW3⟩:=W3E;subst hW3;exact zz0
namespace Bd
theorem act_lok{s:Bk.St}{r:Rc.R}(h:Lok s)(hc:Bk.chk s r=0):Lok (Bk.act s r):=by
 refine⟨Bk.act_ok h.ok hc,?_⟩;rcases Bk.kinds hc with hk|hk|hk|hk|hk|hk|hk
 ·rw[Bk.act1 hk]
  intro _;have h1:=Rc.right1 hk (Bk.chk_right hc);have h2:=h.ok.till;show 1<=Bk.leadT s r;unfold Bk.leadT Bk.late;split<;>omega
 all_goals first|(rw[Bk.act2 hk];exact h.t1)|(rw[Bk.act3 hk];exact h.t1)|(rw[Bk.act4 hk];exact h.t1)|(rw[Bk.act5 hk];exact h.t1)|(rw[Bk.act6 hk];exact h.t1)|(rw[Bk.act7 hk];exact h.t1)
end Bd
section
variable{w0 w w':World}{q g:Nat}{s s':Bk.St}{ru ru':Nat->Bk.Un}{rv:Int}{lo ko:Option Nat}{H H':Value}{K:Kv.St}{r:Rc.R}
abbrev KQ(q:Nat)(w0 w:World):Prop:=Kept (fun i=>i=q) w0 w
theorem KQ.set(h:KQ q w0 w)(k:Nat)(v:Value):KQ q w0 (w.setCell ⟨q,k,none⟩ v):=h.trans (G:=fun i=>i=q) (Kept.of_grown (row:=some q) (jad w q k v) (fun k hk=>by injection hk with hk;exact hk.symm)) fun i _ hi=>hi
theorem KQ.on(h:KQ q w0 w)(hb:Below w.heap.size w w'):KQ q w0 w':=h.trans (Kept.of_below (F:=fun _=>False) hb) fun _ _ h=>h.elim
theorem KQ.drew(h:KQ q w0 w):KQ q w0 w.drew:=h.on (Below.refl w.heap.size w).drew
theorem KQ.of(hb:Below w.heap.size w w')(q:Nat):KQ q w w':=Kept.of_below hb
theorem ja5(h:RcAt w g r)(hg:g≠q)(k:Nat)(v:Value):RcAt (w.setCell ⟨q,k,none⟩ v) g r:=⟨(heap_setCell_other w ⟨q,k,none⟩ g v hg).trans h.row⟩
theorem jgx(h:RcAt w g r):RcAt w.drew g r:=⟨h.row⟩
theorem jd8{lm km:Value}(h:BdAt w q s ru rv lm km H):BdAt w.drew q s ru rv lm km H:=⟨h.row⟩
theorem BdIs.turnQ(h:BdIs w q s ru rv lo ko H K)(hk:KQ q w w')(ha:BdAt w' q s' ru' rv (.map lo) (.map ko) H)(ht:Bd.tab s'=Bd.tab s)(hv:s'.vs=s.vs)(hh:s'.h=s.h)(hr:Bd.Raw ru' s'.us)(hl:Bd.Lok s'):BdIs w' q s' ru' rv lo ko H K where
 at_:=ha
 ls:=by rw[ht];exact h.ls.keep fun m e=>hk.block m (h.lt.2.1 m e) (fun e2=>h.ql (by rw[e,e2]))
 kv:=h.kv.keep fun m e=>hk.block m (h.lt.2.2.1 m e) (fun e2=>h.qk (by rw[e,e2]))
 kg:=h.kg
 kr:=h.kr
 kb:=by rw[hv];exact h.kb
 dg:=by rw[hv];exact h.dg
 raw:=hr
 h:=by rw[hh];exact h.h.keep fun m e=>hk.block m (h.lt.2.2.2 m e) (fun e2=>h.qh (by rw[e,e2]))
 lk:=h.lk
 lok:=hl
theorem BdIs.turnH(h:BdIs w q s ru rv lo ko H K)(hk:Kept (fun i=>i=q\/H.ownBlock=some i) w w')(ha:BdAt w' q s' ru' rv (.map lo) (.map ko) H')(ho:OwF Bk.rcC 18 60 w' 0 H' s'.h)(ht:Bd.tab s'=Bd.tab s)(hv:s'.vs=s.vs)(hr:Bd.Raw ru' s'.us)(hl:Bd.Lok s'):BdIs w' q s' ru' rv lo ko H' K where
 at_:=ha
 ls:=by rw[ht];exact h.ls.keep fun m e=>hk.block m (h.lt.2.1 m e) (fun e2=>by rcases e2 with e2|e2;exact h.ql (by rw[e,e2]);exact h.hl m e e2)
 kv:=h.kv.keep fun m e=>hk.block m (h.lt.2.2.1 m e) (fun e2=>by rcases e2 with e2|e2;exact h.qk (by rw[e,e2]);exact h.hk m e e2)
 kg:=h.kg
 kr:=h.kr
 kb:=by rw[hv];exact h.kb
 dg:=by rw[hv];exact h.dg
 raw:=hr
 h:=ho
 lk:=h.lk
 lok:=hl
theorem turn_q(h:BdIs w q s ru rv lo ko H K)(hk:KQ q w w')(ha:BdAt w' q s' ru' rv (.map lo) (.map ko) H)(ht:Bd.tab s'=Bd.tab s)(hv:s'.vs=s.vs)(hh:s'.h=s.h)(hr:Bd.Raw ru' s'.us)(hl:Bd.Lok s'):jay q lo ko H s' (.tuple #[]) w (.returned (.tuple #[])) w':=
 ⟨ru',rv,lo,ko,H,K,rfl,h.turnQ hk ha ht hv hh hr hl,hk.more fun i _ e=> .inl e,fun i hi=> .inl hi⟩
theorem jmf{e:Ending}{s1:Bk.St}{w1:World}(h:BdIs w q s ru rv lo ko H K)(hk:KQ q w w1)(hn:jb0 q s1 ru' rv (.map lo) (.map ko) H r w1 e w')(hs:{s1 with h:=Bk.last24 (s1.h++[r])}=s')(ht:Bd.tab s'=Bd.tab s)(hv:s'.vs=s.vs)(hr:Bd.Raw ru' s'.us)(hl:Bd.Lok s'):jay q lo ko H s' (.tuple #[]) w e w':=by
 obtain⟨H',h1,h2,h3,h4,h5⟩:=hn;subst hs;have hk2:Kept (fun i=>i=q\/H.ownBlock=some i) w w':=(hk.more (G:=fun i=>i=q\/H.ownBlock=some i) fun i _ e=> .inl e).trans h4 fun i _ h=>h;refine⟨ru',rv,lo,ko,H',K,h1,h.turnH hk2 h2 h3 ht hv hr hl,hk2.more fun i _ e=> ?_,fun i hi=> ?_⟩
 ·rcases e with e|e
  ·exact .inl e
  ·exact .inr (.inr (.inr e))
 ·rcases hi with hi|hi|hi|hi
  ·exact .inl (.inl hi)
  ·exact .inl (.inr (.inl hi))
  ·exact .inl (.inr (.inr (.inl hi)))
  ·rcases h5 i hi with h6|h6
   ·exact .inl (.inr (.inr (.inr h6)))
   ·exact .inr (Nat.le_trans hk.size h6)
theorem BdIs.hist(h:BdIs w q s ru rv lo ko H K)(hk:KQ q w w'):OwF Bk.rcC 18 60 w' 0 H s.h:=h.h.keep fun m e=>hk.block m (h.lt.2.2.2 m e) (fun e2=>h.qh (by rw[e,e2]))
end
end Go.Proofs.YtpehidgjfcfjoaaGreatDoor
