import Derived.Test.YtpehidgjfcfjoaaGreatDoorQz18
import Derived.Lib.AppendStr
set_option maxHeartbeats 6400000
set_option maxRecDepth 100000
set_option linter.unusedSimpArgs false
set_option linter.unusedVariables false
namespace Go.Proofs.YtpehidgjfcfjoaaGreatDoor
open Go.RowKit Fr
theorem jt5(m d:Nat)(D:Option Addr)(p:List Nat)(w:World)(h:Sl w D m d p)(hm:m<=1000):
  Calls Tryz.prog 147 #[.slice D m d] w (jes (fr p) w):=by
 have hlp:=h.len;have HP:=zh h;clear h;have HS:=zh (sl_two w (m/256%256) (m%256) zv zv ((m:Int)/256) ((m:Int)%256) zv rfl);have O1:Hid (OwnB (w.alloc (.cells #[.int .u8 ((m:Int)/256),.int .u8 ((m:Int)%256)] 5)) w.heap.size (.slice (some ⟨w.heap.size,0,none⟩) 2 2) (hd2 p.length)):=by
  refine⟨?_,hd2_byte _⟩;have:=World.ownsRow_lit (base:=w.heap.size) (e:=5) (size:=1) w #[.int .u8 ((m:Int)/256),.int .u8 ((m:Int)%256)] 2 (Nat.le_refl _) (by unfold maxLen;omega) rfl;have e2:vals (hd2 p.length)=[.int .u8 ((m:Int)/256),.int .u8 ((m:Int)%256)]:=by
   rw[<-hlp];simp only[vals,hd2,List.map_cons,List.map_nil,List.cons.injEq,and_true];exact⟨jf4 zv,rfl⟩
  rw[e2];exact this
 have B1:=zh ((Below.refl w.heap.size w).alloc (Nat.le_refl _) (.cells #[.int .u8 ((m:Int)/256),.int .u8 ((m:Int)%256)] 5));have HL:Hid ((hd2 p.length).length+p.length<=140737488355328):=by show _<=_;rw[hd2_length];omega
 have LP:=zh hlp;clear hlp;go_in;go_wp2_with(at_builtin;refine jan rfl (.tmp 13) (.tmp 14) rfl w.heap.size _ (hd2 p.length) rfl O1.out m d D p rfl (HP.out.on B1.out) HL.out B1.out.size ?_;intro v2 w2 ho2 hb2;have O2:=zh ho2;have B2:=zh (B1.out.trans hb2);clear ho2 hb2);obtain⟨A2,c2,rfl,hs2⟩:=O2.out.sl;have S2:=zh hs2;clear hs2;obtain⟨q,hq⟩:∃q,q=hd2 p.length++p:=⟨_,rfl⟩;have Q:=zh hq;rw[<-hq]at S2 O2⊢;clear hq;have QL:Hid (q.length<=1002):=by show _<=_;rw[Q.out,List.length_append,hd2_length,<-LP.out];omega
 have C4:=zh (jk3 q.length c2 A2 q w2 S2.out.rd rfl S2.out.nil (by have:=QL.out;omega));go_wp2_with fail
 (with_reducible refine C4.out.mono ?_)
 rintro e w4 ⟨g4,c4,rfl,ho4,hb4⟩;have O4:Hid (OwnB w4 w2.heap.size (.slice (some ⟨g4,0,none⟩) (q.length+4) c4) (fr p)):=by
  have e4:fr p=q++be4 (Crc.sum q):=by rw[Q.out];rfl
  have l4:(fr p).length=q.length+4:=by rw[e4,List.length_append,jdu]
  refine⟨by rw[l4,e4];exact ho4,?_⟩;exact fr_byte HP.out.rd.1
 have B4:=zh (B2.out.trans (hb4.mono B2.out.size));clear hb4 ho4;go_wp2;go_ret;exact jes.mk (O4.out.lower B2.out.size) B4.out
def jc9(b p:List Nat)(w:World)(e:Ending)(w':World):Prop:=
 ∃A c,e= .returned (.tuple #[.slice A (putL b p).length c,.int .i64 ((putE p:Nat):Int)])/\Sl w' A (putL b p).length c (putL b p)/\(putE p=0->OwnB w' w.heap.size (.slice A (putL b p).length c) (putL b p))/\Below w.heap.size w w'
theorem jc9.same{b p:List Nat}{w:World}{A:Option Addr}{n c:Nat}{x:Int}(hs:Sl w A n c b)(hl:putL b p=b)(hx:x=(putE p:Nat))(h0:putE p≠0):jc9 b p w (.returned (.tuple #[.slice A n c,.int .i64 x])) w:=by
 have hn:=hs.len;subst hn hx;unfold jc9;rw[hl];exact⟨A,c,rfl,hs,fun h=>absurd h h0,Below.refl _ _⟩
theorem jc9.mk{b p:List Nat}{w w':World}{v:Value}{x:Int}(h:OwnB w' w.heap.size v (putL b p))(hx:x=(putE p:Nat))(hb:Below w.heap.size w w'):jc9 b p w (.returned (.tuple #[v,.int .i64 x])) w':=by
 obtain⟨A,c,rfl,hs⟩:=h.sl;subst hx;exact⟨A,c,rfl,hs,fun _=>h,hb⟩
theorem jqa(n c m d:Nat)(A D:Option Addr)(b p:List Nat)(w:World)(hb:Sl w A n c b)(hp:Sl w D m d p)(hn:n<=900000000)(hm:m<=900000000):
  Calls Tryz.prog 90 #[.slice A n c,.slice D m d] w (jc9 b p w):=by
 have hlp:=hp.len;have HB:=zh hb;have HP:=zh hp;clear hb hp;by_cases h0:m=0
 ·have HX:=zh (jl1 (b:=b) (p:=p) zv)
  subst h0;clear hlp;go_in;go_wp2;go_ret2;exact jc9.same HB.out HX.out.2 (by rw[HX.out.1];rfl) (by rw[HX.out.1];omega)
 ·have e0:((m:Int)==0)=false:=by rw[beq_eq_false_iff_ne];omega
  by_cases h1:1000<m
  ·have HX:=zh (jl2 (b:=b) (p:=p) zv)
   clear hlp h0;go_in;go_wp2;go_ret2;exact jc9.same HB.out HX.out.2 (by rw[HX.out.1];rfl) (by rw[HX.out.1];omega)
  ·have HX:=zh (jh6 (b:=b) (p:=p) zv zv)
   have LP:=zh hlp;have LB:Hid (n=b.length):=HB.out.len;have h1':m<=1000:=by omega
   have O0:=zh (OwnB.none_ w w.heap.size);have HL:Hid (([]:List Nat).length+b.length<=140737488355328):=by show _<=_;rw[<-LB.out];simp;omega
   clear hlp h0 h1;go_in;go_wp2_with(at_builtin;refine jan rfl (.tmp 15) (.tmp 16) rfl w.heap.size _ [] rfl O0.out n c A b rfl HB.out HL.out (Nat.le_refl _) ?_;intro v2 w2 ho2 hb2;have O2:=zh ho2;have B2:=zh hb2;clear ho2 hb2);have C3:=zh (jt5 m d D p w2 (HP.out.on B2.out) h1')
   (with_reducible refine C3.out.mono ?_)
   rintro e w3 ⟨A3,c3,rfl,ho3,hb3⟩;have S3:=zh ho3.sls;clear ho3;have O3:=zh (O2.out.below hb3);have B3:=zh (B2.out.trans (hb3.mono B2.out.size));clear hb3;rw[List.nil_append]at O3;obtain⟨f,hf⟩:∃f,f=fr p:=⟨_,rfl⟩;rw[<-hf]at S3⊢;have FF:=zh hf;clear hf;have HL3:Hid (b.length+f.length<=140737488355328):=by show _<=_;rw[FF.out,fr_length,<-LB.out,<-LP.out];omega
   clear C3;go_wp2_with(at_builtin;refine jan rfl (.tmp 18) (.tmp 20) rfl w.heap.size _ b rfl O3.out f.length c3 A3 f rfl S3.out HL3.out B3.out.size ?_;intro v4 w4 ho4 hb4;have O4:=zh ho4;have B4:=zh hb4;clear ho4 hb4);go_ret2;refine jc9.mk ?_ (by rw[HX.out.1];rfl) (B3.out.trans B4.out);rw[HX.out.2,<-FF.out];exact O4.out
def jhq(l:List Nat)(w:World)(e:Ending)(w':World):Prop:=
 ∃A c,e= .returned (.tuple #[.slice A (scan l).1.length c,.int .i64 (((scan l).2.1:Nat):Int),.int .i64 (((scan l).2.2:Nat):Int)])/\OwnS w' w.heap.size (.slice A (scan l).1.length c) (scan l).1/\Below w.heap.size w w'
theorem jhq.mk{l:List Nat}{w w':World}{v:Value}{x y:Int}{ps:List (List Nat)}{k z:Nat}(hs:scan l=(ps,k,z))(h:OwnS w' w.heap.size v ps)(hx:x=(k:Nat))(hy:y=(z:Nat))(hb:Below w.heap.size w w'):jhq l w (.returned (.tuple #[v,.int .i64 x,.int .i64 y])) w':=by
 obtain⟨A,c,rfl,_⟩:=h.sls;subst hx hy;unfold jhq;rw[hs];exact⟨A,c,rfl,h,hb⟩
def Far(l:List Nat)(k:Nat)(ps:List (List Nat)):Prop:=scan l=(ps++(scan (l.drop k)).1,k+(scan (l.drop k)).2.1,(scan (l.drop k)).2.2)
theorem Far.start(l:List Nat):Far l 0 []:=by unfold Far;simp
theorem Far.stop{l:List Nat}{k:Nat}{ps:List (List Nat)}(h:Far l k ps)(hk:k=l.length):scan l=(ps,k,0):=by
 unfold Far at h;rw[hk,List.drop_length,scan_nil]at h;rw[h,hk];simp
theorem Far.no{l:List Nat}{k:Nat}{ps:List (List Nat)}(h:Far l k ps)(hk:k<l.length)(he:gE (l.drop k)≠0):scan l=(ps,k,gE (l.drop k)):=by
 unfold Far at h;have h0:l.drop k≠[]:=fun e=>by have:=congrArg List.length e;simp at this;omega
 rw[scan_no h0 he]at h;rw[h];simp
theorem Far.yes{l:List Nat}{k:Nat}{ps:List (List Nat)}(h:Far l k ps)(he:gE (l.drop k)=0):Far l (k+whole (l.drop k)) (ps++[gP (l.drop k)]):=by
 unfold Far at*;rw[scan_yes he,List.drop_drop]at h;rw[h];simp;omega
def FJat(w:World)(A:Option Addr)(n c:Nat)(l:List Nat)(a':Act)(w':World):Prop:=
 ∃(k:Nat) (v:Value) (ps:List (List Nat)) (u7 u8 u9 u10 u11 u12 u13 u14 u15 u16 u17 u18 u19 u20 u21 u22 u23 u24 u25 u26 u27 u28 u29 u30 u31 u32 u33 u34 u35:Value),a'={tmps:=#[.slice A n c,undef,.slice none 0 0,.int .i64 0,.int .i64 0,v,.int .i64 (k:Int),u7,u8,u9,u10,u11,u12,u13,u14,u15,u16,u17,u18,u19,u20,u21,u22,u23,u24,u25,u26,u27,u28,u29,u30,u31,u32,u33,u34,u35],defers:=[]}/\k<=n/\ps.length<=k/\OwnS w' w.heap.size v ps/\Below w.heap.size w w'/\Far l k ps
theorem jqb(n c:Nat)(A:Option Addr)(l:List Nat)(w:World)(h:Sl w A n c l)(hn:n<=1000000000):
  Calls Tryz.prog 93 #[.slice A n c] w (jhq l w):=by
 have hlen:=h.len;have hcap:=h.cap;have hmax:=h.max;unfold maxLen at hmax;have H:=zh h;clear h;have HN:=zh hlen;clear hlen;go_in;go_wp2;refine jd0 0 (FJat w A n c l) (fun a' _=>n -(intOf (a'.tmps.getD 6 undef)).toNat) rfl ?_ ?_
 ·intro key
  go_wp2;go_step3;rename_i K hK;refine hK _ _ (key _ _ ?_);exact⟨0,_,[],_,_,_,_,_,_,_,_,_,_,_,_,_,_,_,_,_,_,_,_,_,_,_,_,_,_,_,_,_,rfl,zv,by simp,OwnS.none_ _ _,Below.refl _ _,Far.start l⟩
 ·rintro a' w' ⟨k,v,ps,u7,u8,u9,u10,u11,u12,u13,u14,u15,u16,u17,u18,u19,u20,u21,u22,u23,u24,u25,u26,u27,u28,u29,u30,u31,u32,u33,u34,u35,rfl,hk,hpk,ho,hb,hf⟩
  have O:=zh ho;clear ho;have B:=zh hb;clear hb;have F:=zh hf;clear hf;by_cases hend:k=n
  ·have hs:=zh (F.out.stop (hend.trans HN.out))
   subst hend;go_wp2_with fail;simp only[Exit.jump];go_ret3;exact jhq.mk hs.out O.out rfl rfl B.out
  ·have hlt:k<n:=by omega
   have hne:((k:Int)==(n:Int))=false:=by rw[beq_eq_false_iff_ne];omega
   have hck:¬c=k:=by omega
   have HD:=zh ((H.out.drop (k:=k) zv hck).on B.out);have hnk:n -k<=1000000000:=by omega
   have HP:Hid (gE (l.drop k)≠0->scan l=(ps,k,gE (l.drop k))):=fun he=>F.out.no (by rw[<-HN.out];exact hlt) he;have HY:Hid (gE (l.drop k)=0->Far l (k+whole (l.drop k)) (ps++[gP (l.drop k)])):=fun he=>F.out.yes he;have HZ:Hid (gE (l.drop k)=0->7<=whole (l.drop k)/\k+whole (l.drop k)<=n):=fun he=>by
    have h1:=gE_zero he;have h2:=h1.2.2.1;rw[List.length_drop,<-HN.out]at h2;exact⟨h1.1,zv⟩
   have HX:Hid (gE (l.drop k)=0->gN (l.drop k)=whole (l.drop k)):=fun he=>(jk4 he).2;generalize l.drop k=d at*;clear hend;go_wp2_with fail;have C:=zh (jl3 _ _ _ d w' HD.out hnk)
   (with_reducible refine C.out.mono ?_)
   rintro e w2 ⟨A2,c2,rfl,ho2,hb2⟩;have O2:=zh ho2;clear ho2;have OO:=zh (O.out.below hb2);have B2:=zh (B.out.trans (hb2.mono B.out.size));clear hb2;have HF:Hid (0<(gP d).length->∀a,A2=some a->v.ownBlock≠some a.block):=fun _ a ha e2=>by
    have h1:=O2.out.from_ a ha;have h2:=(O.out.base a.block e2).2;omega
   obtain⟨p,hp⟩:∃p,p=gP d:=⟨_,rfl⟩;rw[<-hp]at O2 HF HY⊢;clear hp C;by_cases he:gE d=0
   ·have G:=zh (HY.out he)
    have HW:=zh (HZ.out he);rw[he,HX.out he];have hw1:=HW.out.1;have hw2:=HW.out.2;clear he HP HY HZ HX;generalize whole d=W at*;clear HW;have hpl:ps.length<=3000000000:=by omega
    go_wp2_with(at_builtin;refine jfa rfl (.tmp 29) (.tmp 31) rfl w.heap.size v ps rfl OO.out A2 p.length c2 p O2.out.sls rfl HF.out hpl B2.out.size ?_;intro v3 w3 ho3 hb3;have O3:=zh ho3;have B3:=zh hb3;clear ho3 hb3);go_step3;refine⟨rfl,⟨k+W,v3,ps++[p],_,_,_,_,_,_,_,_,_,_,_,_,_,_,_,_,_,_,_,_,_,_,_,_,_,_,_,_,_,rfl,hw2,by rw[List.length_append];simp;omega,O3.out,B2.out.trans B3.out,G.out⟩,?_⟩;simp[intOf];omega
   ·have HS:=zh (HP.out he)
    have hee:(((gE d:Nat):Int) !=0)=true:=by rw[bne_iff_ne];omega
    clear he HP HY HZ HX;generalize gE d=ee at*;generalize gN d=nn at*;go_wp2_with fail;simp only[Exit.jump];go_ret3;exact jhq.mk HS.out OO.out rfl rfl B2.out
theorem jnk(w:World)(o1 o2:Obj):((w.alloc o1).alloc o2).heap[w.heap.size]? =some o1/\((w.alloc o1).alloc o2).heap[w.heap.size+1]? =some o2:=by
 refine⟨jag (heap_alloc_new w o1) (jky _ o2),?_⟩;have:=heap_alloc_new (w.alloc o1) o2
 rwa [show(w.alloc o1).heap.size=w.heap.size+1 from by simp]at this
theorem jl4{d:Dk.St}(h:Dk.Okay d)(n c:Nat)(A:Option Addr)(p:List Nat)(w:World)(hs:Sl w A n c p)(hn:n<=900000000):
  Calls Tryz.prog 45 #[.agg #[.int .i64 (d.room:Nat),.string (tA d),.string (tB d)],.slice A n c] w (jkz (Jn.app d p) (Jn.appE d p) w):=by
 obtain⟨o1,ho1⟩:∃o1,o1=Obj.cells #[.int .i64 (d.room:Nat),.string (tA d),.string (tB d)] 26:=⟨_,rfl⟩;obtain⟨o2,ho2⟩:∃o2,o2=Obj.cells #[.int .i64 0,.string ⟨#[]⟩,.string ⟨#[]⟩] 26:=⟨_,rfl⟩;obtain⟨D1,E1⟩:=jnk w o1 o2;have B1:=jet w o1 o2;have C2:=zh (jqa 0 0 n c none A [] p ((w.alloc o1).alloc o2) (Sl.none_ _) (hs.on B1) zv zv);rw[ho1,ho2]at C2 D1 E1 B1;have HD1:=zh D1;have HE1:=zh E1;have HB1:=zh B1;clear D1 E1 B1 ho1 ho2 o1 o2 hs hn;by_cases he:putE p=0
 ·have hL:putL [] p=fr p:=by
   unfold putE at he;split at he
   ·omega
   ·split at he
    ·omega
    ·unfold putL;rw[if_neg zv];simp
  have hA:Jn.app d p=Dk.write d (fr p)/\Jn.appE d p=Dk.writeE d (fr p):=by
   unfold Jn.app Jn.appE;rw[if_neg zv,if_neg zv];exact⟨rfl,rfl⟩
  have hfl:(fr p).length<=1000000000:=by
   rw[fr_length];unfold putE at he;split at he
   ·omega
   ·split at he
    ·omega
    ·omega
  rw[hA.1,hA.2];have CW:=zh (fun W=>qWrite h (fr p) hfl W);obtain⟨d',hd'⟩:∃d',d'=Dk.write d (fr p):=⟨_,rfl⟩;obtain⟨E,hE⟩:∃E,E=Dk.writeE d (fr p):=⟨_,rfl⟩;rw[<-hd',<-hE]at CW⊢;clear hd' hE hA hfl h;unfold jc9 at C2;rw[hL,he]at C2;clear hL he;generalize fr p=f at*;go_in;go_wp2_with fail
  (with_reducible refine C2.out.mono ?_)
  rintro e w4 ⟨A4,c4,rfl,hs4,_,hb4⟩;have B4:=zh (HB1.out.trans (hb4.mono HB1.out.size));have E4:=zh (jag HE1.out hb4);obtain⟨f0,f1,f2,_,_,_⟩:=jf0 (jag HD1.out hb4);have hcv:=jpu (c:=c4) hs4.rd rfl;clear hs4 hb4;go_wp2_with fail
  (with_reducible refine(CW.out _).mono ?_)
  rintro e w5 ⟨rfl,hb5⟩;have B5:=zh (B4.out.trans (hb5.mono B4.out.size));have E5:=zh (jag E4.out hb5);obtain⟨r0,r1,r2,r3,r4,r5⟩:=jf0 E5.out;have E7:=zh (jjf E5.out (.int .i64 (d'.room:Nat)) (.string (tA d')) (.string (tB d')));obtain⟨t0,t1,t2⟩:=jly E7.out;have B7:=zh (B5.out.grown (jhm _ (w.heap.size+1) (.int .i64 (d'.room:Nat)) (.string (tA d')) (.string (tB d'))) B5.out.size (fun i hi=>by injection hi with hi;omega))
  clear hb5 f0 f1 f2 hcv;go_wp2_with fail;exact bodyPost_ret (v:= .tuple #[.agg #[.int .i64 (d'.room:Nat),.string (tA d'),.string (tB d')],.int .i64 E]) (by simp[results,Tryz.results45,go_sem,t0,t1,t2]) rfl ⟨rfl,B7.out⟩
 ·have hA:Jn.app d p=d/\Jn.appE d p=(putE p:Nat):=by
   unfold Jn.app Jn.appE;rw[if_pos he,if_pos he];exact⟨rfl,rfl⟩
  rw[hA.1,hA.2];have hne:(((putE p:Nat):Int) !=0)=true:=by rw[bne_iff_ne];omega
  clear hA he h;unfold jc9 at C2;obtain⟨q,hq⟩:∃q,q=(putL [] p).length:=⟨_,rfl⟩;rw[<-hq]at C2;generalize putE p=x at*;clear hq;go_in;go_wp2_with fail
  (with_reducible refine C2.out.mono ?_)
  rintro e w4 ⟨A4,c4,rfl,_,_,hb4⟩;have B4:=zh (HB1.out.trans (hb4.mono HB1.out.size));have E4:=zh (jag HE1.out hb4);obtain⟨f0,f1,f2,_,_,_⟩:=jf0 (jag HD1.out hb4);obtain⟨r0,r1,r2,r3,r4,r5⟩:=jf0 E4.out;have E7:=zh (jjf E4.out (.int .i64 (d.room:Nat)) (.string (tA d)) (.string (tB d)));obtain⟨t0,t1,t2⟩:=jly E7.out;have B7:=zh (B4.out.grown (jhm _ (w.heap.size+1) (.int .i64 (d.room:Nat)) (.string (tA d)) (.string (tB d))) B4.out.size (fun i hi=>by injection hi with hi;omega))
  clear hb4;go_wp2_with fail;exact bodyPost_ret (v:= .tuple #[.agg #[.int .i64 (d.room:Nat),.string (tA d),.string (tB d)],.int .i64 (x:Nat)]) (by simp[results,Tryz.results45,go_sem,t0,t1,t2]) rfl ⟨rfl,B7.out⟩
end Go.Proofs.YtpehidgjfcfjoaaGreatDoor
namespace Go.Proofs.YtpehidgjfcfjoaaGreatDoor
open Go.RowKit
namespace Jn
open Fr
def Js(R k:Nat)(ps:List (List Nat)):Dk.St:=⟨R,(all (ps.take k)).length,all ps⟩
theorem putE_ok{p:List Nat}(h:ok p):putE p=0:=by unfold putE;rw[if_neg (by have:=h.1;omega),if_neg (by have:=h.2.1;omega)]
theorem all_front(ps:List (List Nat))(k:Nat):(all ps).take (all (ps.take k)).length=all (ps.take k):=by
 conv=>lhs;rw[<-List.take_append_drop k ps,all_append]
 rw[List.take_append_drop,List.take_left'];rfl
section
variable{R k:Nat}{ps:List (List Nat)}(h:∀p∈ps,ok p)(hk:k<=ps.length)
include h
theorem js_ents:ents (Js R k ps)=ps:=by unfold ents Js;rw[scan_whole h]
theorem js_byt:Byt (Js R k ps):=all_byte h
include hk in
theorem js_safe:safeN (Js R k ps)=k:=by
 unfold safeN Js;show(scan ((all ps).take (all (ps.take k)).length)).1.length=k;rw[all_front,scan_whole (fun p hp=>h p (List.mem_of_mem_take hp)),List.length_take];omega
omit h in
include hk in
theorem js_app{p:List Nat}(hp:ok p)(hr:(all ps).length+(p.length+6)<=R):app (Js R k ps) p=Js R k (ps++[p])/\appE (Js R k ps) p=0:=by
 have hg:Dk.goes (Js R k ps) (fr p):=by unfold Dk.goes Js;rw[fr_length];exact hr
 unfold app appE;rw[if_neg (by rw[putE_ok hp];decide),if_neg (by rw[putE_ok hp];decide)];unfold Dk.write Dk.writeE;rw[if_pos hg,if_pos hg];refine⟨?_,rfl⟩;unfold Js;rw[List.take_append_of_le_length hk,all_append,all_one]
omit h in
theorem js_sync:Dk.sync (Js R k ps)=Js R ps.length ps:=by unfold Dk.sync Js;rw[List.take_length]
omit h in
theorem js_swap{qs:List (List Nat)}(hq:∀p∈qs,ok p)(hr:(all qs).length<=R):swap (Js R k ps) qs=Js R qs.length qs/\swapE (Js R k ps) qs=0:=by
 have hb:bad qs=0:=bad_none fun j hj=>by
  rw[List.getD_eq_getElem?_getD,List.getElem?_eq_getElem hj];exact putE_ok (hq _ (List.getElem_mem hj))
 unfold swap swapE;rw[if_neg zv,if_neg zv];unfold Dk.swap Dk.swapE;rw[if_pos (show(all qs).length<=(Js R k ps).room from hr),if_pos (show(all qs).length<=(Js R k ps).room from hr)];refine⟨?_,rfl⟩;unfold Js;rw[List.take_length]
include hk in
theorem js_torn{p:List Nat}(hp:ok p)(hr:(all ps).length+(p.length+6)<=R)(keep:Int):
  torn (Js R k ps) p keep=(if(p.length+6:Nat)<=keep then Js R (ps.length+1) (ps++[p])else Js R ps.length ps)/\tornE (Js R k ps) p=13:=by
 have he:=(js_app (k:=k) hk hp hr).2;unfold torn tornE;have hne:¬appE (Js R k ps) p≠0:=fun hx=>hx he;rw[if_neg hne,if_neg hne];refine⟨?_,rfl⟩;have hm:keptN p keep<=p.length+6:=by unfold keptN;rw[fr_length];omega
 have hg:Dk.goes (Js R k ps) ((fr p).take (keptN p keep)):=by
  unfold Dk.goes Js;rw[List.length_take,fr_length];show(all ps).length+_<=R;omega
 have hl:Dk.sync (Dk.write (Js R k ps) ((fr p).take (keptN p keep)))=⟨R,((all ps)++(fr p).take (keptN p keep)).length,(all ps)++(fr p).take (keptN p keep)⟩:=by
  unfold Dk.write;rw[if_pos hg];rfl
 rw[hl];unfold opened cutN Dk.leave;show(⟨R,(scan (all ps++(fr p).take (keptN p keep))).2.1,(all ps++(fr p).take (keptN p keep)).take (scan (all ps++(fr p).take (keptN p keep))).2.1⟩:Dk.St)=_;rw[scan_all h];by_cases hc:((p.length+6:Nat):Int)<=keep
 ·rw[if_pos hc]
  have e1:keptN p keep=p.length+6:=by unfold keptN;rw[fr_length];omega
  have e2:(fr p).take (keptN p keep)=fr p:=by rw[e1];exact List.take_of_length_le (by rw[fr_length];omega)
  have e3:scan (fr p)=([p],p.length+6,0):=by have:=scan_whole (ps:=[p]) (by simpa using hp);rw[all_one]at this;rw[this,fr_length]
  rw[e2,e3];unfold Js;have e4:(ps++[p]).take (ps.length+1)=ps++[p]:=List.take_of_length_le (by simp);rw[e4,all_append,all_one];show(⟨R,(all ps).length+(p.length+6),(all ps++fr p).take ((all ps).length+(p.length+6))⟩:Dk.St)=_;rw[List.take_of_length_le (by rw[List.length_append,fr_length];omega),List.length_append,fr_length]
 ·rw[if_neg hc]
  have e1:keptN p keep<p.length+6:=by unfold keptN;rw[fr_length];omega
  rw[scan_cut hp e1];unfold Js;show(⟨R,(all ps).length+0,(all ps++(fr p).take (keptN p keep)).take ((all ps).length+0)⟩:Dk.St)=_;rw[Nat.add_zero,List.take_left',List.take_length];rfl
end
end Jn
end Go.Proofs.YtpehidgjfcfjoaaGreatDoor
namespace Go.Proofs.YtpehidgjfcfjoaaGreatDoor.Cdc
def digs(n:Nat):List Nat:=if n<128 then[n]else(n%128+128)::digs (n/128)
termination_by n
decreasing_by omega
theorem digs_lt{n:Nat}(h:n<128):digs n=[n]:=by rw[digs,if_pos h]
theorem digs_ge{n:Nat}(h:128<=n):digs n=(n%128+128)::digs (n/128):=by rw[digs,if_neg zv]
theorem digs_ind{p:Nat->Prop}(a:∀n,n<128->p n)(b:∀n,128<=n->p (n/128)->p n)(n:Nat):p n:=by
 induction n using Nat.strongRecOn with
 |_ n ih=>
  by_cases h:n<128
  ·exact a n h
  ·exact b n zv (ih _ zv)
theorem digs_byte(n:Nat):∀x∈digs n,x<256:=by
 refine digs_ind (p:=fun n=>∀x∈digs n,x<256) ?_ ?_ n
 ·intro n h x hx;rw[digs_lt h]at hx;simp at hx;omega
 ·intro n h ih x hx
  rw[digs_ge h]at hx;rcases List.mem_cons.1 hx with rfl|hx
  ·omega
  ·exact ih x hx
theorem digs_pos(n:Nat):1<=(digs n).length:=by
 rw[digs];split<;>simp
theorem digs_le{n k:Nat}(hk:1<=k)(h:n<128^k):(digs n).length<=k:=by
 induction k generalizing n with
 |zero=>omega
 |succ k ih=>
  by_cases hn:n<128
  ·rw[digs_lt hn];simp
  ·rw[digs_ge zv,List.length_cons]
   have:n/128<128^k:=by rw[Nat.pow_succ]at h;omega
   rcases k with _|k
   ·simp at this;omega
   ·have:=ih zv this;omega
theorem digs_nine{n:Nat}(h:n<9223372036854775808):(digs n).length<=9:=digs_le zv (by rw[show(128:Nat)^9=9223372036854775808 from by decide];exact h)
def val:List Nat->Nat
 |[]=>0
 |x::l=>x%128+128*val l
theorem val_digs(n:Nat):val (digs n)=n:=by
 refine digs_ind (p:=fun n=>val (digs n)=n) ?_ ?_ n
 ·intro n h;rw[digs_lt h];simp only[val];omega
 ·intro n h ih;rw[digs_ge h];simp only[val,ih];omega
theorem val_lt(l:List Nat):val l<128^l.length:=by
 induction l with
 |nil=>simp[val]
 |cons x l ih=>rw[val,List.length_cons,Nat.pow_succ];omega
theorem val_snoc(l:List Nat)(x:Nat):val (l++[x])=val l+x%128*128^l.length:=by
 induction l with
 |nil=>simp[val]
 |cons y l ih=>
  have e:x%128*(128^l.length*128)=128*(x%128*128^l.length):=by rw[<-Nat.mul_assoc,Nat.mul_comm]
  rw[List.cons_append,val,ih,val,List.length_cons,Nat.pow_succ,e,Nat.mul_add];omega
def run:List Nat->Nat
 |[]=>0
 |x::l=>if 128<=x then run l+1 else 0
theorem run_of{l:List Nat}{k:Nat}(h:∀j,j<k->128<=l.getD j 0)(hk:k<l.length)(hl:l.getD k 0<128):run l=k:=by
 induction l generalizing k with
 |nil=>simp at hk
 |cons x l ih=>
  rcases k with _|k
  ·simp at hl;rw[run,if_neg zv]
  ·have h0:=h 0 zv
   simp at h0;rw[run,if_pos h0,ih (k:=k) (fun j hj=>by have:=h (j+1) zv;simpa using this) (by simpa using hk) (by simpa using hl)]
theorem run_ge{l:List Nat}{k:Nat}(h:∀j,j<k->128<=l.getD j 0):k<=run l:=by
 induction l generalizing k with
 |nil=>
  rcases k with _|k
  ·omega
  ·have:=h 0 zv;simp at this
 |cons x l ih=>
  rcases k with _|k
  ·omega
  ·have h0:=h 0 zv
   simp at h0;rw[run,if_pos h0];have:=ih (k:=k) (fun j hj=>by have:=h (j+1) zv;simpa using this);omega
def isNum(l:List Nat):Bool:=decide (run l<l.length)&&decide (run l<9)&&decide ((digs (val (l.take (run l+1)))).length=run l+1)&&decide (val (l.take (run l+1))<4611686018427387904)
def dk(l:List Nat):Nat:=if isNum l then run l+1 else 0
def dn(l:List Nat):Nat:=if isNum l then val (l.take (run l+1))else 0
theorem dk_le(l:List Nat):dk l<=l.length:=by
 unfold dk;split
 ·rename_i h;simp[isNum]at h;omega
 ·omega
theorem dn_lt(l:List Nat):dn l<4611686018427387904:=by
 unfold dn;split
 ·rename_i h;simp[isNum]at h;omega
 ·omega
theorem dn_none{l:List Nat}(h:dk l=0):dn l=0:=by
 unfold dk at h;unfold dn;split
 ·rename_i h1;rw[if_pos h1]at h;omega
 ·rfl
theorem digs_val(l:List Nat)(hb:∀x∈l,x<256)(hr:run l<l.length):(digs (val (l.take (run l+1)))).length<=run l+1/\((digs (val (l.take (run l+1)))).length=run l+1->digs (val (l.take (run l+1)))=l.take (run l+1)):=by
 induction l with
 |nil=>simp[run]at hr
 |cons x l ih=>
  rw[run]at hr⊢;have hx:=hb x (by simp);by_cases h:128<=x
  ·rw[if_pos h]at hr⊢
   rw[List.take_succ_cons,val];have ih:=ih (fun y hy=>hb y (by simp[hy])) (by simpa using hr);generalize l.take (run l+1)=q at*;by_cases hq:val q=0
   ·rw[hq,digs_lt zv]
    refine⟨by simp,fun h=>by simp at h⟩
   ·rw[digs_ge zv,show(x%128+128*val q)/128=val q by omega,show(x%128+128*val q)%128+128=x by omega]
    refine⟨by simp;omega,fun h=>by rw[ih.2 (by simp at h;omega)]⟩
  ·rw[if_neg h]
   rw[List.take_succ_cons,List.take_zero,val,val];rw[digs_lt zv];refine⟨by simp,fun _=>by rw[show x%128+128*0=x by omega]⟩
theorem run_digs(n:Nat)(r:List Nat):run (digs n++r)+1=(digs n).length:=by
 refine digs_ind (p:=fun n=>run (digs n++r)+1=(digs n).length) ?_ ?_ n
 ·intro n h;rw[digs_lt h,List.cons_append,run,if_neg zv];simp
 ·intro n h ih;rw[digs_ge h,List.cons_append,run,if_pos zv,List.length_cons,ih]
theorem isNum_digs{n:Nat}(h:n<4611686018427387904)(r:List Nat):isNum (digs n++r)=true:=by
 have h1:=run_digs n r;have h2:(digs n++r).take (run (digs n++r)+1)=digs n:=by rw[h1];exact List.take_left
 have h3:=digs_nine (n:=n) zv;simp only[isNum,h2,val_digs,Bool.and_eq_true,decide_eq_true_eq,List.length_append];omega
theorem dk_digs{n:Nat}(h:n<4611686018427387904)(r:List Nat):dk (digs n++r)=(digs n).length:=by
 unfold dk;rw[if_pos (isNum_digs h r),run_digs]
theorem dn_digs{n:Nat}(h:n<4611686018427387904)(r:List Nat):dn (digs n++r)=n:=by
 unfold dn;rw[if_pos (isNum_digs h r),run_digs,List.take_left,val_digs]
theorem digs_dn{l:List Nat}(hb:∀x∈l,x<256)(h:dk l≠0):digs (dn l)=l.take (dk l):=by
 unfold dk dn at*;by_cases h1:isNum l=true
 ·rw[if_pos h1,if_pos h1]
  simp only[isNum,Bool.and_eq_true,decide_eq_true_eq]at h1;exact(digs_val l hb zv).2 zv
 ·rw[if_neg h1]at h;omega
structure St where
 l:List Nat
 e:Int
def lost:St:=⟨[],2⟩
def num(s:St):St:=if s.e=0 then(if dk s.l=0 then lost else⟨s.l.drop (dk s.l),0⟩)else s
def numV(s:St):Nat:=if s.e=0 then dn s.l else 0
def cnt(s:St):St:=if numV s<=64 then num s else lost
def cntV(s:St):Nat:=if numV s<=64 then numV s else 0
def tk(s:St)(n:Nat):St:=if s.e=0 then(if n<=s.l.length then⟨s.l.drop n,0⟩else lost)else s
def tkV(s:St)(n:Nat):List Nat:=if s.e=0 then(if n<=s.l.length then s.l.take n else[])else[]
def text(s:St):St:=tk (cnt s) (cntV s)
def textV(s:St):List Nat:=tkV (cnt s) (cntV s)
def numsAt(s:St):Nat->St
 |0=>s
 |k+1=>num (numsAt s k)
def numsV(s:St):Nat->List Nat
 |0=>[]
 |k+1=>numsV s k++[numV (numsAt s k)]
def list(s:St):St:=numsAt (cnt s) (cntV s)
def listV(s:St):List Nat:=if(list s).e=0 then numsV (cnt s) (cntV s)else[]
def endE(s:St):Int:=if 0<s.l.length then 2 else s.e
structure Okay(s:St):Prop where
 byte:∀x∈s.l,x<256
 none_:s.e≠0->s.l=[]
theorem numV_lt(s:St):numV s<4611686018427387904:=by
 unfold numV;split
 ·exact dn_lt _
 ·omega
theorem cntV_le(s:St):cntV s<=64:=by unfold cntV;split<;>omega
theorem num_err{s:St}(h:s.e≠0):num s=s:=by unfold num;rw[if_neg h]
theorem numV_err{s:St}(h:s.e≠0):numV s=0:=by unfold numV;rw[if_neg h]
theorem numsAt_err{s:St}{i:Nat}(h:(numsAt s i).e≠0)(j:Nat):numsAt s (i+j)=numsAt s i:=by
 induction j with
 |zero=>rfl
 |succ j ih=>rw[<-Nat.add_assoc,numsAt,ih,num_err h]
theorem numsV_length(s:St)(k:Nat):(numsV s k).length=k:=by
 induction k with
 |zero=>rfl
 |succ k ih=>simp[numsV,ih]
theorem num_digs{n:Nat}(h:n<4611686018427387904)(r:List Nat):num ⟨digs n++r,0⟩=⟨r,0⟩/\numV ⟨digs n++r,0⟩=n:=by
 unfold num numV;simp only[if_pos,dn_digs h,dk_digs h,and_true];rw[if_neg (by have:=digs_pos n;omega),List.drop_left]
theorem numsAt_all(ns:List Nat)(h:∀n∈ns,n<4611686018427387904)(r:List Nat)(k:Nat)(hk:k<=ns.length):numsAt ⟨(ns.flatMap digs)++r,0⟩ k=⟨((ns.drop k).flatMap digs)++r,0⟩/\numsV ⟨(ns.flatMap digs)++r,0⟩ k=ns.take k:=by
 induction k with
 |zero=>exact⟨by simp[numsAt],by simp[numsV]⟩
 |succ k ih=>
  obtain⟨h1,h2⟩:=ih zv;have hk':k<ns.length:=by omega
  have h3:=num_digs (h ns[k] (List.getElem_mem hk')) ((ns.drop (k+1)).flatMap digs++r);rw[numsAt,numsV,h1,h2,List.drop_eq_getElem_cons hk',List.flatMap_cons,List.append_assoc,h3.1,h3.2];exact⟨rfl,by rw[List.take_succ_eq_append_getElem hk']⟩
end Go.Proofs.YtpehidgjfcfjoaaGreatDoor.Cdc
namespace Go.Proofs.YtpehidgjfcfjoaaGreatDoor
open Go.RowKit Cdc
def sz(n:Int):Nat:=if 0<=n/\n<4611686018427387904 then(digs n.toNat).length else 0
theorem jt6{n:Int}(h:n<0\/4611686018427387903<n):sz n=0:=by unfold sz;rw[if_neg zv]
theorem sz_yes{n:Nat}(h:n<4611686018427387904):sz (n:Int)=(digs n).length:=by
 unfold sz;rw[if_pos zv,Int.toNat_natCast]
theorem jl5(n:Nat)(w:World)(h:n<4611686018427387904):
  Calls Tryz.prog 152 #[.int .i64 n] w fun e w'=>e= .returned (.int .i64 ((digs n).length:Nat))/\w=w':=by
 have h9:=digs_nine (n:=n) zv;have hb:(n:Int)<=4611686018427387903:=by omega
 have HN:=zh h;clear h;go_in;go_wp2_with fail;clear hb;go_loop [0,3] (fun a s=>∃m k:Nat,a= .int .i64 m/\s= .int .i64 k/\k+(digs m).length=(digs n).length+1/\1<=k/\m<4611686018427387904) (fun a _=>(intOf a).toNat)
 case atStart=>exact⟨n,1,rfl,rfl,zv,zv,HN.out⟩
 case round=>
  obtain⟨m,k,rfl,rfl,hk,hk1,hm⟩:=hrel;have HM:=zh hm;have hm2:(m:Int)<=4611686018427387903:=by omega
  clear hm;have hp:=digs_pos m;by_cases hlt:128<=m
  ·have hq:Hid (k+1+(digs (m/128)).length=(digs n).length+1):=by
    show _=_;rw[digs_ge hlt,List.length_cons]at hk;omega
   have hk9:k<=9:=by omega
   clear hk;go_wp2_with fail;go_round
   case rel=>exact⟨m/128,k+1,rfl,by go_num,hq.out,zv,by have:=HM.out;omega⟩
   case measure=>simp[intOf];omega
  ·have hq:Hid (k=(digs n).length):=by
    show _=_;rw[digs_lt zv]at hk;simp at hk;omega
   clear hk;go_wp2;go_ret;exact⟨jcf (by rw[hq.out]),rfl⟩
theorem jew(n:Int)(w:World):
  Calls Tryz.prog 152 #[.int .i64 n] w fun e w'=>e= .returned (.int .i64 (sz n:Nat))/\w=w':=by
 by_cases h0:n<0
 ·rw[jt6 (.inl h0)]
  go_in;go_wp2;go_ret;exact⟨rfl,rfl⟩
 ·by_cases h1:4611686018427387903<n
  ·rw[jt6 (.inr h1)]
   have h0':0<=n:=by omega
   go_in;go_wp2;go_ret;exact⟨rfl,rfl⟩
  ·obtain⟨m,rfl⟩:∃m:Nat,n=(m:Int):=⟨n.toNat,zv⟩
   rw[sz_yes zv];exact jl5 m w zv
def jh8(B:Nat)(l:List Nat)(w:World)(e:Ending)(w':World):Prop:=∃v,e= .returned v/\OwnB w' B v l/\Below B w w'
theorem jb4(n c more:Nat)(A:Option Addr)(l:List Nat)(w:World)(hs:Sl w A n c l)(hl:n<=1000000)(hm:more<=1000):
  Calls Tryz.prog 98 #[.slice A n c,.int .i64 more] w (jh8 w.heap.size l w):=by
 obtain⟨i0,hi0,hz0,hz1,hz2⟩:=info_parts jbz;have HS:=zh hs;clear hs;have I0:=zh hi0;clear hi0;have I1:=zh hz0;clear hz0;have I2:=zh hz1;clear hz1;have I3:=zh hz2;clear hz2;go_in
 go_wp2_with(first
  |(at_make;refine wpList_make_own _ rfl _ _ 43 rfl w.heap.size 5 i0 (.int .u8 0) 1 Tryz.underlying43 I0.out I1.out I2.out _ _ _ (n+more) rfl rfl zv (by rw[I3.out];omega) (by unfold maxLen;omega) (Nat.le_refl _) ?_;intro w1 hown1 hg1;have O1:=zh hown1;have G1:=zh hg1;clear hown1 hg1)
  |(at_builtin;refine jao rfl (.tmp 9) (.tmp 10) _ rfl w.heap.size 5 i0 _ Tryz.underlying43 I0.out I1.out I2.out I3.out rfl (.slice (some ⟨w.heap.size,0,none⟩) 0 (n+more)) 0 [] rfl O1.out w1.heap.size n c A l rfl (HS.out.rd.on ((Below.refl _ _).grown G1.out (Nat.le_refl _) (by simp))) HS.out.len HS.out.nil zv G1.out.size ?_;intro v2 w2 hown2 hg2;have O2:=zh hown2;have G2:=zh hg2;clear hown2 hg2))
 go_ret;have B1:=(Below.refl w.heap.size w).grown G1.out (Nat.le_refl _) (by simp);have hO:=O2.out;rw[Nat.zero_add,List.nil_append,HS.out.len]at hO;exact⟨v2,rfl,⟨hO,HS.out.rd.1⟩,B1.grown G2.out B1.size (by simp[Value.ownBlock])⟩
theorem jl6{l l':List Nat}{n m:Nat}(h:l'++digs m=l++digs n)(hm:128<=m):(l'++[m%128+128])++digs (m/128)=l++digs n:=by
 rw[<-h,digs_ge hm,List.append_assoc];rfl
theorem jl7{l l':List Nat}{n m:Nat}(h:l'++digs m=l++digs n)(hm:m<128):l'++[m]=l++digs n:=by rw[<-h,digs_lt hm]
theorem jh9(B n:Nat)(v:Value)(l:List Nat)(w:World)(ho:OwnB w B v l)(hB:B<=w.heap.size)(hl:l.length<=2000000)(hn:n<4611686018427387904):
  Calls Tryz.prog 180 #[v,.int .i64 n] w (jh8 B (l++digs n) w):=by
 have HO:=zh ho;clear ho;have h9:=digs_nine (n:=n) zv;have HL:Hid ((l++digs n).length<=2000009):=by show _<=_;rw[List.length_append];omega
 have HN:=zh hn;clear hn;have HB:=zh hB;clear hB;have HH:Hid (∀x∈l++digs n,x<256):=fun x hx=>(List.mem_append.1 hx).elim (HO.out.2 x) (digs_byte n x);go_in;go_wp2_with fail;go_loopw [0,1] (fun v a wr=>∃(m:Nat) (l':List Nat),a= .int .i64 m/\(m:Int)<=4611686018427387903/\OwnB wr B v l'/\l'++digs m=l++digs n/\Below B w wr) (fun _ a _=>(intOf a).toNat)
 case atStart=>exact⟨n,l,rfl,by have:=HN.out;omega,HO.out,rfl,Below.refl _ _⟩
 case round=>
  obtain⟨m,l',rfl,hm,hO,hfull,hb⟩:=hrel;clear HO;have O:=zh hO;clear hO;have BB:=zh hb;clear hb;have FF:=zh hfull;clear hfull;have hlen:l'.length<=2000009:=by have h1:=HL.out;have h2:=FF.out;rw[<-h2,List.length_append]at h1;omega
  by_cases hlt:128<=m
  ·go_wp2_with(at_builtin;refine jbb rfl (.tmp 7) (.tmp 12) rfl B _ l' rfl O.out _ (m%128+128) zv zv rfl zv (Nat.le_trans HB.out BB.out.size) ?_;intro v1 w1 ho1 hb1;have O1:=zh ho1;have B1:=zh (BB.out.trans hb1);clear ho1 hb1)
   go_roundw
   case rel=>exact⟨m/128,_,by go_num,zv,O1.out,jl6 FF.out hlt,B1.out⟩
   case measure=>simp[intOf];omega
  ·go_wp2_with(at_builtin;refine jbb rfl (.tmp 16) (.tmp 19) rfl B _ l' rfl O.out _ m zv zv rfl zv (Nat.le_trans HB.out BB.out.size) ?_;intro v1 w1 ho1 hb1;have O1:=zh ho1;have B1:=zh (BB.out.trans hb1);clear ho1 hb1)
   go_ret;exact⟨v1,rfl,by rw[<-jl7 FF.out zv];exact O1.out,B1.out⟩
def jhd(l:List Nat)(err:Int)(w:World)(e:Ending)(w':World):Prop:=
 ∃A c,e= .returned (.tuple #[.slice A l.length c,.int .i64 err])/\Sl w' A l.length c l/\Below w.heap.size w w'/\∀a,A=some a->w.heap.size<=a.block
theorem jt7(s:ByteArray):Lib.strCells s=vals (sb s):=by
 simp[Lib.strCells,vals,sb]
theorem jnl(n c m:Nat)(A:Option Addr)(l:List Nat)(w:World)(hs:Sl w A n c l)(hl:n<=1000000)(hm:m<4611686018427387904):
  Calls Tryz.prog 128 #[.slice A n c,.int .i64 m] w (jhd (l++digs m) 0 w):=by
 have hne:(((digs m).length:Int)==0)=false:=by have:=digs_pos m;rw[beq_eq_false_iff_ne];omega
 have HS:=zh hs;clear hs;have HM:=zh hm;clear hm;go_in;go_wp2_with fail;refine(jl5 m w HM.out).mono ?_;rintro e w1 ⟨rfl,rfl⟩;go_wp2_with fail;refine(jb4 n c 9 A l w HS.out hl zv).mono ?_;rintro e w1 ⟨v,rfl,ho,hb⟩;have O:=zh ho;clear ho;have B:=zh hb;clear hb;go_wp2_with fail;refine(jh9 w.heap.size m v l w1 O.out B.out.size (by rw[<-HS.out.len];omega) HM.out).mono ?_;rintro e w2 ⟨v2,rfl,ho,hb⟩;have O2:=zh ho;clear ho;have B2:=zh hb;clear hb;obtain⟨A2,c2,hv,h2⟩:=O2.out.sl;have HV:=zh hv;clear hv;have H2:=zh h2;clear h2;go_wp2;go_ret2;rw[HV.out];exact⟨A2,c2,rfl,H2.out,B.out.trans B2.out,OwnB.far O2.out HV.out⟩
theorem jqc(n c:Nat)(m:Int)(A:Option Addr)(l:List Nat)(w:World)(hs:Sl w A n c l)(hl:n<=1000000)(hm:sz m=0):
  Calls Tryz.prog 128 #[.slice A n c,.int .i64 m] w (jhd l 1 w):=by
 have HS:=zh hs;clear hs;have HM:=zh hm;clear hm;go_in;go_wp2_with fail;refine(jew m w).mono ?_;rintro e w1 ⟨rfl,rfl⟩;rw[HM.out];go_wp2_with fail;refine(jb4 n c 0 A l w HS.out hl zv).mono ?_;rintro e w1 ⟨v,rfl,ho,hb⟩;have O:=zh ho;clear ho;have B:=zh hb;clear hb;obtain⟨A2,c2,hv,h2⟩:=O.out.sl;have HV:=zh hv;clear hv;have H2:=zh h2;clear h2;go_wp2;go_ret2;rw[HV.out];exact⟨A2,c2,rfl,H2.out,B.out,OwnB.far O.out HV.out⟩
def numL(l:List Nat)(n:Int):List Nat:=if sz n=0 then l else l++digs n.toNat
def numE(n:Int):Int:=if sz n=0 then 1 else 0
theorem jjl{n:Int}(h:sz n≠0):∃m:Nat,n=(m:Int)/\m<4611686018427387904:=by
 unfold sz at h;split at h
 ·exact⟨n.toNat,zv,zv⟩
 ·omega
theorem jnm(n c:Nat)(m:Int)(A:Option Addr)(l:List Nat)(w:World)(hs:Sl w A n c l)(hl:n<=1000000):
  Calls Tryz.prog 128 #[.slice A n c,.int .i64 m] w (jhd (numL l m) (numE m) w):=by
 unfold numL numE;by_cases h:sz m=0
 ·rw[if_pos h,if_pos h];exact jqc n c m A l w hs hl h
 ·rw[if_neg h,if_neg h]
  obtain⟨k,rfl,hk⟩:=jjl h;exact jnl n c k A l w hs hl hk
theorem OwnB.text{w:World}{B n:Nat}{v:Value}{l:List Nat}{s:ByteArray}(h:w.ownsRow B 5 1 v (n+s.size) (vals l++Lib.strCells s))(hn:n=l.length)(hl:∀y∈l,y<256):OwnB w B v (l++sb s):=by
 subst hn;refine⟨?_,?_⟩
 ·rw[jbf,List.length_append,ja9,<-jt7];exact h
 ·intro y hy
  exact(List.mem_append.1 hy).elim (hl y) (jhw s y)
theorem jt8(n c:Nat)(s:ByteArray)(A:Option Addr)(l:List Nat)(w:World)(hs:Sl w A n c l)(hl:n<=1000000)(hm:s.size<=64):
  Calls Tryz.prog 129 #[.slice A n c,.string s] w (jhd (l++digs s.size++sb s) 0 w):=by
 obtain⟨i0,hi0,hz0,hz1,hz2⟩:=info_parts jbz;have HS:=zh hs;clear hs;have I0:=zh hi0;clear hi0;have I1:=zh hz0;clear hz0;have I2:=zh hz1;clear hz1;have I3:=zh hz2;clear hz2;go_in;go_wp2_with fail;refine(jb4 n c (9+s.size) A l w HS.out hl zv).mono ?_;rintro e w1 ⟨v,rfl,ho,hb⟩;have O:=zh ho;clear ho;have B:=zh hb;clear hb;go_wp2_with fail;refine(jh9 w.heap.size s.size v l w1 O.out B.out.size (by rw[<-HS.out.len];omega) zv).mono ?_;rintro e w2 ⟨v2,rfl,ho,hb⟩;have O2:=zh ho;clear ho;have B2:=zh (B.out.trans hb);clear hb;have hlen:(l++digs s.size).length<=1000010:=by have:=digs_nine (n:=s.size) zv;rw[List.length_append,<-HS.out.len];omega
 go_wp2_with(at_builtin;refine Lib.wpList_append_own_string _ rfl (.tmp 18) (.tmp 19) 43 9 rfl w.heap.size 5 i0 Tryz.underlying43 Tryz.underlying9 I0.out I1.out I2.out I3.out v2 _ _ rfl O2.out.1 s rfl (by unfold maxLen;omega) zv B2.out.size ?_;intro v3 w3 hown3 hg3 _;have O3:=zh hown3;have G3:=zh hg3;clear hown3 hg3);go_ret2;obtain⟨A2,c2,hv,h2⟩:=(OwnB.text O3.out rfl O2.out.2).sl;rw[hv];exact⟨A2,c2,rfl,h2,B2.out.grown G3.out B2.out.size (jaz O2.out.1),OwnB.far (OwnB.text O3.out rfl O2.out.2) hv⟩
theorem text_no(n c:Nat)(s:ByteArray)(A:Option Addr)(l:List Nat)(w:World)(hs:Sl w A n c l)(hl:n<=1000000)(hm:64<s.size):
  Calls Tryz.prog 129 #[.slice A n c,.string s] w (jhd l 12 w):=by
 have HS:=zh hs;clear hs;go_in;go_wp2_with fail;refine(jb4 n c 0 A l w HS.out hl zv).mono ?_;rintro e w1 ⟨v,rfl,ho,hb⟩;have O:=zh ho;clear ho;have B:=zh hb;clear hb;obtain⟨A2,c2,hv,h2⟩:=O.out.sl;have HV:=zh hv;clear hv;have H2:=zh h2;clear h2;go_wp2;go_ret2;rw[HV.out];exact⟨A2,c2,rfl,H2.out,B.out,OwnB.far O.out HV.out⟩
def jgu(l:List Nat)(s:ByteArray):List Nat:=if s.size<=64 then l++digs s.size++sb s else l
def jgv(s:ByteArray):Int:=if s.size<=64 then 0 else 12
theorem jt9(n c:Nat)(s:ByteArray)(A:Option Addr)(l:List Nat)(w:World)(hs:Sl w A n c l)(hl:n<=1000000):
  Calls Tryz.prog 129 #[.slice A n c,.string s] w (jhd (jgu l s) (jgv s) w):=by
 unfold jgu jgv;by_cases h:s.size<=64
 ·rw[if_pos h,if_pos h];exact jt8 n c s A l w hs hl h
 ·rw[if_neg h,if_neg h];exact text_no n c s A l w hs hl zv
def jci(ns:List Int):Bool:=ns.all fun n=>decide (sz n≠0)
theorem jgw{ns:List Int}(h:∀j,j<ns.length->sz (ns.getD j 0)≠0):jci ns=true:=by
 unfold jci;rw[List.all_eq_true];intro x hx;obtain⟨j,hj,rfl⟩:=List.mem_iff_getElem.1 hx;have:=h j hj;rw[jal hj]at this;exact decide_eq_true this
theorem jl8{ns:List Int}{j:Nat}(hj:j<ns.length)(h:sz (ns.getD j 0)=0):jci ns=false:=by
 unfold jci;rw[List.all_eq_false];refine⟨ns[j],List.getElem_mem hj,?_⟩;rw[jal hj]at h;simp[h]
theorem jf1{ns:List Int}(h:jci ns=true){j:Nat}(hj:j<ns.length):∃m:Nat,ns.getD j 0=(m:Int)/\m<4611686018427387904:=by
 unfold jci at h;rw[List.all_eq_true]at h;have:=h ns[j] (List.getElem_mem hj);rw[jal hj];exact jjl (by simpa using this)
def fl(ns:List Int):List Nat:=ns.flatMap fun n=>digs n.toNat
theorem jia{ns:List Int}{j m:Nat}(hj:j<ns.length)(hm:ns.getD j 0=(m:Int)):fl (ns.take (j+1))=fl (ns.take j)++digs m:=by
 unfold fl;rw[List.take_succ_eq_append_getElem hj,List.flatMap_append,<-jal (d:=0) hj,hm];simp
theorem jjm{ns:List Int}(h:jci ns=true)(k:Nat)(hk:k<=ns.length):(fl (ns.take k)).length<=9*k:=by
 induction k with
 |zero=>simp[fl]
 |succ k ih=>
  obtain⟨m,hm,hlt⟩:=jf1 h (j:=k) zv;rw[jia zv hm,List.length_append];have:=ih zv;have:=digs_nine (n:=m) zv;omega
theorem jqd(n c:Nat)(A:Option Addr)(ns:List Int)(w:World)(hs:SlI w A n c ns)(hl:n<=1000000):
  Calls Tryz.prog 181 #[.slice A n c] w fun e w'=>e= .returned (.bool (jci ns))/\w=w':=by
 have HS:=zh hs;clear hs;go_in;go_wp2_with fail;go_loop [7] (fun i=>∃k:Nat,k<=n/\i= .int .i64 k/\∀j,j<k->sz (ns.getD j 0)≠0) (fun i=>n -(intOf i).toNat)
 case atStart=>exact⟨0,zv,rfl,fun j hj=>by omega⟩
 case round=>
  obtain⟨k,hk,rfl,hall⟩:=hrel;have HA:=zh hall;clear hall;by_cases hlt:k<n
  ·have hkl:k<ns.length:=by rw[<-HS.out.len];exact hlt
   obtain⟨b,o,rfl,_,hc⟩:=HS.out.rd zv;have hck:=hc k hkl;clear hc;by_cases hz:sz (ns.getD k 0)=0
   ·have HZ:=zh hz
    have HN:=zh (jl8 hkl hz);clear hz;generalize ns.getD k 0=x at*;go_wp2_with fail;refine(jew x w).mono ?_;rintro e w1 ⟨rfl,rfl⟩;rw[HZ.out];go_wp2;go_ret;exact⟨jb8 HN.out.symm,rfl⟩
   ·have hne:((sz (ns.getD k 0):Int)==0)=false:=by rw[beq_eq_false_iff_ne];omega
    have HZ:=zh hz;clear hz;have HG:Hid (∀j,j<k+1->sz (ns.getD j 0)≠0):=fun j hj=>by
     by_cases e:j=k
     ·subst e;exact HZ.out
     ·exact HA.out j zv
    clear HA HZ;generalize ns.getD k 0=x at*;go_wp2_with fail;refine(jew x w).mono ?_;rintro e w1 ⟨rfl,rfl⟩;go_wp2_with fail;go_round
    case rel=>exact⟨k+1,zv,by go_num,HG.out⟩
    case measure=>simp[intOf];omega
  ·obtain rfl:k=n:=by omega
   have HN:Hid (jci ns=true):=jgw fun j hj=>HA.out j (by rw[HS.out.len];exact hj);go_wp2;go_ret;exact⟨jb8 HN.out.symm,rfl⟩
theorem jqe{w:World}{B m:Nat}{v:Value}{l:List Nat}{ns:List Int}(h:OwnB w B v (l++fl (ns.take m)))(hm:m=ns.length):OwnB w B v (l++fl ns):=by
 rwa [hm,List.take_length]at h
theorem jua(n c k d:Nat)(A D:Option Addr)(l:List Nat)(ns:List Int)(w:World)(hs:Sl w A n c l)(hl:n<=1000000)(hd:SlI w D k d ns)(hk:k<=64)(ha:jci ns=true):
  Calls Tryz.prog 130 #[.slice A n c,.slice D k d] w (jhd (l++digs k++fl ns) 0 w):=by
 have HS:=zh hs;clear hs;have HD:=zh hd;clear hd;have HA:=zh ha;clear ha;go_in;go_wp2_with fail;refine(jqd k d D ns w HD.out zv).mono ?_;rintro e w1 ⟨rfl,rfl⟩;rw[HA.out];go_wp2_with fail;refine(jb4 n c (9*(1+k)) A l w HS.out hl zv).mono ?_;rintro e w1 ⟨v,rfl,ho,hb⟩;have O:=zh ho;clear ho;have B:=zh hb;clear hb;go_wp2_with fail;refine(jh9 w.heap.size k v l w1 O.out B.out.size (by rw[<-HS.out.len];omega) zv).mono ?_;rintro e w2 ⟨v2,rfl,ho,hb⟩;have O2:=zh ho;clear ho;have B2:=zh (B.out.trans hb);clear hb O B;have hlen:(l++digs k).length<=1000010:=by have:=digs_nine (n:=k) zv;rw[List.length_append,<-HS.out.len];omega
 go_wp2_with fail;go_loopw [6,30] (fun v i wr=>∃m:Nat,m<=k/\i= .int .i64 m/\OwnB wr w.heap.size v (l++digs k++fl (ns.take m))/\Below w.heap.size w wr) (fun _ i _=>k -(intOf i).toNat)
 case atStart=>exact⟨0,zv,rfl,by simpa[fl]using O2.out,B2.out⟩
 case round=>
  obtain⟨m,hm,rfl,ho,hb⟩:=hrel;clear O2 B2;have O:=zh ho;clear ho;have B:=zh hb;clear hb;by_cases hlt:m<k
  ·have hml:m<ns.length:=by rw[<-HD.out.len];exact hlt
   obtain⟨x,hx,hxl⟩:=jf1 HA.out hml;obtain⟨b,o,rfl,_,hc⟩:=(HD.out.on B.out).rd zv;have hck:=hc m hml;rw[hx]at hck;have HX:=zh (jia hml hx);have HB:=zh hxl;have HF:=zh (jjm HA.out m zv);clear hc hx hxl;go_wp2_with fail;refine(jh9 w.heap.size x _ _ wr O.out B.out.size (by have:=HF.out;rw[List.length_append];omega) HB.out).mono ?_;rintro e w3 ⟨v3,rfl,ho,hb⟩;have O3:=zh ho;clear ho;have B3:=zh (B.out.trans hb);clear hb;go_wp2_with fail;go_roundw
   case rel=>exact⟨m+1,zv,by go_num,by rw[HX.out,<-List.append_assoc];exact O3.out,B3.out⟩
   case measure=>simp[intOf];omega
  ·obtain rfl:m=k:=by omega
   have O4:=zh (jqe O.out HD.out.len);obtain⟨A2,c2,hv,h2⟩:=O4.out.sl;have HV:=zh hv;clear hv;have H2:=zh h2;clear h2;go_wp2;go_ret2;rw[HV.out];exact⟨A2,c2,rfl,H2.out,B.out,OwnB.far O4.out HV.out⟩
theorem jub(n c k d:Nat)(A D:Option Addr)(l:List Nat)(ns:List Int)(w:World)(hs:Sl w A n c l)(hl:n<=1000000)(hd:SlI w D k d ns)(hk:k<=64)(ha:jci ns=false):
  Calls Tryz.prog 130 #[.slice A n c,.slice D k d] w (jhd l 1 w):=by
 have HS:=zh hs;clear hs;have HD:=zh hd;clear hd;have HA:=zh ha;clear ha;go_in;go_wp2_with fail;refine(jqd k d D ns w HD.out zv).mono ?_;rintro e w1 ⟨rfl,rfl⟩;rw[HA.out];go_wp2_with fail;refine(jb4 n c 0 A l w HS.out hl zv).mono ?_;rintro e w1 ⟨v,rfl,ho,hb⟩;have O:=zh ho;clear ho;have B:=zh hb;clear hb;obtain⟨A2,c2,hv,h2⟩:=O.out.sl;have HV:=zh hv;clear hv;have H2:=zh h2;clear h2;go_wp2;go_ret2;rw[HV.out];exact⟨A2,c2,rfl,H2.out,B.out,OwnB.far O.out HV.out⟩
theorem jqf(n c k d:Nat)(A D:Option Addr)(l:List Nat)(w:World)(hs:Sl w A n c l)(hl:n<=1000000)(hk:64<k):
  Calls Tryz.prog 130 #[.slice A n c,.slice D k d] w (jhd l 12 w):=by
 have HS:=zh hs;clear hs;go_in;go_wp2_with fail;refine(jb4 n c 0 A l w HS.out hl zv).mono ?_;rintro e w1 ⟨v,rfl,ho,hb⟩;have O:=zh ho;clear ho;have B:=zh hb;clear hb;obtain⟨A2,c2,hv,h2⟩:=O.out.sl;have HV:=zh hv;clear hv;have H2:=zh h2;clear h2;go_wp2;go_ret2;rw[HV.out];exact⟨A2,c2,rfl,H2.out,B.out,OwnB.far O.out HV.out⟩
def jd4(l:List Nat)(ns:List Int):List Nat:=if ns.length<=64 then(if jci ns then l++digs ns.length++fl ns else l)else l
def jd5(ns:List Int):Int:=if ns.length<=64 then(if jci ns then 0 else 1)else 12
theorem juc(n c k d:Nat)(A D:Option Addr)(l:List Nat)(ns:List Int)(w:World)(hs:Sl w A n c l)(hl:n<=1000000)(hd:SlI w D k d ns):
  Calls Tryz.prog 130 #[.slice A n c,.slice D k d] w (jhd (jd4 l ns) (jd5 ns) w):=by
 unfold jd4 jd5;have hkn:=hd.len;by_cases h:k<=64
 ·have h64:ns.length<=64:=by omega
  simp only[if_pos h64];by_cases ha:jci ns=true
  ·simp only[if_pos ha]
   have:=jua n c k d A D l ns w hs hl hd h ha;rw[hkn]at this⊢;exact this
  ·simp only[if_neg ha]
   exact jub n c k d A D l ns w hs hl hd h (by simpa using ha)
 ·have h64:¬ns.length<=64:=by omega
  simp only[if_neg h64];exact jqf n c k d A D l w hs hl zv
theorem jqg(s:St):(num s).l.length<=s.l.length:=by
 unfold num lost;split
 ·split
  ·simp
  ·simp
 ·omega
theorem jk5(s:St):(cnt s).l.length<=s.l.length:=by
 unfold cnt lost;split
 ·exact jqg s
 ·simp
theorem jib(s:St)(k:Nat):(numsAt s k).l.length<=s.l.length:=by
 induction k with
 |zero=>exact Nat.le_refl _
 |succ k ih=>exact Nat.le_trans (jqg _) ih
def nI(l:List Nat):List Int:=l.map fun x=>((x:Nat):Int)
theorem jcj(l:List Nat):(nI l).length=l.length:=by simp[nI]
theorem jqh(l:List Nat)(x:Nat):nI (l++[x])=nI l++[(x:Int)]:=by simp[nI]
theorem jl9{n:Nat}(h:n<=64)(r:List Nat):cnt ⟨digs n++r,0⟩=⟨r,0⟩/\cntV ⟨digs n++r,0⟩=n:=by
 have h1:=num_digs (n:=n) zv r;unfold cnt cntV;rw[h1.2,if_pos h,if_pos h,h1.1];exact⟨rfl,rfl⟩
theorem jqi(s:ByteArray)(h:s.size<=64)(r:List Nat):text ⟨digs s.size++(sb s++r),0⟩=⟨r,0⟩/\textV ⟨digs s.size++(sb s++r),0⟩=sb s:=by
 have h1:=jl9 h (sb s++r);have hl:s.size<=(sb s++r).length:=by rw[List.length_append,ja9];omega
 unfold text textV;rw[h1.1,h1.2];unfold tk tkV;simp only[if_pos,if_pos hl];have e:=ja9 s;rw[<-e];exact⟨by rw[List.drop_left],List.take_left⟩
theorem jqj(ns:List Int):fl ns=(ns.map Int.toNat).flatMap digs:=by
 unfold fl;rw[List.flatMap_map]
theorem nI_nat{ns:List Int}(h:jci ns=true):nI (ns.map Int.toNat)=ns:=by
 unfold nI;rw[List.map_map]
 conv=>rhs;rw[<-List.map_id ns]
 apply List.map_congr_left;intro x hx;obtain⟨j,hj,rfl⟩:=List.mem_iff_getElem.1 hx;obtain⟨m,hm,_⟩:=jf1 h hj;rw[jal hj]at hm;simp[hm]
theorem nat_lt{ns:List Int}(h:jci ns=true):∀n∈ns.map Int.toNat,n<4611686018427387904:=by
 intro n hn;obtain⟨x,hx,rfl⟩:=List.mem_map.1 hn;obtain⟨j,hj,rfl⟩:=List.mem_iff_getElem.1 hx;obtain⟨m,hm,hlt⟩:=jf1 h hj;rw[jal hj]at hm;rw[hm];simpa using hlt
theorem jqk{ns:List Int}(h:jci ns=true)(r:List Nat)(k:Nat)(hk:k<=ns.length):numsAt ⟨fl ns++r,0⟩ k=⟨fl (ns.drop k)++r,0⟩/\numsV ⟨fl ns++r,0⟩ k=(ns.take k).map Int.toNat:=by
 have:=numsAt_all (ns.map Int.toNat) (nat_lt h) r k (by simpa using hk);rw[jqj,jqj,List.map_drop,List.map_take];exact this
theorem jql{ns:List Int}(h:jci ns=true)(hk:ns.length<=64)(r:List Nat):list ⟨digs ns.length++(fl ns++r),0⟩=⟨r,0⟩/\nI (listV ⟨digs ns.length++(fl ns++r),0⟩)=ns:=by
 have h1:=jl9 hk (fl ns++r);have h2:=jqk h r ns.length (Nat.le_refl _);have h3:list ⟨digs ns.length++(fl ns++r),0⟩=⟨r,0⟩:=by
  unfold list;rw[h1.1,h1.2,h2.1,List.drop_length];simp[fl]
 refine⟨h3,?_⟩;unfold listV;rw[h3,if_pos rfl,h1.1,h1.2,h2.2,List.take_length,nI_nat h]
end Go.Proofs.YtpehidgjfcfjoaaGreatDoor
namespace Go.Proofs.YtpehidgjfcfjoaaGreatDoor
open Cdc
namespace Rc
theorem sz_small{n:Int}(h0:0<=n)(h1:n<=1099511627776):sz n≠0:=by
 obtain⟨m,rfl⟩:=Int.eq_ofNat_of_zero_le h0;rw[sz_yes zv];have:=digs_pos m;omega
theorem all_small{l:List Int}(h:∀n∈l,0<=n/\n<=1099511627776):jci l=true:=by
 unfold jci;rw[List.all_eq_true];intro n hn;rw[decide_eq_true_eq];exact sz_small (h n hn).1 (h n hn).2
def bytes(r:R):List Nat:=fl (nums r)++((digs r.text.size++sb r.text)++(if r.kind=3 then digs 12++fl (Spc.flds r.sp)else[]))
def k1(l:List Nat):St:=numsAt ⟨l,0⟩ 5
def v1(l:List Nat):List Int:=nI (numsV ⟨l,0⟩ 5)
def k2(l:List Nat):St:=text (k1 l)
def t2(l:List Nat):ByteArray:=txt (textV (k1 l))
def k3(l:List Nat):St:=if(v1 l).getD 0 0=3 then list (k2 l)else k2 l
def s3(l:List Nat):Spc.Sp:=if(v1 l).getD 0 0=3 then(if(listV (k2 l)).length=12 then Spc.of (nI (listV (k2 l)))else Spc.zero)else Spc.zero
def dec(l:List Nat):R:=⟨(v1 l).getD 0 0,(v1 l).getD 1 0,(v1 l).getD 2 0,(v1 l).getD 3 0,(v1 l).getD 4 0,t2 l,s3 l⟩
theorem dec_app{r:R}(h:right r=true)(x:List Nat):dec (bytes r++x)=r/\k3 (bytes r++x)=⟨x,0⟩:=by
 have ho:=ok_of h;have ha:=all_small ho.nums;have hf:=all_small ho.flds;obtain⟨y,hy⟩:∃y,y=(if r.kind=3 then digs 12++fl (Spc.flds r.sp)else[]):=⟨_,rfl⟩;have eb:bytes r++x=fl (nums r)++((digs r.text.size++sb r.text)++(y++x)):=by
  unfold bytes;rw[<-hy];simp only[List.append_assoc]
 rw[eb];have h1:=jqk ha ((digs r.text.size++sb r.text)++(y++x)) 5 (Nat.le_refl _);have e1:k1 (fl (nums r)++((digs r.text.size++sb r.text)++(y++x)))=⟨(digs r.text.size++sb r.text)++(y++x),0⟩:=by
  unfold k1;rw[h1.1];simp[nums,fl]
 have e2:v1 (fl (nums r)++((digs r.text.size++sb r.text)++(y++x)))=nums r:=by
  unfold v1;rw[h1.2,show(nums r).take 5=nums r from rfl,nI_nat ha]
 generalize fl (nums r)++((digs r.text.size++sb r.text)++(y++x))=z at*;have h2:=jqi r.text ho.text (y++x);rw[<-List.append_assoc]at h2;have e3:k2 z=⟨y++x,0⟩:=by unfold k2;rw[e1];exact h2.1
 have e4:t2 z=r.text:=by unfold t2;rw[e1,h2.2,joc]
 have e5:(v1 z).getD 0 0=r.kind:=by rw[e2];rfl
 have key:s3 z=r.sp/\k3 z=⟨x,0⟩:=by
  unfold s3 k3;rw[e5,e3];by_cases hk:r.kind=3
  ·rw[if_pos hk]at hy
   rw[if_pos hk,if_pos hk,hy];have h3:=jql hf (by rw[Spc.flds_length];omega) x;rw[Spc.flds_length,<-List.append_assoc]at h3;rw[h3.1,h3.2];have hl:(listV ⟨digs 12++fl (Spc.flds r.sp)++x,0⟩).length=12:=by rw[<-jcj,h3.2,Spc.flds_length]
   rw[if_pos hl,Spc.of_flds];exact⟨rfl,rfl⟩
  ·rw[if_neg hk]at hy
   rw[if_neg hk,if_neg hk,hy];exact⟨(ho.other hk).symm,rfl⟩
 refine⟨ext ?_ e4 key.1,key.2⟩;show[(v1 z).getD 0 0,(v1 z).getD 1 0,(v1 z).getD 2 0,(v1 z).getD 3 0,(v1 z).getD 4 0]=nums r;rw[e2];rfl
theorem dec_bytes{r:R}(h:right r=true):dec (bytes r)=r/\k3 (bytes r)=⟨[],0⟩:=by
 have:=dec_app h []
 rwa [List.append_nil]at this
def whole(l:List Nat):Prop:=right (dec l)=true/\bytes (dec l)=l
theorem whole_bytes{r:R}(h:right r=true):whole (bytes r):=by
 unfold whole;rw[(dec_bytes h).1];exact⟨h,rfl⟩
noncomputable def rdV(l:List Nat):R:=by classical exact if whole l then dec l else none_
noncomputable def rdE(l:List Nat):Int:=by classical exact if whole l then 0 else 2
theorem rd_yes{l:List Nat}(h:whole l):rdV l=dec l/\rdE l=0:=by unfold rdV rdE;rw[if_pos h,if_pos h];exact⟨rfl,rfl⟩
theorem rd_no{l:List Nat}(h:¬whole l):rdV l=none_/\rdE l=2:=by unfold rdV rdE;rw[if_neg h,if_neg h];exact⟨rfl,rfl⟩
theorem rd_back{r:R}(h:right r=true):rdV (bytes r)=r/\rdE (bytes r)=0:=by
 have:=rd_yes (whole_bytes h);rw[(dec_bytes h).1]at this;exact this
theorem none_wrong:right none_=false:=by decide
theorem rd_only{l:List Nat}(h:rdE l=0):right (rdV l)=true/\bytes (rdV l)=l:=by
 by_cases hw:whole l
 ·rw[(rd_yes hw).1];exact hw
 ·rw[(rd_no hw).2]at h;omega
theorem fl_le{l:List Int}(h:∀n∈l,0<=n/\n<=1099511627776):(fl l).length<=9*l.length:=by
 have:=jjm (all_small h) l.length (Nat.le_refl _)
 rwa [List.take_length]at this
theorem bytes_len{r:R}(h:right r=true):(bytes r).length<=300:=by
 have ho:=ok_of h;have h1:=fl_le ho.nums;have h2:=fl_le ho.flds;have h3:(digs r.text.size).length<=9:=digs_nine (by have:=ho.text;omega);have h4:=ja9 r.text;have h5:=ho.text;rw[show(nums r).length=5 from rfl]at h1;rw[Spc.flds_length]at h2;unfold bytes;rw[List.length_append,List.length_append,List.length_append];split
 ·rw[List.length_append,show(digs 12).length=1 from by rw[digs_lt zv];rfl]
  omega
 ·simp;omega
theorem bytes_pos(r:R):0<(bytes r).length:=by
 unfold bytes;have:=digs_pos r.text.size;rw[List.length_append,List.length_append,List.length_append];omega
theorem fl_byte{l:List Int}:∀x∈fl l,x<256:=by
 intro x hx;unfold fl at hx;obtain⟨n,_,hn⟩:=List.mem_flatMap.1 hx;exact digs_byte _ x hn
theorem bytes_byte(r:R):∀x∈bytes r,x<256:=by
 intro x hx;unfold bytes at hx;rcases List.mem_append.1 hx with hx|hx
 ·exact fl_byte x hx
 rcases List.mem_append.1 hx with hx|hx
 ·rcases List.mem_append.1 hx with hx|hx
  ·exact digs_byte _ x hx
  ·exact jhw _ x hx
 ·split at hx
  ·rcases List.mem_append.1 hx with hx|hx
   ·exact digs_byte _ x hx
   ·exact fl_byte x hx
  ·cases hx
end Rc
theorem Rc.rd_in(l:List Nat):Rc.In (Rc.rdV l):=by
 by_cases h:Rc.whole l
 ·have h2:Rc.right (Rc.rdV l)=true:=by rw[(Rc.rd_yes h).1];exact h.1
  exact Rc.ok_in (Rc.ok_of h2)
 ·rw[(Rc.rd_no h).1];exact Rc.none_in
end Go.Proofs.YtpehidgjfcfjoaaGreatDoor
namespace Go.Proofs.YtpehidgjfcfjoaaGreatDoor
open Go.RowKit
namespace So
open Bk Fr
def pre(s:St):List Rc.R->List Rc.R
 |[]=>[]
 |r::l=>if chk s r=0 then r::pre (app s r) l else[]
theorem pre_cnt(l:List Rc.R):∀s,cnt s (pre s l)=(pre s l).length:=by
 induction l with
 |nil=>intro s;rfl
 |cons r l ih=>
  intro s;unfold pre;by_cases h:chk s r=0
  ·rw[if_pos h]
   show(if chk s r=0 then 1 else 0)+cnt (app s r) (pre (app s r) l)=(pre (app s r) l).length+1;rw[if_pos h,ih];omega
  ·rw[if_neg h];rfl
theorem pre_is{l:List Rc.R}:∀{s:St} {j:Nat},j<=l.length->cnt s (l.take j)=j->(∀h:j<l.length,chk (run s (l.take j)) l[j]≠0)->pre s l=l.take j:=by
 induction l with
 |nil=>intro s j _ _ _;simp[pre]
 |cons r l ih=>
  intro s j hj hc hn
  cases j with
  |zero=>
   have this:chk s r≠0:=hn (by simp);unfold pre;rw[if_neg this];rfl
  |succ j=>
   have hc':(if chk s r=0 then 1 else 0)+cnt (app s r) (l.take j)=j+1:=hc;have hle:=cnt_le (app s r) (l.take j);rw[List.length_take]at hle;by_cases h:chk s r=0
   ·rw[if_pos h]at hc'
    unfold pre;rw[if_pos h];have hj':j<=l.length:=by simpa using hj
    rw[ih hj' zv (fun hlt=>hn (by simpa using hlt))];rfl
   ·rw[if_neg h]at hc';omega
theorem pre_all{s:St}{l:List Rc.R}(h:cnt s l=l.length):pre s l=l:=by
 have:=pre_is (l:=l) (s:=s) (Nat.le_refl _) (by rw[List.take_length];exact h) (fun hx=>absurd hx (Nat.lt_irrefl _))
 rwa [List.take_length]at this
def Took(m:Int)(l:List Rc.R):Prop:=cnt (new m) l=l.length
theorem took_right{l:List Rc.R}:∀{s:St},cnt s l=l.length->∀r∈l,Rc.right r=true:=by
 induction l with
 |nil=>intro s _ r h;cases h
 |cons x l ih=>
  intro s hc r hr;have hc':(if chk s x=0 then 1 else 0)+cnt (app s x) l=l.length+1:=hc;have:=cnt_le (app s x) l;by_cases h:chk s x=0
  ·rw[if_pos h]at hc'
   have hc2:cnt (app s x) l=l.length:=by omega
   rcases List.mem_cons.1 hr with e|hr
   ·rw[e];exact chk_right h
   ·exact ih hc2 r hr
  ·rw[if_neg h]at hc';omega
theorem took_snoc{m:Int}{l:List Rc.R}(h:Took m l){r:Rc.R}(hc:chk (all m l) r=0):Took m (l++[r]):=by
 unfold Took at*;have hc2:chk (run (new m) l) r=0:=hc;rw[cnt_snoc,h,if_pos hc2,List.length_append];rfl
theorem took_take{s:St}{l:List Rc.R}(h:cnt s l=l.length)(j:Nat):cnt s (l.take j)=(l.take j).length:=by
 have e:=cnt_append s (l.take j) (l.drop j);rw[List.take_append_drop]at e;have h1:=cnt_le s (l.take j);have h2:=cnt_le (run s (l.take j)) (l.drop j);have h3:l.length=(l.take j).length+(l.drop j).length:=by rw[<-List.length_append,List.take_append_drop]
 omega
def ens(l:List Rc.R):List (List Nat):=l.map Rc.bytes
theorem ens_snoc(l:List Rc.R)(r:Rc.R):ens (l++[r])=ens l++[Rc.bytes r]:=by simp[ens]
theorem ens_len(l:List Rc.R):(ens l).length=l.length:=List.length_map ..
theorem rc_ok{r:Rc.R}(h:Rc.right r=true):ok (Rc.bytes r):=⟨Rc.bytes_pos r,Nat.le_trans (Rc.bytes_len h) zv,Rc.bytes_byte r⟩
theorem ens_ok{l:List Rc.R}(h:∀r∈l,Rc.right r=true):∀p∈ens l,ok p:=by
 intro p hp;obtain⟨r,hr,rfl⟩:=List.mem_map.1 hp;exact rc_ok (h r hr)
noncomputable def recs(ps:List (List Nat)):List Rc.R:=ps.map Rc.rdV
theorem recs_ens{l:List Rc.R}(h:∀r∈l,Rc.right r=true):recs (ens l)=l:=by
 unfold recs ens;rw[List.map_map];exact(List.map_congr_left fun r hr=>(Rc.rd_back (h r hr)).1).trans (List.map_id l)
theorem rd_right{p:List Nat}(h:Rc.right (Rc.rdV p)=true):Rc.rdE p=0/\Rc.bytes (Rc.rdV p)=p:=by
 by_cases hw:Rc.whole p
 ·exact⟨(Rc.rd_yes hw).2,(Rc.rd_only (Rc.rd_yes hw).2).2⟩
 ·rw[(Rc.rd_no hw).1,Rc.none_wrong]at h;cases h
theorem ens_take{ps:List (List Nat)}{s:St}{j:Nat}(h:cnt s ((recs ps).take j)=j)(hj:j<=ps.length):ens ((recs ps).take j)=ps.take j:=by
 have hl:((recs ps).take j).length=j:=by rw[List.length_take,recs,List.length_map];omega
 have hr:=took_right (s:=s) (l:=(recs ps).take j) (h.trans hl.symm);unfold ens recs at*;rw[<-List.map_take,List.map_map]at*;refine(List.map_congr_left fun p hp=> ?_).trans (List.map_id _);exact(rd_right (hr _ (List.mem_map.2 ⟨p,hp,rfl⟩))).2
def disk(R:Nat)(l:List Rc.R):Dk.St:=Jn.Js R l.length (ens l)
def Fits(R:Nat)(l:List Rc.R)(r:Rc.R):Prop:=(Fr.all (ens l)).length+((Rc.bytes r).length+6)<=R
instance (R:Nat) (l:List Rc.R) (r:Rc.R):Decidable (Fits R l r):=inferInstanceAs (Decidable (_<=_))
theorem disk_app{R:Nat}{l:List Rc.R}{r:Rc.R}(hr:Rc.right r=true)(h:Fits R l r):Dk.sync (Jn.app (disk R l) (Rc.bytes r))=disk R (l++[r])/\Jn.appE (disk R l) (Rc.bytes r)=0:=by
 have:=Jn.js_app (R:=R) (k:=l.length) (ps:=ens l) (by rw[ens_len];exact Nat.le_refl _) (rc_ok hr) h;unfold disk;rw[this.1,Jn.js_sync,ens_snoc,List.length_append,List.length_append,ens_len];exact⟨rfl,this.2⟩
theorem disk_full{R:Nat}{l:List Rc.R}{r:Rc.R}(hr:Rc.right r=true)(h:¬Fits R l r):Jn.app (disk R l) (Rc.bytes r)=disk R l/\Jn.appE (disk R l) (Rc.bytes r)=4:=by
 have hg:¬Dk.goes (Jn.Js R l.length (ens l)) (fr (Rc.bytes r)):=by unfold Dk.goes Jn.Js;rw[fr_length];exact h
 unfold disk Jn.app Jn.appE;rw[if_neg (by rw[Jn.putE_ok (rc_ok hr)];decide),if_neg (by rw[Jn.putE_ok (rc_ok hr)];decide)];unfold Dk.write Dk.writeE;rw[if_neg hg,if_neg hg];exact⟨rfl,rfl⟩
def Kept(r:Rc.R)(keep:Int):Prop:=(((Rc.bytes r).length+6:Nat):Int)<=keep
instance (r:Rc.R) (keep:Int):Decidable (Kept r keep):=inferInstanceAs (Decidable (_<=_))
theorem disk_torn{R:Nat}{l:List Rc.R}{r:Rc.R}(hl:∀r∈l,Rc.right r=true)(hr:Rc.right r=true)(h:Fits R l r)(keep:Int):
  Jn.torn (disk R l) (Rc.bytes r) keep=(if Kept r keep then disk R (l++[r])else disk R l)/\Jn.tornE (disk R l) (Rc.bytes r)=13:=by
 have:=Jn.js_torn (R:=R) (k:=l.length) (ps:=ens l) (ens_ok hl) (by rw[ens_len];exact Nat.le_refl _) (rc_ok hr) h keep;unfold disk;rw[this.1,ens_snoc,List.length_append,ens_len];exact⟨rfl,this.2⟩
theorem disk_torn_full{R:Nat}{l:List Rc.R}{r:Rc.R}(hr:Rc.right r=true)(h:¬Fits R l r)(keep:Int):Jn.torn (disk R l) (Rc.bytes r) keep=disk R l/\Jn.tornE (disk R l) (Rc.bytes r)=4:=by
 have:=disk_full hr h;unfold Jn.torn Jn.tornE;rw[if_pos (by rw[this.2];decide),if_pos (by rw[this.2];decide)];exact⟨rfl,this.2⟩
end So
end Go.Proofs.YtpehidgjfcfjoaaGreatDoor
