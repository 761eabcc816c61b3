import Derived.Test.YtkcdaigaclpfjaaGreatDoorQy26
set_option maxHeartbeats 6400000
set_option maxRecDepth 100000
set_option linter.unusedSimpArgs false
set_option linter.unusedVariables false
namespace Go.Proofs.YtkcdaigaclpfjaaGreatDoor
open Go.RowKit Cdc
theorem cut_run(A:Option Addr)(n c k:Nat)(hk:k<=n)(W:World):
  (Instr.slice 78 (.slice A n c) (some (.int .i64 (k:Int))) none none).run Tryz.prog W= .ok (.slice (if c=k then A else A.map fun x=>x.add k) (n -k) (c -k)) W:=by
 have h1:∀W:World,(sizeOf (Tryz.prog.elem 78)).run Tryz.prog W= .ok 1 W:=fun _=>by kernel_rfl
 rw[run_slice_l _ 78 A n c (by kernel_rfl) IntKind.i64 (k:Int) zv zv,h1];simp[Result.andThen,sliced]
theorem Rdr.kept{w w':World}{r:Nat}{s:St}{row:Option Nat}(h:Rdr w r s)(hg:w.grownBy w' row)(hr:∀k,row=some k->r<k):Rdr w' r s:=by
 have hlt:=h.lt;obtain⟨A,c,h,h2,h3⟩:=h;have hb:∀k,k<=r->w'.heap[k]? =w.heap[k]? :=fun k hk=>hg.block k zv (fun e=>by have:=hr k e.symm;omega);exact⟨A,c,by rw[hb r zv];exact h,h2.keep fun p hp=>World.cell?_of_block (w:=w) (hb _ zv),h3⟩
theorem jgm{w a b:World}{row row2:Option Nat}(h:w.grownBy a row)(k:a.grownBy b row2)(hr:∀i,row2=some i->w.heap.size<=i):w.grownBy b row:=
 ⟨k.os.trans h.os,k.tape.trans h.tape,k.output.trans h.output,Nat.le_trans h.size k.size,fun i hi hne=>(k.block i (Nat.lt_of_lt_of_le hi h.size) (fun e=>by have:=hr i e.symm;omega)).trans (h.block i hi hne)⟩
def jcu(w:World)(r:Nat)(s:St)(n:Nat)(e:Ending)(w':World):Prop:=
 ∃A c,e= .returned (.slice A (tkV s n).length c)/\Rd w' w'.heap.size A (tkV s n)/\Rdr w' r (tk s n)/\w.grownBy w' (some r)
theorem jth(w:World)(r n:Nat)(s:St)(h:Rdr w r s)(he:s.e≠0):
  Calls Tryz.prog 103 #[.pointer (some ⟨r,0,none⟩),.int .i64 n] w (jcu w r s n):=by
 have H:=zh h;clear h;have hne:(s.e !=0)=true:=by rw[bne_iff_ne];exact he
 have HT:Hid (tkV s n=[]/\tk s n=s):=by show _/\_;unfold tkV tk;rw[if_neg he,if_neg he];exact⟨rfl,rfl⟩
 clear he;go_enter Tryz.func103,Tryz.ntmps103;go_wp2_with fail;refine(jdb w r s H.out).mono ?_;rintro e w1 ⟨rfl,rfl⟩;go_wp2_with fail;go_ret;unfold jcu;rw[HT.out.1,HT.out.2];exact⟨none,0,rfl,Rd.empty _ _ _,H.out,World.grownBy.refl _ _⟩
theorem jqn(w:World)(r n:Nat)(s:St)(h:Rdr w r s)(he:s.e=0)(hn:s.l.length<n):
  Calls Tryz.prog 103 #[.pointer (some ⟨r,0,none⟩),.int .i64 n] w (jcu w r s n):=by
 have H:=zh h;obtain⟨A,c,hf⟩:=h.fields;have c0:=hf.left;clear h hf;have HE:=zh he;have HT:Hid (tkV s n=[]/\tk s n=lost):=by show _/\_;unfold tkV tk;rw[if_pos he,if_pos he,if_neg zv,if_neg zv];exact⟨rfl,rfl⟩
 clear he;generalize s.l.length=m at*;go_enter Tryz.func103,Tryz.ntmps103;go_wp2_with fail;refine(jdb w r s H.out).mono ?_;rintro e w1 ⟨rfl,rfl⟩;rw[HE.out];go_wp2_with fail;refine(jh3 w r s H.out).mono ?_;rintro e w1 ⟨rfl,hr,hg⟩;have R:=zh hr;clear hr;have G:=zh hg;clear hg;go_wp2_with fail;go_ret;unfold jcu;rw[HT.out.1,HT.out.2];exact⟨none,0,rfl,Rd.empty _ _ _,R.out,G.out⟩
theorem take_ok(w:World)(r n:Nat)(s:St)(h:Rdr w r s)(he:s.e=0)(hn:n<=s.l.length):
  Calls Tryz.prog 103 #[.pointer (some ⟨r,0,none⟩),.int .i64 n] w (jcu w r s n):=by
 have H:=zh h;obtain⟨A,c,hf⟩:=h.fields;have HF:=zh hf;have c0:=hf.left;have f0:=hf.f0;have hcap:=hf.cap;obtain⟨A',hA,hsl⟩:∃A',A'=(if c=n then A else A.map fun x=>x.add n)/\∀W,(Instr.slice 78 (.slice A s.l.length c) (some (.int .i64 (n:Int))) none none).run Tryz.prog W= .ok (.slice A' (s.l.length -n) (c -n)) W:=⟨_,rfl,cut_run A s.l.length c n hn⟩;have HA:=zh hA;clear hA;have HE:=zh he;have HT:Hid (tkV s n=s.l.take n/\tk s n=⟨s.l.drop n,0⟩):=by show _/\_;unfold tkV tk;rw[if_pos he,if_pos he,if_pos zv,if_pos zv];exact⟨rfl,rfl⟩
 have HR:Hid (Rdr (w.setCell ⟨r,0,none⟩ (.slice A' (s.l.length -n) (c -n))) r ⟨s.l.drop n,0⟩):=by
  have hd:Rd w r A' (s.l.drop n):=by
   rw[HA.out];exact hf.rd.drop hf.cap _ fun b o=>by unfold Addr.add;split<;>simp_all
  have:=jtc (c':=c -n) hf hd (by rw[List.length_drop];omega) (by have:=hf.max;omega) (fun e=>by
   rw[HA.out]at e;split at e
   ·have:=hf.nil e;omega
   ·rw[Option.map_eq_none_iff]at e;have:=hf.nil e;omega)
  rw[List.length_drop,he]at this;exact this
 have HD:=zh hf.rd;clear he h hf;generalize hm:s.l.length=m at*;have HM:=zh hm;clear hm;go_enter Tryz.func103,Tryz.ntmps103;go_wp2_with fail;refine(jdb w r s H.out).mono ?_;rintro e w1 ⟨rfl,rfl⟩;rw[HE.out];go_wp2_with fail;go_ret;unfold jcu;rw[HT.out.1,HT.out.2];have hlen:(s.l.take n).length=n:=by rw[List.length_take,HM.out];omega
 rw[hlen];exact⟨A,c,rfl,((rd_set (HD.out.take n) _).more (by have:=H.out.lt;simp[World.setCell];omega)),HR.out,jad _ _ _ _⟩
theorem jls(w:World)(r n:Nat)(s:St)(h:Rdr w r s):
  Calls Tryz.prog 103 #[.pointer (some ⟨r,0,none⟩),.int .i64 n] w (jcu w r s n):=by
 by_cases he:s.e=0
 ·by_cases hn:n<=s.l.length
  ·exact take_ok w r n s h he hn
  ·exact jqn w r n s h he zv
 ·exact jth w r n s h he
def jqo(w:World)(r:Nat)(n:Nat)(s':St)(e:Ending)(w':World):Prop:=
 e= .returned (.int .i64 (n:Nat))/\Rdr w' r s'/\w.grownBy w' (some r)
theorem jh4(w:World)(r:Nat)(s:St)(h:Rdr w r s)(hl:s.l.length<=1000000):
  Calls Tryz.prog 48 #[.pointer (some ⟨r,0,none⟩)] w (jqo w r (numV s) (num s)):=by
 have H:=zh h;clear h;by_cases he:s.e=0
 ·have HE:=zh he
  have hd:=jm6 w r s H.out hl;by_cases hk:dk s.l=0
  ·have HT:Hid (numV s=0/\num s=lost):=by show _/\_;unfold numV num;rw[if_pos he,if_pos he,if_pos hk,dn_none hk];exact⟨rfl,rfl⟩
   unfold jqm at hd;rw[hk,dn_none hk]at hd;have HD:=zh hd;clear he hd hk hl;go_enter Tryz.func48,Tryz.ntmps48;go_wp2_with fail;refine(jdb w r s H.out).mono ?_;rintro e w1 ⟨rfl,rfl⟩;rw[HE.out];go_wp2_with fail;refine HD.out.mono ?_;rintro e w1 ⟨rfl,rfl⟩;go_wp2_with fail;refine(jh3 w r s H.out).mono ?_;rintro e w1 ⟨rfl,hr,hg⟩;have R:=zh hr;clear hr;have G:=zh hg;clear hg;go_wp2_with fail;go_ret;rw[HT.out.1,HT.out.2];exact⟨rfl,R.out,G.out⟩
  ·have hne:((dk s.l:Int)==0)=false:=by rw[beq_eq_false_iff_ne];omega
   have HT:Hid (numV s=dn s.l/\num s=⟨s.l.drop (dk s.l),0⟩):=by show _/\_;unfold numV num;rw[if_pos he,if_pos he,if_neg hk];exact⟨rfl,rfl⟩
   have HK:=zh (jls w r (dk s.l) s H.out);have HQ:Hid (tk s (dk s.l)=⟨s.l.drop (dk s.l),0⟩):=by show _=_;unfold tk;rw[if_pos he,if_pos (dk_le _)]
   unfold jqm at hd;have HD:=zh hd;clear he hd hk hl;generalize dk s.l=k at*;generalize dn s.l=n at*;go_enter Tryz.func48,Tryz.ntmps48;go_wp2_with fail;refine(jdb w r s H.out).mono ?_;rintro e w1 ⟨rfl,rfl⟩;rw[HE.out];go_wp2_with fail;refine HD.out.mono ?_;rintro e w1 ⟨rfl,rfl⟩;go_wp2_with fail;refine HK.out.mono ?_;rintro e w1 ⟨A,c,rfl,_,hr,hg⟩;have R:=zh hr;clear hr;have G:=zh hg;clear hg;go_wp2_with fail;go_ret;rw[HT.out.1,HT.out.2,<-HQ.out];exact⟨rfl,R.out,G.out⟩
 ·have hne:(s.e !=0)=true:=by rw[bne_iff_ne];exact he
  have HT:Hid (numV s=0/\num s=s):=⟨numV_err he,num_err he⟩;clear he;go_enter Tryz.func48,Tryz.ntmps48;go_wp2_with fail;refine(jdb w r s H.out).mono ?_;rintro e w1 ⟨rfl,rfl⟩;go_wp2_with fail;go_ret;rw[HT.out.1,HT.out.2];exact⟨rfl,H.out,World.grownBy.refl _ _⟩
theorem jjc(w:World)(r:Nat)(s:St)(h:Rdr w r s)(hl:s.l.length<=1000000):
  Calls Tryz.prog 104 #[.pointer (some ⟨r,0,none⟩),.int .i64 64] w (jqo w r (cntV s) (cnt s)):=by
 have HN:=zh (jh4 w r s h hl);clear h hl;by_cases hk:numV s<=64
 ·have HT:Hid (cntV s=numV s/\cnt s=num s):=by show _/\_;unfold cntV cnt;rw[if_pos hk,if_pos hk];exact⟨rfl,rfl⟩
  generalize numV s=n at*;go_enter Tryz.func104,Tryz.ntmps104;go_wp2_with fail;refine HN.out.mono ?_;rintro e w1 ⟨rfl,hr,hg⟩;have R:=zh hr;clear hr;have G:=zh hg;clear hg;go_wp2_with fail;go_ret;rw[HT.out.1,HT.out.2];exact⟨rfl,R.out,G.out⟩
 ·have HT:Hid (cntV s=0/\cnt s=lost):=by show _/\_;unfold cntV cnt;rw[if_neg hk,if_neg hk];exact⟨rfl,rfl⟩
  have hk2:64<numV s:=by omega
  clear hk;generalize numV s=n at*;go_enter Tryz.func104,Tryz.ntmps104;go_wp2_with fail;refine HN.out.mono ?_;rintro e w1 ⟨rfl,hr,hg⟩;have R:=zh hr;clear hr;have G:=zh hg;clear hg;go_wp2_with fail;refine(jh3 w1 r _ R.out).mono ?_;rintro e w2 ⟨rfl,hr,hg⟩;have R2:=zh hr;clear hr;have G2:=zh hg;clear hg;go_wp2_with fail;go_ret;rw[HT.out.1,HT.out.2];exact⟨rfl,R2.out,jan G.out G2.out⟩
def jh5(w:World)(r:Nat)(s:St)(e:Ending)(w':World):Prop:=
 e= .returned (.string (txt (textV s)))/\Rdr w' r (text s)/\w.grownBy w' (some r)
theorem jqp(w:World)(r:Nat)(s:St)(h:Rdr w r s)(hl:s.l.length<=1000000):
  Calls Tryz.prog 49 #[.pointer (some ⟨r,0,none⟩)] w (jh5 w r s):=by
 have HN:=zh (jjc w r s h hl);have HT:Hid (textV s=tkV (cnt s) (cntV s)/\text s=tk (cnt s) (cntV s)):=⟨rfl,rfl⟩;clear h hl;generalize cntV s=n at*;go_enter Tryz.func49,Tryz.ntmps49;go_wp2_with fail;refine HN.out.mono ?_;rintro e w1 ⟨rfl,hr,hg⟩;have R:=zh hr;clear hr;have G:=zh hg;clear hg;go_wp2_with fail;refine(jls w1 r n _ R.out).mono ?_;rintro e w2 ⟨A,c,rfl,hd,hr,hg⟩;have hcv:=jor (c:=c) hd rfl;have R2:=zh hr;clear hr hd;have G2:=zh hg;clear hg;generalize tkV (cnt s) n=tv at*;go_wp2_with fail;go_ret;unfold jh5;rw[HT.out.1,HT.out.2];exact⟨rfl,R2.out,jan G.out G2.out⟩
def jfq(w:World)(r:Nat)(s:St)(e:Ending)(w':World):Prop:=
 ∃A c,e= .returned (.slice A (listV s).length c)/\SlI w' A (listV s).length c (nI (listV s))/\Rdr w' r (list s)/\w.grownBy w' (some r)
theorem jjd{w:World}{B r:Nat}{v:Value}{l:List Int}(h:OwnI w B v l)(hr:r<B):v.ownBlock=none\/v.ownBlock≠some r:=by
 rcases hv:v.ownBlock with _|g
 ·exact .inl rfl
 ·right
  have:=(World.ownsRow.lt h g hv).1;intro e;injection e with e
  omega
theorem jqq(w:World)(r:Nat)(s:St)(h:Rdr w r s)(hl:s.l.length<=1000000):
  Calls Tryz.prog 51 #[.pointer (some ⟨r,0,none⟩)] w (jfq w r s):=by
 obtain⟨i0,hi0,hz0,hz1,hz2⟩:=info_parts jfi;have I0:=zh hi0;clear hi0;have I1:=zh hz0;clear hz0;have I2:=zh hz1;clear hz1;have I3:=zh hz2;clear hz2;have HN:=zh (jjc w r s h hl);have HT:Hid (list s=numsAt (cnt s) (cntV s)/\listV s=if(numsAt (cnt s) (cntV s)).e=0 then numsV (cnt s) (cntV s)else[]):=⟨rfl,rfl⟩;have hn:=cntV_le s;have HL:=zh (Nat.le_trans (jkh s) hl);have HR0:=zh h.lt;clear h hl;generalize cntV s=n at*;generalize cnt s=t at*;go_enter Tryz.func51,Tryz.ntmps51;go_wp2_with fail;refine HN.out.mono ?_;rintro e w1 ⟨rfl,hr,hg⟩;have R:=zh hr;clear hr;have G:=zh hg;clear hg;go_wp2_with(at_make;refine wpList_make_own _ rfl _ _ 71 rfl w1.heap.size 3 i0 (.int .i64 0) 1 Tryz.underlying71 I0.out I1.out I2.out _ _ _ n rfl rfl zv (by rw[I3.out];omega) (by unfold maxLen;omega) (Nat.le_refl _) ?_;intro w2 hown2 hg2;have O2:=zh hown2;have G2:=zh hg2;clear hown2 hg2);go_loopw [4,10] (fun v i wr=>∃k:Nat,k<=n/\i= .int .i64 k/\OwnI wr w1.heap.size v (nI (numsV t k))/\Rdr wr r (numsAt t k)/\w.grownBy wr (some r)/\w1.heap.size<=wr.heap.size) (fun _ i _=>n -(intOf i).toNat)
 case atStart=>exact⟨0,zv,rfl,O2.out,R.out.kept G2.out (by simp),jgm G.out G2.out (by simp),G2.out.size⟩
 case round=>
  obtain⟨k,hk,rfl,ho,hr,hg,hsz⟩:=hrel;clear O2;have O:=zh ho;clear ho;have RR:=zh hr;clear hr;have GG:=zh hg;clear hg;have HZ:=zh hsz;clear hsz;by_cases hlt:k<n
  ·have HV:=zh (jh4 wr r (numsAt t k) RR.out (Nat.le_trans (jhw t k) HL.out))
   have HX:Hid (nI (numsV t (k+1))=nI (numsV t k)++[((numV (numsAt t k):Nat):Int)]):=jpe _ _;have HY:Hid (numsAt t (k+1)=num (numsAt t k)):=rfl;have HLN:Hid ((nI (numsV t k)).length=k):=by show _=_;rw[jb9,numsV_length]
   generalize numV (numsAt t k)=x at*;go_wp2_with fail;refine HV.out.mono ?_;rintro e w3 ⟨rfl,hr,hg⟩;have R3:=zh hr;clear hr;have G3:=zh hg;clear hg;have O3:Hid (OwnI w3 w1.heap.size _ (nI (numsV t k))):=World.ownsRow.kept O.out G3.out (jjd O.out (Nat.lt_of_lt_of_le HR0.out G.out.size));go_wp2_with(at_builtin;refine jaq rfl (.tmp 12) (.tmp 15) rfl w1.heap.size _ _ rfl O3.out _ rfl (by rw[HLN.out];omega) (Nat.le_trans HZ.out G3.out.size) ?_;intro v4 w4 ho4 hg4;have O4:=zh ho4;have G4:=zh hg4;clear ho4 hg4);go_roundw
   case rel=>
    refine⟨k+1,zv,by go_num,by rw[HX.out];exact O4.out,?_,?_,?_⟩
    ·rw[HY.out]
     exact R3.out.kept G4.out fun i hi=>Nat.lt_of_lt_of_le (Nat.lt_of_lt_of_le HR0.out G.out.size) (ja0 O3.out i hi)
    ·exact jgm (jan GG.out G3.out) G4.out fun i hi=>Nat.le_trans G.out.size (ja0 O3.out i hi)
    ·exact Nat.le_trans HZ.out (Nat.le_trans G3.out.size G4.out.size)
   case measure=>simp[intOf];omega
  ·obtain rfl:k=n:=by omega
   have HE:=zh (jdb wr r _ RR.out);by_cases he:(numsAt t k).e=0
   ·have HT2:Hid (listV s=numsV t k):=by show _=_;rw[HT.out.2,if_pos he]
    have HQ:=zh he;clear he;obtain⟨A2,c2,hv,h2⟩:=OwnI.sl O.out;subst hv;have H2:=zh h2;clear h2;go_wp2_with fail;refine HE.out.mono ?_;rintro e w5 ⟨rfl,rfl⟩;rw[HQ.out];go_wp2_with fail;go_ret;unfold jfq;rw[HT.out.1,HT2.out,<-jb9];exact⟨A2,c2,rfl,H2.out,RR.out,GG.out⟩
   ·have HT2:Hid (listV s=[]):=by show _=_;rw[HT.out.2,if_neg he]
    have hne:((numsAt t k).e !=0)=true:=by rw[bne_iff_ne];exact he
    clear he;go_wp2_with fail;refine HE.out.mono ?_;rintro e w5 ⟨rfl,rfl⟩;go_wp2_with fail;go_ret;unfold jfq;rw[HT.out.1,HT2.out];exact⟨none,0,rfl,SlI.none_ _,RR.out,GG.out⟩
def RV(A:Option Addr)(c:Nat)(s:St):Value:= .agg #[.slice A s.l.length c,.int .i64 s.e]
theorem je4{fn:Func}{p u:Tmp}(h:fn.results= #[.cell p 45,.tmp u])(tmps:Array Value)(w:World)(g:Nat)(r:Rc.R)(hp:tmps.getD p undef= .pointer (some ⟨g,0,none⟩))(hg:RcAt w g r):
  (results fn tmps).run Tryz.prog w= .ok (.tuple #[.agg (Rc.cells r),tmps.getD u undef]) w:=by
 rw[results_cell_tmp h,hp];have:=run_loadVar_row (P:=Tryz.prog) w g 45 45 (Rc.cells r) (0,0) _ hg.row jaf rfl (jai r);simp[asAddr,this,Result.andThen]
theorem jch{w:World}{g:Nat}{o:Rc.R}(h:RcAt w g o)(o':Rc.R)(k:Nat)(v:Value)(he:(Rc.cells o).setIfInBounds k v=Rc.cells o'):RcAt (w.setCell ⟨g,k,none⟩ v) g o':=⟨by rw[<-he];exact heap_setCell_same w g k _ _ _ h.row⟩
theorem jci{w:World}{a g:Nat}{o:Rc.R}(h:RcAt w a o)(hne:a≠g)(k:Nat)(v:Value):RcAt (w.setCell ⟨g,k,none⟩ v) a o:=⟨((jad w g k v).block a h.cs.lt (by simp;exact hne)).trans h.row⟩
namespace Rc
def pt(v:List Int):R:=⟨v.getD 0 0,v.getD 1 0,v.getD 2 0,v.getD 3 0,v.getD 4 0,⟨#[]⟩,Spc.zero⟩
theorem pt_next{v:List Int}{k:Nat}(x:Int)(hk:v.length=k)(h:k<5):(cells (pt v)).setIfInBounds k (.int .i64 x)=cells (pt (v++[x])):=by
 subst hk
 match v,h with
 |[],_=>rfl
 |[_],_=>rfl
 |[_,_],_=>rfl
 |[_,_,_],_=>rfl
 |[_,_,_,_],_=>rfl
theorem no_byte(o:R)(x:Int):∀v∈(cells o).toList,v≠ .int .u8 x:=by
 intro v hv e;subst e;simp[cells]at hv
theorem listV_len(s:St):(listV s).length<=64:=by
 unfold listV;split
 ·rw[numsV_length];exact cntV_le s
 ·simp
end Rc
theorem jbm{w:World}{r g:Nat}{s:St}{o:Rc.R}(h:Rdr w r s)(hg:RcAt w g o)(hne:r≠g)(k:Nat)(v:Value):Rdr (w.setCell ⟨g,k,none⟩ v) r s:=by
 obtain⟨A,c,h1,h2,h3,h4,h5⟩:=h;have G:=jad w g k v;refine⟨A,c,(G.block r (Array.getElem?_eq_some_iff.1 h1).1 (by simp;exact hne)).trans h1,⟨h2.1,fun hl=> ?_⟩,h3,h4,h5⟩;obtain⟨b,o',e,hb,hc⟩:=h2.2 hl;have hbg:b≠g:=fun e=>by
  subst e;have h0:=hc 0 hl;rw[cell_of_row w b (o'+0) _ _ _ hg.row]at h0;exact Rc.no_byte o _ _ (Array.mem_toList_iff.2 (Array.mem_of_getElem? h0)) rfl
 refine⟨b,o',e,hb,fun j hj=> ?_⟩;have hbs:b<w.heap.size:=Nat.lt_trans hb (Array.getElem?_eq_some_iff.1 h1).1;rw[<-hc j hj];exact World.cell?_of_block (w:=w) (G.block b hbs (by simp;exact hbg))
theorem jdn{w w':World}{g r:Nat}{o:Rc.R}(h:RcAt w g o)(hg:w.grownBy w' (some r))(hne:g≠r):RcAt w' g o:=⟨(hg.block g h.cs.lt (by simp;exact hne)).trans h.row⟩
theorem jqr{w:World}{g:Nat}{o:Rc.R}(h:RcAt w g o)(i:Nat):w.frozen? ⟨g,i,none⟩=false:=frozen_of_row w g i _ _ h.row
theorem jje:RcRd:=by
 intro W A n c l h hn;obtain rfl:n=l.length:=h.len;have HL:Hid (l.length<=1000):=hn;have HB:Hid (∀x∈l,x<256):=h.rd.1;obtain⟨gr,hgr⟩:∃gr,gr=W.heap.size:=⟨_,rfl⟩;obtain⟨g,hg⟩:∃g,g=gr+1:=⟨_,rfl⟩;have BA:=(Below.refl W.heap.size W).alloc (Nat.le_refl _) (.cells #[.int .i64 0,.int .i64 0,.int .i64 0,.int .i64 0,.int .i64 0,.string ⟨#[]⟩,.int .i64 0,.int .i64 0,.int .i64 0,.int .i64 0,.int .i64 0,.int .i64 0,.int .i64 0,.int .i64 0,.int .i64 0,.int .i64 0,.int .i64 0,.int .i64 0] 45);have BB:=(Below.refl (W.alloc (.cells #[.int .i64 0,.int .i64 0,.int .i64 0,.int .i64 0,.int .i64 0,.string ⟨#[]⟩,.int .i64 0,.int .i64 0,.int .i64 0,.int .i64 0,.int .i64 0,.int .i64 0,.int .i64 0,.int .i64 0,.int .i64 0,.int .i64 0,.int .i64 0,.int .i64 0] 45)).heap.size (W.alloc (.cells #[.int .i64 0,.int .i64 0,.int .i64 0,.int .i64 0,.int .i64 0,.string ⟨#[]⟩,.int .i64 0,.int .i64 0,.int .i64 0,.int .i64 0,.int .i64 0,.int .i64 0,.int .i64 0,.int .i64 0,.int .i64 0,.int .i64 0,.int .i64 0,.int .i64 0] 45))).alloc (Nat.le_refl _) (.cells #[.int .i64 0,.int .i64 0,.int .i64 0,.int .i64 0,.int .i64 0,.string ⟨#[]⟩,.int .i64 0,.int .i64 0,.int .i64 0,.int .i64 0,.int .i64 0,.int .i64 0,.int .i64 0,.int .i64 0,.int .i64 0,.int .i64 0,.int .i64 0,.int .i64 0] 45);have BX:=BA.trans (BB.mono BA.size);have E1:(W.alloc (.cells #[.int .i64 0,.int .i64 0,.int .i64 0,.int .i64 0,.int .i64 0,.string ⟨#[]⟩,.int .i64 0,.int .i64 0,.int .i64 0,.int .i64 0,.int .i64 0,.int .i64 0,.int .i64 0,.int .i64 0,.int .i64 0,.int .i64 0,.int .i64 0,.int .i64 0] 45)).heap.size=g:=by rw[hg,hgr];exact World.size_alloc _ _
 have R0:RcAt ((W.alloc (.cells #[.int .i64 0,.int .i64 0,.int .i64 0,.int .i64 0,.int .i64 0,.string ⟨#[]⟩,.int .i64 0,.int .i64 0,.int .i64 0,.int .i64 0,.int .i64 0,.int .i64 0,.int .i64 0,.int .i64 0,.int .i64 0,.int .i64 0,.int .i64 0,.int .i64 0] 45)).alloc (.cells #[.int .i64 0,.int .i64 0,.int .i64 0,.int .i64 0,.int .i64 0,.string ⟨#[]⟩,.int .i64 0,.int .i64 0,.int .i64 0,.int .i64 0,.int .i64 0,.int .i64 0,.int .i64 0,.int .i64 0,.int .i64 0,.int .i64 0,.int .i64 0,.int .i64 0] 45)) g (Rc.pt []):=by
  have:=heap_alloc_new (W.alloc (.cells #[.int .i64 0,.int .i64 0,.int .i64 0,.int .i64 0,.int .i64 0,.string ⟨#[]⟩,.int .i64 0,.int .i64 0,.int .i64 0,.int .i64 0,.int .i64 0,.int .i64 0,.int .i64 0,.int .i64 0,.int .i64 0,.int .i64 0,.int .i64 0,.int .i64 0] 45)) (.cells #[.int .i64 0,.int .i64 0,.int .i64 0,.int .i64 0,.int .i64 0,.string ⟨#[]⟩,.int .i64 0,.int .i64 0,.int .i64 0,.int .i64 0,.int .i64 0,.int .i64 0,.int .i64 0,.int .i64 0,.int .i64 0,.int .i64 0,.int .i64 0,.int .i64 0] 45);rw[E1]at this;exact⟨this⟩
 have X0:RcAt ((W.alloc (.cells #[.int .i64 0,.int .i64 0,.int .i64 0,.int .i64 0,.int .i64 0,.string ⟨#[]⟩,.int .i64 0,.int .i64 0,.int .i64 0,.int .i64 0,.int .i64 0,.int .i64 0,.int .i64 0,.int .i64 0,.int .i64 0,.int .i64 0,.int .i64 0,.int .i64 0] 45)).alloc (.cells #[.int .i64 0,.int .i64 0,.int .i64 0,.int .i64 0,.int .i64 0,.string ⟨#[]⟩,.int .i64 0,.int .i64 0,.int .i64 0,.int .i64 0,.int .i64 0,.int .i64 0,.int .i64 0,.int .i64 0,.int .i64 0,.int .i64 0,.int .i64 0,.int .i64 0] 45)) gr Rc.none_:=by
  have h1:RcAt (W.alloc (.cells #[.int .i64 0,.int .i64 0,.int .i64 0,.int .i64 0,.int .i64 0,.string ⟨#[]⟩,.int .i64 0,.int .i64 0,.int .i64 0,.int .i64 0,.int .i64 0,.int .i64 0,.int .i64 0,.int .i64 0,.int .i64 0,.int .i64 0,.int .i64 0,.int .i64 0] 45)) W.heap.size Rc.none_:=⟨heap_alloc_new W (.cells #[.int .i64 0,.int .i64 0,.int .i64 0,.int .i64 0,.int .i64 0,.string ⟨#[]⟩,.int .i64 0,.int .i64 0,.int .i64 0,.int .i64 0,.int .i64 0,.int .i64 0,.int .i64 0,.int .i64 0,.int .i64 0,.int .i64 0,.int .i64 0,.int .i64 0] 45)⟩;rw[hgr];exact h1.on BB
 have SX:((W.alloc (.cells #[.int .i64 0,.int .i64 0,.int .i64 0,.int .i64 0,.int .i64 0,.string ⟨#[]⟩,.int .i64 0,.int .i64 0,.int .i64 0,.int .i64 0,.int .i64 0,.int .i64 0,.int .i64 0,.int .i64 0,.int .i64 0,.int .i64 0,.int .i64 0,.int .i64 0] 45)).alloc (.cells #[.int .i64 0,.int .i64 0,.int .i64 0,.int .i64 0,.int .i64 0,.string ⟨#[]⟩,.int .i64 0,.int .i64 0,.int .i64 0,.int .i64 0,.int .i64 0,.int .i64 0,.int .i64 0,.int .i64 0,.int .i64 0,.int .i64 0,.int .i64 0,.int .i64 0] 45)).heap.size=g+1:=by rw[World.size_alloc,E1]
 have SL:=h.on BX;go_enter Tryz.func22,Tryz.ntmps22;go_upto_region 2 with fail
 simp only[World.size_alloc,<-hgr,<-hg]at⊢;clear E1 BA BB;generalize(W.alloc (.cells #[.int .i64 0,.int .i64 0,.int .i64 0,.int .i64 0,.int .i64 0,.string ⟨#[]⟩,.int .i64 0,.int .i64 0,.int .i64 0,.int .i64 0,.int .i64 0,.int .i64 0,.int .i64 0,.int .i64 0,.int .i64 0,.int .i64 0,.int .i64 0,.int .i64 0] 45)).alloc (.cells #[.int .i64 0,.int .i64 0,.int .i64 0,.int .i64 0,.int .i64 0,.string ⟨#[]⟩,.int .i64 0,.int .i64 0,.int .i64 0,.int .i64 0,.int .i64 0,.int .i64 0,.int .i64 0,.int .i64 0,.int .i64 0,.int .i64 0,.int .i64 0,.int .i64 0] 45)=X at*;have HG:Hid (W.heap.size<=gr/\W.heap.size<=g/\gr≠g):=⟨zv,zv,zv⟩;have HGX:Hid (g<X.heap.size/\gr<X.heap.size):=⟨zv,zv⟩;clear hgr hg h hn SX;have RA:=zh R0;have RX:=zh X0;have B1:=zh BX;have CR:=zh (jm4 l.length c A l X SL (by have:=HL.out;omega));have CNB:=zh (fun W=>jfc g W);clear R0 X0 BX SL
 go_wp2_with(first
  |(go_at_call 46;(with_reducible refine CR.out.mono ?_);rintro e w2 ⟨rd,rfl,hrd,hge,hb⟩;have RR:=zh hrd;have HR:Hid (g≠rd/\gr≠rd/\W.heap.size<=rd):=⟨by have:=HGX.out;omega,by have:=HGX.out;omega,by have:=HGX.out;have:=HG.out;omega⟩;have RA:=zh (RA.out.on hb);have RX:=zh (RX.out.on hb);have B1:=zh (B1.out.trans (hb.mono B1.out.size));clear hrd hge hb)
  |(go_at_call 47;(with_reducible refine(CNB.out _).mono ?_);rintro e w3 ⟨rfl,hb⟩;have RR:=zh (RR.out.below hb);have RA:=zh (RA.out.on hb);have RX:=zh (RX.out.on hb);have B1:=zh (B1.out.trans (hb.mono B1.out.size));clear hb))
 go_loopw [11] (fun i wr=>∃k:Nat,k<=5/\i= .int .i64 k/\RcAt wr g (Rc.pt (nI (numsV ⟨l,0⟩ k)))/\RcAt wr gr Rc.none_/\Rdr wr rd (numsAt ⟨l,0⟩ k)/\Below W.heap.size W wr) (fun i _=>5 -(intOf i).toNat)
 case atStart=>exact⟨0,zv,rfl,RA.out,RX.out,RR.out,B1.out⟩
 case round=>
  obtain⟨k,hk,rfl,hra,hrx,hrr,hbr⟩:=hrel;clear RA RX RR B1 CR CNB;have RA:=zh hra;have RX:=zh hrx;have RR:=zh hrr;have B1:=zh hbr;clear hra hrx hrr hbr;by_cases hlt:k<5
  ·have hpj:=fun W=>jja g k hlt W
   have CN:=zh (jh4 wr rd (numsAt ⟨l,0⟩ k) RR.out (Nat.le_trans (jhw ⟨l,0⟩ k) (Nat.le_trans HL.out zv)));have HX:Hid (nI (numsV ⟨l,0⟩ (k+1))=nI (numsV ⟨l,0⟩ k)++[((numV (numsAt ⟨l,0⟩ k):Nat):Int)]):=jpe _ _;have HLN:Hid ((nI (numsV ⟨l,0⟩ k)).length=k):=by show _=_;rw[jb9,numsV_length]
   have HT:Hid (num (numsAt ⟨l,0⟩ k)=numsAt ⟨l,0⟩ (k+1)):=rfl;rw[HT.out]at CN;generalize numV (numsAt ⟨l,0⟩ k)=x at*;go_wp2_with(go_at_call 48;(with_reducible refine CN.out.mono ?_);rintro e w4 ⟨rfl,hr4,hg4⟩;have RR4:=zh hr4;have RA4:=zh (jdn RA.out hg4 HR.out.1);have RX4:=zh (jdn RX.out hg4 HR.out.2.1);have B4:=zh (B1.out.grown hg4 B1.out.size (fun i hi=>by injection hi with hi;have:=HR.out;omega));have hcj:=rc_at RA4.out hlt;have hfz:=jqr RA4.out k;clear hr4 hg4)
   refine⟨⟨k+1,zv,by go_num,?_,jci RX4.out HG.out.2.2 _ _,jbm RR4.out RA4.out (fun e=>HR.out.1 e.symm) _ _,B4.out.setCell (p:=⟨g,k,none⟩) HG.out.2.1 _⟩,by simp[intOf];omega⟩;rw[HX.out];exact jch RA4.out _ k _ (Rc.pt_next _ HLN.out hlt)
  ·obtain rfl:k=5:=by omega
   clear hk hlt;have EK1:Hid (numsAt ⟨l,0⟩ 5=Rc.k1 l):=rfl;have EV1:Hid (nI (numsV ⟨l,0⟩ 5)=Rc.v1 l):=rfl;have LK:Hid ((Rc.k1 l).l.length<=1000):=Nat.le_trans (jhw ⟨l,0⟩ 5) HL.out;rw[EK1.out]at RR;rw[EV1.out]at RA;have CT:=zh (jqp wr rd (Rc.k1 l) RR.out (Nat.le_trans LK.out zv));have ET:Hid (text (Rc.k1 l)=Rc.k2 l):=rfl;have ETV:Hid (txt (textV (Rc.k1 l))=Rc.t2 l):=rfl;have LK2:Hid ((Rc.k2 l).l.length<=1000):=Nat.le_trans (jqk _) LK.out;unfold jh5 at CT;rw[ET.out,ETV.out]at CT;obtain⟨kd,hkd⟩:∃kd,kd=(Rc.v1 l).getD 0 0:=⟨_,rfl⟩;obtain⟨x1,hx1⟩:∃x,x=(Rc.v1 l).getD 1 0:=⟨_,rfl⟩;obtain⟨x2,hx2⟩:∃x,x=(Rc.v1 l).getD 2 0:=⟨_,rfl⟩;obtain⟨x3,hx3⟩:∃x,x=(Rc.v1 l).getD 3 0:=⟨_,rfl⟩;obtain⟨x4,hx4⟩:∃x,x=(Rc.v1 l).getD 4 0:=⟨_,rfl⟩;have EDEC:Hid (Rc.dec l=⟨kd,x1,x2,x3,x4,Rc.t2 l,Rc.s3 l⟩):=by rw[hkd,hx1,hx2,hx3,hx4];rfl
   have EK3:Hid (Rc.k3 l=if kd=3 then list (Rc.k2 l)else Rc.k2 l):=by rw[hkd];rfl
   have ES3:Hid (Rc.s3 l=if kd=3 then(if(listV (Rc.k2 l)).length=12 then Spc.of (nI (listV (Rc.k2 l)))else Spc.zero)else Spc.zero):=by rw[hkd];rfl
   have EPT:Rc.pt (Rc.v1 l)=⟨kd,x1,x2,x3,x4,⟨#[]⟩,Spc.zero⟩:=by rw[hkd,hx1,hx2,hx3,hx4];rfl
   rw[EPT]at RA;clear hkd hx1 hx2 hx3 hx4 EPT;generalize Rc.t2 l=tt at*;go_upto_region 9 with(go_at_call 49;(with_reducible refine CT.out.mono ?_);rintro e w5 ⟨rfl,hr5,hg5⟩;have RR5:=zh hr5;have RA5:=zh (jdn RA.out hg5 HR.out.1);have RX5:=zh (jdn RX.out hg5 HR.out.2.1);have B5:=zh (B1.out.grown hg5 B1.out.size (fun i hi=>by injection hi with hi;have:=HR.out;omega));clear hr5 hg5;obtain⟨c0,c1,c2,c3,c4,c5,c6,c7,c8,c9,c10,c11,c12,c13,c14,c15,c16,c17,clt⟩:=RA5.out.cs;have hfz:=jqr RA5.out 5)
   clear c0 c1 c2 c3 c4 c5 c6 c7 c8 c9 c10 c11 c12 c13 c14 c15 c16 c17 clt hfz;have RR6:=zh (jbm RR5.out RA5.out (fun e=>HR.out.1 e.symm) 5 (.string tt));have RA6:=zh (jch RA5.out ⟨kd,x1,x2,x3,x4,tt,Spc.zero⟩ 5 (.string tt) rfl);have RX6:=zh (jci RX5.out HG.out.2.2 5 (.string tt));have B6:=zh (B5.out.setCell (p:=⟨g,5,none⟩) HG.out.2.1 (.string tt));clear RR5 RA5 RX5 B5 RR RA RX B1 CT LK ET ETV EK1 EV1;generalize w5.setCell ⟨g,5,none⟩ (.string tt)=w6 at*;obtain⟨c0,c1,c2,c3,c4,c5,c6,c7,c8,c9,c10,c11,c12,c13,c14,c15,c16,c17,clt⟩:=RA6.out.cs;simp only at c0;go_upto_if 24 with fail
   clear c0 c1 c2 c3 c4 c5 c6 c7 c8 c9 c10 c11 c12 c13 c14 c15 c16 c17 clt;go_cut []from 24 to 32 (fun wx=>RcAt wx g (Rc.dec l)/\RcAt wx gr Rc.none_/\Rdr wx rd (Rc.k3 l)/\Below W.heap.size W wx)
   case first=>
    by_cases hk:kd=3
    ·have hke:(kd==3)=true:=by rw[beq_iff_eq];exact hk
     rw[if_pos hk]at EK3 ES3;clear hk;have CLS:=zh (jqq w6 rd (Rc.k2 l) RR6.out (Nat.le_trans LK2.out zv));have L64:=zh (Rc.listV_len (Rc.k2 l));unfold jfq at CLS;rw[<-EK3.out]at CLS;have EMK:Hid (mkS (nI (listV (Rc.k2 l)))=Rc.s3 l):=by
      show _=_;rw[ES3.out];unfold mkS;rw[jb9]
     have CM:=zh (fun W A c h=>jta (nI (listV (Rc.k2 l))) A (listV (Rc.k2 l)).length c W h (by have:=L64.out;omega));rw[EMK.out]at CM;generalize Rc.s3 l=sp at*;obtain⟨pv,pd,pu,pn,pg,pa,pb,pc,pe,pw,px,pk⟩:=sp;unfold APos Spc.val Spc.cells at CM;simp only at CM;generalize mkE (nI (listV (Rc.k2 l)))=me at*
     go_wp2_with(first
      |(go_at_call 51;(with_reducible refine CLS.out.mono ?_);rintro e w7 ⟨A7,k7,rfl,hs7,hr7,hg7⟩;have S7:=zh hs7;have RR7:=zh hr7;have R7:=zh (jdn RA6.out hg7 HR.out.1);have RX7:=zh (jdn RX6.out hg7 HR.out.2.1);have B7:=zh (B6.out.grown hg7 B6.out.size (fun i hi=>by injection hi with hi;have:=HR.out;omega));clear hs7 hr7 hg7)
      |(go_at_call 50;(with_reducible refine(CM.out _ _ _ S7.out).mono ?_);rintro e w8 ⟨rfl,hb8⟩;have RR7:=zh (RR7.out.below hb8);have R7:=zh (R7.out.on hb8);have RX7:=zh (RX7.out.on hb8);have B7:=zh (B7.out.trans (hb8.mono B7.out.size));clear hb8;have hz:=fun i=>jqr R7.out i;obtain⟨c0,c1,c2,c3,c4,c5,c6,c7,c8,c9,c10,c11,c12,c13,c14,c15,c16,c17,clt⟩:=R7.out.cs))
     have RR7:=zh (jbm RR7.out R7.out (by have:=HR.out;omega) 6 (.int .i64 pv));have R7:=zh (jch R7.out ⟨kd,x1,x2,x3,x4,tt,⟨pv,0,0,0,0,0,0,0,0,0,0,0⟩⟩ 6 (.int .i64 pv) rfl);have RX7:=zh (jci RX7.out (g:=g) (by have:=HG.out;omega) 6 (.int .i64 pv));have B7:=zh (B7.out.setCell (p:=⟨g,6,none⟩) HG.out.2.1 (.int .i64 pv));have RR7:=zh (jbm RR7.out R7.out (by have:=HR.out;omega) 7 (.int .i64 pd));have R7:=zh (jch R7.out ⟨kd,x1,x2,x3,x4,tt,⟨pv,pd,0,0,0,0,0,0,0,0,0,0⟩⟩ 7 (.int .i64 pd) rfl);have RX7:=zh (jci RX7.out (g:=g) (by have:=HG.out;omega) 7 (.int .i64 pd));have B7:=zh (B7.out.setCell (p:=⟨g,7,none⟩) HG.out.2.1 (.int .i64 pd));have RR7:=zh (jbm RR7.out R7.out (by have:=HR.out;omega) 8 (.int .i64 pu));have R7:=zh (jch R7.out ⟨kd,x1,x2,x3,x4,tt,⟨pv,pd,pu,0,0,0,0,0,0,0,0,0⟩⟩ 8 (.int .i64 pu) rfl);have RX7:=zh (jci RX7.out (g:=g) (by have:=HG.out;omega) 8 (.int .i64 pu));have B7:=zh (B7.out.setCell (p:=⟨g,8,none⟩) HG.out.2.1 (.int .i64 pu));have RR7:=zh (jbm RR7.out R7.out (by have:=HR.out;omega) 9 (.int .i64 pn));have R7:=zh (jch R7.out ⟨kd,x1,x2,x3,x4,tt,⟨pv,pd,pu,pn,0,0,0,0,0,0,0,0⟩⟩ 9 (.int .i64 pn) rfl);have RX7:=zh (jci RX7.out (g:=g) (by have:=HG.out;omega) 9 (.int .i64 pn));have B7:=zh (B7.out.setCell (p:=⟨g,9,none⟩) HG.out.2.1 (.int .i64 pn));have RR7:=zh (jbm RR7.out R7.out (by have:=HR.out;omega) 10 (.int .i64 pg));have R7:=zh (jch R7.out ⟨kd,x1,x2,x3,x4,tt,⟨pv,pd,pu,pn,pg,0,0,0,0,0,0,0⟩⟩ 10 (.int .i64 pg) rfl);have RX7:=zh (jci RX7.out (g:=g) (by have:=HG.out;omega) 10 (.int .i64 pg));have B7:=zh (B7.out.setCell (p:=⟨g,10,none⟩) HG.out.2.1 (.int .i64 pg));have RR7:=zh (jbm RR7.out R7.out (by have:=HR.out;omega) 11 (.int .i64 pa));have R7:=zh (jch R7.out ⟨kd,x1,x2,x3,x4,tt,⟨pv,pd,pu,pn,pg,pa,0,0,0,0,0,0⟩⟩ 11 (.int .i64 pa) rfl);have RX7:=zh (jci RX7.out (g:=g) (by have:=HG.out;omega) 11 (.int .i64 pa));have B7:=zh (B7.out.setCell (p:=⟨g,11,none⟩) HG.out.2.1 (.int .i64 pa));have RR7:=zh (jbm RR7.out R7.out (by have:=HR.out;omega) 12 (.int .i64 pb));have R7:=zh (jch R7.out ⟨kd,x1,x2,x3,x4,tt,⟨pv,pd,pu,pn,pg,pa,pb,0,0,0,0,0⟩⟩ 12 (.int .i64 pb) rfl);have RX7:=zh (jci RX7.out (g:=g) (by have:=HG.out;omega) 12 (.int .i64 pb));have B7:=zh (B7.out.setCell (p:=⟨g,12,none⟩) HG.out.2.1 (.int .i64 pb));have RR7:=zh (jbm RR7.out R7.out (by have:=HR.out;omega) 13 (.int .i64 pc));have R7:=zh (jch R7.out ⟨kd,x1,x2,x3,x4,tt,⟨pv,pd,pu,pn,pg,pa,pb,pc,0,0,0,0⟩⟩ 13 (.int .i64 pc) rfl);have RX7:=zh (jci RX7.out (g:=g) (by have:=HG.out;omega) 13 (.int .i64 pc));have B7:=zh (B7.out.setCell (p:=⟨g,13,none⟩) HG.out.2.1 (.int .i64 pc));have RR7:=zh (jbm RR7.out R7.out (by have:=HR.out;omega) 14 (.int .i64 pe));have R7:=zh (jch R7.out ⟨kd,x1,x2,x3,x4,tt,⟨pv,pd,pu,pn,pg,pa,pb,pc,pe,0,0,0⟩⟩ 14 (.int .i64 pe) rfl);have RX7:=zh (jci RX7.out (g:=g) (by have:=HG.out;omega) 14 (.int .i64 pe));have B7:=zh (B7.out.setCell (p:=⟨g,14,none⟩) HG.out.2.1 (.int .i64 pe));have RR7:=zh (jbm RR7.out R7.out (by have:=HR.out;omega) 15 (.int .i64 pw));have R7:=zh (jch R7.out ⟨kd,x1,x2,x3,x4,tt,⟨pv,pd,pu,pn,pg,pa,pb,pc,pe,pw,0,0⟩⟩ 15 (.int .i64 pw) rfl);have RX7:=zh (jci RX7.out (g:=g) (by have:=HG.out;omega) 15 (.int .i64 pw));have B7:=zh (B7.out.setCell (p:=⟨g,15,none⟩) HG.out.2.1 (.int .i64 pw));have RR7:=zh (jbm RR7.out R7.out (by have:=HR.out;omega) 16 (.int .i64 px));have R7:=zh (jch R7.out ⟨kd,x1,x2,x3,x4,tt,⟨pv,pd,pu,pn,pg,pa,pb,pc,pe,pw,px,0⟩⟩ 16 (.int .i64 px) rfl);have RX7:=zh (jci RX7.out (g:=g) (by have:=HG.out;omega) 16 (.int .i64 px));have B7:=zh (B7.out.setCell (p:=⟨g,16,none⟩) HG.out.2.1 (.int .i64 px));have RR7:=zh (jbm RR7.out R7.out (by have:=HR.out;omega) 17 (.int .i64 pk));have R7:=zh (jch R7.out ⟨kd,x1,x2,x3,x4,tt,⟨pv,pd,pu,pn,pg,pa,pb,pc,pe,pw,px,pk⟩⟩ 17 (.int .i64 pk) rfl);have RX7:=zh (jci RX7.out (g:=g) (by have:=HG.out;omega) 17 (.int .i64 pk));have B7:=zh (B7.out.setCell (p:=⟨g,17,none⟩) HG.out.2.1 (.int .i64 pk));go_meet
     case rel=>exact⟨by rw[EDEC.out];exact R7.out,RX7.out,RR7.out,B7.out⟩
    ·have hke:(kd==3)=false:=by rw[beq_eq_false_iff_ne];exact hk
     rw[if_neg hk]at EK3 ES3;clear hk;go_wp2_with fail;go_meet
     case rel=>exact⟨by rw[EDEC.out,ES3.out];exact RA6.out,RX6.out,by rw[EK3.out];exact RR6.out,B6.out⟩
   case rest=>
    obtain⟨hra,hrx,hrr,hbr⟩:=hcut;clear RA6 RX6 RR6 B6 EK3 ES3 EDEC LK2;have RA:=zh hra;have RX:=zh hrx;have B1:=zh hbr;have CE:=zh (end_any wc rd (Rc.k3 l) hrr);have CRT:=zh (fun W=>je3 (Rc.dec l) (Rc.dec_in l) W);clear hra hrx hrr hbr;by_cases hee:endE (Rc.k3 l)=0
    ·rw[hee]at CE
     cases hr:Rc.right (Rc.dec l)with
     |true=>
      rw[hr]at CRT;have RDV:Hid (Rc.rdV l=Rc.dec l/\Rc.rdE l=0):=Rc.rd_yes (Rc.whole_of HB.out hee hr);clear hee hr
      go_wp2_with(first
       |(go_at_call 52;(with_reducible refine CE.out.mono ?_);rintro e w8 ⟨rfl,rfl⟩)
       |((with_reducible show zL 36);refine jbg (by rfl) 45 (.tmp 4) rfl g rfl 45 _ (0,0) _ RA.out.row jaf rfl (jai (Rc.dec l)) ?_)
       |(go_at_call 24;(with_reducible refine(CRT.out _).mono ?_);rintro e w9 ⟨rfl,hb9⟩;have RA9:=zh (RA.out.on hb9);have RX9:=zh (RX.out.on hb9);have B9:=zh (B1.out.trans (hb9.mono B1.out.size));clear hb9)
       |((with_reducible show zL 41);refine wpList_load_row rfl 45 (.tmp 4) rfl g rfl 45 _ (0,0) _ RA9.out.row jaf rfl (jai (Rc.dec l)) ?_)
       |((with_reducible show zW);refine jaa rfl (.tmp 2) (.tmp 41) rfl gr (Rc.dec l) _ rfl rfl RX9.out ?_))
      exact bodyPost_ret (je4 Tryz.results22 _ _ gr (Rc.dec l) rfl ⟨setRow_heap _ gr _ _ _ _ RX9.out.row⟩) rfl ⟨by rw[RDV.out.1,RDV.out.2];rfl,below_setRow B9.out HG.out.1 _⟩
     |false=>
      rw[hr]at CRT;have RDV:Hid (Rc.rdV l=Rc.none_/\Rc.rdE l=2):=Rc.rd_no (fun h=>by rw[h.1]at hr;cases hr);clear hee hr
      go_wp2_with(first
       |(go_at_call 52;(with_reducible refine CE.out.mono ?_);rintro e w8 ⟨rfl,rfl⟩)
       |((with_reducible show zL 36);refine jbg (by rfl) 45 (.tmp 4) rfl g rfl 45 _ (0,0) _ RA.out.row jaf rfl (jai (Rc.dec l)) ?_)
       |(go_at_call 24;(with_reducible refine(CRT.out _).mono ?_);rintro e w9 ⟨rfl,hb9⟩;have RX9:=zh (RX.out.on hb9);have B9:=zh (B1.out.trans (hb9.mono B1.out.size));clear hb9)
       |((with_reducible show zW);refine jaa rfl (.tmp 2) (.tmp 40) rfl gr Rc.none_ _ rfl rfl RX9.out ?_))
      exact bodyPost_ret (je4 Tryz.results22 _ _ gr Rc.none_ rfl ⟨setRow_heap _ gr _ _ _ _ RX9.out.row⟩) rfl ⟨by rw[RDV.out.1,RDV.out.2];rfl,below_setRow B9.out HG.out.1 _⟩
    ·have hne:(endE (Rc.k3 l) !=0)=true:=by rw[bne_iff_ne];exact hee
     have RDV:Hid (Rc.rdV l=Rc.none_/\Rc.rdE l=2):=Rc.rd_no (fun h=>hee (Rc.whole_end h));clear hee CRT;generalize endE (Rc.k3 l)=ee at*
     go_wp2_with(first
      |(go_at_call 52;(with_reducible refine CE.out.mono ?_);rintro e w8 ⟨rfl,rfl⟩)
      |((with_reducible show zW);refine jaa rfl (.tmp 2) (.tmp 40) rfl gr Rc.none_ _ rfl rfl RX.out ?_))
     exact bodyPost_ret (je4 Tryz.results22 _ _ gr Rc.none_ rfl ⟨setRow_heap _ gr _ _ _ _ RX.out.row⟩) rfl ⟨by rw[RDV.out.1,RDV.out.2];rfl,below_setRow B1.out HG.out.1 _⟩
end Go.Proofs.YtkcdaigaclpfjaaGreatDoor
