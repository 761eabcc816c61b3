import Derived.Test.YtabandbigckfkaaGreatDoorQx24
set_option maxHeartbeats 6400000
set_option maxRecDepth 100000
set_option linter.unusedSimpArgs false
set_option linter.unusedVariables false
namespace Go.Proofs.YtabandbigckfkaaGreatDoor
open Go.RowKit Cdc
theorem jd4{l:List Nat}(h:l.length≤run l∨9≤run l):dk l=0∧dn l=0:=by
 have hn:isNum l=false:=by
  unfold isNum;rcases h with h|h
  ·rw[decide_eq_false (by omega)];rfl
  ·rw[show decide (run l<9)=false from decide_eq_false (by omega)];simp
 unfold dk dn;rw[hn];exact⟨rfl,rfl⟩
theorem sz_val(n k:Nat):sz (n:Int)=k+1↔(digs n).length=k+1∧n<4611686018427387904:=by
 unfold sz;by_cases h:n<4611686018427387904
 ·rw[if_pos (by omega),Int.toNat_natCast]
  exact⟨fun e=>⟨e,h⟩,fun e=>e.1⟩
 ·rw[if_neg (by omega)]
  exact⟨fun e=>by omega,fun e=>absurd e.2 h⟩
theorem jqz{l:List Nat}{k:Nat}(hr:run l=k)(h1:k<l.length)(h2:k<9)(hz:sz (val (l.take (k+1)):Nat)=k+1):dk l=k+1∧dn l=val (l.take (k+1)):=by
 subst hr;have h:=(sz_val _ _).1 hz;have hn:isNum l=true:=by
  unfold isNum;rw[decide_eq_true h1,decide_eq_true h2,decide_eq_true h.1,decide_eq_true h.2];rfl
 unfold dk dn;rw[if_pos hn,if_pos hn];exact⟨rfl,rfl⟩
theorem jez{l:List Nat}{k:Nat}(hr:run l=k)(hz:sz (val (l.take (k+1)):Nat)≠k+1):dk l=0∧dn l=0:=by
 subst hr;have hn:isNum l=false:=by
  rw[Bool.eq_false_iff];intro h;simp only[isNum,Bool.and_eq_true,decide_eq_true_eq]at h;exact hz ((sz_val _ _).2 ⟨h.1.2,h.2⟩)
 unfold dk dn;rw[hn];exact⟨rfl,rfl⟩
theorem jl1{l:List Nat}{k:Nat}(h:k<l.length):val (l.take (k+1))=val (l.take k)+l.getD k 0%128*128^k:=by
 rw[jh2 l k h,val_snoc,List.length_take,Nat.min_eq_left (by omega)]
theorem jgg(l:List Nat)(k:Nat):val (l.take k)<128^k:=by
 have h:=val_lt (l.take k);have:128^(l.take k).length≤128^k:=Nat.pow_le_pow_right (by omega) (by rw[List.length_take];omega);omega
theorem jl2(v x k:Nat)(hv:v<128^k)(hk:k≤8):wrap64 ((v:Int)+wrap64 ((x:Int)%128*2^(7*k)))=((v+x%128*128^k:Nat):Int):=by
 have e:((2:Int)^(7*k))=((128^k:Nat):Int):=by
  rw[Int.pow_mul];simp
 have h8:128^k≤72057594037927936:=Nat.le_trans (Nat.pow_le_pow_right (by omega) hk) (by decide);have hp:x%128*128^k≤127*128^k:=Nat.mul_le_mul_right _ (by omega);have e2:(x:Int)%128*((128^k:Nat):Int)=((x%128*128^k:Nat):Int):=by
  rw[Int.natCast_mul];rfl
 rw[e,e2];generalize 128^k=q at*;generalize x%128*q=y at*;rw[IntWalk.wrap64_in (y:Int) ⟨by omega,by omega⟩,IntWalk.wrap64_in _ ⟨by omega,by omega⟩];omega
def jq0(l:List Nat)(w:World)(e:Ending)(w':World):Prop:=e= .returned (.tuple #[.int .i64 (dn l:Nat),.int .i64 (dk l:Nat)])∧w=w'
def Jat(w:World)(r:Nat)(s:St)(a':Act)(w':World):Prop:=
 w'=w∧∃(k:Nat) (u6 u7 u8 u9 u10 u11 u12 u13 u14 u15 u16 u17 u18 u19 u20 u21 u22 u23 u24 u25 u26 u27 u28 u29 u30 u31 u32 u33 u34 u35 u36:Value),a'={tmps:=#[.pointer (some ⟨r,0,none⟩),undef,.int .i64 0,.int .i64 0,.int .i64 (val (s.l.take k):Nat),.int .i64 k,u6,u7,u8,u9,u10,u11,u12,u13,u14,u15,u16,u17,u18,u19,u20,u21,u22,u23,u24,u25,u26,u27,u28,u29,u30,u31,u32,u33,u34,u35,u36,undef,undef,undef,undef,undef,undef],defers:=[]}∧k≤s.l.length∧k≤9∧∀j,j<k→128≤s.l.getD j 0
theorem jne(w:World)(r:Nat)(s:St)(h:Rdr w r s)(hl:s.l.length≤1000000):
  Calls Tryz.prog 190 #[.pointer (some ⟨r,0,none⟩)] w (jq0 s.l w):=by
 obtain⟨A,c,hf⟩:=h.fields;have hc:=hf.left;have HF:=zh hf;clear hf h;go_enter Tryz.func190,Tryz.ntmps190;go_wp2;refine jdp 0 (Jat w r s) (fun a' _=>10 -(intOf (a'.tmps.getD 5 undef)).toNat) rfl ?_ ?_
 ·intro key
  go_wp2;go_step3;rename_i K hK;refine hK _ _ (key _ _ ?_);exact⟨rfl,0,_,_,_,_,_,_,_,_,_,_,_,_,_,_,_,_,_,_,_,_,_,_,_,_,_,_,_,_,_,_,_,rfl,by omega,by omega,fun j hj=>by omega⟩
 ·rintro a' w' ⟨rfl,k,u6,u7,u8,u9,u10,u11,u12,u13,u14,u15,u16,u17,u18,u19,u20,u21,u22,u23,u24,u25,u26,u27,u28,u29,u30,u31,u32,u33,u34,u35,u36,rfl,hk1,hk2,hrun⟩
  have HR:=zh hrun;clear hrun;by_cases hend:k=s.l.length
  ·have HN:=zh (jd4 (l:=s.l) (.inl (by rw[←hend];exact run_ge HR.out)))
   have hc2:=hc;rw[←hend]at hc2;clear hc hend hk1 HR;go_wp2_with fail;simp only[Exit.jump];go_ret2;exact⟨by rw[HN.out.1,HN.out.2];rfl,rfl⟩
  ·by_cases h9:k=9
   ·have HN:=zh (jd4 (l:=s.l) (.inr (by rw[←h9];exact run_ge HR.out)))
    subst h9;have e1:((9:Int)==(s.l.length:Int))=false:=by rw[beq_eq_false_iff_ne];omega
    clear hend HR;generalize hnn:s.l.length=n at*;clear hnn;go_wp2_with fail;simp only[Exit.jump];go_ret2;exact⟨by rw[HN.out.1,HN.out.2];rfl,rfl⟩
   ·have hlt:k<s.l.length:=by omega
    have hx:=HF.out.rd.byte k;obtain⟨b,o,rfl,_,hcl⟩:=HF.out.rd.2 (by omega);have hck:=hcl k hlt;clear hcl;have e1:((k:Int)==(s.l.length:Int))=false:=by rw[beq_eq_false_iff_ne];omega
    have e2:((k:Int)==9)=false:=by rw[beq_eq_false_iff_ne];omega
    have k8:k≤8:=by omega
    have HX:Hid (s.l.getD k 0<128→run s.l=k):=fun h=>run_of HR.out hlt h;have HY:Hid (128≤s.l.getD k 0→∀j,j<k+1→128≤s.l.getD j 0):=fun h j hj=>by
     by_cases e:j=k
     ·subst e;exact h
     ·exact HR.out j (by omega)
    have HS:=zh ((jl2 (val (s.l.take k)) (s.l.getD k 0) k (jgg _ _) k8).trans (congrArg (fun x:Nat=>(x:Int)) (jl1 hlt).symm));have HL:=zh hlt;clear hend h9 hk1 hk2 HR HF;generalize s.l.getD k 0=x at*;generalize val (s.l.take k)=v at*;have HM:Hid (∃m:Nat,val (s.l.take (k+1))=m):=⟨_,rfl⟩;by_cases hd:128≤x
    ·go_wp2_with fail
     go_step3;rw[HS.out];refine⟨rfl,⟨rfl,k+1,_,_,_,_,_,_,_,_,_,_,_,_,_,_,_,_,_,_,_,_,_,_,_,_,_,_,_,_,_,_,_,rfl,by have:=HL.out;omega,by omega,HY.out hd⟩,?_⟩;simp[intOf];omega
    ·have HZ:=zh (HX.out (by omega))
     have hd2:decide ((128:Int)≤(x:Int))=false:=decide_eq_false (by omega);have hd3:decide (128≤x)=false:=decide_eq_false (by omega);clear hd;by_cases hz:sz (val (s.l.take (k+1)):Nat)=k+1
     ·have HD:=zh (jqz HZ.out HL.out (by omega) hz)
      have HQ:=zh hz;clear hz;go_wp2_with fail;rw[HS.out];refine(jei _ _).mono ?_;rintro e w1 ⟨rfl,rfl⟩;rw[HQ.out];have hne:(((k:Int)+1) !=((k+1:Nat):Int))=false:=by simp
      go_wp2_with fail;simp only[Exit.jump];go_ret2;exact⟨by rw[HD.out.1,HD.out.2];rfl,rfl⟩
     ·have HD:=zh (jez HZ.out hz)
      have hne:(((k:Int)+1) !=((sz (val (s.l.take (k+1)):Nat):Nat):Int))=true:=by rw[bne_iff_ne];omega
      clear hz;go_wp2_with fail;rw[HS.out];refine(jei _ _).mono ?_;rintro e w1 ⟨rfl,rfl⟩;go_wp2_with fail;simp only[Exit.jump];go_ret2;exact⟨by rw[HD.out.1,HD.out.2];rfl,rfl⟩
theorem jkt(A:Option Addr)(n c k:Nat)(hk:k≤n)(W:World):
  (Instr.slice 58 (.slice A n c) (some (.int .i64 (k:Int))) none none).run Tryz.prog W= .ok (.slice (if c=k then A else A.map fun x=>x.add k) (n -k) (c -k)) W:=by
 have h1:∀W:World,(sizeOf (Tryz.prog.elem 58)).run Tryz.prog W= .ok 1 W:=fun _=>by kernel_rfl
 rw[run_slice_l _ 58 A n c (by kernel_rfl) IntKind.i64 (k:Int) (by omega) (by omega),h1];simp[Result.andThen,sliced]
theorem Rdr.kept{w w':World}{r:Nat}{s:St}{row:Option Nat}(h:Rdr w r s)(hg:w.grownBy w' row)(hr:∀k,row=some k→r<k):Rdr w' r s:=by
 have hlt:=h.lt;obtain⟨A,c,h,h2,h3⟩:=h;have hb:∀k,k≤r→w'.heap[k]? =w.heap[k]? :=fun k hk=>hg.block k (by omega) (fun e=>by have:=hr k e.symm;omega);exact⟨A,c,by rw[hb r (by omega)];exact h,h2.keep fun p hp=>World.cell?_of_block (w:=w) (hb _ (by omega)),h3⟩
theorem jcs{w a b:World}{row row2:Option Nat}(h:w.grownBy a row)(k:a.grownBy b row2)(hr:∀i,row2=some i→w.heap.size≤i):w.grownBy b row:=
 ⟨k.os.trans h.os,k.tape.trans h.tape,k.output.trans h.output,Nat.le_trans h.size k.size,fun i hi hne=>(k.block i (Nat.lt_of_lt_of_le hi h.size) (fun e=>by have:=hr i e.symm;omega)).trans (h.block i hi hne)⟩
def jct(w:World)(r:Nat)(s:St)(n:Nat)(e:Ending)(w':World):Prop:=
 ∃A c,e= .returned (.slice A (tkV s n).length c)∧Rd w' w'.heap.size A (tkV s n)∧Rdr w' r (tk s n)∧w.grownBy w' (some r)
theorem jts(w:World)(r n:Nat)(s:St)(h:Rdr w r s)(he:s.e≠0):
  Calls Tryz.prog 192 #[.pointer (some ⟨r,0,none⟩),.int .i64 n] w (jct w r s n):=by
 have H:=zh h;clear h;have hne:(s.e !=0)=true:=by rw[bne_iff_ne];exact he
 have HT:Hid (tkV s n=[]∧tk s n=s):=by show _∧_;unfold tkV tk;rw[if_neg he,if_neg he];exact⟨rfl,rfl⟩
 clear he;go_enter Tryz.func192,Tryz.ntmps192;go_wp2_with fail;refine(jc7 w r s H.out).mono ?_;rintro e w1 ⟨rfl,rfl⟩;go_wp2_with fail;go_ret;unfold jct;rw[HT.out.1,HT.out.2];exact⟨none,0,rfl,Rd.empty _ _ _,H.out,World.grownBy.refl _ _⟩
theorem jq1(w:World)(r n:Nat)(s:St)(h:Rdr w r s)(he:s.e=0)(hn:s.l.length<n):
  Calls Tryz.prog 192 #[.pointer (some ⟨r,0,none⟩),.int .i64 n] w (jct w r s n):=by
 have H:=zh h;obtain⟨A,c,hf⟩:=h.fields;have c0:=hf.left;clear h hf;have HE:=zh he;have HT:Hid (tkV s n=[]∧tk s n=lost):=by show _∧_;unfold tkV tk;rw[if_pos he,if_pos he,if_neg (by omega),if_neg (by omega)];exact⟨rfl,rfl⟩
 clear he;generalize s.l.length=m at*;go_enter Tryz.func192,Tryz.ntmps192;go_wp2_with fail;refine(jc7 w r s H.out).mono ?_;rintro e w1 ⟨rfl,rfl⟩;rw[HE.out];go_wp2_with fail;refine(jhx w r s H.out).mono ?_;rintro e w1 ⟨rfl,hr,hg⟩;have R:=zh hr;clear hr;have G:=zh hg;clear hg;go_wp2_with fail;go_ret;unfold jct;rw[HT.out.1,HT.out.2];exact⟨none,0,rfl,Rd.empty _ _ _,R.out,G.out⟩
theorem take_ok(w:World)(r n:Nat)(s:St)(h:Rdr w r s)(he:s.e=0)(hn:n≤s.l.length):
  Calls Tryz.prog 192 #[.pointer (some ⟨r,0,none⟩),.int .i64 n] w (jct w r s n):=by
 have H:=zh h;obtain⟨A,c,hf⟩:=h.fields;have HF:=zh hf;have c0:=hf.left;have f0:=hf.f0;have hcap:=hf.cap;obtain⟨A',hA,hsl⟩:∃A',A'=(if c=n then A else A.map fun x=>x.add n)∧∀W,(Instr.slice 58 (.slice A s.l.length c) (some (.int .i64 (n:Int))) none none).run Tryz.prog W= .ok (.slice A' (s.l.length -n) (c -n)) W:=⟨_,rfl,jkt A s.l.length c n hn⟩;have HA:=zh hA;clear hA;have HE:=zh he;have HT:Hid (tkV s n=s.l.take n∧tk s n=⟨s.l.drop n,0⟩):=by show _∧_;unfold tkV tk;rw[if_pos he,if_pos he,if_pos (by omega),if_pos (by omega)];exact⟨rfl,rfl⟩
 have HR:Hid (Rdr (w.setCell ⟨r,0,none⟩ (.slice A' (s.l.length -n) (c -n))) r ⟨s.l.drop n,0⟩):=by
  have hd:Rd w r A' (s.l.drop n):=by
   rw[HA.out];exact hf.rd.drop hf.cap _ fun b o=>by unfold Addr.add;split<;>simp_all
  have:=jtp (c':=c -n) hf hd (by rw[List.length_drop];omega) (by have:=hf.max;omega) (fun e=>by
   rw[HA.out]at e;split at e
   ·have:=hf.nil e;omega
   ·rw[Option.map_eq_none_iff]at e;have:=hf.nil e;omega)
  rw[List.length_drop,he]at this;exact this
 have HD:=zh hf.rd;clear he h hf;generalize hm:s.l.length=m at*;have HM:=zh hm;clear hm;go_enter Tryz.func192,Tryz.ntmps192;go_wp2_with fail;refine(jc7 w r s H.out).mono ?_;rintro e w1 ⟨rfl,rfl⟩;rw[HE.out];go_wp2_with fail;go_ret;unfold jct;rw[HT.out.1,HT.out.2];have hlen:(s.l.take n).length=n:=by rw[List.length_take,HM.out];omega
 rw[hlen];exact⟨A,c,rfl,((rd_set (HD.out.take n) _).more (by have:=H.out.lt;simp[World.setCell];omega)),HR.out,jab _ _ _ _⟩
theorem jl3(w:World)(r n:Nat)(s:St)(h:Rdr w r s):
  Calls Tryz.prog 192 #[.pointer (some ⟨r,0,none⟩),.int .i64 n] w (jct w r s n):=by
 by_cases he:s.e=0
 ·by_cases hn:n≤s.l.length
  ·exact take_ok w r n s h he hn
  ·exact jq1 w r n s h he (by omega)
 ·exact jts w r n s h he
def jq2(w:World)(r:Nat)(n:Nat)(s':St)(e:Ending)(w':World):Prop:=
 e= .returned (.int .i64 (n:Nat))∧Rdr w' r s'∧w.grownBy w' (some r)
theorem jhy(w:World)(r:Nat)(s:St)(h:Rdr w r s)(hl:s.l.length≤1000000):
  Calls Tryz.prog 122 #[.pointer (some ⟨r,0,none⟩)] w (jq2 w r (numV s) (num s)):=by
 have H:=zh h;clear h;by_cases he:s.e=0
 ·have HE:=zh he
  have hd:=jne w r s H.out hl;by_cases hk:dk s.l=0
  ·have HT:Hid (numV s=0∧num s=lost):=by show _∧_;unfold numV num;rw[if_pos he,if_pos he,if_pos hk,dn_none hk];exact⟨rfl,rfl⟩
   unfold jq0 at hd;rw[hk,dn_none hk]at hd;have HD:=zh hd;clear he hd hk hl;go_enter Tryz.func122,Tryz.ntmps122;go_wp2_with fail;refine(jc7 w r s H.out).mono ?_;rintro e w1 ⟨rfl,rfl⟩;rw[HE.out];go_wp2_with fail;refine HD.out.mono ?_;rintro e w1 ⟨rfl,rfl⟩;go_wp2_with fail;refine(jhx w r s H.out).mono ?_;rintro e w1 ⟨rfl,hr,hg⟩;have R:=zh hr;clear hr;have G:=zh hg;clear hg;go_wp2_with fail;go_ret;rw[HT.out.1,HT.out.2];exact⟨rfl,R.out,G.out⟩
  ·have hne:((dk s.l:Int)==0)=false:=by rw[beq_eq_false_iff_ne];omega
   have HT:Hid (numV s=dn s.l∧num s=⟨s.l.drop (dk s.l),0⟩):=by show _∧_;unfold numV num;rw[if_pos he,if_pos he,if_neg hk];exact⟨rfl,rfl⟩
   have HK:=zh (jl3 w r (dk s.l) s H.out);have HQ:Hid (tk s (dk s.l)=⟨s.l.drop (dk s.l),0⟩):=by show _=_;unfold tk;rw[if_pos he,if_pos (dk_le _)]
   unfold jq0 at hd;have HD:=zh hd;clear he hd hk hl;generalize dk s.l=k at*;generalize dn s.l=n at*;go_enter Tryz.func122,Tryz.ntmps122;go_wp2_with fail;refine(jc7 w r s H.out).mono ?_;rintro e w1 ⟨rfl,rfl⟩;rw[HE.out];go_wp2_with fail;refine HD.out.mono ?_;rintro e w1 ⟨rfl,rfl⟩;go_wp2_with fail;refine HK.out.mono ?_;rintro e w1 ⟨A,c,rfl,_,hr,hg⟩;have R:=zh hr;clear hr;have G:=zh hg;clear hg;go_wp2_with fail;go_ret;rw[HT.out.1,HT.out.2,←HQ.out];exact⟨rfl,R.out,G.out⟩
 ·have hne:(s.e !=0)=true:=by rw[bne_iff_ne];exact he
  have HT:Hid (numV s=0∧num s=s):=⟨numV_err he,num_err he⟩;clear he;go_enter Tryz.func122,Tryz.ntmps122;go_wp2_with fail;refine(jc7 w r s H.out).mono ?_;rintro e w1 ⟨rfl,rfl⟩;go_wp2_with fail;go_ret;rw[HT.out.1,HT.out.2];exact⟨rfl,H.out,World.grownBy.refl _ _⟩
theorem jja(w:World)(r:Nat)(s:St)(h:Rdr w r s)(hl:s.l.length≤1000000):
  Calls Tryz.prog 193 #[.pointer (some ⟨r,0,none⟩),.int .i64 64] w (jq2 w r (cntV s) (cnt s)):=by
 have HN:=zh (jhy w r s h hl);clear h hl;by_cases hk:numV s≤64
 ·have HT:Hid (cntV s=numV s∧cnt s=num s):=by show _∧_;unfold cntV cnt;rw[if_pos hk,if_pos hk];exact⟨rfl,rfl⟩
  generalize numV s=n at*;go_enter Tryz.func193,Tryz.ntmps193;go_wp2_with fail;refine HN.out.mono ?_;rintro e w1 ⟨rfl,hr,hg⟩;have R:=zh hr;clear hr;have G:=zh hg;clear hg;go_wp2_with fail;go_ret;rw[HT.out.1,HT.out.2];exact⟨rfl,R.out,G.out⟩
 ·have HT:Hid (cntV s=0∧cnt s=lost):=by show _∧_;unfold cntV cnt;rw[if_neg hk,if_neg hk];exact⟨rfl,rfl⟩
  have hk2:64<numV s:=by omega
  clear hk;generalize numV s=n at*;go_enter Tryz.func193,Tryz.ntmps193;go_wp2_with fail;refine HN.out.mono ?_;rintro e w1 ⟨rfl,hr,hg⟩;have R:=zh hr;clear hr;have G:=zh hg;clear hg;go_wp2_with fail;refine(jhx w1 r _ R.out).mono ?_;rintro e w2 ⟨rfl,hr,hg⟩;have R2:=zh hr;clear hr;have G2:=zh hg;clear hg;go_wp2_with fail;go_ret;rw[HT.out.1,HT.out.2];exact⟨rfl,R2.out,jaf G.out G2.out⟩
def jhz(w:World)(r:Nat)(s:St)(e:Ending)(w':World):Prop:=
 e= .returned (.string (txt (textV s)))∧Rdr w' r (text s)∧w.grownBy w' (some r)
theorem jq3(w:World)(r:Nat)(s:St)(h:Rdr w r s)(hl:s.l.length≤1000000):
  Calls Tryz.prog 123 #[.pointer (some ⟨r,0,none⟩)] w (jhz w r s):=by
 have HN:=zh (jja w r s h hl);have HT:Hid (textV s=tkV (cnt s) (cntV s)∧text s=tk (cnt s) (cntV s)):=⟨rfl,rfl⟩;clear h hl;generalize cntV s=n at*;go_enter Tryz.func123,Tryz.ntmps123;go_wp2_with fail;refine HN.out.mono ?_;rintro e w1 ⟨rfl,hr,hg⟩;have R:=zh hr;clear hr;have G:=zh hg;clear hg;go_wp2_with fail;refine(jl3 w1 r n _ R.out).mono ?_;rintro e w2 ⟨A,c,rfl,hd,hr,hg⟩;have hcv:=ja8 (c:=c) hd rfl;have R2:=zh hr;clear hr hd;have G2:=zh hg;clear hg;generalize tkV (cnt s) n=tv at*;go_wp2_with fail;go_ret;unfold jhz;rw[HT.out.1,HT.out.2];exact⟨rfl,R2.out,jaf G.out G2.out⟩
def jfg(w:World)(r:Nat)(s:St)(e:Ending)(w':World):Prop:=
 ∃A c,e= .returned (.slice A (listV s).length c)∧SlI w' A (listV s).length c (nI (listV s))∧Rdr w' r (list s)∧w.grownBy w' (some r)
theorem jjb{w:World}{B r:Nat}{v:Value}{l:List Int}(h:OwnI w B v l)(hr:r<B):v.ownBlock=none∨v.ownBlock≠some r:=by
 rcases hv:v.ownBlock with _|g
 ·exact .inl rfl
 ·right
  have:=(World.ownsRow.lt h g hv).1;intro e;injection e with e
  omega
theorem jq4(w:World)(r:Nat)(s:St)(h:Rdr w r s)(hl:s.l.length≤1000000):
  Calls Tryz.prog 125 #[.pointer (some ⟨r,0,none⟩)] w (jfg w r s):=by
 obtain⟨i0,hi0,hz0,hz1,hz2⟩:=info_parts jfb;have I0:=zh hi0;clear hi0;have I1:=zh hz0;clear hz0;have I2:=zh hz1;clear hz1;have I3:=zh hz2;clear hz2;have HN:=zh (jja w r s h hl);have HT:Hid (list s=numsAt (cnt s) (cntV s)∧listV s=if(numsAt (cnt s) (cntV s)).e=0 then numsV (cnt s) (cntV s)else[]):=⟨rfl,rfl⟩;have hn:=cntV_le s;have HL:=zh (Nat.le_trans (jki s) hl);have HR0:=zh h.lt;clear h hl;generalize cntV s=n at*;generalize cnt s=t at*;go_enter Tryz.func125,Tryz.ntmps125;go_wp2_with fail;refine HN.out.mono ?_;rintro e w1 ⟨rfl,hr,hg⟩;have R:=zh hr;clear hr;have G:=zh hg;clear hg;go_wp2_with(at_make;refine wpList_make_own _ rfl _ _ 137 rfl w1.heap.size 3 i0 (.int .i64 0) 1 Tryz.underlying137 I0.out I1.out I2.out _ _ _ n rfl rfl (by omega) (by rw[I3.out];omega) (by unfold maxLen;omega) (Nat.le_refl _) ?_;intro w2 hown2 hg2;have O2:=zh hown2;have G2:=zh hg2;clear hown2 hg2);go_loopw [4,10] (fun v i wr=>∃k:Nat,k≤n∧i= .int .i64 k∧OwnI wr w1.heap.size v (nI (numsV t k))∧Rdr wr r (numsAt t k)∧w.grownBy wr (some r)∧w1.heap.size≤wr.heap.size) (fun _ i _=>n -(intOf i).toNat)
 case atStart=>exact⟨0,by omega,rfl,O2.out,R.out.kept G2.out (by simp),jcs G.out G2.out (by simp),G2.out.size⟩
 case round=>
  obtain⟨k,hk,rfl,ho,hr,hg,hsz⟩:=hrel;clear O2;have O:=zh ho;clear ho;have RR:=zh hr;clear hr;have GG:=zh hg;clear hg;have HZ:=zh hsz;clear hsz;by_cases hlt:k<n
  ·have HV:=zh (jhy wr r (numsAt t k) RR.out (Nat.le_trans (jdg t k) HL.out))
   have HX:Hid (nI (numsV t (k+1))=nI (numsV t k)++[((numV (numsAt t k):Nat):Int)]):=jhr _ _;have HY:Hid (numsAt t (k+1)=num (numsAt t k)):=rfl;have HLN:Hid ((nI (numsV t k)).length=k):=by show _=_;rw[ja6,numsV_length]
   generalize numV (numsAt t k)=x at*;go_wp2_with fail;refine HV.out.mono ?_;rintro e w3 ⟨rfl,hr,hg⟩;have R3:=zh hr;clear hr;have G3:=zh hg;clear hg;have O3:Hid (OwnI w3 w1.heap.size _ (nI (numsV t k))):=World.ownsRow.kept O.out G3.out (jjb O.out (Nat.lt_of_lt_of_le HR0.out G.out.size));go_wp2_with(at_builtin;refine jan rfl (.tmp 12) (.tmp 15) rfl w1.heap.size _ _ rfl O3.out _ rfl (by rw[HLN.out];omega) (Nat.le_trans HZ.out G3.out.size) ?_;intro v4 w4 ho4 hg4;have O4:=zh ho4;have G4:=zh hg4;clear ho4 hg4);go_roundw
   case rel=>
    refine⟨k+1,by omega,by go_num,by rw[HX.out];exact O4.out,?_,?_,?_⟩
    ·rw[HY.out]
     exact R3.out.kept G4.out fun i hi=>Nat.lt_of_lt_of_le (Nat.lt_of_lt_of_le HR0.out G.out.size) (jap O3.out i hi)
    ·exact jcs (jaf GG.out G3.out) G4.out fun i hi=>Nat.le_trans G.out.size (jap O3.out i hi)
    ·exact Nat.le_trans HZ.out (Nat.le_trans G3.out.size G4.out.size)
   case measure=>simp[intOf];omega
  ·obtain rfl:k=n:=by omega
   have HE:=zh (jc7 wr r _ RR.out);by_cases he:(numsAt t k).e=0
   ·have HT2:Hid (listV s=numsV t k):=by show _=_;rw[HT.out.2,if_pos he]
    have HQ:=zh he;clear he;obtain⟨A2,c2,hv,h2⟩:=OwnI.sl O.out;subst hv;have H2:=zh h2;clear h2;go_wp2_with fail;refine HE.out.mono ?_;rintro e w5 ⟨rfl,rfl⟩;rw[HQ.out];go_wp2_with fail;go_ret;unfold jfg;rw[HT.out.1,HT2.out,←ja6];exact⟨A2,c2,rfl,H2.out,RR.out,GG.out⟩
   ·have HT2:Hid (listV s=[]):=by show _=_;rw[HT.out.2,if_neg he]
    have hne:((numsAt t k).e !=0)=true:=by rw[bne_iff_ne];exact he
    clear he;go_wp2_with fail;refine HE.out.mono ?_;rintro e w5 ⟨rfl,rfl⟩;go_wp2_with fail;go_ret;unfold jfg;rw[HT.out.1,HT2.out];exact⟨none,0,rfl,SlI.none_ _,RR.out,GG.out⟩
def badS(s:St):St:=if s.e=0 then lost else s
def RV(A:Option Addr)(c:Nat)(s:St):Value:= .agg #[.slice A s.l.length c,.int .i64 s.e]
def jq5(w0:World)(s:St)(w:World)(e:Ending)(w':World):Prop:=
 ∃A c,e= .returned (.agg #[.slice A s.l.length c,.int .i64 s.e])∧Sl w0 A s.l.length c s.l∧Below w.heap.size w w'
def jq6(w0:World)(s:St)(v:Value)(w:World)(e:Ending)(w':World):Prop:=
 ∃A c,e= .returned (.tuple #[.agg #[.slice A s.l.length c,.int .i64 s.e],v])∧Sl w0 A s.l.length c s.l∧Below w.heap.size w w'
theorem jh0(w0:World)(A:Option Addr)(n c:Nat)(s:St)(w:World)(hs:Sl w0 A n c s.l):
  Calls Tryz.prog 235 #[.agg #[.slice A n c,.int .i64 s.e]] w (jq5 w0 (badS s) w):=by
 have S:=zh hs;clear hs;by_cases he:s.e=0
 ·have HB:Hid (badS s=lost):=by show _=_;unfold badS;rw[if_pos he]
  rw[he];clear he;go_enter Tryz.func235,Tryz.ntmps235;go_wp2_with fail;exact bodyPost_ret (v:= .agg #[.slice none 0 0,.int .i64 2]) (by simp[results,Tryz.results235,go_sem]) rfl (by rw[HB.out];exact⟨none,0,rfl,Sl.none_ _,((Below.refl _ _).alloc (Nat.le_refl _) _).alloc (by simp) _⟩)
 ·have HB:Hid (badS s=s):=by show _=_;unfold badS;rw[if_neg he]
  have hne:(s.e !=0)=true:=by rw[bne_iff_ne];exact he
  clear he;generalize hx:s.e=x at*;have HX:=zh hx;clear hx;go_enter Tryz.func235,Tryz.ntmps235;go_wp2_with fail;have BX:=((Below.refl w.heap.size w).alloc (Nat.le_refl _) (.cells #[.slice A n c,.int .i64 x] 230)).alloc (by simp) (.cells #[.slice A n c,.int .i64 x] 230);exact bodyPost_ret (v:= .agg #[.slice A n c,.int .i64 x]) (by simp[results,Tryz.results235,go_sem]) rfl (by
   rw[HB.out];have:=S.out.len;subst this;exact⟨A,c,by rw[HX.out],S.out,BX⟩)
theorem jdj(A:Option Addr)(c:Nat)(s:St)(w:World)(ho:Okay s):
  Calls Tryz.prog 173 #[.agg #[.slice A s.l.length c,.int .i64 s.e]] w fun e w'=>e= .returned (.int .i64 (endE s))∧Below w.heap.size w w':=by
 by_cases he:s.e=0
 ·rw[he]
  by_cases hl:0<s.l.length
  ·have HB:Hid (endE s=2):=by show _=_;unfold endE;rw[if_pos hl]
   clear he ho;generalize s.l.length=n at*;go_enter Tryz.func173,Tryz.ntmps173;go_wp2_with fail;go_ret;exact⟨jbh HB.out.symm,(Below.refl _ _).alloc (Nat.le_refl _) _⟩
  ·have HB:Hid (endE s=0):=by show _=_;unfold endE;rw[if_neg hl,he]
   clear he ho;generalize s.l.length=n at*;go_enter Tryz.func173,Tryz.ntmps173;go_wp2_with fail;go_ret;exact⟨jbh HB.out.symm,(Below.refl _ _).alloc (Nat.le_refl _) _⟩
 ·have HB:Hid (endE s=s.e):=by show _=_;unfold endE;rw[if_neg (by rw[ho.none_ he];simp)]
  have hne:(s.e==0)=false:=by rw[beq_eq_false_iff_ne];exact he
  clear he ho;generalize s.e=x at*;generalize s.l.length=n at*;go_enter Tryz.func173,Tryz.ntmps173;go_wp2_with fail;go_ret;exact⟨jbh HB.out.symm,(Below.refl _ _).alloc (Nat.le_refl _) _⟩
theorem jem{W w1:World}(hb:Below W.heap.size W w1):(∀b o,b<W.heap.size→w1.cell? ⟨b,o,none⟩=W.cell? ⟨b,o,none⟩)∧(∀b o,b<W.heap.size→w1.frozen? ⟨b,o,none⟩=W.frozen? ⟨b,o,none⟩):=
 ⟨fun b o h=>hb.cell (p:=⟨b,o,none⟩) h,fun b o h=>hb.frozen (p:=⟨b,o,none⟩) h⟩
theorem jtt(v x k:Nat)(hv:v<128^k)(hk:k≤8):wrap64 ((v:Int)+wrap64 ((x:Int)%128*((128^k:Nat):Int)))=((v+x%128*128^k:Nat):Int):=by
 have h:=jl2 v x k hv hk;have e:((2:Int)^(7*k))=((128^k:Nat):Int):=by
  rw[Int.pow_mul];simp
 rwa [e]at h
theorem by_next(k:Nat)(hk:k≤7):wrap64 (((128^k:Nat):Int)*128)=((128^(k+1):Nat):Int):=by
 have h8:128^(k+1)≤72057594037927936:=Nat.le_trans (Nat.pow_le_pow_right (by omega) (show k+1≤8 by omega)) (by decide);rw[show((128^k:Nat):Int)*128=((128^(k+1):Nat):Int)from by rw[Nat.pow_succ];simp];generalize 128^(k+1)=q at*;rw[IntWalk.wrap64_in _ ⟨by omega,by omega⟩]
theorem jq7(w0:World)(A:Option Addr)(c:Nat)(l:List Nat)(w:World)(h0:Sl w0 A l.length c l)(hb0:Below w0.heap.size w0 w)(hl:l.length≤1000000):
  Calls Tryz.prog 169 #[.agg #[.slice A l.length c,.int .i64 0]] w (jq6 w0 (num ⟨l,0⟩) (.int .i64 (numV ⟨l,0⟩:Nat)) w):=by
 have S0:=zh h0;have S:=zh (h0.on hb0);have hcap:=h0.cap;clear h0 hb0;have HF:Hid (dk l=0→num ⟨l,0⟩=lost∧numV ⟨l,0⟩=0):=fun h=>by unfold num numV;simp only[if_pos,h,dn_none h,and_self]
 have HT:Hid (dk l≠0→num ⟨l,0⟩=⟨l.drop (dk l),0⟩∧numV ⟨l,0⟩=dn l):=fun h=>by unfold num numV;simp only[if_pos,if_neg h,and_self]
 obtain⟨n,hn⟩:∃n,n=l.length:=⟨_,rfl⟩;have HN:=zh hn;clear hn;rw[←HN.out]at hl hcap S S0⊢;have B0:=zh (((Below.refl w.heap.size w).alloc (Nat.le_refl _) (.cells #[.slice A n c,.int .i64 0] 230)).alloc (by simp) (.cells #[.slice none 0 0,.int .i64 0] 230));have ZW:Hid (w.heap.size≤((w.alloc (.cells #[.slice A n c,.int .i64 0] 230)).alloc (.cells #[.slice none 0 0,.int .i64 0] 230)).heap.size):=B0.out.size;have BAD:Hid (∀WX,Below w.heap.size w WX→Calls Tryz.prog 235 #[.agg #[.slice A n c,.int .i64 0]] WX (jq5 w0 lost WX)):=fun WX _=>jh0 w0 A n c ⟨l,0⟩ WX S0.out;go_enter Tryz.func169,Tryz.ntmps169;go_wp2_with fail;go_loop [4,5,6] (fun a y i=>∃(k:Nat) (u:Int),i= .int .i64 k∧a= .int .i64 (val (l.take k):Nat)∧y= .int .i64 u∧(k≤8→u=((128^k:Nat):Int))∧k≤9∧k≤n∧∀j,j<k→128≤l.getD j 0) (fun _ _ i=>9 -(intOf i).toNat)
 case atStart=>exact⟨0,1,rfl,rfl,rfl,fun _=>rfl,by omega,by omega,fun j hj=>by omega⟩
 case round=>
  obtain⟨k,u,rfl,rfl,rfl,hu,hk9,hkn,hrun⟩:=hrel;have HR:=zh hrun;clear hrun;have HU:=zh hu;clear hu;by_cases hin:k<n∧k<9
  ·obtain⟨hk1,hk2⟩:=hin
   have hlt:k<l.length:=by rw[←HN.out];exact hk1
   have hx:=S.out.rd.byte k;have HBY:=zh S.out.rd.1;have CV0:Hid (∀W,Below w.heap.size w W→(convert 58 9 (.slice A (k+1) c)).run Tryz.prog W= .ok (.string (txt (l.take (k+1)))) W):=fun W hW=>
    ja8 ((S.out.rd.take (k+1)).below hW) (by rw[List.length_take];omega)
   have SLD:Hid (Sl w0 (if c=k+1 then A else A.map fun x=>x.add (k+1)) (n -(k+1)) (c -(k+1)) (l.drop (k+1))):=by
    show Sl _ _ _ _ _;by_cases hck:c=k+1
    ·rw[if_pos hck];exact S0.out.dropAll (by omega) hck
    ·rw[if_neg hck];exact S0.out.drop (by omega) hck
   have hsl:∀W,(Instr.slice 58 (.slice A n c) (some (.int .i64 ((k:Int)+1))) none none).run Tryz.prog W= .ok (.slice (if c=k+1 then A else A.map fun x=>x.add (k+1)) (n -(k+1)) (c -(k+1))) W:=fun W=>jkt A n c (k+1) (by omega) W;generalize(if c=k+1 then A else A.map fun x=>x.add (k+1))=A' at*;have HSL:=zh hsl;clear hsl;obtain⟨b,o,rfl,hbw,hcl⟩:=S.out.rd.2 (by omega);have hck:=hcl k hlt;clear hcl;obtain rfl:u=((128^k:Nat):Int):=HU.out (by omega);have HX:Hid (l.getD k 0<128→run l=k):=fun h=>run_of HR.out hlt h;have HY:Hid (128≤l.getD k 0→∀j,j<k+1→128≤l.getD j 0):=fun h j hj=>by
    by_cases e:j=k
    ·subst e;exact h
    ·exact HR.out j (by omega)
   have HV:=zh ((jtt (val (l.take k)) (l.getD k 0) k (jgg _ _) (by omega)).trans (congrArg (fun x:Nat=>(x:Int)) (jl1 hlt).symm));have HB:Hid (k+1≤8→wrap64 (((128^k:Nat):Int)*128)=((128^(k+1):Nat):Int)):=fun h=>by_next k (by omega);have HL:=zh hlt;clear HR HU hlt;generalize l.getD k 0=x at*;generalize val (l.take k)=v at*;generalize((128^k:Nat):Int)=u at*;by_cases hd:128≤x
   ·go_wp2_with fail
    rw[HV.out];go_round
    case rel=>exact⟨k+1,_,by go_num,rfl,rfl,HB.out,by omega,by omega,HY.out hd⟩
    case measure=>simp[intOf];omega
   ·have hd2:decide ((128:Int)≤(x:Int))=false:=decide_eq_false (by omega)
    have hd3:decide (128≤x)=false:=decide_eq_false (by omega);have HZ:=zh (HX.out (by omega));clear hd;obtain⟨nn,hnn⟩:∃nn,nn=val (l.take (k+1)):=⟨_,rfl⟩;have NN:=zh hnn;clear hnn;rw[←NN.out]at HV;go_wp2_with fail;rw[HV.out];clear HV HB HX HY hck hx hd2 hd3;by_cases hm:mayB (nn:Int)=true
    ·have M:=zh hm
     have HQ:Hid (nn<4611686018427387904):=by
      show _<_;unfold mayB at hm;have:=of_decide_eq_true hm;obtain⟨m,h1,h2⟩:=jg3 this;omega
     clear hm;have CV:Hid (∀W,Below ((w.alloc (.cells #[.slice (some ⟨b,o,none⟩) n c,.int .i64 0] 230)).alloc (.cells #[.slice none 0 0,.int .i64 0] 230)).heap.size ((w.alloc (.cells #[.slice (some ⟨b,o,none⟩) n c,.int .i64 0] 230)).alloc (.cells #[.slice none 0 0,.int .i64 0] 230)) W→(convert 58 9 (.slice (some ⟨b,o,none⟩) (k+1) c)).run Tryz.prog W= .ok (.string (txt (l.take (k+1)))) W):=fun W hW=>CV0.out W (B0.out.trans (hW.mono ZW.out));have i1:(0:Int)≤(k:Int)+1:=by omega
     have i2:(k:Int)+1≤(c:Int):=by omega
     have i3:IntKind.i64.wrap ((k:Int)+1)=(k:Int)+1:=IntWalk.i64_in _ (by omega);have i4:((k:Int)+1).toNat=k+1:=by omega
     refine wp_region_held_drew (S:=fun W=>Below ((w.alloc (.cells #[.slice (some ⟨b,o,none⟩) n c,.int .i64 0] 230)).alloc (.cells #[.slice none 0 0,.int .i64 0] 230)).heap.size ((w.alloc (.cells #[.slice (some ⟨b,o,none⟩) n c,.int .i64 0] 230)).alloc (.cells #[.slice none 0 0,.int .i64 0] 230)) W) (by kernel_rfl) (Below.refl _ _).drew (fun hS=> ?_);refine tY 0 hS ?_;simp only[Act.put,zT,zO,zS];refine rO 1 (fun K hK=> ?_);go_simp
     (with_reducible refine(jge _ _).mono ?_)
     rw[M.out];rintro e w9 ⟨rfl,rfl⟩;refine hK.out _ _ hS (fun _=> ?_);clear hK K;refine tY 2 hS ?_;refine tY 3 hS ?_;refine tY 6 hS ?_;refine tZ 7 rfl (by intro W hW;obtain⟨hc,hf⟩:=jem (show Below ((w.alloc (.cells #[.slice (some ⟨b,o,none⟩) n c,.int .i64 0] 230)).alloc (.cells #[.slice none 0 0,.int .i64 0] 230)).heap.size ((w.alloc (.cells #[.slice (some ⟨b,o,none⟩) n c,.int .i64 0] 230)).alloc (.cells #[.slice none 0 0,.int .i64 0] 230)) W from hW);go_simp;(try with_reducible rfl)) hS ?_;refine tY 8 hS ?_;refine tY 9 hS ?_;simp only[Act.put,zT,zO,zS];refine tY 10 hS ?_;refine tZ 11 rfl (by intro W hW;have hcv:=CV.out W hW;go_simp;(try with_reducible rfl)) hS ?_;simp only[Act.put,zT,zO,zS];refine rO 4 (fun K hK=> ?_);go_simp
     (with_reducible refine(jc6 nn _ HQ.out).mono ?_)
     rintro e w9 ⟨v9,rfl,ho9,hb9⟩;obtain⟨A9,c9,rfl,h9⟩:=OwnB.sl ho9;have hcv:=ja8 (c:=c9) h9.rd rfl;have hS2:=hS.trans (hb9.mono hS.size);clear ho9 hb9 h9 hS;have hS:=hS2;clear hS2;refine hK.out _ _ hS (fun _=> ?_);clear hK K;try simp only[Act.put,zT,zO,zS]
     refine rO 5 (fun K hK=> ?_);go_simp;refine hK.out _ _ hS (fun _=> ?_);clear hK K;refine tY 12 hS ?_;refine tY 13 hS ?_;simp only[Act.put,zT,zO,zS];refine wpAnyH_done (by kernel_rfl) ?_ _;clear hcv i3 i4;have BQ:=zh hS;obtain⟨hc,hf⟩:=jem BQ.out;clear hS CV CV0;by_cases heq:digs nn=l.take (k+1)
     ·have TT:((txt (digs nn)).toList==(txt (l.take (k+1))).toList)=true:=by rw[heq];simp
      have hlen:(digs nn).length=k+1:=by rw[heq,List.length_take];have:=HL.out;omega
      have P:=zh (jqz HZ.out HL.out hk2 (by rw[←NN.out,jln HQ.out,hlen]));have P2:=zh (HT.out (by rw[P.out.1];omega));clear heq hlen;have hsl:=HSL.out;rw[TT];clear TT;go_wp2_with fail;exact bodyPost_ret (v:= .tuple #[.agg #[.slice A' (n -(k+1)) (c -(k+1)),.int .i64 0],.int .i64 (nn:Int)]) (by simp[results,Tryz.results169,go_sem,hc]) rfl (by
       have BF:=((B0.out.trans (BQ.out.mono ZW.out)).setCell (p:=⟨w.heap.size+1,0,none⟩) (by simp) (.slice A' (n -(k+1)) (c -(k+1)))).setCell (p:=⟨w.heap.size+1,1,none⟩) (by simp) (.int .i64 0);have hll:(l.drop (k+1)).length=n -(k+1):=by rw[List.length_drop,←HN.out]
       rw[P2.out.1,P2.out.2,P.out.1,P.out.2,←NN.out];refine⟨A',c -(k+1),?_,?_,BF⟩
       ·show _=Ending.returned (.tuple #[.agg #[.slice A' (l.drop (k+1)).length _,_],_])
        rw[hll]
       ·show Sl _ A' (l.drop (k+1)).length _ _
        rw[hll];exact SLD.out)
     ·have TT:((txt (digs nn)).toList==(txt (l.take (k+1))).toList)=false:=by
       rw[jk0 (digs_byte nn) (fun x hx=>HBY.out x (List.mem_of_mem_take hx)),decide_eq_false heq]
      have P:Hid (num ⟨l,0⟩=lost∧numV ⟨l,0⟩=0):=HF.out (jez HZ.out (by
       rw[←NN.out,jln HQ.out];intro h1;apply heq;have h2:=digs_val l HBY.out (by rw[HZ.out];exact HL.out);rw[HZ.out,←NN.out]at h2;exact h2.2 h1)).1
      clear heq;rw[TT];clear TT;go_wp2_with fail
      (with_reducible refine(BAD.out _ (B0.out.trans (BQ.out.mono ZW.out))).mono ?_)
      rintro e w2 ⟨A2,c2,rfl,hs2,hb2⟩;have T2:=zh hs2;clear hs2;have B2:=zh (BQ.out.trans (hb2.mono BQ.out.size));clear hb2;obtain⟨hc,hf⟩:=jem B2.out;go_wp2_with fail;exact bodyPost_ret (v:= .tuple #[.agg #[.slice A2 0 c2,.int .i64 2],.int .i64 0]) (by simp[results,Tryz.results169,go_sem,hc,lost]) rfl (by
       rw[P.out.1,P.out.2];exact⟨A2,c2,rfl,⟨Rd.empty _ _ _,T2.out.len,T2.out.cap,T2.out.max,T2.out.nil⟩,((B0.out.trans (B2.out.mono ZW.out)).setCell (by simp) _).setCell (by simp) _⟩)
    ·have M:Hid (mayB (nn:Int)=false):=by show _=_;simpa using hm
     have P:Hid (num ⟨l,0⟩=lost∧numV ⟨l,0⟩=0):=HF.out (jez HZ.out (by
      rw[←NN.out];have h1:=M.out;unfold mayB at h1;have:=of_decide_eq_false h1;omega)).1
     have MF:Hid (∀W,Calls Tryz.prog 163 #[.int .i64 (nn:Int)] W fun e w'=>e= .returned (.bool false)∧w'=W):=fun W=>(jge nn W).mono fun _ _ ⟨h1,h2⟩=>⟨by rw[h1,M.out],h2.symm⟩;clear hm;go_quiet ((go_at_call 163;exact Calls.quiet_of_same (MF.out _)));have BQ:=zh (jbo (Below.refl ((w.alloc (.cells #[.slice (some ⟨b,o,none⟩) n c,.int .i64 0] 230)).alloc (.cells #[.slice none 0 0,.int .i64 0] 230)).heap.size ((w.alloc (.cells #[.slice (some ⟨b,o,none⟩) n c,.int .i64 0] 230)).alloc (.cells #[.slice none 0 0,.int .i64 0] 230))) nq);obtain⟨hc,hf⟩:=jem BQ.out;go_wp2_with fail
     (with_reducible refine(BAD.out _ (B0.out.trans (BQ.out.mono ZW.out))).mono ?_)
     rintro e w2 ⟨A2,c2,rfl,hs2,hb2⟩;have T2:=zh hs2;clear hs2;have B2:=zh (BQ.out.trans (hb2.mono BQ.out.size));clear hb2;obtain⟨hc,hf⟩:=jem B2.out;go_wp2_with fail;exact bodyPost_ret (v:= .tuple #[.agg #[.slice A2 0 c2,.int .i64 2],.int .i64 0]) (by simp[results,Tryz.results169,go_sem,hc,lost]) rfl (by
      rw[P.out.1,P.out.2];exact⟨A2,c2,rfl,⟨Rd.empty _ _ _,T2.out.len,T2.out.cap,T2.out.max,T2.out.nil⟩,((B0.out.trans (B2.out.mono ZW.out)).setCell (by simp) _).setCell (by simp) _⟩)
  ·have P:=zh (HF.out (jd4 (l:=l) (by have:=run_ge HR.out;rw[←HN.out];omega)).1)
   have hcase:(k<n∧¬k<9)∨¬k<n:=by omega
   have BQ:=zh (Below.refl ((w.alloc (.cells #[.slice A n c,.int .i64 0] 230)).alloc (.cells #[.slice none 0 0,.int .i64 0] 230)).heap.size ((w.alloc (.cells #[.slice A n c,.int .i64 0] 230)).alloc (.cells #[.slice none 0 0,.int .i64 0] 230)));clear hin;rcases hcase with⟨hk1,hk2⟩|hk1
   all_goals
    go_wp2_with fail
    (with_reducible refine(BAD.out _ (B0.out.trans (BQ.out.mono ZW.out))).mono ?_)
    rintro e w2 ⟨A2,c2,rfl,hs2,hb2⟩;have T2:=zh hs2;clear hs2;have B2:=zh (BQ.out.trans (hb2.mono BQ.out.size));clear hb2;obtain⟨hc,hf⟩:=jem B2.out;go_wp2_with fail;exact bodyPost_ret (v:= .tuple #[.agg #[.slice A2 0 c2,.int .i64 2],.int .i64 0]) (by simp[results,Tryz.results169,go_sem,hc,lost]) rfl (by
     rw[P.out.1,P.out.2];exact⟨A2,c2,rfl,⟨Rd.empty _ _ _,T2.out.len,T2.out.cap,T2.out.max,T2.out.nil⟩,((B0.out.trans (B2.out.mono ZW.out)).setCell (by simp) _).setCell (by simp) _⟩)
theorem jnf(w0:World)(A:Option Addr)(c:Nat)(s:St)(w:World)(h0:Sl w0 A s.l.length c s.l)(ho:Okay s)(he:s.e≠0):
  Calls Tryz.prog 169 #[.agg #[.slice A s.l.length c,.int .i64 s.e]] w (jq6 w0 (num s) (.int .i64 (numV s:Nat)) w):=by
 rw[num_err he,numV_err he];have hl:s.l.length=0:=by rw[ho.none_ he];rfl
 have BAD:=zh (fun WX=>jh0 w0 A s.l.length c s WX h0);rw[show badS s=s from by unfold badS;rw[if_neg he]]at BAD;clear ho he h0;unfold jq5 at BAD;unfold jq6;rw[hl]at BAD⊢;clear hl;generalize s.e=x at*;go_enter Tryz.func169,Tryz.ntmps169;go_wp2_with fail;refine wp_loop_rounds 1 ?_;rw[rounds_succ];go_wp2_with fail
 (with_reducible refine(BAD.out _).mono ?_)
 rintro e w2 ⟨A2,c2,rfl,hs2,hb2⟩;have T2:=zh hs2;clear hs2;obtain⟨hc,hf⟩:=jem hb2;have B2:=zh hb2;clear hb2;go_wp2_with fail;exact bodyPost_ret (v:= .tuple #[.agg #[.slice A2 0 c2,.int .i64 x],.int .i64 0]) (by simp[results,Tryz.results169,go_sem,hc]) rfl ⟨A2,c2,rfl,T2.out,(((((Below.refl w.heap.size w).alloc (Nat.le_refl _) _).alloc (by simp) _).trans (B2.out.mono (by simp;omega))).setCell (by simp) _).setCell (by simp) _⟩
theorem jdk(w0:World)(A:Option Addr)(c:Nat)(s:St)(w:World)(h0:Sl w0 A s.l.length c s.l)(hb0:Below w0.heap.size w0 w)(ho:Okay s)(hl:s.l.length≤1000000):
  Calls Tryz.prog 169 #[.agg #[.slice A s.l.length c,.int .i64 s.e]] w (jq6 w0 (num s) (.int .i64 (numV s:Nat)) w):=by
 by_cases he:s.e=0
 ·obtain⟨l,e⟩:=s
  obtain rfl:e=0:=he;exact jq7 w0 A c l w h0 hb0 hl
 ·exact jnf w0 A c s w h0 ho he
theorem jtu{s:St}(h:(num s).e≠0∨64<numV s∨(num s).l.length<numV s):text s=badS (num s)∧textV s=[]:=by
 by_cases he:(num s).e=0
 ·by_cases hm:numV s≤64
  ·have h3:(num s).l.length<numV s:=by rcases h with h|h|h<;>omega
   unfold text textV cnt cntV badS tk tkV;simp only[if_pos hm,if_pos he,if_neg (show¬numV s≤(num s).l.length by omega),and_self]
  ·unfold text textV cnt cntV badS tk tkV lost
   simp only[if_neg hm,if_pos he];simp
 ·have hv:numV s=0:=by
   unfold num at he;by_cases hs:s.e=0
   ·rw[if_pos hs]at he
    by_cases hk:dk s.l=0
    ·unfold numV;rw[if_pos hs,dn_none hk]
    ·rw[if_neg hk]at he;exact absurd rfl he
   ·exact numV_err hs
  unfold text textV cnt cntV badS tk tkV;rw[hv];simp only[if_pos,if_neg he,Nat.zero_le,and_self]
theorem jq8{s:St}(h1:(num s).e=0)(h2:numV s≤64)(h3:numV s≤(num s).l.length):text s=⟨(num s).l.drop (numV s),0⟩∧textV s=(num s).l.take (numV s):=by
 unfold text textV cnt cntV tk tkV;simp only[if_pos h1,if_pos h2,if_pos h3,and_self]
theorem jku(w0:World)(A:Option Addr)(c:Nat)(s:St)(w:World)(h0:Sl w0 A s.l.length c s.l)(hb0:Below w0.heap.size w0 w)(ho:Okay s)(hl:s.l.length≤1000000):
  Calls Tryz.prog 170 #[.agg #[.slice A s.l.length c,.int .i64 s.e]] w (jq6 w0 (text s) (.string (txt (textV s))) w):=by
 have NB:=zh (fun WX hb=>jdk w0 A c s WX h0 hb ho hl);have TB:=zh (jtu (s:=s));have TG:=zh (jq8 (s:=s));have hN:=Nat.le_trans (jhq s) hl;have B0:=zh (((Below.refl w.heap.size w).alloc (Nat.le_refl _) (.cells #[.slice A s.l.length c,.int .i64 s.e] 230)).alloc (by simp) (.cells #[.slice none 0 0,.int .i64 0] 230));have HB:=zh hb0;have HNV:=zh (numV_lt s);have hv63:(numV s:Int)≤4611686018427387903:=by have:=HNV.out;omega
 clear h0 hb0 ho hl;generalize s.l.length=n0 at*;generalize s.e=e0 at*;generalize num s=N at*;generalize numV s=m at*;go_enter Tryz.func170,Tryz.ntmps170;go_wp2_with fail
 (with_reducible refine(NB.out _ (HB.out.trans (B0.out.mono HB.out.size))).mono ?_)
 rintro e w1 ⟨A1,c1,rfl,hs1,hb1⟩;have S1:=zh hs1;have hc1:=hs1.cap;clear hs1;have Z1:Hid (w.heap.size+2≤w1.heap.size):=by show _≤_;have:=hb1.size;simp at this;omega
 obtain⟨hc,hf⟩:=jem hb1;have B1:=zh hb1;clear hb1;have z1:w.heap.size+1<w1.heap.size:=by have:=Z1.out;omega
 by_cases hbad:N.e≠0∨64<m∨N.l.length<m
 ·have P:=zh (TB.out hbad)
  have BAD:=zh (fun WX=>jh0 w0 A1 N.l.length c1 N WX S1.out);have hcase:N.e≠0∨(N.e=0∧64<m)∨(N.e=0∧m≤64∧N.l.length<m):=by
   by_cases h1:N.e=0
   ·by_cases h2:m≤64
    ·exact .inr (.inr ⟨h1,h2,by rcases hbad with h|h|h<;>omega⟩)
    ·exact .inr (.inl ⟨h1,by omega⟩)
   ·exact .inl h1
  clear hbad TB TG NB;obtain⟨ee,hee⟩:∃ee,ee=N.e:=⟨_,rfl⟩;have EE:=zh hee;clear hee;rw[←EE.out]at BAD hcase⊢;obtain⟨nl,hnl⟩:∃nl,nl=N.l.length:=⟨_,rfl⟩;have NL:=zh hnl;clear hnl;rw[←NL.out]at BAD hcase hN hc1⊢;rcases hcase with hx|⟨hx,hy⟩|⟨hx,hy,hz⟩
  ·have hne:(ee !=0)=true:=by rw[bne_iff_ne];exact hx
   clear hx;go_wp2_with fail
   (with_reducible refine(BAD.out _).mono ?_)
   rintro e w2 ⟨A2,c2,rfl,hs2,hb2⟩;have T2:=zh hs2;clear hs2;have B2:=zh (B1.out.trans ((((Below.refl w1.heap.size w1).alloc (Nat.le_refl _) _).trans (hb2.mono (by simp))).mono B1.out.size));clear hb2 hc hf;obtain⟨hc,hf⟩:=jem B2.out;have z2:w.heap.size+1<w2.heap.size:=by have:=B2.out.size;simp at this;omega
   go_wp2_with fail;exact bodyPost_ret (v:= .tuple #[.agg #[.slice A2 (badS N).l.length c2,.int .i64 (badS N).e],.string ⟨#[]⟩]) (by simp[results,Tryz.results170,go_sem,hc]) rfl (by
    rw[P.out.1,P.out.2];exact⟨A2,c2,rfl,T2.out,((B0.out.trans (B2.out.mono (by simp;omega))).setCell (by simp) _).setCell (by simp) _⟩)
  ·subst hx
   go_wp2_with fail
   (with_reducible refine(BAD.out _).mono ?_)
   rintro e w2 ⟨A2,c2,rfl,hs2,hb2⟩;have T2:=zh hs2;clear hs2;have B2:=zh (B1.out.trans ((((Below.refl w1.heap.size w1).alloc (Nat.le_refl _) _).trans (hb2.mono (by simp))).mono B1.out.size));clear hb2 hc hf;obtain⟨hc,hf⟩:=jem B2.out;have z2:w.heap.size+1<w2.heap.size:=by have:=B2.out.size;simp at this;omega
   go_wp2_with fail;exact bodyPost_ret (v:= .tuple #[.agg #[.slice A2 (badS N).l.length c2,.int .i64 (badS N).e],.string ⟨#[]⟩]) (by simp[results,Tryz.results170,go_sem,hc]) rfl (by
    rw[P.out.1,P.out.2];exact⟨A2,c2,rfl,T2.out,((B0.out.trans (B2.out.mono (by simp;omega))).setCell (by simp) _).setCell (by simp) _⟩)
  ·subst hx
   go_wp2_with fail
   (with_reducible refine(BAD.out _).mono ?_)
   rintro e w2 ⟨A2,c2,rfl,hs2,hb2⟩;have T2:=zh hs2;clear hs2;have B2:=zh (B1.out.trans ((((Below.refl w1.heap.size w1).alloc (Nat.le_refl _) _).trans (hb2.mono (by simp))).mono B1.out.size));clear hb2 hc hf;obtain⟨hc,hf⟩:=jem B2.out;have z2:w.heap.size+1<w2.heap.size:=by have:=B2.out.size;simp at this;omega
   go_wp2_with fail;exact bodyPost_ret (v:= .tuple #[.agg #[.slice A2 (badS N).l.length c2,.int .i64 (badS N).e],.string ⟨#[]⟩]) (by simp[results,Tryz.results170,go_sem,hc]) rfl (by
    rw[P.out.1,P.out.2];exact⟨A2,c2,rfl,T2.out,((B0.out.trans (B2.out.mono (by simp;omega))).setCell (by simp) _).setCell (by simp) _⟩)
 ·have h1:N.e=0:=by
   by_cases h:N.e=0
   ·exact h
   ·exact absurd (.inl h) hbad
  have h2:m≤64:=by omega
  have h3:m≤N.l.length:=by omega
  have P:=zh (TG.out h1 h2 h3);rw[h1];clear hbad TB TG NB h1;obtain⟨nl,hnl⟩:∃nl,nl=N.l.length:=⟨_,rfl⟩;have NL:=zh hnl;clear hnl;rw[←NL.out]at h3 hN hc1 S1⊢;have SLD:Hid (Sl w0 (if c1=m then A1 else A1.map fun x=>x.add m) (nl -m) (c1 -m) (N.l.drop m)):=by
   show Sl _ _ _ _ _;by_cases hck:c1=m
   ·rw[if_pos hck];exact S1.out.dropAll h3 hck
   ·rw[if_neg hck];exact S1.out.drop h3 hck
  have hsl:∀W,(Instr.slice 58 (.slice A1 nl c1) (some (.int .i64 (m:Int))) none none).run Tryz.prog W= .ok (.slice (if c1=m then A1 else A1.map fun x=>x.add m) (nl -m) (c1 -m)) W:=jkt A1 nl c1 m h3;generalize(if c1=m then A1 else A1.map fun x=>x.add m)=A' at*;have CV:Hid (∀W,Below w0.heap.size w0 W→(convert 58 9 (.slice A1 m c1)).run Tryz.prog W= .ok (.string (txt (N.l.take m))) W):=fun W hW=>
   ja8 ((S1.out.rd.take m).below hW) (by rw[List.length_take,←NL.out];omega)
  have BW:Hid (Below w0.heap.size w0 (w1.alloc (.cells #[.slice A1 nl c1,.int .i64 0] 230))):=by
   have hx:=HB.out.trans (B0.out.mono HB.out.size);have hy:=hx.trans (B1.out.mono hx.size);exact hy.alloc hy.size _
  have HS0:Hid (Below w0.heap.size w0 (w1.alloc (.cells #[.slice A1 nl c1,.int .i64 0] 230)).drew∧(w1.alloc (.cells #[.slice A1 nl c1,.int .i64 0] 230)).drew.cell? ⟨w1.heap.size,0,none⟩=some (.slice A1 nl c1)):=
   ⟨BW.out.drew,World.cell?_alloc_at _ _ _ _ rfl⟩
  have BV:Hid (Below w.heap.size w (((w1.setCell ⟨w.heap.size+1,0,none⟩ (.slice A' (nl -m) (c1 -m))).setCell ⟨w.heap.size+1,1,none⟩ (.int .i64 0)).alloc (.cells #[.slice A1 nl c1,.int .i64 0] 230))):=by
   have hx:=B0.out.trans (B1.out.mono (by simp;omega));have hy:=(hx.setCell (p:=⟨w.heap.size+1,0,none⟩) (by simp) (.slice A' (nl -m) (c1 -m))).setCell (p:=⟨w.heap.size+1,1,none⟩) (by simp) (.int .i64 0);exact hy.alloc hy.size _
  have BY:=zh BV.out.drew;have HS2:Hid (Below w0.heap.size w0 (((w1.setCell ⟨w.heap.size+1,0,none⟩ (.slice A' (nl -m) (c1 -m))).setCell ⟨w.heap.size+1,1,none⟩ (.int .i64 0)).alloc (.cells #[.slice A1 nl c1,.int .i64 0] 230)).drew∧(((w1.setCell ⟨w.heap.size+1,0,none⟩ (.slice A' (nl -m) (c1 -m))).setCell ⟨w.heap.size+1,1,none⟩ (.int .i64 0)).alloc (.cells #[.slice A1 nl c1,.int .i64 0] 230)).drew.cell? ⟨w1.heap.size,0,none⟩=some (.slice A1 nl c1)):=
   ⟨HB.out.trans (BY.out.mono HB.out.size),World.cell?_alloc_at _ _ _ _ (by simp[World.setCell])⟩
  have i1:(0:Int)≤(m:Int):=by omega
  have i2:(m:Int)≤(c1:Int):=by omega
  go_wp2_with fail;refine wp_region_held_drew (S:=fun W=>Below w0.heap.size w0 W∧W.cell? ⟨w1.heap.size,0,none⟩=some (.slice A1 nl c1)) (by kernel_rfl) HS0.out (fun hS=> ?_);refine tY 0 hS ?_;refine tZ 1 rfl (by intro W hW;have hw2:W.cell? ⟨w1.heap.size,0,none⟩=some (.slice A1 nl c1):=hW.2;go_simp;(try with_reducible rfl)) hS ?_;refine tY 2 hS ?_;refine tY 3 hS ?_;refine tY 4 hS ?_;refine tY 5 hS ?_;simp only[Act.put,zT,zO,zS];refine tZ 6 rfl (by intro W hW;have hw2:W.cell? ⟨w1.heap.size,0,none⟩=some (.slice A1 nl c1):=hW.2;go_simp;(try with_reducible rfl)) hS ?_;refine tY 7 hS ?_;refine tY 8 hS ?_;refine tZ 9 rfl (by intro W hW;have hcv:=CV.out W hW.1;go_simp;(try with_reducible rfl)) hS ?_;simp only[Act.put,zT,zO,zS];refine rO 10 (fun K hK=> ?_);go_simp;have hS2:=HS2.out;refine hK.out _ _ hS2 (fun _=> ?_);clear hK K hS;have hS:=hS2;try simp only[Act.put,zT,zO,zS]
  refine tY 11 hS ?_;simp only[Act.put,zT,zO,zS];refine wpAnyH_done (by kernel_rfl) ?_ _;clear hS hS2 hsl;go_wp2_with fail;exact bodyPost_ret (v:= .tuple #[.agg #[.slice A' (nl -m) (c1 -m),.int .i64 0],.string (txt (N.l.take m))]) (by simp[results,Tryz.results170,go_sem,hc,z1]) rfl (by
   have hll:(N.l.drop m).length=nl -m:=by rw[List.length_drop,←NL.out]
   rw[P.out.1,P.out.2];refine⟨A',c1 -m,?_,?_,BY.out⟩
   ·show _=Ending.returned (.tuple #[.agg #[.slice A' (N.l.drop m).length _,_],_])
    rw[hll]
   ·show Sl _ A' (N.l.drop m).length _ _
    rw[hll];exact SLD.out)
end Go.Proofs.YtabandbigckfkaaGreatDoor
