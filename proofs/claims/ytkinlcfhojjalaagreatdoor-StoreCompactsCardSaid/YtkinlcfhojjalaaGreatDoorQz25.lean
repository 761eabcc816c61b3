import Derived.Test.YtkinlcfhojjalaaGreatDoorQz24
set_option maxHeartbeats 6400000
set_option maxRecDepth 100000
set_option linter.all false
namespace Go.Proofs.YtkinlcfhojjalaaGreatDoor
open Go.RowKit Cdc
def Rdr(w:World)(r:Nat)(s:St):Prop:=
 ∃A c,w.heap[r]? =some (.cells #[.slice A s.l.length c,.int .i64 s.e] 199 (0,0))/\Rd w r A s.l/\s.l.length<=c/\c<=maxLen/\(A=none->c=0)
theorem Rdr.lt{w:World}{r:Nat}{s:St}(h:Rdr w r s):r<w.heap.size:=by
 obtain⟨A,c,h,_⟩:=h;exact(zg h).1
theorem Rdr.below{w w':World}{r:Nat}{s:St}(h:Rdr w r s)(hb:zF w w'):Rdr w' r s:=by
 have hr:=h.lt;obtain⟨A,c,h,h2,h3⟩:=h;exact⟨A,c,by rw[hb.block r hr];exact h,h2.below (hb.mono zv),h3⟩
structure jsb(w:World)(r:Nat)(s:St)(A:Option Addr)(c:Nat):Prop where
 blk:w.heap[r]? =some (.cells #[.slice A s.l.length c,.int .i64 s.e] 199 (0,0))
 left:w.cell? ⟨r,0,none⟩=some (.slice A s.l.length c)
 err:w.cell? ⟨r,1,none⟩=some (.int .i64 s.e)
 f0:w.frozen? ⟨r,0,none⟩=false
 f1:w.frozen? ⟨r,1,none⟩=false
 rd:Rd w r A s.l
 cap:s.l.length<=c
 max:c<=maxLen
 nil:A=none->c=0
theorem Rdr.fields{w:World}{r:Nat}{s:St}(h:Rdr w r s):∃A c,jsb w r s A c:=by
 obtain⟨A,c,h,h2,h3,h4,h5⟩:=h;exact⟨A,c,h,by rw[cell_of_row w r 0 _ _ _ h];rfl,by rw[cell_of_row w r 1 _ _ _ h];rfl,frozen_of_row w r 0 _ _ h,frozen_of_row w r 1 _ _ h,h2,h3,h4,h5⟩
theorem rd_set{w:World}{r o:Nat}{A:Option Addr}{l:List Nat}(h:Rd w r A l)(v:Value):Rd (w.setCell ⟨r,o,none⟩ v) r A l:=
 h.keep fun p hp=>World.cell?_of_block (w:=w) (Below.heap_setCell _ _ _ _ (by simp;omega))
theorem jvg{w:World}{r:Nat}{s:St}{A:Option Addr}{c:Nat}(h:jsb w r s A c):Rdr ((w.setCell ⟨r,0,none⟩ (.slice none 0 0)).setCell ⟨r,1,none⟩ (.int .i64 2)) r lost:=by
 refine⟨none,0,?_,Rd.empty _ _ _,zl,Nat.zero_le _,fun _=>rfl⟩;have h1:=heap_setCell_same w r 0 _ _ (.slice none 0 0) h.blk;have h2:=heap_setCell_same (w.setCell ⟨r,0,none⟩ (.slice none 0 0)) r 1 _ _ (.int .i64 2) h1;rw[h2];rfl
theorem jvh{w:World}{r c':Nat}{s:St}{A A':Option Addr}{c:Nat}{l:List Nat}(h:jsb w r s A c)(hr:Rd w r A' l)(h1:l.length<=c')(h2:c'<=maxLen)(h3:A'=none->c'=0):Rdr (w.setCell ⟨r,0,none⟩ (.slice A' l.length c')) r ⟨l,s.e⟩:=by
 refine⟨A',c',?_,rd_set hr _,h1,h2,h3⟩;rw[heap_setCell_same w r 0 _ _ _ h.blk];rfl
theorem jdl(w:World)(r:Nat)(s:St)(h:Rdr w r s):
  Calls Tryz.prog 147 #[.pointer (some ⟨r,0,none⟩)] w fun e w'=>e= .returned (.int .i64 s.e)/\w=w':=by
 obtain⟨A,c,hf⟩:=h.fields;have hc:=hf.err;clear hf h;generalize s.e=e at*;go_in;go_wp2;go_ret;exact⟨rfl,rfl⟩
theorem jvi(w:World)(r:Nat)(s:St)(h:Rdr w r s):
  Calls Tryz.prog 153 #[.pointer (some ⟨r,0,none⟩)] w fun e w'=>e= .returned (.int .i64 (s.l.length:Nat))/\w=w':=by
 obtain⟨A,c,hf⟩:=h.fields;have hc:=hf.left;clear hf h;generalize s.l.length=n at*;go_in;go_wp2;go_ret;exact⟨rfl,rfl⟩
theorem end_any(w:World)(r:Nat)(s:St)(h:Rdr w r s):
  Calls Tryz.prog 97 #[.pointer (some ⟨r,0,none⟩)] w fun e w'=>e= .returned (.int .i64 (endE s))/\w=w':=by
 have H:=zh h;clear h;have HE:Hid (endE s=if 0<s.l.length then 2 else s.e):=rfl;have HL:=zh (jvi w r s H.o);generalize s.l.length=n at HE HL;by_cases h0:0<n
 ·go_in
  go_wp2_with fail;refine HL.o.mono ?_;rintro e w1 ⟨rfl,rfl⟩;go_wp2;go_ret;exact⟨jch (by rw[HE.o,if_pos h0]),rfl⟩
 ·go_in
  go_wp2_with fail;refine HL.o.mono ?_;rintro e w1 ⟨rfl,rfl⟩;go_wp2_with fail;refine(jdl w r s H.o).mono ?_;rintro e w1 ⟨rfl,rfl⟩;go_wp2;go_ret;exact⟨jch (by rw[HE.o,if_neg h0]),rfl⟩
theorem jiy(w:World)(r:Nat)(s:St)(h:Rdr w r s):
  Calls Tryz.prog 149 #[.pointer (some ⟨r,0,none⟩)] w fun e w'=>e= .returned (.tuple #[])/\Rdr w' r lost/\w.grownBy w' (some r):=by
 obtain⟨A,c,hf⟩:=h.fields;have c0:=hf.left;have c1:=hf.err;have f0:=hf.f0;have f1:=hf.f1;have HL:=zh (jvg hf);clear hf h;generalize s.e=e at*;generalize s.l.length=n at*;go_in;go_wp2;go_end0;exact⟨rfl,HL.o,jam (jad _ _ _ _) (jad _ _ _ _)⟩
def jvj(l:List Nat)(w:World)(e:Ending)(w':World):Prop:=∃r,e= .returned (.pointer (some ⟨r,0,none⟩))/\Rdr w' r ⟨l,0⟩/\w.heap.size<=r/\zF w w'
theorem jok(n c:Nat)(A:Option Addr)(l:List Nat)(w:World)(hs:Sl w A n c l)(hl:n<=1000000):
  Calls Tryz.prog 91 #[.slice A n c] w (jvj l w):=by
 have HS:=zh hs;clear hs;go_in;go_wp2_with fail;refine(jb6 n c 0 A l w HS.o hl zv).mono ?_;rintro e w1 ⟨v,rfl,ho,hb⟩;have O:=zh ho;clear ho;have B:=zh hb;clear hb;obtain⟨A2,c2,hv,h2⟩:=O.o.sl;subst hv;have H2:=zh h2;clear h2;have HB:=zh B.o.size;go_wp2;go_ret;refine⟨w1.heap.size,rfl,⟨A2,c2,heap_alloc_new w1 _,?_,H2.o.cap,H2.o.max,H2.o.nil⟩,HB.o,B.o.alloc HB.o _⟩;exact H2.o.rd.below zE
theorem jg8{l:List Nat}(h:l.length<=run l\/9<=run l):dk l=0/\dn l=0:=by
 have hn:isNum l=false:=by
  unfold isNum;rcases h with h|h
  ·rw[decide_eq_false zv];rfl
  ·rw[show decide (run l<9)=false from decide_eq_false zv];simp
 unfold dk dn;rw[hn];exact⟨rfl,rfl⟩
theorem sz_val(n k:Nat):sz (n:Int)=k+1↔(digs n).length=k+1/\n<4611686018427387904:=by
 unfold sz;by_cases h:n<4611686018427387904
 ·rw[if_pos zv,Int.toNat_natCast]
  exact⟨fun e=>⟨e,h⟩,fun e=>e.1⟩
 ·rw[if_neg zv]
  exact⟨fun e=>by omega,fun e=>absurd e.2 h⟩
theorem some_of{l:List Nat}{k:Nat}(hr:run l=k)(h1:k<l.length)(h2:k<9)(hz:sz (val (l.take (k+1)):Nat)=k+1):dk l=k+1/\dn l=val (l.take (k+1)):=by
 subst hr;have h:=(sz_val _ _).1 hz;have hn:isNum l=true:=by
  unfold isNum;rw[decide_eq_true h1,decide_eq_true h2,decide_eq_true h.1,decide_eq_true h.2];rfl
 unfold dk dn;rw[if_pos hn,if_pos hn];exact⟨rfl,rfl⟩
theorem jol{l:List Nat}{k:Nat}(hr:run l=k)(hz:sz (val (l.take (k+1)):Nat)≠k+1):dk l=0/\dn l=0:=by
 subst hr;have hn:isNum l=false:=by
  rw[Bool.eq_false_iff];intro h;simp only[isNum,Bool.and_eq_true,decide_eq_true_eq]at h;exact hz ((sz_val _ _).2 ⟨h.1.2,h.2⟩)
 unfold dk dn;rw[hn];exact⟨rfl,rfl⟩
theorem jvk{l:List Nat}{k:Nat}(h:k<l.length):val (l.take (k+1))=val (l.take k)+l.getD k 0%128*128^k:=by
 rw[ji7 l k h,val_snoc,List.length_take,Nat.min_eq_left zv]
theorem jl1(l:List Nat)(k:Nat):val (l.take k)<128^k:=by
 have h:=val_lt (l.take k);have:128^(l.take k).length<=128^k:=Nat.pow_le_pow_right zv (by rw[List.length_take];omega);omega
theorem jvl(v x k:Nat)(hv:v<128^k)(hk:k<=8):wrap64 ((v:Int)+wrap64 ((x:Int)%128*2^(7*k)))=((v+x%128*128^k:Nat):Int):=by
 have e:((2:Int)^(7*k))=((128^k:Nat):Int):=by
  rw[Int.pow_mul];simp
 have h8:128^k<=72057594037927936:=Nat.le_trans (Nat.pow_le_pow_right zv hk) (by decide);have hp:x%128*128^k<=127*128^k:=Nat.mul_le_mul_right _ zv;have e2:(x:Int)%128*((128^k:Nat):Int)=((x%128*128^k:Nat):Int):=by
  rw[Int.natCast_mul];rfl
 rw[e,e2];generalize 128^k=q at*;generalize x%128*q=y at*;rw[IntWalk.wrap64_in (y:Int) ⟨zv,zv⟩,IntWalk.wrap64_in _ ⟨zv,zv⟩];omega
def jsc(l:List Nat)(w:World)(e:Ending)(w':World):Prop:=e= .returned (.tuple #[.int .i64 (dn l:Nat),.int .i64 (dk l:Nat)])/\w=w'
def Jat(w:World)(r:Nat)(s:St)(a':Act)(w':World):Prop:=
 w'=w/\∃(k:Nat) (u6 u7 u8 u9 u10 u11 u12 u13 u14 u15 u16 u17 u18 u19 u20 u21 u22 u23 u24 u25 u26 u27 u28 u29 u30 u31 u32 u33 u34 u35 u36:Value),a'={tmps:=#[.pointer (some ⟨r,0,none⟩),undef,zi,zi,.int .i64 (val (s.l.take k):Nat),.int .i64 k,u6,u7,u8,u9,u10,u11,u12,u13,u14,u15,u16,u17,u18,u19,u20,u21,u22,u23,u24,u25,u26,u27,u28,u29,u30,u31,u32,u33,u34,u35,u36,undef,undef,undef,undef,undef,undef],defers:=[]}/\k<=s.l.length/\k<=9/\∀j,j<k->128<=s.l.getD j 0
theorem jom(w:World)(r:Nat)(s:St)(h:Rdr w r s)(hl:s.l.length<=1000000):
  Calls Tryz.prog 148 #[.pointer (some ⟨r,0,none⟩)] w (jsc s.l w):=by
 obtain⟨A,c,hf⟩:=h.fields;have hc:=hf.left;have HF:=zh hf;clear hf h;go_in;go_wp2;refine jd5 0 (Jat w r s) (fun a' _=>10 -(intOf (a'.tmps.getD 5 undef)).toNat) rfl ?_ ?_
 ·intro key
  go_wp2;go_step3;rename_i K hK;refine hK _ _ (key _ _ ?_);exact⟨rfl,0,_,_,_,_,_,_,_,_,_,_,_,_,_,_,_,_,_,_,_,_,_,_,_,_,_,_,_,_,_,_,_,rfl,zv,zv,fun j hj=>by omega⟩
 ·rintro a' w' ⟨rfl,k,u6,u7,u8,u9,u10,u11,u12,u13,u14,u15,u16,u17,u18,u19,u20,u21,u22,u23,u24,u25,u26,u27,u28,u29,u30,u31,u32,u33,u34,u35,u36,rfl,hk1,hk2,hrun⟩
  have HR:=zh hrun;clear hrun;by_cases hend:k=s.l.length
  ·have HN:=zh (jg8 (l:=s.l) (.inl (by rw[<-hend];exact run_ge HR.o)))
   have hc2:=hc;rw[<-hend]at hc2;clear hc hend hk1 HR;go_wp2_with fail;simp only[Exit.jump];go_ret2;exact⟨by rw[HN.o.1,HN.o.2];rfl,rfl⟩
  ·by_cases h9:k=9
   ·have HN:=zh (jg8 (l:=s.l) (.inr (by rw[<-h9];exact run_ge HR.o)))
    subst h9;have e1:((9:Int)==(s.l.length:Int))=false:=by rw[zq];omega
    clear hend HR;generalize hnn:s.l.length=n at*;clear hnn;go_wp2_with fail;simp only[Exit.jump];go_ret2;exact⟨by rw[HN.o.1,HN.o.2];rfl,rfl⟩
   ·have hlt:k<s.l.length:=by omega
    have hx:=HF.o.rd.byte k;obtain⟨b,o,rfl,_,hcl⟩:=HF.o.rd.2 zv;have hck:=hcl k hlt;clear hcl;have e1:((k:Int)==(s.l.length:Int))=false:=by rw[zq];omega
    have e2:((k:Int)==9)=false:=by rw[zq];omega
    have k8:k<=8:=by omega
    have HX:Hid (s.l.getD k 0<128->run s.l=k):=fun h=>run_of HR.o hlt h;have HY:Hid (128<=s.l.getD k 0->∀j,j<k+1->128<=s.l.getD j 0):=fun h j hj=>by
     by_cases e:j=k
     ·subst e;exact h
     ·exact HR.o j zv
    have HS:=zh ((jvl (val (s.l.take k)) (s.l.getD k 0) k (jl1 _ _) k8).trans (congrArg (fun x:Nat=>(x:Int)) (jvk hlt).symm));have HL:=zh hlt;clear hend h9 hk1 hk2 HR HF;generalize s.l.getD k 0=x at*;generalize val (s.l.take k)=v at*;have HM:Hid (∃m:Nat,val (s.l.take (k+1))=m):=⟨_,rfl⟩;by_cases hd:128<=x
    ·go_wp2_with fail
     go_step3;rw[HS.o];refine⟨rfl,⟨rfl,k+1,_,_,_,_,_,_,_,_,_,_,_,_,_,_,_,_,_,_,_,_,_,_,_,_,_,_,_,_,_,_,_,rfl,by have:=HL.o;omega,zv,HY.o hd⟩,?_⟩;simp[intOf];omega
    ·have HZ:=zh (HX.o zv)
     have hd2:decide ((128:Int)<=(x:Int))=false:=decide_eq_false zv;have hd3:decide (128<=x)=false:=decide_eq_false zv;clear hd;by_cases hz:sz (val (s.l.take (k+1)):Nat)=k+1
     ·have HD:=zh (some_of HZ.o HL.o zv hz)
      have HQ:=zh hz;clear hz;go_wp2_with fail;rw[HS.o];refine(jes _ _).mono ?_;rintro e w1 ⟨rfl,rfl⟩;rw[HQ.o];have hne:(((k:Int)+1) !=((k+1:Nat):Int))=false:=by simp
      go_wp2_with fail;simp only[Exit.jump];go_ret2;exact⟨by rw[HD.o.1,HD.o.2];rfl,rfl⟩
     ·have HD:=zh (jol HZ.o hz)
      have hne:(((k:Int)+1) !=((sz (val (s.l.take (k+1)):Nat):Nat):Int))=true:=by rw[bne_iff_ne];omega
      clear hz;go_wp2_with fail;rw[HS.o];refine(jes _ _).mono ?_;rintro e w1 ⟨rfl,rfl⟩;go_wp2_with fail;simp only[Exit.jump];go_ret2;exact⟨by rw[HD.o.1,HD.o.2];rfl,rfl⟩
theorem cut_run(A:Option Addr)(n c k:Nat)(hk:k<=n)(W:World):
  (Instr.slice 50 (.slice A n c) (some (.int .i64 (k:Int))) none none).run Tryz.prog W= .ok (.slice (if c=k then A else A.map fun x=>x.add k) (n -k) (c -k)) W:=by
 have h1:∀W:World,(sizeOf (Tryz.prog.elem 50)).run Tryz.prog W= .ok 1 W:=fun _=>by kernel_rfl
 rw[run_slice_l _ 50 A n c zk IntKind.i64 (k:Int) zv zv,h1];simp[Result.andThen,sliced]
theorem Rdr.kept{w w':World}{r:Nat}{s:St}{row:Option Nat}(h:Rdr w r s)(hg:w.grownBy w' row)(hr:∀k,row=some k->r<k):Rdr w' r s:=by
 have hlt:=h.lt;obtain⟨A,c,h,h2,h3⟩:=h;have hb:∀k,k<=r->w'.heap[k]? =w.heap[k]? :=fun k hk=>hg.block k zv (fun e=>by have:=hr k e.symm;omega);exact⟨A,c,by rw[hb r zv];exact h,h2.keep fun p hp=>World.cell?_of_block (w:=w) (hb _ zv),h3⟩
theorem jg9{w a b:World}{row row2:Option Nat}(h:w.grownBy a row)(k:a.grownBy b row2)(hr:∀i,row2=some i->w.heap.size<=i):w.grownBy b row:=
 ⟨k.os.trans h.os,k.tape.trans h.tape,k.output.trans h.output,Nat.le_trans h.size k.size,fun i hi hne=>(k.block i (Nat.lt_of_lt_of_le hi h.size) (fun e=>by have:=hr i e.symm;omega)).trans (h.block i hi hne)⟩
def jc5(w:World)(r:Nat)(s:St)(n:Nat)(e:Ending)(w':World):Prop:=
 ∃A c,e= .returned (.slice A (tkV s n).length c)/\Rd w' w'.heap.size A (tkV s n)/\Rdr w' r (tk s n)/\w.grownBy w' (some r)
theorem jvm(w:World)(r n:Nat)(s:St)(h:Rdr w r s)(he:s.e≠0):
  Calls Tryz.prog 150 #[.pointer (some ⟨r,0,none⟩),.int .i64 n] w (jc5 w r s n):=by
 have H:=zh h;clear h;have hne:(s.e !=0)=true:=by rw[bne_iff_ne];exact he
 have HT:Hid (tkV s n=[]/\tk s n=s):=by show _/\_;unfold tkV tk;rw[if_neg he,if_neg he];exact⟨rfl,rfl⟩
 clear he;go_in;go_wp2_with fail;refine(jdl w r s H.o).mono ?_;rintro e w1 ⟨rfl,rfl⟩;go_wp2;go_ret;unfold jc5;rw[HT.o.1,HT.o.2];exact⟨none,0,rfl,Rd.empty _ _ _,H.o,World.grownBy.refl _ _⟩
theorem jsd(w:World)(r n:Nat)(s:St)(h:Rdr w r s)(he:s.e=0)(hn:s.l.length<n):
  Calls Tryz.prog 150 #[.pointer (some ⟨r,0,none⟩),.int .i64 n] w (jc5 w r s n):=by
 have H:=zh h;obtain⟨A,c,hf⟩:=h.fields;have c0:=hf.left;clear h hf;have HE:=zh he;have HT:Hid (tkV s n=[]/\tk s n=lost):=by show _/\_;unfold tkV tk;rw[if_pos he,if_pos he,if_neg zv,if_neg zv];exact⟨rfl,rfl⟩
 clear he;generalize s.l.length=m at*;go_in;go_wp2_with fail;refine(jdl w r s H.o).mono ?_;rintro e w1 ⟨rfl,rfl⟩;rw[HE.o];go_wp2_with fail;refine(jiy w r s H.o).mono ?_;rintro e w1 ⟨rfl,hr,hg⟩;have R:=zh hr;clear hr;have G:=zh hg;clear hg;go_wp2;go_ret;unfold jc5;rw[HT.o.1,HT.o.2];exact⟨none,0,rfl,Rd.empty _ _ _,R.o,G.o⟩
theorem take_ok(w:World)(r n:Nat)(s:St)(h:Rdr w r s)(he:s.e=0)(hn:n<=s.l.length):
  Calls Tryz.prog 150 #[.pointer (some ⟨r,0,none⟩),.int .i64 n] w (jc5 w r s n):=by
 have H:=zh h;obtain⟨A,c,hf⟩:=h.fields;have HF:=zh hf;have c0:=hf.left;have f0:=hf.f0;have hcap:=hf.cap;obtain⟨A',hA,hsl⟩:∃A',A'=(if c=n then A else A.map fun x=>x.add n)/\∀W,(Instr.slice 50 (.slice A s.l.length c) (some (.int .i64 (n:Int))) none none).run Tryz.prog W= .ok (.slice A' (s.l.length -n) (c -n)) W:=⟨_,rfl,cut_run A s.l.length c n hn⟩;have HA:=zh hA;clear hA;have HE:=zh he;have HT:Hid (tkV s n=s.l.take n/\tk s n=⟨s.l.drop n,0⟩):=by show _/\_;unfold tkV tk;rw[if_pos he,if_pos he,if_pos zv,if_pos zv];exact⟨rfl,rfl⟩
 have HR:Hid (Rdr (w.setCell ⟨r,0,none⟩ (.slice A' (s.l.length -n) (c -n))) r ⟨s.l.drop n,0⟩):=by
  have hd:Rd w r A' (s.l.drop n):=by
   rw[HA.o];exact hf.rd.drop hf.cap _ fun b o=>by unfold Addr.add;split<;>simp_all
  have:=jvh (c':=c -n) hf hd (by rw[List.length_drop];omega) (by have:=hf.max;omega) (fun e=>by
   rw[HA.o]at e;split at e
   ·have:=hf.nil e;omega
   ·rw[Option.map_eq_none_iff]at e;have:=hf.nil e;omega)
  rw[List.length_drop,he]at this;exact this
 have HD:=zh hf.rd;clear he h hf;generalize hm:s.l.length=m at*;have HM:=zh hm;clear hm;go_in;go_wp2_with fail;refine(jdl w r s H.o).mono ?_;rintro e w1 ⟨rfl,rfl⟩;rw[HE.o];go_wp2;go_ret;unfold jc5;rw[HT.o.1,HT.o.2];have hlen:(s.l.take n).length=n:=by rw[List.length_take,HM.o];omega
 rw[hlen];exact⟨A,c,rfl,((rd_set (HD.o.take n) _).more (by have:=H.o.lt;simp[World.setCell];omega)),HR.o,jad _ _ _ _⟩
theorem jm6(w:World)(r n:Nat)(s:St)(h:Rdr w r s):
  Calls Tryz.prog 150 #[.pointer (some ⟨r,0,none⟩),.int .i64 n] w (jc5 w r s n):=by
 by_cases he:s.e=0
 ·by_cases hn:n<=s.l.length
  ·exact take_ok w r n s h he hn
  ·exact jsd w r n s h he zv
 ·exact jvm w r n s h he
def jse(w:World)(r:Nat)(n:Nat)(s':St)(e:Ending)(w':World):Prop:=
 e= .returned (.int .i64 (n:Nat))/\Rdr w' r s'/\w.grownBy w' (some r)
theorem jiz(w:World)(r:Nat)(s:St)(h:Rdr w r s)(hl:s.l.length<=1000000):
  Calls Tryz.prog 93 #[.pointer (some ⟨r,0,none⟩)] w (jse w r (numV s) (num s)):=by
 have H:=zh h;clear h;by_cases he:s.e=0
 ·have HE:=zh he
  have hd:=jom w r s H.o hl;by_cases hk:dk s.l=0
  ·have HT:Hid (numV s=0/\num s=lost):=by show _/\_;unfold numV num;rw[if_pos he,if_pos he,if_pos hk,dn_none hk];exact⟨rfl,rfl⟩
   unfold jsc at hd;rw[hk,dn_none hk]at hd;have HD:=zh hd;clear he hd hk hl;go_in;go_wp2_with fail;refine(jdl w r s H.o).mono ?_;rintro e w1 ⟨rfl,rfl⟩;rw[HE.o];go_wp2_with fail;refine HD.o.mono ?_;rintro e w1 ⟨rfl,rfl⟩;go_wp2_with fail;refine(jiy w r s H.o).mono ?_;rintro e w1 ⟨rfl,hr,hg⟩;have R:=zh hr;clear hr;have G:=zh hg;clear hg;go_wp2;go_ret;rw[HT.o.1,HT.o.2];exact⟨rfl,R.o,G.o⟩
  ·have hne:((dk s.l:Int)==0)=false:=by rw[zq];omega
   have HT:Hid (numV s=dn s.l/\num s=⟨s.l.drop (dk s.l),0⟩):=by show _/\_;unfold numV num;rw[if_pos he,if_pos he,if_neg hk];exact⟨rfl,rfl⟩
   have HK:=zh (jm6 w r (dk s.l) s H.o);have HQ:Hid (tk s (dk s.l)=⟨s.l.drop (dk s.l),0⟩):=by show _=_;unfold tk;rw[if_pos he,if_pos (dk_le _)]
   unfold jsc at hd;have HD:=zh hd;clear he hd hk hl;generalize dk s.l=k at*;generalize dn s.l=n at*;go_in;go_wp2_with fail;refine(jdl w r s H.o).mono ?_;rintro e w1 ⟨rfl,rfl⟩;rw[HE.o];go_wp2_with fail;refine HD.o.mono ?_;rintro e w1 ⟨rfl,rfl⟩;go_wp2_with fail;refine HK.o.mono ?_;rintro e w1 ⟨A,c,rfl,_,hr,hg⟩;have R:=zh hr;clear hr;have G:=zh hg;clear hg;go_wp2;go_ret;rw[HT.o.1,HT.o.2,<-HQ.o];exact⟨rfl,R.o,G.o⟩
 ·have hne:(s.e !=0)=true:=by rw[bne_iff_ne];exact he
  have HT:Hid (numV s=0/\num s=s):=⟨numV_err he,num_err he⟩;clear he;go_in;go_wp2_with fail;refine(jdl w r s H.o).mono ?_;rintro e w1 ⟨rfl,rfl⟩;go_wp2;go_ret;rw[HT.o.1,HT.o.2];exact⟨rfl,H.o,World.grownBy.refl _ _⟩
theorem jkg(w:World)(r:Nat)(s:St)(h:Rdr w r s)(hl:s.l.length<=1000000):
  Calls Tryz.prog 151 #[.pointer (some ⟨r,0,none⟩),.int .i64 64] w (jse w r (cntV s) (cnt s)):=by
 have HN:=zh (jiz w r s h hl);clear h hl;by_cases hk:numV s<=64
 ·have HT:Hid (cntV s=numV s/\cnt s=num s):=by show _/\_;unfold cntV cnt;rw[if_pos hk,if_pos hk];exact⟨rfl,rfl⟩
  generalize numV s=n at*;go_in;go_wp2_with fail;refine HN.o.mono ?_;rintro e w1 ⟨rfl,hr,hg⟩;have R:=zh hr;clear hr;have G:=zh hg;clear hg;go_wp2;go_ret;rw[HT.o.1,HT.o.2];exact⟨rfl,R.o,G.o⟩
 ·have HT:Hid (cntV s=0/\cnt s=lost):=by show _/\_;unfold cntV cnt;rw[if_neg hk,if_neg hk];exact⟨rfl,rfl⟩
  have hk2:64<numV s:=by omega
  clear hk;generalize numV s=n at*;go_in;go_wp2_with fail;refine HN.o.mono ?_;rintro e w1 ⟨rfl,hr,hg⟩;have R:=zh hr;clear hr;have G:=zh hg;clear hg;go_wp2_with fail;refine(jiy w1 r _ R.o).mono ?_;rintro e w2 ⟨rfl,hr,hg⟩;have R2:=zh hr;clear hr;have G2:=zh hg;clear hg;go_wp2;go_ret;rw[HT.o.1,HT.o.2];exact⟨rfl,R2.o,jam G.o G2.o⟩
def ji0(w:World)(r:Nat)(s:St)(e:Ending)(w':World):Prop:=
 e= .returned (.string (txt (textV s)))/\Rdr w' r (text s)/\w.grownBy w' (some r)
theorem jsf(w:World)(r:Nat)(s:St)(h:Rdr w r s)(hl:s.l.length<=1000000):
  Calls Tryz.prog 94 #[.pointer (some ⟨r,0,none⟩)] w (ji0 w r s):=by
 have HN:=zh (jkg w r s h hl);have HT:Hid (textV s=tkV (cnt s) (cntV s)/\text s=tk (cnt s) (cntV s)):=⟨rfl,rfl⟩;clear h hl;generalize cntV s=n at*;go_in;go_wp2_with fail;refine HN.o.mono ?_;rintro e w1 ⟨rfl,hr,hg⟩;have R:=zh hr;clear hr;have G:=zh hg;clear hg;go_wp2_with fail;refine(jm6 w1 r n _ R.o).mono ?_;rintro e w2 ⟨A,c,rfl,hd,hr,hg⟩;have hcv:=jo4 (c:=c) hd rfl;have R2:=zh hr;clear hr hd;have G2:=zh hg;clear hg;generalize tkV (cnt s) n=tv at*;go_wp2;go_ret;unfold ji0;rw[HT.o.1,HT.o.2];exact⟨rfl,R2.o,jam G.o G2.o⟩
def jf9(w:World)(r:Nat)(s:St)(e:Ending)(w':World):Prop:=
 ∃A c,e= .returned (.slice A (listV s).length c)/\SlI w' A (listV s).length c (nI (listV s))/\Rdr w' r (list s)/\w.grownBy w' (some r)
theorem jkh{w:World}{B r:Nat}{v:Value}{l:List Int}(h:OwnI w B v l)(hr:r<B):v.ownBlock=none\/v.ownBlock≠some r:=by
 rcases hv:v.ownBlock with _|g
 ·exact .inl rfl
 ·right
  have:=(World.ownsRow.lt h g hv).1;intro e;injection e with e
  omega
theorem jsg(w:World)(r:Nat)(s:St)(h:Rdr w r s)(hl:s.l.length<=1000000):
  Calls Tryz.prog 96 #[.pointer (some ⟨r,0,none⟩)] w (jf9 w r s):=by
 obtain⟨i0,hi0,hz0,hz1,hz2⟩:=info_parts jf3;have I0:=zh hi0;clear hi0;have I1:=zh hz0;clear hz0;have I2:=zh hz1;clear hz1;have I3:=zh hz2;clear hz2;have HN:=zh (jkg w r s h hl);have HT:Hid (list s=numsAt (cnt s) (cntV s)/\listV s=if(numsAt (cnt s) (cntV s)).e=0 then numsV (cnt s) (cntV s)else[]):=⟨rfl,rfl⟩;have hn:=cntV_le s;have HL:=zh (Nat.le_trans (jky s) hl);have HR0:=zh h.lt;clear h hl;generalize cntV s=n at*;generalize cnt s=t at*;go_in;go_wp2_with fail;refine HN.o.mono ?_;rintro e w1 ⟨rfl,hr,hg⟩;have R:=zh hr;clear hr;have G:=zh hg;clear hg;go_wp2_with(at_make;refine wpList_make_own _ rfl _ _ 102 rfl w1.heap.size 3 i0 (zi) 1 Tryz.underlying102 I0.o I1.o I2.o _ _ _ n rfl rfl zv (by rw[I3.o];omega) (by unfold maxLen;omega) zl ?_;intro w2 hown2 hg2;have O2:=zh hown2;have G2:=zh hg2;clear hown2 hg2);go_loopw [4,10] (fun v i wr=>∃k:Nat,k<=n/\i= .int .i64 k/\OwnI wr w1.heap.size v (nI (numsV t k))/\Rdr wr r (numsAt t k)/\w.grownBy wr (some r)/\w1.heap.size<=wr.heap.size) (fun _ i _=>n -(intOf i).toNat)
 case atStart=>exact⟨0,zv,rfl,O2.o,R.o.kept G2.o (by simp),jg9 G.o G2.o (by simp),G2.o.size⟩
 case round=>
  obtain⟨k,hk,rfl,ho,hr,hg,hsz⟩:=hrel;clear O2;have O:=zh ho;clear ho;have RR:=zh hr;clear hr;have GG:=zh hg;clear hg;have HZ:=zh hsz;clear hsz;by_cases hlt:k<n
  ·have HV:=zh (jiz wr r (numsAt t k) RR.o (Nat.le_trans (jil t k) HL.o))
   have HX:Hid (nI (numsV t (k+1))=nI (numsV t k)++[((numV (numsAt t k):Nat):Int)]):=jpm _ _;have HY:Hid (numsAt t (k+1)=num (numsAt t k)):=rfl;have HLN:Hid ((nI (numsV t k)).length=k):=by show _=_;rw[jcl,numsV_length]
   generalize numV (numsAt t k)=x at*;go_wp2_with fail;refine HV.o.mono ?_;rintro e w3 ⟨rfl,hr,hg⟩;have R3:=zh hr;clear hr;have G3:=zh hg;clear hg;have O3:Hid (OwnI w3 w1.heap.size _ (nI (numsV t k))):=World.ownsRow.kept O.o G3.o (jkh O.o (Nat.lt_of_lt_of_le HR0.o G.o.size));go_wp2_with(at_builtin;refine jas rfl (.tmp 12) (.tmp 15) rfl w1.heap.size _ _ rfl O3.o _ rfl (by rw[HLN.o];omega) (Nat.le_trans HZ.o G3.o.size) ?_;intro v4 w4 ho4 hg4;have O4:=zh ho4;have G4:=zh hg4;clear ho4 hg4);go_roundw
   case rel=>
    refine⟨k+1,zv,by go_num,by rw[HX.o];exact O4.o,?_,?_,?_⟩
    ·rw[HY.o]
     exact R3.o.kept G4.o fun i hi=>Nat.lt_of_lt_of_le (Nat.lt_of_lt_of_le HR0.o G.o.size) (ja2 O3.o i hi)
    ·exact jg9 (jam GG.o G3.o) G4.o fun i hi=>Nat.le_trans G.o.size (ja2 O3.o i hi)
    ·exact Nat.le_trans HZ.o (Nat.le_trans G3.o.size G4.o.size)
   case measure=>simp[intOf];omega
  ·obtain rfl:k=n:=by omega
   have HE:=zh (jdl wr r _ RR.o);by_cases he:(numsAt t k).e=0
   ·have HT2:Hid (listV s=numsV t k):=by show _=_;rw[HT.o.2,if_pos he]
    have HQ:=zh he;clear he;obtain⟨A2,c2,hv,h2⟩:=OwnI.sl O.o;subst hv;have H2:=zh h2;clear h2;go_wp2_with fail;refine HE.o.mono ?_;rintro e w5 ⟨rfl,rfl⟩;rw[HQ.o];go_wp2;go_ret;unfold jf9;rw[HT.o.1,HT2.o,<-jcl];exact⟨A2,c2,rfl,H2.o,RR.o,GG.o⟩
   ·have HT2:Hid (listV s=[]):=by show _=_;rw[HT.o.2,if_neg he]
    have hne:((numsAt t k).e !=0)=true:=by rw[bne_iff_ne];exact he
    clear he;go_wp2_with fail;refine HE.o.mono ?_;rintro e w5 ⟨rfl,rfl⟩;go_wp2;go_ret;unfold jf9;rw[HT.o.1,HT2.o];exact⟨none,0,rfl,SlI.none_ _,RR.o,GG.o⟩
def RV(A:Option Addr)(c:Nat)(s:St):Value:= .agg #[.slice A s.l.length c,.int .i64 s.e]
theorem jfk{fn:Func}{p u:Tmp}(h:fn.results= #[.cell p 56,.tmp u])(tmps:Array Value)(w:World)(g:Nat)(r:Rc.R)(hp:tmps.getD p undef= .pointer (some ⟨g,0,none⟩))(hg:RcAt w g r):
  (results fn tmps).run Tryz.prog w= .ok (.tuple #[.agg (Rc.cells r),tmps.getD u undef]) w:=by
 rw[results_cell_tmp h,hp];have:=run_loadVar_row (P:=Tryz.prog) w g 56 56 (Rc.cells r) (0,0) _ hg.row jag rfl (jak r);simp[asAddr,this,Result.andThen]
theorem jcr{w:World}{g:Nat}{o:Rc.R}(h:RcAt w g o)(o':Rc.R)(k:Nat)(v:Value)(he:(Rc.cells o).setIfInBounds k v=Rc.cells o'):RcAt (w.setCell ⟨g,k,none⟩ v) g o':=⟨by rw[<-he];exact heap_setCell_same w g k _ _ _ h.row⟩
theorem jcs{w:World}{a g:Nat}{o:Rc.R}(h:RcAt w a o)(hne:a≠g)(k:Nat)(v:Value):RcAt (w.setCell ⟨g,k,none⟩ v) a o:=⟨((jad w g k v).block a h.cs.lt (by simp;exact hne)).trans h.row⟩
namespace Rc
def pt(v:List Int):R:=⟨v.getD 0 0,v.getD 1 0,v.getD 2 0,v.getD 3 0,v.getD 4 0,⟨#[]⟩,Spc.zero⟩
theorem pt_next{v:List Int}{k:Nat}(x:Int)(hk:v.length=k)(h:k<5):(cells (pt v)).setIfInBounds k (.int .i64 x)=cells (pt (v++[x])):=by
 subst hk
 match v,h with
 |[],_=>rfl
 |[_],_=>rfl
 |[_,_],_=>rfl
 |[_,_,_],_=>rfl
 |[_,_,_,_],_=>rfl
theorem no_byte(o:R)(x:Int):∀v∈(cells o).toList,v≠ .int .u8 x:=by
 intro v hv e;subst e;simp[cells]at hv
theorem listV_len(s:St):(listV s).length<=64:=by
 unfold listV;split
 ·rw[numsV_length];exact cntV_le s
 ·simp
end Rc
theorem jbx{w:World}{r g:Nat}{s:St}{o:Rc.R}(h:Rdr w r s)(hg:RcAt w g o)(hne:r≠g)(k:Nat)(v:Value):Rdr (w.setCell ⟨g,k,none⟩ v) r s:=by
 obtain⟨A,c,h1,h2,h3,h4,h5⟩:=h;have G:=jad w g k v;refine⟨A,c,(G.block r (zg h1).1 (by simp;exact hne)).trans h1,⟨h2.1,fun hl=> ?_⟩,h3,h4,h5⟩;obtain⟨b,o',e,hb,hc⟩:=h2.2 hl;have hbg:b≠g:=fun e=>by
  subst e;have h0:=hc 0 hl;rw[cell_of_row w b (o'+0) _ _ _ hg.row]at h0;exact Rc.no_byte o _ _ (Array.mem_toList_iff.2 (Array.mem_of_getElem? h0)) rfl
 refine⟨b,o',e,hb,fun j hj=> ?_⟩;have hbs:b<w.heap.size:=Nat.lt_trans hb (zg h1).1;rw[<-hc j hj];exact World.cell?_of_block (w:=w) (G.block b hbs (by simp;exact hbg))
theorem jd0{w w':World}{g r:Nat}{o:Rc.R}(h:RcAt w g o)(hg:w.grownBy w' (some r))(hne:g≠r):RcAt w' g o:=⟨(hg.block g h.cs.lt (by simp;exact hne)).trans h.row⟩
theorem jsh{w:World}{g:Nat}{o:Rc.R}(h:RcAt w g o)(i:Nat):w.frozen? ⟨g,i,none⟩=false:=frozen_of_row w g i _ _ h.row
theorem jki:RcRd:=by
 intro W A n c l h hn;obtain rfl:n=l.length:=h.len;have HL:Hid (l.length<=1000):=hn;have HB:Hid (∀x∈l,x<256):=h.rd.1;obtain⟨gr,hgr⟩:∃gr,gr=W.heap.size:=zx;obtain⟨g,hg⟩:∃g,g=gr+1:=zx;have BA:=(Below.refl W.heap.size W).alloc zl (.cells #[zi,zi,zi,zi,zi,.string ⟨#[]⟩,zi,zi,zi,zi,zi,zi,zi,zi,zi,zi,zi,zi] 56);have BB:=(Below.refl (W.alloc (.cells #[zi,zi,zi,zi,zi,.string ⟨#[]⟩,zi,zi,zi,zi,zi,zi,zi,zi,zi,zi,zi,zi] 56)).heap.size (W.alloc (.cells #[zi,zi,zi,zi,zi,.string ⟨#[]⟩,zi,zi,zi,zi,zi,zi,zi,zi,zi,zi,zi,zi] 56))).alloc zl (.cells #[zi,zi,zi,zi,zi,.string ⟨#[]⟩,zi,zi,zi,zi,zi,zi,zi,zi,zi,zi,zi,zi] 56);have BX:=BA.trans (BB.mono BA.size);have E1:(W.alloc (.cells #[zi,zi,zi,zi,zi,.string ⟨#[]⟩,zi,zi,zi,zi,zi,zi,zi,zi,zi,zi,zi,zi] 56)).heap.size=g:=by rw[hg,hgr];exact World.size_alloc _ _
 have R0:RcAt ((W.alloc (.cells #[zi,zi,zi,zi,zi,.string ⟨#[]⟩,zi,zi,zi,zi,zi,zi,zi,zi,zi,zi,zi,zi] 56)).alloc (.cells #[zi,zi,zi,zi,zi,.string ⟨#[]⟩,zi,zi,zi,zi,zi,zi,zi,zi,zi,zi,zi,zi] 56)) g (Rc.pt []):=by
  have:=heap_alloc_new (W.alloc (.cells #[zi,zi,zi,zi,zi,.string ⟨#[]⟩,zi,zi,zi,zi,zi,zi,zi,zi,zi,zi,zi,zi] 56)) (.cells #[zi,zi,zi,zi,zi,.string ⟨#[]⟩,zi,zi,zi,zi,zi,zi,zi,zi,zi,zi,zi,zi] 56);rw[E1]at this;exact⟨this⟩
 have X0:RcAt ((W.alloc (.cells #[zi,zi,zi,zi,zi,.string ⟨#[]⟩,zi,zi,zi,zi,zi,zi,zi,zi,zi,zi,zi,zi] 56)).alloc (.cells #[zi,zi,zi,zi,zi,.string ⟨#[]⟩,zi,zi,zi,zi,zi,zi,zi,zi,zi,zi,zi,zi] 56)) gr Rc.none_:=by
  have h1:RcAt (W.alloc (.cells #[zi,zi,zi,zi,zi,.string ⟨#[]⟩,zi,zi,zi,zi,zi,zi,zi,zi,zi,zi,zi,zi] 56)) W.heap.size Rc.none_:=⟨heap_alloc_new W (.cells #[zi,zi,zi,zi,zi,.string ⟨#[]⟩,zi,zi,zi,zi,zi,zi,zi,zi,zi,zi,zi,zi] 56)⟩;rw[hgr];exact h1.on BB
 have SX:((W.alloc (.cells #[zi,zi,zi,zi,zi,.string ⟨#[]⟩,zi,zi,zi,zi,zi,zi,zi,zi,zi,zi,zi,zi] 56)).alloc (.cells #[zi,zi,zi,zi,zi,.string ⟨#[]⟩,zi,zi,zi,zi,zi,zi,zi,zi,zi,zi,zi,zi] 56)).heap.size=g+1:=by rw[World.size_alloc,E1]
 have SL:=h.on BX;go_in;go_upto_region 2 with fail
 simp only[World.size_alloc,<-hgr,<-hg]at⊢;clear E1 BA BB;generalize(W.alloc (.cells #[zi,zi,zi,zi,zi,.string ⟨#[]⟩,zi,zi,zi,zi,zi,zi,zi,zi,zi,zi,zi,zi] 56)).alloc (.cells #[zi,zi,zi,zi,zi,.string ⟨#[]⟩,zi,zi,zi,zi,zi,zi,zi,zi,zi,zi,zi,zi] 56)=X at*;have HG:Hid (W.heap.size<=gr/\W.heap.size<=g/\gr≠g):=⟨zv,zv,zv⟩;have HGX:Hid (g<X.heap.size/\gr<X.heap.size):=⟨zv,zv⟩;clear hgr hg h hn SX;have RA:=zh R0;have RX:=zh X0;have B1:=zh BX;have CR:=zh (jok l.length c A l X SL (by have:=HL.o;omega));have CNB:=zh (fun W=>jfv g W);clear R0 X0 BX SL
 go_wp2_with(first
  |(go_at_call 91;refine CR.o.mono ?_;rintro e w2 ⟨rd,rfl,hrd,hge,hb⟩;have RR:=zh hrd;have HR:Hid (g≠rd/\gr≠rd/\W.heap.size<=rd):=⟨by have:=HGX.o;omega,by have:=HGX.o;omega,by have:=HGX.o;have:=HG.o;omega⟩;have RA:=zh (RA.o.on hb);have RX:=zh (RX.o.on hb);have B1:=zh (B1.o.trans (hb.mono B1.o.size));clear hrd hge hb)
  |(go_at_call 92;refine(CNB.o _).mono ?_;rintro e w3 ⟨rfl,hb⟩;have RR:=zh (RR.o.below hb);have RA:=zh (RA.o.on hb);have RX:=zh (RX.o.on hb);have B1:=zh (B1.o.trans (hb.mono B1.o.size));clear hb))
 go_loopw [11] (fun i wr=>∃k:Nat,k<=5/\i= .int .i64 k/\RcAt wr g (Rc.pt (nI (numsV ⟨l,0⟩ k)))/\RcAt wr gr Rc.none_/\Rdr wr rd (numsAt ⟨l,0⟩ k)/\zF W wr) (fun i _=>5 -(intOf i).toNat)
 case atStart=>exact⟨0,zv,rfl,RA.o,RX.o,RR.o,B1.o⟩
 case round=>
  obtain⟨k,hk,rfl,hra,hrx,hrr,hbr⟩:=hrel;clear RA RX RR B1 CR CNB;have RA:=zh hra;have RX:=zh hrx;have RR:=zh hrr;have B1:=zh hbr;clear hra hrx hrr hbr;by_cases hlt:k<5
  ·have hpj:=fun W=>jke g k hlt W
   have CN:=zh (jiz wr rd (numsAt ⟨l,0⟩ k) RR.o (Nat.le_trans (jil ⟨l,0⟩ k) (Nat.le_trans HL.o zv)));have HX:Hid (nI (numsV ⟨l,0⟩ (k+1))=nI (numsV ⟨l,0⟩ k)++[((numV (numsAt ⟨l,0⟩ k):Nat):Int)]):=jpm _ _;have HLN:Hid ((nI (numsV ⟨l,0⟩ k)).length=k):=by show _=_;rw[jcl,numsV_length]
   have HT:Hid (num (numsAt ⟨l,0⟩ k)=numsAt ⟨l,0⟩ (k+1)):=rfl;rw[HT.o]at CN;generalize numV (numsAt ⟨l,0⟩ k)=x at*;go_wp2_with(go_at_call 93;refine CN.o.mono ?_;rintro e w4 ⟨rfl,hr4,hg4⟩;have RR4:=zh hr4;have RA4:=zh (jd0 RA.o hg4 HR.o.1);have RX4:=zh (jd0 RX.o hg4 HR.o.2.1);have B4:=zh (B1.o.grown hg4 B1.o.size (fun i hi=>by injection hi with hi;have:=HR.o;omega));have hcj:=rc_at RA4.o hlt;have hfz:=jsh RA4.o k;clear hr4 hg4)
   refine⟨⟨k+1,zv,by go_num,?_,jcs RX4.o HG.o.2.2 _ _,jbx RR4.o RA4.o (fun e=>HR.o.1 e.symm) _ _,B4.o.setCell (p:=⟨g,k,none⟩) HG.o.2.1 _⟩,by simp[intOf];omega⟩;rw[HX.o];exact jcr RA4.o _ k _ (Rc.pt_next _ HLN.o hlt)
  ·obtain rfl:k=5:=by omega
   clear hk hlt;have EK1:Hid (numsAt ⟨l,0⟩ 5=Rc.k1 l):=rfl;have EV1:Hid (nI (numsV ⟨l,0⟩ 5)=Rc.v1 l):=rfl;have LK:Hid ((Rc.k1 l).l.length<=1000):=Nat.le_trans (jil ⟨l,0⟩ 5) HL.o;rw[EK1.o]at RR;rw[EV1.o]at RA;have CT:=zh (jsf wr rd (Rc.k1 l) RR.o (Nat.le_trans LK.o zv));have ET:Hid (text (Rc.k1 l)=Rc.k2 l):=rfl;have ETV:Hid (txt (textV (Rc.k1 l))=Rc.t2 l):=rfl;have LK2:Hid ((Rc.k2 l).l.length<=1000):=Nat.le_trans (jsa _) LK.o;unfold ji0 at CT;rw[ET.o,ETV.o]at CT;obtain⟨kd,hkd⟩:∃kd,kd=(Rc.v1 l).getD 0 0:=zx;obtain⟨x1,hx1⟩:∃x,x=(Rc.v1 l).getD 1 0:=zx;obtain⟨x2,hx2⟩:∃x,x=(Rc.v1 l).getD 2 0:=zx;obtain⟨x3,hx3⟩:∃x,x=(Rc.v1 l).getD 3 0:=zx;obtain⟨x4,hx4⟩:∃x,x=(Rc.v1 l).getD 4 0:=zx;have EDEC:Hid (Rc.dec l=⟨kd,x1,x2,x3,x4,Rc.t2 l,Rc.s3 l⟩):=by rw[hkd,hx1,hx2,hx3,hx4];rfl
   have EK3:Hid (Rc.k3 l=if kd=3 then list (Rc.k2 l)else Rc.k2 l):=by rw[hkd];rfl
   have ES3:Hid (Rc.s3 l=if kd=3 then(if(listV (Rc.k2 l)).length=12 then Spc.of (nI (listV (Rc.k2 l)))else Spc.zero)else Spc.zero):=by rw[hkd];rfl
   have EPT:Rc.pt (Rc.v1 l)=⟨kd,x1,x2,x3,x4,⟨#[]⟩,Spc.zero⟩:=by rw[hkd,hx1,hx2,hx3,hx4];rfl
   rw[EPT]at RA;clear hkd hx1 hx2 hx3 hx4 EPT;generalize Rc.t2 l=tt at*;go_upto_region 9 with(go_at_call 94;refine CT.o.mono ?_;rintro e w5 ⟨rfl,hr5,hg5⟩;have RR5:=zh hr5;have RA5:=zh (jd0 RA.o hg5 HR.o.1);have RX5:=zh (jd0 RX.o hg5 HR.o.2.1);have B5:=zh (B1.o.grown hg5 B1.o.size (fun i hi=>by injection hi with hi;have:=HR.o;omega));clear hr5 hg5;obtain⟨c0,c1,c2,c3,c4,c5,c6,c7,c8,c9,c10,c11,c12,c13,c14,c15,c16,c17,clt⟩:=RA5.o.cs;have hfz:=jsh RA5.o 5)
   clear c0 c1 c2 c3 c4 c5 c6 c7 c8 c9 c10 c11 c12 c13 c14 c15 c16 c17 clt hfz;have RR6:=zh (jbx RR5.o RA5.o (fun e=>HR.o.1 e.symm) 5 (.string tt));have RA6:=zh (jcr RA5.o ⟨kd,x1,x2,x3,x4,tt,Spc.zero⟩ 5 (.string tt) rfl);have RX6:=zh (jcs RX5.o HG.o.2.2 5 (.string tt));have B6:=zh (B5.o.setCell (p:=⟨g,5,none⟩) HG.o.2.1 (.string tt));clear RR5 RA5 RX5 B5 RR RA RX B1 CT LK ET ETV EK1 EV1;generalize w5.setCell ⟨g,5,none⟩ (.string tt)=w6 at*;obtain⟨c0,c1,c2,c3,c4,c5,c6,c7,c8,c9,c10,c11,c12,c13,c14,c15,c16,c17,clt⟩:=RA6.o.cs;simp only at c0;go_upto_if 24 with fail
   clear c0 c1 c2 c3 c4 c5 c6 c7 c8 c9 c10 c11 c12 c13 c14 c15 c16 c17 clt;go_cut []from 24 to 32 (fun wx=>RcAt wx g (Rc.dec l)/\RcAt wx gr Rc.none_/\Rdr wx rd (Rc.k3 l)/\zF W wx)
   case first=>
    by_cases hk:kd=3
    ·have hke:(kd==3)=true:=by rw[beq_iff_eq];exact hk
     rw[if_pos hk]at EK3 ES3;clear hk;have CLS:=zh (jsg w6 rd (Rc.k2 l) RR6.o (Nat.le_trans LK2.o zv));have L64:=zh (Rc.listV_len (Rc.k2 l));unfold jf9 at CLS;rw[<-EK3.o]at CLS;have EMK:Hid (mkS (nI (listV (Rc.k2 l)))=Rc.s3 l):=by
      show _=_;rw[ES3.o];unfold mkS;rw[jcl]
     have CM:=zh (fun W A c h=>jvf (nI (listV (Rc.k2 l))) A (listV (Rc.k2 l)).length c W h (by have:=L64.o;omega));rw[EMK.o]at CM;generalize Rc.s3 l=sp at*;obtain⟨pv,pd,pu,pn,pg,pa,pb,pc,pe,pw,px,pk⟩:=sp;unfold APos Spc.val Spc.cells at CM;simp only at CM;generalize mkE (nI (listV (Rc.k2 l)))=me at*
     go_wp2_with(first
      |(go_at_call 96;refine CLS.o.mono ?_;rintro e w7 ⟨A7,k7,rfl,hs7,hr7,hg7⟩;have S7:=zh hs7;have RR7:=zh hr7;have R7:=zh (jd0 RA6.o hg7 HR.o.1);have RX7:=zh (jd0 RX6.o hg7 HR.o.2.1);have B7:=zh (B6.o.grown hg7 B6.o.size (fun i hi=>by injection hi with hi;have:=HR.o;omega));clear hs7 hr7 hg7)
      |(go_at_call 95;refine(CM.o _ _ _ S7.o).mono ?_;rintro e w8 ⟨rfl,hb8⟩;have RR7:=zh (RR7.o.below hb8);have R7:=zh (R7.o.on hb8);have RX7:=zh (RX7.o.on hb8);have B7:=zh (B7.o.trans (hb8.mono B7.o.size));clear hb8;have hz:=fun i=>jsh R7.o i;obtain⟨c0,c1,c2,c3,c4,c5,c6,c7,c8,c9,c10,c11,c12,c13,c14,c15,c16,c17,clt⟩:=R7.o.cs))
     have RR7:=zh (jbx RR7.o R7.o (by have:=HR.o;omega) 6 (.int .i64 pv));have R7:=zh (jcr R7.o ⟨kd,x1,x2,x3,x4,tt,⟨pv,0,0,0,0,0,0,0,0,0,0,0⟩⟩ 6 (.int .i64 pv) rfl);have RX7:=zh (jcs RX7.o (g:=g) (by have:=HG.o;omega) 6 (.int .i64 pv));have B7:=zh (B7.o.setCell (p:=⟨g,6,none⟩) HG.o.2.1 (.int .i64 pv));have RR7:=zh (jbx RR7.o R7.o (by have:=HR.o;omega) 7 (.int .i64 pd));have R7:=zh (jcr R7.o ⟨kd,x1,x2,x3,x4,tt,⟨pv,pd,0,0,0,0,0,0,0,0,0,0⟩⟩ 7 (.int .i64 pd) rfl);have RX7:=zh (jcs RX7.o (g:=g) (by have:=HG.o;omega) 7 (.int .i64 pd));have B7:=zh (B7.o.setCell (p:=⟨g,7,none⟩) HG.o.2.1 (.int .i64 pd));have RR7:=zh (jbx RR7.o R7.o (by have:=HR.o;omega) 8 (.int .i64 pu));have R7:=zh (jcr R7.o ⟨kd,x1,x2,x3,x4,tt,⟨pv,pd,pu,0,0,0,0,0,0,0,0,0⟩⟩ 8 (.int .i64 pu) rfl);have RX7:=zh (jcs RX7.o (g:=g) (by have:=HG.o;omega) 8 (.int .i64 pu));have B7:=zh (B7.o.setCell (p:=⟨g,8,none⟩) HG.o.2.1 (.int .i64 pu));have RR7:=zh (jbx RR7.o R7.o (by have:=HR.o;omega) 9 (.int .i64 pn));have R7:=zh (jcr R7.o ⟨kd,x1,x2,x3,x4,tt,⟨pv,pd,pu,pn,0,0,0,0,0,0,0,0⟩⟩ 9 (.int .i64 pn) rfl);have RX7:=zh (jcs RX7.o (g:=g) (by have:=HG.o;omega) 9 (.int .i64 pn));have B7:=zh (B7.o.setCell (p:=⟨g,9,none⟩) HG.o.2.1 (.int .i64 pn));have RR7:=zh (jbx RR7.o R7.o (by have:=HR.o;omega) 10 (.int .i64 pg));have R7:=zh (jcr R7.o ⟨kd,x1,x2,x3,x4,tt,⟨pv,pd,pu,pn,pg,0,0,0,0,0,0,0⟩⟩ 10 (.int .i64 pg) rfl);have RX7:=zh (jcs RX7.o (g:=g) (by have:=HG.o;omega) 10 (.int .i64 pg));have B7:=zh (B7.o.setCell (p:=⟨g,10,none⟩) HG.o.2.1 (.int .i64 pg));have RR7:=zh (jbx RR7.o R7.o (by have:=HR.o;omega) 11 (.int .i64 pa));have R7:=zh (jcr R7.o ⟨kd,x1,x2,x3,x4,tt,⟨pv,pd,pu,pn,pg,pa,0,0,0,0,0,0⟩⟩ 11 (.int .i64 pa) rfl);have RX7:=zh (jcs RX7.o (g:=g) (by have:=HG.o;omega) 11 (.int .i64 pa));have B7:=zh (B7.o.setCell (p:=⟨g,11,none⟩) HG.o.2.1 (.int .i64 pa));have RR7:=zh (jbx RR7.o R7.o (by have:=HR.o;omega) 12 (.int .i64 pb));have R7:=zh (jcr R7.o ⟨kd,x1,x2,x3,x4,tt,⟨pv,pd,pu,pn,pg,pa,pb,0,0,0,0,0⟩⟩ 12 (.int .i64 pb) rfl);have RX7:=zh (jcs RX7.o (g:=g) (by have:=HG.o;omega) 12 (.int .i64 pb));have B7:=zh (B7.o.setCell (p:=⟨g,12,none⟩) HG.o.2.1 (.int .i64 pb));have RR7:=zh (jbx RR7.o R7.o (by have:=HR.o;omega) 13 (.int .i64 pc));have R7:=zh (jcr R7.o ⟨kd,x1,x2,x3,x4,tt,⟨pv,pd,pu,pn,pg,pa,pb,pc,0,0,0,0⟩⟩ 13 (.int .i64 pc) rfl);have RX7:=zh (jcs RX7.o (g:=g) (by have:=HG.o;omega) 13 (.int .i64 pc));have B7:=zh (B7.o.setCell (p:=⟨g,13,none⟩) HG.o.2.1 (.int .i64 pc));have RR7:=zh (jbx RR7.o R7.o (by have:=HR.o;omega) 14 (.int .i64 pe));have R7:=zh (jcr R7.o ⟨kd,x1,x2,x3,x4,tt,⟨pv,pd,pu,pn,pg,pa,pb,pc,pe,0,0,0⟩⟩ 14 (.int .i64 pe) rfl);have RX7:=zh (jcs RX7.o (g:=g) (by have:=HG.o;omega) 14 (.int .i64 pe));have B7:=zh (B7.o.setCell (p:=⟨g,14,none⟩) HG.o.2.1 (.int .i64 pe));have RR7:=zh (jbx RR7.o R7.o (by have:=HR.o;omega) 15 (.int .i64 pw));have R7:=zh (jcr R7.o ⟨kd,x1,x2,x3,x4,tt,⟨pv,pd,pu,pn,pg,pa,pb,pc,pe,pw,0,0⟩⟩ 15 (.int .i64 pw) rfl);have RX7:=zh (jcs RX7.o (g:=g) (by have:=HG.o;omega) 15 (.int .i64 pw));have B7:=zh (B7.o.setCell (p:=⟨g,15,none⟩) HG.o.2.1 (.int .i64 pw));have RR7:=zh (jbx RR7.o R7.o (by have:=HR.o;omega) 16 (.int .i64 px));have R7:=zh (jcr R7.o ⟨kd,x1,x2,x3,x4,tt,⟨pv,pd,pu,pn,pg,pa,pb,pc,pe,pw,px,0⟩⟩ 16 (.int .i64 px) rfl);have RX7:=zh (jcs RX7.o (g:=g) (by have:=HG.o;omega) 16 (.int .i64 px));have B7:=zh (B7.o.setCell (p:=⟨g,16,none⟩) HG.o.2.1 (.int .i64 px));have RR7:=zh (jbx RR7.o R7.o (by have:=HR.o;omega) 17 (.int .i64 pk));have R7:=zh (jcr R7.o ⟨kd,x1,x2,x3,x4,tt,⟨pv,pd,pu,pn,pg,pa,pb,pc,pe,pw,px,pk⟩⟩ 17 (.int .i64 pk) rfl);have RX7:=zh (jcs RX7.o (g:=g) (by have:=HG.o;omega) 17 (.int .i64 pk));have B7:=zh (B7.o.setCell (p:=⟨g,17,none⟩) HG.o.2.1 (.int .i64 pk));go_meet
     case rel=>exact⟨by rw[EDEC.o];exact R7.o,RX7.o,RR7.o,B7.o⟩
    ·have hke:(kd==3)=false:=by rw[zq];exact hk
     rw[if_neg hk]at EK3 ES3;clear hk;go_wp2;go_meet
     case rel=>exact⟨by rw[EDEC.o,ES3.o];exact RA6.o,RX6.o,by rw[EK3.o];exact RR6.o,B6.o⟩
   case rest=>
    obtain⟨hra,hrx,hrr,hbr⟩:=hcut;clear RA6 RX6 RR6 B6 EK3 ES3 EDEC LK2;have RA:=zh hra;have RX:=zh hrx;have B1:=zh hbr;have CE:=zh (end_any wc rd (Rc.k3 l) hrr);have CRT:=zh (fun W=>jfj (Rc.dec l) (Rc.dec_in l) W);clear hra hrx hrr hbr;by_cases hee:endE (Rc.k3 l)=0
    ·rw[hee]at CE
     cases hr:Rc.right (Rc.dec l)with
     |true=>
      rw[hr]at CRT;have RDV:Hid (Rc.rdV l=Rc.dec l/\Rc.rdE l=0):=Rc.rd_yes (Rc.whole_of HB.o hee hr);clear hee hr
      go_wp2_with(first
       |(go_at_call 97;refine CE.o.mono ?_;rintro e w8 ⟨rfl,rfl⟩)
       |((with_reducible show zL 36);refine jbs (by rfl) 56 (.tmp 4) rfl g rfl 56 _ (0,0) _ RA.o.row jag rfl (jak (Rc.dec l)) ?_)
       |(go_at_call 98;refine(CRT.o _).mono ?_;rintro e w9 ⟨rfl,hb9⟩;have RA9:=zh (RA.o.on hb9);have RX9:=zh (RX.o.on hb9);have B9:=zh (B1.o.trans (hb9.mono B1.o.size));clear hb9)
       |((with_reducible show zL 41);refine wpList_load_row rfl 56 (.tmp 4) rfl g rfl 56 _ (0,0) _ RA9.o.row jag rfl (jak (Rc.dec l)) ?_)
       |((with_reducible show zW);refine jaa rfl (.tmp 2) (.tmp 41) rfl gr (Rc.dec l) _ rfl rfl RX9.o ?_))
      exact bodyPost_ret (jfk Tryz.results51 _ _ gr (Rc.dec l) rfl ⟨setRow_heap _ gr _ _ _ _ RX9.o.row⟩) rfl ⟨by rw[RDV.o.1,RDV.o.2];rfl,below_setRow B9.o HG.o.1 _⟩
     |false=>
      rw[hr]at CRT;have RDV:Hid (Rc.rdV l=Rc.none_/\Rc.rdE l=2):=Rc.rd_no (fun h=>by rw[h.1]at hr;cases hr);clear hee hr
      go_wp2_with(first
       |(go_at_call 97;refine CE.o.mono ?_;rintro e w8 ⟨rfl,rfl⟩)
       |((with_reducible show zL 36);refine jbs (by rfl) 56 (.tmp 4) rfl g rfl 56 _ (0,0) _ RA.o.row jag rfl (jak (Rc.dec l)) ?_)
       |(go_at_call 98;refine(CRT.o _).mono ?_;rintro e w9 ⟨rfl,hb9⟩;have RX9:=zh (RX.o.on hb9);have B9:=zh (B1.o.trans (hb9.mono B1.o.size));clear hb9)
       |((with_reducible show zW);refine jaa rfl (.tmp 2) (.tmp 40) rfl gr Rc.none_ _ rfl rfl RX9.o ?_))
      exact bodyPost_ret (jfk Tryz.results51 _ _ gr Rc.none_ rfl ⟨setRow_heap _ gr _ _ _ _ RX9.o.row⟩) rfl ⟨by rw[RDV.o.1,RDV.o.2];rfl,below_setRow B9.o HG.o.1 _⟩
    ·have hne:(endE (Rc.k3 l) !=0)=true:=by rw[bne_iff_ne];exact hee
     have RDV:Hid (Rc.rdV l=Rc.none_/\Rc.rdE l=2):=Rc.rd_no (fun h=>hee (Rc.whole_end h));clear hee CRT;generalize endE (Rc.k3 l)=ee at*
     go_wp2_with(first
      |(go_at_call 97;refine CE.o.mono ?_;rintro e w8 ⟨rfl,rfl⟩)
      |((with_reducible show zW);refine jaa rfl (.tmp 2) (.tmp 40) rfl gr Rc.none_ _ rfl rfl RX.o ?_))
     exact bodyPost_ret (jfk Tryz.results51 _ _ gr Rc.none_ rfl ⟨setRow_heap _ gr _ _ _ _ RX.o.row⟩) rfl ⟨by rw[RDV.o.1,RDV.o.2];rfl,below_setRow B1.o HG.o.1 _⟩
