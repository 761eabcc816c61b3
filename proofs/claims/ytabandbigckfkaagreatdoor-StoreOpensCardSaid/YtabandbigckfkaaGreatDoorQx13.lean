import Derived.Test.YtabandbigckfkaaGreatDoorQx12
import Derived.Lib.ConvBytes
import Derived.Laws.BitsAllLaws
import Derived.Deep.OwnRows
set_option maxHeartbeats 6400000
set_option maxRecDepth 100000
set_option linter.unusedSimpArgs false
set_option linter.unusedVariables false
namespace Go.Proofs.YtabandbigckfkaaGreatDoor
open Go.RowKit
namespace Dk
structure St where
 room:Nat
 safe:Nat
 l:List Nat
def fits(n:Int):Nat:=(max 0 (min n 1048576)).toNat
def new(n:Int):St:=⟨fits n,0,[]⟩
def Okay(d:St):Prop:=d.safe≤d.l.length∧d.l.length≤d.room∧d.room≤1048576
def goes(d:St)(b:List Nat):Prop:=d.l.length+b.length≤d.room
instance (d:St) (b:List Nat):Decidable (goes d b):=by unfold goes;infer_instance
def write(d:St)(b:List Nat):St:=if goes d b then⟨d.room,d.safe,d.l++b⟩else d
def writeE(d:St)(b:List Nat):Int:=if goes d b then 0 else 4
def opens(d:St):Nat:=d.l.length -d.safe
def sync(d:St):St:=⟨d.room,d.l.length,d.l⟩
def leave(d:St)(n:Nat):St:=⟨d.room,n,d.l.take n⟩
def kept(d:St)(keep:Int):Nat:=(max 0 (min keep (opens d:Nat))).toNat
def crash(d:St)(keep:Int):St:=leave d (d.safe+kept d keep)
def lost(d:St)(keep:Int):Nat:=opens d -kept d keep
def within(d:St)(n:Int):Prop:=0≤n∧n≤(d.l.length:Nat)
instance (d:St) (n:Int):Decidable (within d n):=by unfold within;infer_instance
def cut(d:St)(n:Int):St:=if within d n then leave d n.toNat else d
def cutE(d:St)(n:Int):Int:=if within d n then 0 else 1
def swap(d:St)(b:List Nat):St:=if b.length≤d.room then⟨d.room,b.length,b⟩else d
def swapE(d:St)(b:List Nat):Int:=if b.length≤d.room then 0 else 4
theorem fits_le(n:Int):fits n≤1048576:=by unfold fits;omega
theorem Okay.new(n:Int):Okay (new n):=⟨Nat.le_refl _,Nat.zero_le _,fits_le n⟩
theorem Okay.write{d:St}(h:Okay d)(b:List Nat):Okay (write d b):=by
 unfold Dk.write;split
 ·rename_i h1
  unfold goes at h1;exact⟨by simp;have:=h.1;omega,by simp;omega,h.2.2⟩
 ·exact h
theorem Okay.sync{d:St}(h:Okay d):Okay (sync d):=⟨Nat.le_refl _,h.2⟩
theorem Okay.leave{d:St}(h:Okay d){n:Nat}(hn:n≤d.l.length):Okay (leave d n):=by
 have h1:=h.2.1;refine⟨?_,?_,h.2.2⟩
 ·show n≤(d.l.take n).length;rw[List.length_take];omega
 ·show(d.l.take n).length≤d.room;rw[List.length_take];omega
theorem kept_le(d:St)(keep:Int):kept d keep≤opens d:=by unfold kept;omega
theorem Okay.swap{d:St}(h:Okay d)(b:List Nat):Okay (swap d b):=by
 unfold Dk.swap;split
 ·rename_i h1;exact⟨Nat.le_refl _,h1,h.2.2⟩
 ·exact h
end Dk
structure Dsk(w:World)(r:Nat)(v:Value)(d:Dk.St):Prop where
 blk:w.heap[r]? =some (.cells #[.int .i64 (d.room:Nat),.int .i64 (d.safe:Nat),v] 173 (0,0))
 own:OwnC w v d.l
 off:v.ownBlock≠some r
 okay:Dk.Okay d
def foot(r:Nat)(v:Value)(i:Nat):Prop:=i=r∨v.ownBlock=some i
theorem Dsk.lt{w:World}{r:Nat}{v:Value}{d:Dk.St}(h:Dsk w r v d):∀i,foot r v i→i<w.heap.size:=by
 rintro i (rfl|hi)
 ·exact(Array.getElem?_eq_some_iff.1 h.blk).1
 ·exact h.own.lt _ hi
theorem Dsk.keep{w w':World}{r:Nat}{v:Value}{d:Dk.St}(h:Dsk w r v d)(hk:∀i,foot r v i→w'.heap[i]? =w.heap[i]?):Dsk w' r v d:=
 ⟨(hk r (.inl rfl)).trans h.blk,h.own.keep fun k hk2=>hk k (.inr hk2),h.off,h.okay⟩
theorem Dsk.below{w w':World}{r:Nat}{v:Value}{d:Dk.St}(h:Dsk w r v d)(hb:Below w.heap.size w w'):Dsk w' r v d:=h.keep fun i hi=>hb.block i (h.lt i hi)
theorem Dsk.facts{w:World}{r:Nat}{v:Value}{d:Dk.St}(h:Dsk w r v d):
  w.cell? ⟨r,0,none⟩=some (.int .i64 (d.room:Nat))∧w.cell? ⟨r,1,none⟩=some (.int .i64 (d.safe:Nat))∧w.cell? ⟨r,2,none⟩=some v∧w.frozen? ⟨r,1,none⟩=false∧w.frozen? ⟨r,2,none⟩=false:=
 ⟨by rw[cell_of_row w r 0 _ _ _ h.blk];rfl,by rw[cell_of_row w r 1 _ _ _ h.blk];rfl,by rw[cell_of_row w r 2 _ _ _ h.blk];rfl,frozen_of_row w r 1 _ _ h.blk,frozen_of_row w r 2 _ _ h.blk⟩
def jcv(w:World)(r:Nat)(v:Value)(d:Dk.St)(x:Value)(e:Ending)(w':World):Prop:=
 e= .returned x∧∃v',Dsk w' r v' d∧(∀i,v'.ownBlock=some i→v.ownBlock=some i∨w.heap.size≤i)∧Kept (foot r v) w w'
def jdu(w:World)(x:Value)(e:Ending)(w':World):Prop:=e= .returned x∧Below w.heap.size w w'
theorem jio(w:World)(r:Nat)(v:Value)(d:Dk.St)(h:Dsk w r v d):
  Calls Tryz.prog 178 #[.pointer (some ⟨r,0,none⟩)] w (jdu w (.int .i64 (Dk.opens d:Nat))):=by
 obtain⟨c0,c1,c2,f1,f2⟩:=h.facts;obtain⟨A,c,rfl,hs⟩:=h.own.sl;have hok:=h.okay;have HO:Hid (Dk.opens d=d.l.length -d.safe):=rfl;unfold Dk.Okay at hok;clear h hs c0 f1 f2;generalize d.l.length=n at*;generalize d.safe=s at*;go_enter Tryz.func178,Tryz.ntmps178;go_wp2_with fail;go_quiet (fail);go_wp2_with fail;go_ret;exact⟨jbh (by rw[HO.out];omega),Below.drewN (Below.refl _ _) _⟩
theorem jip(w:World)(r:Nat)(v:Value)(d:Dk.St)(h:Dsk w r v d):
  Calls Tryz.prog 146 #[.pointer (some ⟨r,0,none⟩)] w (jdu w (.int .i64 (d.room -d.l.length:Nat))):=by
 obtain⟨c0,c1,c2,f1,f2⟩:=h.facts;obtain⟨A,c,rfl,hs⟩:=h.own.sl;have hok:=h.okay;unfold Dk.Okay at hok;clear h hs c1 f1 f2;generalize d.l.length=n at*;generalize d.room=s at*;go_enter Tryz.func146,Tryz.ntmps146;go_wp2_with fail;go_quiet (fail);go_wp2_with fail;go_ret;exact⟨jbh (by omega),Below.drewN (Below.refl _ _) _⟩
theorem jsf(w:World)(r:Nat)(v:Value)(d:Dk.St)(h:Dsk w r v d):
  Calls Tryz.prog 107 #[.pointer (some ⟨r,0,none⟩)] w (jdu w (.int .i64 (d.l.length:Nat))):=by
 obtain⟨c0,c1,c2,f1,f2⟩:=h.facts;obtain⟨A,c,rfl,hs⟩:=h.own.sl;clear h hs c1 c0 f1 f2;generalize d.l.length=n at*;go_enter Tryz.func107,Tryz.ntmps107;go_wp2_with fail;go_ret;exact⟨rfl,Below.refl _ _⟩
theorem jo3(w:World)(r:Nat)(v:Value)(d:Dk.St)(h:Dsk w r v d):
  Calls Tryz.prog 113 #[.pointer (some ⟨r,0,none⟩)] w (jdu w (.int .i64 (d.safe:Nat))):=by
 obtain⟨c0,c1,c2,f1,f2⟩:=h.facts;clear h c2 c0 f1 f2;generalize d.safe=n at*;go_enter Tryz.func113,Tryz.ntmps113;go_wp2_with fail;go_ret;exact⟨rfl,Below.refl _ _⟩
theorem jsg(w:World)(r:Nat)(v:Value)(d:Dk.St)(h:Dsk w r v d):
  Calls Tryz.prog 59 #[.pointer (some ⟨r,0,none⟩)] w (jef d.l w):=by
 obtain⟨c0,c1,c2,f1,f2⟩:=h.facts;obtain⟨A,c,rfl,hs⟩:=h.own.sl;have hok:=h.okay;unfold Dk.Okay at hok;have HC:=zh (jcz d.l.length c A d.l w hs (by omega));clear h hs c1 c0 f1 f2 hok;go_enter Tryz.func59,Tryz.ntmps59;go_wp2_with fail
 (with_reducible refine HC.out.mono ?_)
 rintro e w1 ⟨A1,c1,rfl,ho,hb⟩;have O:=zh ho;clear ho;have B:=zh hb;clear hb;go_wp2_with fail;go_ret;exact⟨A1,c1,rfl,O.out,B.out⟩
def NPost(n:Int)(w:World)(e:Ending)(w':World):Prop:=∃r,e= .returned (.pointer (some ⟨r,0,none⟩))∧w.heap.size≤r∧Dsk w' r (.slice none 0 0) (Dk.new n)∧Below w.heap.size w w'
theorem jkb(n lo hi:Int)(w:World):
  Calls Tryz.prog 184 #[.int .i64 n,.int .i64 lo,.int .i64 hi] w fun e w'=>e= .returned (.int .i64 (max lo (min n hi)))∧w=w':=by
 go_enter Tryz.func184,Tryz.ntmps184;go_wp2_with fail
 all_goals (go_ret;exact⟨jbh (by omega),rfl⟩)
theorem jsh(n:Int)(w:World):
  Calls Tryz.prog 110 #[.int .i64 n] w fun e w'=>e= .returned (.int .i64 (Dk.fits n:Nat))∧w=w':=by
 have HF:Hid ((Dk.fits n:Nat)=max 0 (min n 1048576)):=by show _=_;unfold Dk.fits;omega
 go_enter Tryz.func110,Tryz.ntmps110;go_wp2_with fail;refine(jkb n 0 1048576 w).mono ?_;rintro e w' ⟨rfl,rfl⟩;go_wp2_with fail;go_ret;exact⟨jbh HF.out.symm,rfl⟩
theorem jsi(n:Int)(w:World):Calls Tryz.prog 56 #[.int .i64 n] w (NPost n w):=by
 have HO:=zh (Dk.Okay.new n);have HC:=zh (jsh n w);have HF:Hid (Dk.new n=⟨Dk.fits n,0,[]⟩):=rfl;generalize Dk.fits n=m at*;go_enter Tryz.func56,Tryz.ntmps56;go_wp2_with fail;refine HC.out.mono ?_;rintro e w' ⟨rfl,rfl⟩;go_wp2_with fail;go_ret;refine⟨w.heap.size,rfl,Nat.le_refl _,⟨?_,?_,by simp[Value.ownBlock],HO.out⟩,(Below.refl _ _).alloc (Nat.le_refl _) _⟩
 ·rw[HF.out];exact heap_alloc_new w _
 ·rw[HF.out];exact OwnC.none_ _
theorem jgo(w:World)(r o:Nat)(u:Value)(k:Nat)(h:k≠r):(w.setCell ⟨r,o,none⟩ u).heap[k]? =w.heap[k]? :=Below.heap_setCell _ _ _ _ (by simpa using h)
theorem OwnC.set{w:World}{v:Value}{l:List Nat}{r o:Nat}{u:Value}(h:OwnC w v l)(hr:v.ownBlock≠some r):OwnC (w.setCell ⟨r,o,none⟩ u) v l:=
 h.keep fun k hk=>jgo _ _ _ _ _ (fun e=>hr (by rw[hk,e]))
theorem jgy(w:World)(r n:Nat)(v:Value)(d:Dk.St)(h:Dsk w r v d)(hn:n≤d.l.length):
  Calls Tryz.prog 179 #[.pointer (some ⟨r,0,none⟩),.int .i64 (n:Nat)] w (jcv w r v (Dk.leave d n) (.tuple #[])):=by
 obtain⟨c0,c1,c2,f1,f2⟩:=h.facts;obtain⟨A,c,rfl,hs⟩:=h.own.sl;have hok:=h.okay;have hcap:=hs.cap;have hmax:=hs.max;unfold maxLen at hmax;have HOC:=h.own.cut n hn;have HR:Hid ((Value.slice A n n).ownBlock≠some r):=by
  have:=h.off
  cases A<;>exact this
 have D1:=heap_setCell_same w r 2 _ _ (.slice A n n) h.blk;have D2:=heap_setCell_same (w.setCell ⟨r,2,none⟩ (.slice A n n)) r 1 _ _ (.int .i64 (n:Nat)) D1;have HD:Hid (Dsk ((w.setCell ⟨r,2,none⟩ (.slice A n n)).setCell ⟨r,1,none⟩ (.int .i64 (n:Nat))) r (.slice A n n) (Dk.leave d n)):=
  ⟨by rw[D2];rfl,(HOC.set HR.out).set HR.out,HR.out,hok.leave hn⟩
 clear D1 D2 HOC h hs;generalize d.l.length=m at*;go_enter Tryz.func179,Tryz.ntmps179;go_wp2_with fail;go_end0;refine⟨rfl,_,HD.out,fun i hi=> .inl ?_,Kept.of_grown (row:=some r) (jaf (jab _ _ _ _) (jab _ _ _ _)) (fun k hk=> .inl (by injection hk with hk;exact hk.symm))⟩
 cases A<;>exact hi
theorem jcv.of_safe{w:World}{r:Nat}{v:Value}{d d':Dk.St}(h:Dsk w r v d)(x:Value)(n:Nat)(e:d'=⟨d.room,n,d.l⟩)(hok:Dk.Okay d'):jcv w r v d' x (.returned x) (w.setCell ⟨r,1,none⟩ (.int .i64 (n:Nat))):=by
 subst e;have D1:=heap_setCell_same w r 1 _ _ (.int .i64 (n:Nat)) h.blk;exact⟨rfl,v,⟨by rw[D1];rfl,h.own.set h.off,h.off,hok⟩,fun i hi=> .inl hi,Kept.of_grown (row:=some r) (jab _ _ _ _) (fun k hk=> .inl (by injection hk with hk;exact hk.symm))⟩
theorem jcv.before{w w1:World}{r:Nat}{v:Value}{d:Dk.St}{x:Value}{e:Ending}{w':World}(h:jcv w1 r v d x e w')(hb:Below w.heap.size w w1):jcv w r v d x e w':=by
 obtain⟨rfl,v',h1,h2,h3⟩:=h;refine⟨rfl,v',h1,fun i hi=> ?_,(Kept.of_below hb).trans h3 fun i _ h=>h⟩;rcases h2 i hi with h4|h4
 ·exact .inl h4
 ·exact .inr (Nat.le_trans hb.size h4)
theorem jcv.behind{w w1 w':World}{r:Nat}{v:Value}{d:Dk.St}{x y:Value}{e:Ending}(h:jcv w r v d x e w1)(hb:Below w1.heap.size w1 w'):jcv w r v d y (.returned y) w':=by
 obtain⟨rfl,v',h1,h2,h3⟩:=h;exact⟨rfl,v',h1.below hb,h2,h3.trans (Kept.of_below hb) fun i _ h=>h⟩
theorem jo4(w:World)(r:Nat)(v:Value)(d:Dk.St)(h:Dsk w r v d):
  Calls Tryz.prog 114 #[.pointer (some ⟨r,0,none⟩)] w (jcv w r v (Dk.sync d) (.int .i64 (Dk.opens d:Nat))):=by
 have HD:=zh h;have HC:=zh (jio w r v d h);have HS:Hid (Dk.sync d=⟨d.room,d.l.length,d.l⟩):=rfl;have HK:=zh h.okay.sync;clear h;generalize Dk.opens d=m at*;go_enter Tryz.func114,Tryz.ntmps114;go_wp2_with fail;refine HC.out.mono ?_;rintro e w1 ⟨rfl,hb⟩;have B:=zh hb;have D1:=HD.out.below hb;have HD1:=zh D1;obtain⟨c0,c1,c2,f1,f2⟩:=D1.facts;obtain⟨A,c,rfl,hs⟩:=D1.own.sl;clear hb D1 hs;go_wp2_with fail;go_ret;exact(jcv.of_safe HD1.out (.int .i64 (m:Nat)) d.l.length HS.out HK.out).before B.out
theorem jmv(w:World)(r:Nat)(keep:Int)(v:Value)(d:Dk.St)(h:Dsk w r v d)(hk: -9223372036854775808≤keep∧keep≤9223372036854775807):
  Calls Tryz.prog 106 #[.pointer (some ⟨r,0,none⟩),.int .i64 keep] w (jcv w r v (Dk.crash d keep) (.int .i64 (Dk.lost d keep:Nat))):=by
 have HD:=zh h;have HC:=zh (fun W h=>jio W r v d h);have HS:Hid (Dk.crash d keep=Dk.leave d (d.safe+Dk.kept d keep)):=rfl;have HL:Hid (Dk.lost d keep=Dk.opens d -Dk.kept d keep):=rfl;have hok:=h.okay;have hm:max 0 (min keep (Dk.opens d:Nat))=(Dk.kept d keep:Nat):=by unfold Dk.kept;omega
 have hle:=Dk.kept_le d keep;have hop:Dk.opens d=d.l.length -d.safe:=rfl;unfold Dk.Okay at hok;have HV:=zh (fun W h (hn:d.safe+Dk.kept d keep≤d.l.length)=>jgy W r (d.safe+Dk.kept d keep) v d h hn);have HN:Hid (d.safe+Dk.kept d keep≤d.l.length):=by show _≤_;omega
 have hb1:Dk.opens d≤1048576∧d.safe+Dk.kept d keep≤1048576:=by omega
 clear h hop hok;generalize Dk.opens d=m at*;generalize Dk.kept d keep=k at*;go_enter Tryz.func106,Tryz.ntmps106;go_wp2_with fail;refine(HC.out _ HD.out).mono ?_;rintro e w1 ⟨rfl,hb⟩;have B:=zh hb;have HD1:=zh (HD.out.below hb);clear hb;go_wp2_with fail;refine(HC.out _ HD1.out).mono ?_;rintro e w2 ⟨rfl,hb⟩;have B2:=zh (B.out.trans (hb.mono B.out.size));have HD2:=zh (HD1.out.below hb);obtain⟨c0,c1,c2,f1,f2⟩:=HD2.out.facts;clear hb c0 c2 f1 f2;go_wp2_with fail;have e1:(d.safe:Int)+(k:Int)=((d.safe+k:Nat):Int):=by omega
 rw[e1]
 (with_reducible refine(HV.out _ HD2.out HN.out).mono ?_)
 rintro e w3 hp;obtain rfl:=hp.1;have P:=zh (hp.before B2.out);clear hp e1;go_wp2_with fail;go_ret;rw[HS.out,HL.out];have e2:(m:Int) -(k:Int)=((m -k:Nat):Int):=by omega
 rw[e2];exact P.out.behind (Below.refl _ _)
theorem jsj(w:World)(r:Nat)(n:Int)(v:Value)(d:Dk.St)(h:Dsk w r v d)(hn: -9223372036854775808≤n∧n≤9223372036854775807):
  Calls Tryz.prog 181 #[.pointer (some ⟨r,0,none⟩),.int .i64 n] w (jcv w r v (Dk.cut d n) (.int .i64 (Dk.cutE d n))):=by
 have HD:=zh h;obtain⟨c0,c1,c2,f1,f2⟩:=h.facts;obtain⟨A,c,rfl,hs⟩:=h.own.sl;have HQ:Hid (Dk.cut d n=if Dk.within d n then Dk.leave d n.toNat else d):=rfl;have HE:Hid (Dk.cutE d n=if Dk.within d n then 0 else 1):=rfl;by_cases hw:Dk.within d n
 ·rw[if_pos hw]at HQ HE
  unfold Dk.within at hw;obtain⟨k,rfl⟩:∃k:Nat,n=(k:Int):=⟨n.toNat,by omega⟩;have HV:=zh (jgy w r k (.slice A d.l.length c) d h (by omega));rw[Int.toNat_natCast]at HQ;clear h hs c0 c1 f1 f2;generalize d.l.length=m at*;have t1:¬(m:Int)<k:=by omega
  go_enter Tryz.func181,Tryz.ntmps181;go_wp2_with fail;refine HV.out.mono ?_;rintro e w1 hp;obtain rfl:=hp.1;have P:=zh hp;clear hp;go_wp2_with fail;go_ret;rw[HQ.out,HE.out];exact P.out.behind (Below.refl _ _)
 ·rw[if_neg hw]at HQ HE
  unfold Dk.within at hw;clear h hs c0 c1 f1 f2;generalize d.l.length=m at*;have hor:n<0∨(m:Int)<n:=by omega
  rcases hor with hor|hor
  all_goals
   go_enter Tryz.func181,Tryz.ntmps181;go_wp2_with fail;go_ret;rw[HQ.out,HE.out];exact⟨rfl,_,HD.out,fun i hi=> .inl hi,Kept.refl _ _⟩
theorem jmw(w:World)(r n c:Nat)(A:Option Addr)(b:List Nat)(v:Value)(d:Dk.St)(h:Dsk w r v d)(hs:Sl w A n c b):
  Calls Tryz.prog 105 #[.pointer (some ⟨r,0,none⟩),.slice A n c] w (jcv w r v (Dk.write d b) (.int .i64 (Dk.writeE d b))):=by
 have HD:=zh h;have HS:=zh hs;have HC:=zh (jip w r v d h);have HQ:Hid (Dk.write d b=if Dk.goes d b then⟨d.room,d.safe,d.l++b⟩else d):=rfl;have HE:Hid (Dk.writeE d b=if Dk.goes d b then 0 else 4):=rfl;have hlen:=hs.len;have hok:=h.okay;unfold Dk.Okay at hok;by_cases hw:Dk.goes d b
 ·have HW:=zh (h.okay.write b)
  rw[if_pos hw]at HQ HE;unfold Dk.goes at hw;have t1:n≤d.room -d.l.length:=by omega
  have HL:Hid (d.l.length+b.length≤140737488355328):=by show _≤_;omega
  clear h hs hlen hok hw;generalize d.room -d.l.length=q at*;go_enter Tryz.func105,Tryz.ntmps105;go_wp2_with fail;refine HC.out.mono ?_;rintro e w1 ⟨rfl,hb⟩;have B:=zh hb;have D1:=HD.out.below hb;have HD1:=zh D1;have S1:=zh (HS.out.on hb);obtain⟨c0,c1,c2,f1,f2⟩:=D1.facts;clear hb D1 c0 c1 f1;go_wp2_with(at_builtin;refine jeu rfl (.tmp 16) (.tmp 17) rfl v d.l rfl HD1.out.own n c A b rfl S1.out HL.out ?_;intro v2 w2 hown2 hor2 hg2;obtain⟨A2,cc2,rfl,_⟩:=hown2.sl;have hown3:OwnC w2 (.slice A2 (d.l.length+b.length) cc2) (d.l++b):=(by rw[←List.length_append];exact hown2);have O2:=zh hown3;have R2:=zh hor2;have G2:=zh hg2;have hb2:w2.heap[r]? =w1.heap[r]? :=hg2.block r (HD1.out.lt r (.inl rfl)) (fun e=>HD1.out.off e.symm);have X2:=zh (hb2.trans HD1.out.blk);have f22:w2.frozen? ⟨r,2,none⟩=false:=frozen_of_row w2 r 2 _ _ X2.out;have c22:w2.cell? ⟨r,2,none⟩=some v:=by{rw[cell_of_row w2 r 2 _ _ _ X2.out];rfl};clear hown2 hown3 hor2 hg2 hb2);go_ret;have D3:=heap_setCell_same w2 r 2 _ _ (.slice A2 (d.l.length+b.length) cc2) X2.out;have hoff:(Value.slice A2 (d.l.length+b.length) cc2).ownBlock≠some r:=by
   have e0:(Value.slice A2 (d.l.length+b.length) cc2).ownBlock=(Value.slice A2 (d.l++b).length cc2).ownBlock:=by rw[List.length_append]
   rw[e0];rcases R2.out with e|⟨k,e,hk⟩
   ·rw[e];exact HD1.out.off
   ·rw[e];intro e2;injection e2 with e2;have:=HD1.out.lt r (.inl rfl);omega
  rw[HQ.out,HE.out];rw[HQ.out]at HW;refine jcv.before ⟨rfl,_,⟨by rw[D3];rfl,O2.out.set hoff,hoff,HW.out⟩,fun i hi=> ?_,?_⟩ B.out
  ·rw[←List.length_append]at hi
   rcases R2.out with e|⟨k,e,hk⟩
   ·exact .inl (by rw[←e];exact hi)
   ·rw[e]at hi;injection hi with hi;exact .inr (by omega)
  ·refine(Kept.of_grown (F:=foot r v) G2.out fun k hk=> .inr hk).trans (G:=foot r v) (Kept.of_grown (row:=some r) (jab _ _ _ _) fun k hk=> .inl (by injection hk with hk;exact hk.symm)) fun i _ h=>h
 ·rw[if_neg hw]at HQ HE
  unfold Dk.goes at hw;have t1:d.room -d.l.length<n:=by omega
  clear h hs hlen hok hw;generalize d.room -d.l.length=q at*;go_enter Tryz.func105,Tryz.ntmps105;go_wp2_with fail;refine HC.out.mono ?_;rintro e w1 ⟨rfl,hb⟩;have B:=zh hb;have HD1:=zh (HD.out.below hb);clear hb;go_wp2_with fail;go_ret;rw[HQ.out,HE.out];exact⟨rfl,v,HD1.out,fun i hi=> .inl hi,Kept.of_below B.out⟩
theorem jiq(w:World)(r n c:Nat)(A:Option Addr)(b:List Nat)(v:Value)(d:Dk.St)(h:Dsk w r v d)(hs:Sl w A n c b):
  Calls Tryz.prog 57 #[.pointer (some ⟨r,0,none⟩),.slice A n c] w (jcv w r v (Dk.swap d b) (.int .i64 (Dk.swapE d b))):=by
 have HD:=zh h;obtain⟨c0,c1,c2,f1,f2⟩:=h.facts;have HQ:Hid (Dk.swap d b=if b.length≤d.room then⟨d.room,b.length,b⟩else d):=rfl;have HE:Hid (Dk.swapE d b=if b.length≤d.room then 0 else 4):=rfl;have hlen:=hs.len;by_cases hw:b.length≤d.room
 ·have HW:=zh (h.okay.swap b)
  have hok:=h.okay;unfold Dk.Okay at hok;have HC:=zh (jcz n c A b w hs (by omega));clear hok;rw[if_pos hw]at HQ HE;have t1:n≤d.room:=by omega
  have HL:=zh hlen;clear h hs hlen hw c1 c2 f1 f2;generalize hrm:d.room=q at*;have RM:=zh hrm;clear hrm;go_enter Tryz.func57,Tryz.ntmps57;go_wp2_with fail
  (with_reducible refine HC.out.mono ?_)
  rintro e w1 ⟨A1,cc,rfl,ho,hb⟩;have B:=zh hb;have O:=zh ho;have D1:=zh (HD.out.below hb);obtain⟨c0,c1,c2,f1,f2⟩:=D1.out.facts;have X2:=heap_setCell_same w1 r 2 _ _ (.slice A1 b.length cc) D1.out.blk;have HX2:=zh X2;have c12:(w1.setCell ⟨r,2,none⟩ (.slice A1 b.length cc)).cell? ⟨r,1,none⟩=some (.int .i64 (d.safe:Nat)):=by rw[cell_of_row _ r 1 _ _ _ X2];rfl
  have f12:(w1.setCell ⟨r,2,none⟩ (.slice A1 b.length cc)).frozen? ⟨r,1,none⟩=false:=frozen_of_row _ r 1 _ _ X2;clear hb ho X2 c0 c1 f1;go_wp2_with fail;go_ret;have D3:=heap_setCell_same (w1.setCell ⟨r,2,none⟩ (.slice A1 b.length cc)) r 1 _ _ (.int .i64 (b.length:Nat)) HX2.out;have hfr:∀k,(Value.slice A1 b.length cc).ownBlock=some k→w.heap.size≤k:=by
   intro k hk;rcases A1 with _|a
   ·cases hk
   ·injection hk with hk;subst hk;exact O.out.from_ a rfl
  have hoff:(Value.slice A1 b.length cc).ownBlock≠some r:=fun e=>by have:=hfr r e;have:=HD.out.lt r (.inl rfl);omega
  rw[HQ.out,HE.out];rw[HQ.out]at HW;rw[HL.out];refine⟨rfl,_,⟨by rw[D3,←RM.out];rfl,((OwnC.of_own O.out).set hoff).set hoff,hoff,HW.out⟩,fun i hi=> .inr (hfr i hi),?_⟩;refine(Kept.of_below (F:=foot r v) B.out).trans (G:=foot r v) (Kept.of_grown (row:=some r) (jaf (jab _ _ _ _) (jab _ _ _ _)) fun k hk=> .inl (by injection hk with hk;exact hk.symm)) fun i _ h=>h
 ·rw[if_neg hw]at HQ HE
  have t1:d.room<n:=by omega
  clear h hs hlen hw c1 c2 f1 f2;generalize d.room=q at*;go_enter Tryz.func57,Tryz.ntmps57;go_wp2_with fail;go_ret;rw[HQ.out,HE.out];exact⟨rfl,v,HD.out,fun i hi=> .inl hi,Kept.refl _ _⟩
def DskB(w:World)(B r:Nat)(d:Dk.St):Prop:=∃v,Dsk w r v d∧∀i,foot r v i→B≤i
def jsk(w0:World)(r:Nat)(d:Dk.St)(x:Value)(e:Ending)(w':World):Prop:=e= .returned x∧DskB w' w0.heap.size r d∧Below w0.heap.size w0 w'
theorem jsk.mk{w0 W:World}{r:Nat}{v:Value}{d:Dk.St}{x:Value}{e:Ending}{w':World}(h:jcv W r v d x e w')(hb:Below w0.heap.size w0 W)(hv:∀i,foot r v i→w0.heap.size≤i):jsk w0 r d x e w':=by
 obtain⟨rfl,v',h1,h2,h3⟩:=h;refine⟨rfl,⟨v',h1,?_⟩,hb.trans (h3.below hb.size hv)⟩;rintro i (rfl|hi)
 ·exact hv _ (.inl rfl)
 ·rcases h2 i hi with h4|h4
  ·exact hv i (.inr h4)
  ·exact Nat.le_trans hb.size h4
section
variable{w0:World}(W:World){r:Nat}{d:Dk.St}(hb:Below w0.heap.size w0 W)(hd:DskB W w0.heap.size r d)
include hb hd
theorem jlc{n c:Nat}{A:Option Addr}{b:List Nat}(hs:Sl W A n c b):Calls Tryz.prog 57 #[.pointer (some ⟨r,0,none⟩),.slice A n c] W (jsk w0 r (Dk.swap d b) (.int .i64 (Dk.swapE d b))):=by
 obtain⟨v,h1,h2⟩:=hd;exact(jiq W r n c A b v d h1 hs).mono fun _ _ h=>jsk.mk h hb h2
end
def NewPost(w0:World)(d:Dk.St)(W:World)(e:Ending)(w':World):Prop:=∃r,e= .returned (.pointer (some ⟨r,0,none⟩))∧W.heap.size≤r∧DskB w' W.heap.size r d∧Below w0.heap.size w0 w'∧Below W.heap.size W w'
theorem jo5{w0:World}(W:World)(n:Int)(hb:Below w0.heap.size w0 W):Calls Tryz.prog 56 #[.int .i64 n] W (NewPost w0 (Dk.new n) W):=by
 refine(jsi n W).mono ?_;rintro e w' ⟨r,rfl,h1,h2,h3⟩;refine⟨r,rfl,h1,⟨_,h2,?_⟩,hb.trans (h3.mono hb.size),h3⟩;rintro i (rfl|hi)
 ·exact h1
 ·cases hi
theorem jdv(W:World)(o:Obj):Below W.heap.size W (W.alloc o):=(Below.refl _ _).alloc (Nat.le_refl _) o
theorem jhi{W:World}{g:Nat}{x y z:Value}{t:TypeId}(h:W.heap[g]? =some (.cells #[x,y,z] t (0,0))):W.cell? ⟨g,0,none⟩=some x∧W.cell? ⟨g,1,none⟩=some y∧W.cell? ⟨g,2,none⟩=some z:=
 ⟨by rw[cell_of_row W g 0 _ _ _ h];rfl,by rw[cell_of_row W g 1 _ _ _ h];rfl,by rw[cell_of_row W g 2 _ _ _ h];rfl⟩
theorem jde{W:World}{g:Nat}{x y z:Value}{t:TypeId}(h:W.heap[g]? =some (.cells #[x,y,z] t (0,0))):
  W.cell? ⟨g,0,none⟩=some x∧W.cell? ⟨g,1,none⟩=some y∧W.cell? ⟨g,2,none⟩=some z∧W.frozen? ⟨g,0,none⟩=false∧W.frozen? ⟨g,1,none⟩=false∧W.frozen? ⟨g,2,none⟩=false:=
 ⟨by rw[cell_of_row W g 0 _ _ _ h];rfl,by rw[cell_of_row W g 1 _ _ _ h];rfl,by rw[cell_of_row W g 2 _ _ _ h];rfl,frozen_of_row W g 0 _ _ h,frozen_of_row W g 1 _ _ h,frozen_of_row W g 2 _ _ h⟩
theorem jf1{W:World}{g:Nat}{x y z:Value}{t:TypeId}(h:W.heap[g]? =some (.cells #[x,y,z] t (0,0)))(x' y' z':Value):
  (((W.setCell ⟨g,0,none⟩ x').setCell ⟨g,1,none⟩ y').setCell ⟨g,2,none⟩ z').heap[g]? =some (.cells #[x',y',z'] t (0,0)):=by
 have h1:=heap_setCell_same W g 0 _ _ x' h;have h2:=heap_setCell_same _ g 1 _ _ y' h1;exact heap_setCell_same _ g 2 _ _ z' h2
theorem jev(W:World)(g:Nat)(x y z:Value):W.grownBy (((W.setCell ⟨g,0,none⟩ x).setCell ⟨g,1,none⟩ y).setCell ⟨g,2,none⟩ z) (some g):=
 jaf (jaf (jab _ _ _ _) (jab _ _ _ _)) (jab _ _ _ _)
theorem jld(l:List Nat)(hb:∀x∈l,x<256)(w:World)(hl:l.length≤1000000000):
  ∃A c W',(convert 9 58 (.string (txt l))).run Tryz.prog w= .ok (.slice A l.length c) W'∧Sl W' A l.length c l∧Below w.heap.size w W':=by
 have hz:=jbj l;have h:=Lib.run_convert_string_bytes (P:=Tryz.prog) w 9 58 5 (txt l) Tryz.underlying9 Tryz.underlying58 Tryz.underlying5;rw[hz]at h;have hs:w.heap.size<(Lib.bytesWorld w 5 (txt l)).heap.size:=by rw[Lib.bytesWorld_size];omega
 refine⟨some ⟨w.heap.size,0,none⟩,_,_,h,⟨⟨hb,fun _=>⟨w.heap.size,0,rfl,hs,fun j hj=> ?_⟩⟩,rfl,?_,?_,fun h=>by cases h⟩,rfl,rfl,rfl,Nat.le_of_lt hs,fun k hk=>Lib.bytesWorld_at_old _ _ _ _ hk⟩
 ·have hjt:j<(txt l).data.toList.length:=by rw[jbi,List.length_map];exact hj
  have e:((txt l).data.toList[j]'hjt).toNat=l.getD j 0:=by
   have h1:(txt l).data.toList[j]? =(l.map fun x=>UInt8.ofNat x)[j]? :=by rw[jbi]
   rw[List.getElem?_eq_getElem hjt,List.getElem?_map,List.getElem?_eq_getElem hj,Option.map_some]at h1;injection h1 with h1
   rw[h1,jag hj];have:=hb _ (List.getElem_mem hj);simp;omega
  rw[Nat.zero_add,Lib.bytesWorld_cell _ _ _ _ (by rw[hz];exact hj)];rw[←e,jag hjt]
 ·have:=grownCap_ge w (txt l).size 0 5;rw[hz]at this;exact this
 ·have:=grownCap_le_maxLen w (txt l).size 0 5 (by rw[hz];unfold maxLen;omega);rw[hz]at this;exact this
def jle(R:Int)(A B:ByteArray)(x:Int)(w:World)(e:Ending)(w':World):Prop:=e= .returned (.tuple #[.agg #[.int .i64 R,.string A,.string B],.int .i64 x])∧Below w.heap.size w w'
theorem jby(w:World)(o1 o2:Obj):Below w.heap.size w ((w.alloc o1).alloc o2):=((Below.refl _ _).alloc (Nat.le_refl _) o1).alloc (by simp) o2
theorem jlf(n:Int)(w:World):
  Calls Tryz.prog 46 #[.int .i64 n] w fun e w'=>e= .returned (.agg #[.int .i64 (Dk.fits n:Nat),.string ⟨#[]⟩,.string ⟨#[]⟩])∧Below w.heap.size w w':=by
 have hf:min (max n 0) 1048576=(Dk.fits n:Nat):=by unfold Dk.fits;omega
 generalize Dk.fits n=q at*;go_enter Tryz.func46,Tryz.ntmps46;go_wp2_with fail;exact bodyPost_ret (v:= .agg #[.int .i64 (q:Nat),.string ⟨#[]⟩,.string ⟨#[]⟩]) (by simp[results,Tryz.results46,go_sem]) rfl ⟨rfl,(Below.refl _ _).alloc (Nat.le_refl _) _⟩
theorem rWrite_any(R:Int)(A B L:ByteArray)(w:World)(h:A.size+B.size≤1000000000)(hL:L.size≤1000000000):
  Calls Tryz.prog 98 #[.agg #[.int .i64 R,.string A,.string B],.string L] w (jle R A (if(A.size:Int)+B.size+L.size≤R then B++L else B) (if(A.size:Int)+B.size+L.size≤R then 0 else 4) w):=by
 by_cases hg:(A.size:Int)+B.size+L.size≤R
 ·rw[if_pos hg,if_pos hg]
  go_enter Tryz.func98,Tryz.ntmps98;go_wp2_with fail;exact bodyPost_ret (v:= .tuple #[.agg #[.int .i64 R,.string A,.string (B++L)],.int .i64 0]) (by simp[results,Tryz.results98,go_sem]) rfl ⟨rfl,jby _ _ _⟩
 ·rw[if_neg hg,if_neg hg]
  go_enter Tryz.func98,Tryz.ntmps98;go_wp2_with fail;exact bodyPost_ret (v:= .tuple #[.agg #[.int .i64 R,.string A,.string B],.int .i64 4]) (by simp[results,Tryz.results98,go_sem]) rfl ⟨rfl,jby _ _ _⟩
theorem jo6(R:Int)(A B L:ByteArray)(w:World):
  Calls Tryz.prog 69 #[.agg #[.int .i64 R,.string A,.string B],.string L] w (jle R (if(L.size:Int)≤R then L else A) (if(L.size:Int)≤R then⟨#[]⟩else B) (if(L.size:Int)≤R then 0 else 4) w):=by
 by_cases hg:(L.size:Int)≤R
 ·rw[if_pos hg,if_pos hg,if_pos hg]
  go_enter Tryz.func69,Tryz.ntmps69;go_wp2_with fail;exact bodyPost_ret (v:= .tuple #[.agg #[.int .i64 R,.string L,.string ⟨#[]⟩],.int .i64 0]) (by simp[results,Tryz.results69,go_sem]) rfl ⟨rfl,jby _ _ _⟩
 ·rw[if_neg hg,if_neg hg,if_neg hg]
  go_enter Tryz.func69,Tryz.ntmps69;go_wp2_with fail;exact bodyPost_ret (v:= .tuple #[.agg #[.int .i64 R,.string A,.string B],.int .i64 4]) (by simp[results,Tryz.results69,go_sem]) rfl ⟨rfl,jby _ _ _⟩
theorem jsl(R n:Int)(A B:ByteArray)(w:World)(h:A.size+B.size≤1000000000):
  Calls Tryz.prog 168 #[.agg #[.int .i64 R,.string A,.string B],.int .i64 n] w
   (jle R (if 0≤n∧n≤(A.size+B.size:Nat)then(A++B).extract 0 n.toNat else A) (if 0≤n∧n≤(A.size+B.size:Nat)then⟨#[]⟩else B) (if 0≤n∧n≤(A.size+B.size:Nat)then 0 else 1) w):=by
 have hz:(A++B).size=A.size+B.size:=by simp
 by_cases hg:0≤n∧n≤(A.size+B.size:Nat)
 ·rw[if_pos hg,if_pos hg,if_pos hg]
  obtain⟨h0,h1⟩:=hg;have h3:n≤(A.size:Int)+(B.size:Int):=by omega
  have h2:¬(A.size:Int)+(B.size:Int)<n:=by omega
  have h4:¬n<0:=by omega
  clear hz h1;go_enter Tryz.func168,Tryz.ntmps168;go_wp2_with fail;exact bodyPost_ret (v:= .tuple #[.agg #[.int .i64 R,.string ((A++B).extract 0 n.toNat),.string ⟨#[]⟩],.int .i64 0]) (by simp[results,Tryz.results168,go_sem]) rfl ⟨rfl,jby _ _ _⟩
 ·rw[if_neg hg,if_neg hg,if_neg hg]
  have hor:n<0∨((A.size+B.size:Nat):Int)<n:=by omega
  clear hg;rcases hor with h1|h1
  all_goals
   go_enter Tryz.func168,Tryz.ntmps168;go_wp2_with fail;exact bodyPost_ret (v:= .tuple #[.agg #[.int .i64 R,.string A,.string B],.int .i64 1]) (by simp[results,Tryz.results168,go_sem]) rfl ⟨rfl,jby _ _ _⟩
def tA(d:Dk.St):ByteArray:=txt (d.l.take d.safe)
def tB(d:Dk.St):ByteArray:=txt (d.l.drop d.safe)
theorem jo7{d:Dk.St}(h:Dk.Okay d):(tA d).size=d.safe:=by unfold tA;rw[jbj,List.length_take];have:=h.1;omega
theorem jo8(d:Dk.St):(tB d).size=Dk.opens d:=by unfold tB;rw[jbj,List.length_drop];rfl
theorem tAB(d:Dk.St):tA d++tB d=txt d.l:=by unfold tA tB;rw[jl6,List.take_append_drop]
theorem jkc{d:Dk.St}(h:Dk.Okay d):(tA d).size+(tB d).size=d.l.length∧(tA d).size+(tB d).size≤1000000000:=by
 rw[jo7 h,jo8];have h1:=h.1;have h2:=h.2.1;have h3:=h.2.2;unfold Dk.opens;omega
def jf2(d:Dk.St)(x:Int)(w:World)(e:Ending)(w':World):Prop:=e= .returned (.tuple #[.agg #[.int .i64 (d.room:Nat),.string (tA d),.string (tB d)],.int .i64 x])∧Below w.heap.size w w'
theorem jf2.of{d:Dk.St}{R:Int}{A B:ByteArray}{x y:Int}{w:World}{e:Ending}{w':World}(h:jle R A B x w e w')(h1:R=(d.room:Nat))(h2:A=tA d)(h3:B=tB d)(h4:x=y):jf2 d y w e w':=by
 subst h1 h2 h3 h4;exact h
theorem jlg(R:Nat)(l:List Nat)(n:Nat)(hn:n=l.length):tA ⟨R,n,l⟩=txt l∧tB ⟨R,n,l⟩=⟨#[]⟩:=by
 subst hn;unfold tA tB;simp only;rw[List.take_length,List.drop_length];exact⟨rfl,rfl⟩
theorem qSwap{d:Dk.St}(b:List Nat)(w:World):
  Calls Tryz.prog 69 #[.agg #[.int .i64 (d.room:Nat),.string (tA d),.string (tB d)],.string (txt b)] w (jf2 (Dk.swap d b) (Dk.swapE d b) w):=by
 have hs:(txt b).size=b.length:=jbj b;refine(jo6 (d.room:Nat) (tA d) (tB d) (txt b) w).mono fun e w' hp=> ?_;by_cases hg:b.length≤d.room
 ·have hc:((txt b).size:Int)≤(d.room:Nat):=by omega
  rw[if_pos hc,if_pos hc,if_pos hc]at hp;unfold Dk.swap Dk.swapE;rw[if_pos hg,if_pos hg];obtain⟨t1,t2⟩:=jlg d.room b b.length rfl;exact jf2.of hp rfl t1.symm t2.symm rfl
 ·have hc:¬((txt b).size:Int)≤(d.room:Nat):=by omega
  rw[if_neg hc,if_neg hc,if_neg hc]at hp;unfold Dk.swap Dk.swapE;rw[if_neg hg,if_neg hg];exact hp
theorem qCut{d:Dk.St}(h:Dk.Okay d)(n:Int)(w:World):
  Calls Tryz.prog 168 #[.agg #[.int .i64 (d.room:Nat),.string (tA d),.string (tB d)],.int .i64 n] w (jf2 (Dk.cut d n) (Dk.cutE d n) w):=by
 obtain⟨h1,h2⟩:=jkc h;refine(jsl (d.room:Nat) n (tA d) (tB d) w h2).mono fun e w' hp=> ?_;rw[h1]at hp;by_cases hg:Dk.within d n
 ·have hc:=hg
  unfold Dk.within at hc;rw[if_pos hc,if_pos hc,if_pos hc]at hp;unfold Dk.cut Dk.cutE;rw[if_pos hg,if_pos hg];obtain⟨t1,t2⟩:=jlg d.room (d.l.take n.toNat) n.toNat (by rw[List.length_take];omega);exact jf2.of hp rfl (by rw[tAB,txt_cut];exact t1.symm) t2.symm rfl
 ·have hc:=hg
  unfold Dk.within at hc;rw[if_neg hc,if_neg hc,if_neg hc]at hp;unfold Dk.cut Dk.cutE;rw[if_neg hg,if_neg hg];exact hp
end Go.Proofs.YtabandbigckfkaaGreatDoor
namespace Go.Proofs.YtabandbigckfkaaGreatDoor.Crc
def mv1(w:Nat):Nat:=if w%2=1 then(w/2)^^^3988292384 else w/2
def mvN:Nat→Nat→Nat
 |0,w=>w
 |k+1,w=>mv1 (mvN k w)
def mv8(w:Nat):Nat:=mvN 8 w
def step(w x:Nat):Nat:=mv8 (w^^^x)
def crc(w:Nat)(l:List Nat):Nat:=l.foldl step w
def more(s:Nat)(l:List Nat):Nat:=4294967295 -crc (4294967295 -s) l
def sum(l:List Nat):Nat:=more 0 l
theorem xor_lt{a b:Nat}(ha:a<4294967296)(hb:b<4294967296):a^^^b<4294967296:=
 Nat.xor_lt_two_pow (n:=32) ha hb
theorem mv1_lt{w:Nat}(h:w<4294967296):mv1 w<4294967296:=by
 unfold mv1;split
 ·exact xor_lt (by omega) (by omega)
 ·omega
theorem mvN_lt{w:Nat}(h:w<4294967296)(k:Nat):mvN k w<4294967296:=by
 induction k with
 |zero=>exact h
 |succ k ih=>exact mv1_lt ih
theorem mv8_lt{w:Nat}(h:w<4294967296):mv8 w<4294967296:=mvN_lt h 8
theorem xor_mod_two(a b:Nat):(a^^^b)%2=(a%2+b%2)%2:=by
 have h:(a^^^b).testBit 0=(a.testBit 0^^b.testBit 0):=Nat.testBit_xor ..;simp only[Nat.testBit_zero]at h;have ha:=Nat.mod_two_eq_zero_or_one a;have hb:=Nat.mod_two_eq_zero_or_one b;have hc:=Nat.mod_two_eq_zero_or_one (a^^^b);rcases ha with ha|ha<;>rcases hb with hb|hb<;>rcases hc with hc|hc<;>simp_all
theorem xor_div_two(a b:Nat):(a^^^b)/2=(a/2)^^^(b/2):=by
 apply Nat.eq_of_testBit_eq;intro i;rw[Nat.testBit_xor,←Nat.testBit_succ,←Nat.testBit_succ,←Nat.testBit_succ,Nat.testBit_xor]
theorem mv1_xor(a b:Nat):mv1 (a^^^b)=mv1 a^^^mv1 b:=by
 unfold mv1;rw[xor_mod_two,xor_div_two];rcases Nat.mod_two_eq_zero_or_one a with ha|ha<;>rcases Nat.mod_two_eq_zero_or_one b with hb|hb<;>rw[ha,hb]<;>simp
 ·rw[Nat.xor_assoc]
 ·rw[Nat.xor_assoc,Nat.xor_assoc,Nat.xor_comm (b/2)]
 ·rw[Nat.xor_comm (b/2),Nat.xor_assoc,←Nat.xor_assoc 3988292384,Nat.xor_self,Nat.zero_xor]
theorem mvN_xor(k a b:Nat):mvN k (a^^^b)=mvN k a^^^mvN k b:=by
 induction k with
 |zero=>rfl
 |succ k ih=>show mv1 (mvN k (a^^^b))=_;rw[ih,mv1_xor];rfl
theorem mv8_xor(a b:Nat):mv8 (a^^^b)=mv8 a^^^mv8 b:=mvN_xor 8 a b
theorem mvN_up(k h:Nat):mvN k (2^k*h)=h:=by
 induction k generalizing h with
 |zero=>simp[mvN]
 |succ k ih=>
  show mv1 (mvN k (2^(k+1)*h))=h;rw[Nat.pow_succ,Nat.mul_assoc,ih];unfold mv1;rw[if_neg (by omega)];omega
theorem split256(w:Nat):w=(256*(w/256))^^^(w%256):=by
 apply Nat.eq_of_testBit_eq;intro i;rw[Nat.testBit_xor,show(256:Nat)=2^8 from rfl,Nat.testBit_two_pow_mul,Nat.testBit_mod_two_pow,Nat.testBit_div_two_pow];by_cases h:8≤i
 ·simp[h,Nat.not_lt.2 h]
 ·simp[h,Nat.lt_of_not_le h]
theorem step_eq(w x:Nat):step w x=(w/256)^^^mv8 ((w%256)^^^x):=by
 unfold step
 conv=>lhs;rw[split256 w]
 rw[Nat.xor_assoc,mv8_xor]
 congr 1
 exact mvN_up 8 (w/256)
theorem step_lt{w x:Nat}(hw:w<4294967296)(hx:x<256):step w x<4294967296:=mv8_lt (xor_lt hw (by omega))
theorem crc_lt{w:Nat}{l:List Nat}(hw:w<4294967296)(hl:∀x∈l,x<256):crc w l<4294967296:=by
 induction l generalizing w with
 |nil=>exact hw
 |cons x l ih=>exact ih (step_lt hw (hl x (by simp))) (fun y hy=>hl y (by simp[hy]))
theorem crc_append(w:Nat)(a b:List Nat):crc w (a++b)=crc (crc w a) b:=List.foldl_append ..
theorem more_lt(s:Nat)(l:List Nat):more s l<4294967296:=by unfold more;omega
theorem sum_lt(l:List Nat):sum l<4294967296:=more_lt 0 l
theorem more_nil{s:Nat}(hs:s<4294967296):more s []=s:=by show 4294967295 -(4294967295 -s)=s;omega
theorem eff_put:∀j,j<8→∀r,r<2^j→mv8 (2^j+r)=mv8 (2^j)^^^mv8 r:=by
 have h:∀j,j<8→∀r,r<2^j→2^j+r=2^j^^^r:=by decide+kernel
 intro j hj r hr;rw[h j hj r hr,mv8_xor]
theorem not_xor{a:Nat}(ha:a<4294967296):4294967295 -a=4294967295^^^a:=by
 have h:2^32 -(a+1)=(2^32 -1)^^^a:=by
  apply Nat.eq_of_testBit_eq;intro i;rw[Nat.testBit_two_pow_sub_succ (by omega),Nat.testBit_xor,Nat.testBit_two_pow_sub_one];by_cases hi:i<32
  ·simp[hi]
  ·have:a.testBit i=false:=Nat.testBit_lt_two_pow (Nat.lt_of_lt_of_le ha (Nat.pow_le_pow_right (by omega) (Nat.le_of_not_lt hi):2^32≤2^i))
   simp[hi,this]
 rw[show(4294967295:Nat)=2^32 -1 from rfl,←h];omega
end Go.Proofs.YtabandbigckfkaaGreatDoor.Crc
namespace Go.Proofs.YtabandbigckfkaaGreatDoor
open Go.RowKit
theorem odd_of(m:Nat)(hm:m<4294967296):bits .and .u32 (m:Int) 1=((m%2:Nat):Int):=by
 rw[show(1:Int)=((1:Nat):Int)from rfl,u32_and_nat m 1 hm (by omega),nat_mask1]
theorem mv1_odd(m:Nat)(hm:m<4294967296)(h:(bits .and .u32 (m:Int) 1==1)=true):bits .xor .u32 ((m:Int)/2) 3988292384=((Crc.mv1 m:Nat):Int):=by
 rw[odd_of m hm,beq_iff_eq]at h;unfold Crc.mv1;rw[if_pos (by omega),show(m:Int)/2=((m/2:Nat):Int)from rfl,show(3988292384:Int)=((3988292384:Nat):Int)from rfl,u32_xor_nat _ _ (by omega) (by omega)]
theorem jsm(m:Nat)(hm:m<4294967296)(h:(bits .and .u32 (m:Int) 1==1)=false):(m:Int)/2=((Crc.mv1 m:Nat):Int):=by
 rw[odd_of m hm,beq_eq_false_iff_ne]at h;unfold Crc.mv1;rw[if_neg (by omega)];rfl
theorem jir(n:Nat)(w:World)(hn:n<4294967296):
  Calls Tryz.prog 328 #[.int .u32 n] w fun e w'=>e= .returned (.int .u32 (Crc.mv8 n))∧w=w':=by
 go_enter Tryz.func328,Tryz.ntmps328;go_wp2;go_loop [0,4] (fun v i=>∃k:Nat,k≤8∧i= .int .i64 k∧v= .int .u32 (Crc.mvN k n)) (fun _ i=>8 -(intOf i).toNat)
 case atStart=>exact⟨0,by omega,rfl,rfl⟩
 case round=>
  obtain⟨k,hk,rfl,rfl⟩:=hrel;have hm:=Crc.mvN_lt hn k;go_wp2
  ·have h1:(k:Int)<8:=by assumption
   have h2:(bits BinOp.and IntKind.u32 (↑(Crc.mvN k n)) 1==1)=true:=by assumption
   refine⟨⟨k+1,by omega,rfl,jfh ?_⟩,by simp[intOf];omega⟩;exact mv1_odd _ hm h2
  ·have h1:(k:Int)<8:=by assumption
   have h2:(bits BinOp.and IntKind.u32 (↑(Crc.mvN k n)) 1==1)=false:=by assumption
   refine⟨⟨k+1,by omega,rfl,jfh ?_⟩,by simp[intOf];omega⟩;exact jsm _ hm h2
  ·have h1:8≤(k:Int):=by assumption
   obtain rfl:k=8:=by omega
   go_ret;exact⟨rfl,rfl⟩
def zrow:Array Value:=Array.replicate 256 (.int .u32 0)
theorem jo9(i:Nat)(h:i<256):zrow[i]? =some (.int .u32 0):=by simp[zrow,h]
theorem jeg:zrow.size=256:=by simp[zrow]
def jgp(m i:Nat):Value:= .int .u32 (((if i<m then Crc.mv8 i else 0:Nat):Nat):Int)
def Pow(p:Nat):Prop:=∃j,j≤8∧p=2^j
theorem Pow.le{p:Nat}(h:Pow p):1≤p∧p≤256:=by
 obtain⟨j,hj,rfl⟩:=h;exact⟨Nat.pos_of_ne_zero (by simp),(Nat.pow_le_pow_right (by omega) hj:2^j≤2^8)⟩
theorem Pow.twice{p:Nat}(h:Pow p)(hp:p<256):Pow (p*2):=by
 obtain⟨j,hj,rfl⟩:=h;have:j≠8:=by rintro rfl;omega
 exact⟨j+1,by omega,by rw[Nat.pow_succ]⟩
theorem Pow.half{p:Nat}(h:Pow p)(hp:p<256):p≤128:=by have:=(h.twice hp).le;omega
theorem Pow.put{p r:Nat}(h:Pow p)(hp:p<256)(hr:r<p):Crc.mv8 (p+r)=Crc.mv8 p^^^Crc.mv8 r:=by
 obtain⟨j,hj,rfl⟩:=h;have:j≠8:=by rintro rfl;omega
 exact Crc.eff_put j (by omega) r hr
theorem Pow.one:Pow 1:=⟨0,by omega,rfl⟩
def jsn(c:Array Value):Prop:=c.size=256∧∀i,i<256→c[i]? =some (.int .u32 ((Crc.mv8 i:Nat):Int))
def EffPost(w:World)(e:Ending)(w':World):Prop:=∃c,e= .returned (.agg c)∧jsn c∧Below w.heap.size w w'
theorem jhj{m i:Nat}(h:i<m):jgp m i= .int .u32 ((Crc.mv8 i:Nat):Int):=by unfold jgp;rw[if_pos h]
theorem jso{w:World}{g m:Nat}{t:TypeId}{v:Value}(h:w.rowIs g t 256 (jgp m))(hv:v= .int .u32 ((Crc.mv8 m:Nat):Int)):(w.setCell ⟨g,m,none⟩ v).rowIs g t 256 (jgp (m+1)):=by
 refine(h.set m v).congr fun i _=> ?_;by_cases e:i=m
 ·subst e;rw[if_pos rfl,hv,jhj (by omega)]
 ·rw[if_neg e];unfold jgp
  by_cases h1:i<m
  ·rw[if_pos h1,if_pos (by omega)]
  ·rw[if_neg h1,if_neg (by omega)]
theorem eff_val{p r:Nat}(h:Pow p)(hp:p<256)(hr:r<p):Value.int .u32 (bits .xor .u32 ((Crc.mv8 p:Nat):Int) ((Crc.mv8 r:Nat):Int))= .int .u32 ((Crc.mv8 (p+r):Nat):Int):=by
 rw[u32_xor_nat _ _ (Crc.mv8_lt (by omega)) (Crc.mv8_lt (by omega)),h.put hp hr]
theorem jsp{w:World}{g:Nat}{t:TypeId}(h:w.rowIs g t 256 (jgp 256)):∃c,w.heap[g]? =some (.cells c t (0,0))∧jsn c:=by
 obtain⟨c,hc,hs,hi⟩:=h;exact⟨c,hc,hs,fun i h=>by rw[hi i h,jhj h]⟩
theorem jsn.one{c:Array Value}(h:jsn c):c.all (·.oneCell')=true:=by
 rw[Array.all_eq_true];intro i hi;have:=h.2 i (by have:=h.1;omega);rw[Array.getElem?_eq_getElem hi]at this;injection this with this
 rw[this];rfl
theorem jpa(w:World):(zeroValue 339).run Tryz.prog w= .ok (.agg zrow) w:=by kernel_rfl
theorem jf3(w:World):
  Calls Tryz.prog 306 #[] w (EffPost w):=by
 have hz:=jpa;go_enter Tryz.func306,Tryz.ntmps306;go_wp2_with fail;go_loopw [2] (fun b wr=>∃p:Nat,p≤256∧b= .int .i64 p∧Pow p∧wr.rowIs (w.heap.size+1) 339 256 (jgp p)∧wr.rowIs w.heap.size 339 256 (fun _=> .int .u32 0)∧Below w.heap.size w wr) (fun b _=>512 -(intOf b).toNat)
 case atStart=>
  have g0:=World.rowIs_alloc w zrow 339 (fun _=> .int .u32 0) (fun i hi=>jo9 i (by rw[jeg]at hi;exact hi));have g1:=World.rowIs_alloc (w.alloc (.cells zrow 339)) zrow 339 (jgp 1) (fun i hi=>by
   rw[jo9 i (by rw[jeg]at hi;exact hi)];unfold jgp;split
   ·rename_i h;obtain rfl:i=0:=by omega
    rfl
   ·rfl)
  rw[jeg]at g0 g1;exact⟨1,by omega,rfl,Pow.one,by simpa using g1,g0.alloc _,((Below.refl _ _).alloc (Nat.le_refl _) _).alloc (by simp) _⟩
 case round=>
  obtain⟨p,hp,rfl,hpow,hr1,hr0,hb⟩:=hrel;have hp1:=hpow.le.1;have H1:=zh hr1;clear hr1;have H0:=zh hr0;clear hr0;have HB:=zh hb;clear hb;have HP:=zh hpow;clear hpow hz;by_cases hlt:p<256
  ·have hh:p≤128:=HP.out.half hlt
   go_wp2_with fail;refine(jir p _ (by omega)).mono ?_;rintro e w1 ⟨rfl,rfl⟩;go_wp2_with fail;obtain⟨wo,rfl⟩:∃wo:World,wo=wr:=⟨_,rfl⟩;go_loopw [13] (fun k wr'=>∃r:Nat,r≤p∧k= .int .i64 r∧wr'.rowIs (w.heap.size+1) 339 256 (jgp (p+r))∧wr'.rowIs w.heap.size 339 256 (fun _=> .int .u32 0)∧Below w.heap.size w wr') (fun k _=>p -(intOf k).toNat)
   case atStart=>exact⟨0,by omega,rfl,H1.out,H0.out,HB.out⟩
   case round=>
    obtain⟨r,hr,rfl,hr1,hr0,hb⟩:=hrel;clear H1 H0 HB;by_cases hlt2:r<p
    ·have hc1:=hr1.cell (i:=r) (by omega)
     have hc2:=hr1.cell (i:=p+r) (by omega);have hf2:=hr1.frozen (p+r);rw[jhj (by omega)]at hc1;have H1:=zh hr1;clear hr1;have H0:=zh hr0;clear hr0;have HB:=zh hb;clear hb;go_wp2_with fail;refine⟨⟨r+1,by omega,rfl,jso H1.out (eff_val HP.out hlt hlt2),H0.out.setOther (by simp) _,HB.out.setCell (by simp) _⟩,by simp[intOf];omega⟩
    ·obtain rfl:r=p:=by omega
     have H1:=zh hr1;clear hr1;have H0:=zh hr0;clear hr0;have HB:=zh hb;clear hb;go_wp2_with fail;refine⟨⟨r*2,by omega,by go_num,HP.out.twice hlt,by rw[Nat.mul_two];exact H1.out,H0.out,HB.out⟩,by simp[intOf];omega⟩
  ·obtain rfl:p=256:=by omega
   obtain⟨c,hc,he⟩:=jsp H1.out;obtain⟨z,hz,hzs,_⟩:=H0.out;have hcs:(Tryz.prog.info? 339).map (·.size)=some c.size:=by rw[he.1];kernel_rfl
   have hu:Tryz.prog.underlying 339=some (.array 256 285):=by kernel_rfl
   have HC:=zh hc;clear hc;have HZ:=zh hz;clear hz;have HS:=zh hzs;clear hzs;have HE:=zh he;clear he;have HI:=zh hcs;clear hcs;have HU:=zh hu;clear hu;clear hlt hp hp1
   go_wp2_with(first
    |(refine wpList_load_row rfl 339 (.tmp 1) rfl (w.heap.size+1) rfl 339 c (0,0) _ HC.out HU.out rfl HI.out ?_)
    |(refine wpList_store_row rfl 339 (.tmp 0) (.tmp 26) rfl w.heap.size c rfl rfl 339 z HZ.out HI.out (HS.out.trans HE.out.1.symm) HE.out.one ?_))
   exact bodyPost_ret (results_cell_row rfl _ _ w.heap.size 339 c (0,0) _ rfl (setRow_heap wr _ z c 339 _ HZ.out) HU.out rfl HI.out) rfl ⟨c,rfl,HE.out,below_setRow HB.out (Nat.le_refl _) c⟩
theorem jpb(s:Nat)(hs:s<4294967296):bits .xor .u32 IntKind.u32.max (s:Int)=((4294967295 -s:Nat):Int):=by
 rw[show IntKind.u32.max=((4294967295:Nat):Int)from rfl,u32_xor_nat _ _ (by omega) hs,←Crc.not_xor hs]
theorem idx_u8(wd x:Nat)(hx:x<256):bits .xor .u8 ((wd:Int)%256) (x:Int)=(((wd%256)^^^x:Nat):Int):=by
 rw[show(wd:Int)%256=((wd%256:Nat):Int)from rfl,u8_xor_nat _ _ (by omega) hx]
theorem jsq(wd x:Nat)(hw:wd<4294967296)(hx:x<256):bits .xor .u32 ((wd:Int)/256) ((Crc.mv8 ((wd%256)^^^x):Nat):Int)=((Crc.step wd x:Nat):Int):=by
 have hi:(wd%256)^^^x<256:=Nat.xor_lt_two_pow (n:=8) (by omega) hx;rw[show(wd:Int)/256=((wd/256:Nat):Int)from rfl,u32_xor_nat _ _ (by omega) (Crc.mv8_lt (by omega)),Crc.step_eq]
theorem jlh(w:Nat)(l:List Nat)(k:Nat)(h:k<l.length):Crc.crc w (l.take (k+1))=Crc.step (Crc.crc w (l.take k)) (l.getD k 0):=by
 rw[jh2 l k h,Crc.crc_append];rfl
theorem jsr(s n c:Nat)(A:Option Addr)(l:List Nat)(w:World)(hs:s<4294967296)(hr:Rd w w.heap.size A l)(hn:n=l.length)(hl:l.length≤2147483647):
  Calls Tryz.prog 282 #[.int .u32 s,.slice A n c] w fun e w'=>e= .returned (.int .u32 ((Crc.more s l:Nat):Int))∧Below w.heap.size w w':=by
 by_cases h0:l=[]
 ·subst h0
  subst hn;go_enter Tryz.func282,Tryz.ntmps282;go_wp2_with fail;go_ret;exact⟨by rw[Crc.more_nil hs];rfl,Below.refl _ _⟩
 ·have hpos:0<l.length:=List.length_pos_iff.2 h0
  have hne:((n:Int)==0)=false:=by rw[beq_eq_false_iff_ne];omega
  have hz:=jpa;have HN:=zh hn;have hn1:n≤2147483647:=by omega
  have hn2:0<n:=by omega
  have HR:=zh hr;have H0:=zh h0;clear hr h0 hn hpos hl;go_enter Tryz.func282,Tryz.ntmps282;go_wp2_with fail;refine(jf3 _).mono ?_;rintro e w1 ⟨t,rfl,he,hb1⟩;have HE:=zh he;clear he;have HB:=zh hb1;clear hb1;have HI:Hid ((Tryz.prog.info? 339).map (·.size)=some t.size):=by rw[HE.out.1];exact(by kernel_rfl:(Tryz.prog.info? 339).map (·.size)=some 256)
  have HG:Hid ((w1.alloc (.cells zrow 339)).heap[w1.heap.size]? =some (.cells zrow 339 (0,0))):=heap_alloc_last w1 _;have HX:=zh (jpb s hs);go_wp2_with(refine wpList_store_row rfl 339 (.tmp 5) (.tmp 13) rfl w1.heap.size t rfl rfl 339 zrow HG.out HI.out (jeg.trans HE.out.1.symm) HE.out.one ?_;rw[World.setRow_alloc_new]);rw[HX.out];clear HG HI hz hne;have FR:Hid (Rd (w1.alloc (.cells t 339)) (w1.heap.size+1) A l):=by
   have:=HR.out.on (HB.out.alloc HB.out.size (.cells t 339));exact this.more (by simp)
  have FT:Hid (∀i,i<256→(w1.alloc (.cells t 339)).cell? ⟨w1.heap.size,i,none⟩=some (.int .u32 ((Crc.mv8 i:Nat):Int))):=fun i hi=>by
   rw[World.cell?_alloc_at _ _ _ _ rfl];exact HE.out.2 i hi
  have FB:=zh (HB.out.alloc HB.out.size (.cells t 339));clear HE HB HR;generalize w1.alloc (.cells t 339)=wl at FR FT FB⊢;generalize w1.heap.size=g at FR FT⊢;go_loop [6,18] (fun v i=>∃k:Nat,k≤n∧i= .int .i64 k∧v= .int .u32 ((Crc.crc (4294967295 -s) (l.take k):Nat):Int)) (fun _ i=>n -(intOf i).toNat)
  case atStart=>exact⟨0,by omega,rfl,rfl⟩
  case round=>
   obtain⟨k,hk,rfl,rfl⟩:=hrel;by_cases hlt:k<n
   ·have hkl:k<l.length:=by rw[←HN.out];exact hlt
    have HS:=zh (jlh (4294967295 -s) l k hkl);have hwd:Crc.crc (4294967295 -s) (l.take k)<4294967296:=Crc.crc_lt (by omega) (fun x hx=>FR.out.1 x (List.mem_of_mem_take hx));have hx:=FR.out.byte k;obtain⟨b,o,rfl,hb,hc⟩:=FR.out.2 (by omega);have hck:=hc k hkl;clear hc hb;generalize Crc.crc (4294967295 -s) (l.take k)=wd at*;generalize l.getD k 0=x at*;have hidx:=idx_u8 wd x hx;have hil:((wd%256)^^^x:Nat)<256:=Nat.xor_lt_two_pow (n:=8) (by omega) hx;have hct:=FT.out _ hil;have HV:=zh (jsq wd x hwd hx);generalize((wd%256)^^^x:Nat)=ix at*;go_wp2_with fail;refine⟨⟨k+1,by omega,rfl,jfh ?_⟩,by simp[intOf];omega⟩;rw[HV.out,HS.out]
   ·obtain rfl:k=n:=by omega
    have hwd:Crc.crc (4294967295 -s) (l.take k)<4294967296:=Crc.crc_lt (by omega) (fun x hx=>FR.out.1 x (List.mem_of_mem_take hx));have HV:=zh (jpb _ hwd);go_wp2_with fail;go_ret;refine⟨jbh ?_,FB.out⟩;show bits _ _ _ _=_;rw[HV.out,HN.out,List.take_length];rfl
theorem jkd(n c:Nat)(A:Option Addr)(l:List Nat)(w:World)(hr:Rd w w.heap.size A l)(hn:n=l.length)(hl:l.length≤2147483647):
  Calls Tryz.prog 241 #[.slice A n c] w fun e w'=>e= .returned (.int .u32 ((Crc.sum l:Nat):Int))∧Below w.heap.size w w':=by
 have HR:=zh hr;clear hr;have HN:=zh hn;clear hn;go_enter Tryz.func241,Tryz.ntmps241;go_wp2_with fail;refine(jsr 0 n c A l _ (by omega) HR.out HN.out hl).mono ?_;rintro e w1 ⟨rfl,hb⟩;go_wp2_with fail;go_ret;exact⟨rfl,hb⟩
def be4(s:Nat):List Nat:=[s/16777216%256,s/65536%256,s/256%256,s%256]
def rdN(l:List Nat):Nat:=if l.length=4 then l.getD 0 0*16777216+l.getD 1 0*65536+l.getD 2 0*256+l.getD 3 0 else 0
def rdE(l:List Nat):Int:=if l.length=4 then 0 else 2
theorem jhk(s:Nat):∀x∈be4 s,x<256:=by
 intro x hx;simp only[be4,List.mem_cons,List.mem_nil_iff,or_false]at hx;rcases hx with rfl|rfl|rfl|rfl<;>omega
theorem rdN_be4{s:Nat}(h:s<4294967296):rdN (be4 s)=s:=by
 simp only[rdN,be4,List.length_cons,List.length_nil,List.getD_cons_zero,List.getD_cons_succ,if_pos];omega
theorem or4(a b c d:Nat)(ha:a<256)(hb:b<256)(hc:c<256)(hd:d<256):
  bits .or .u32 (bits .or .u32 (bits .or .u32 ((a:Int)*16777216) ((b:Int)*65536)) ((c:Int)*256)) (d:Int)=((a*16777216+b*65536+c*256+d:Nat):Int):=by
 rw[show(a:Int)*16777216=((a*16777216:Nat):Int)from by omega,show(b:Int)*65536=((b*65536:Nat):Int)from by omega,show(c:Int)*256=((c*256:Nat):Int)from by omega];rw[u32_or_nat _ _ (by omega) (by omega),nat_join 24 _ _ (by omega) (by omega),u32_or_nat _ _ (by omega) (by omega),nat_join 16 _ _ (by omega) (by omega),u32_or_nat _ _ (by omega) (by omega),nat_join 8 _ _ (by omega) (by omega)]
def jis(s:Nat)(w:World)(e:Ending)(w':World):Prop:=
 e= .returned (.slice (some ⟨w.heap.size,0,none⟩) 4 4)∧Rd w' w'.heap.size (some ⟨w.heap.size,0,none⟩) (be4 s)∧Below w.heap.size w w'∧w'.heap.size=w.heap.size+1
theorem jpc(s:Nat)(w:World)(hs:s<4294967296):
  Calls Tryz.prog 240 #[.int .u32 s] w (jis s w):=by
 go_enter Tryz.func240,Tryz.ntmps240;go_wp2_with fail;go_ret;refine⟨rfl,⟨jhk s,fun _=>⟨_,0,rfl,by simp,fun j hj=> ?_⟩⟩,(Below.refl _ _).alloc (Nat.le_refl _) _,by simp⟩;rw[World.cell?_alloc_at _ _ _ _ rfl,Nat.zero_add];simp only[be4,List.length_cons,List.length_nil]at hj;have hq:j=0∨j=1∨j=2∨j=3:=by omega
 have e0:(s:Int)/16777216=((s/16777216%256:Nat):Int):=by omega
 rw[e0];rcases hq with rfl|rfl|rfl|rfl<;>rfl
theorem jss(n c:Nat)(A:Option Addr)(l:List Nat)(w:World)(hr:Rd w w.heap.size A l)(hn:n=l.length):
  Calls Tryz.prog 284 #[.slice A n c] w fun e w'=>e= .returned (.tuple #[.int .u32 ((rdN l:Nat):Int),.int .i64 (rdE l)])∧Below w.heap.size w w':=by
 by_cases h4:n=4
 ·subst h4
  have h0:=hr.byte 0;have h1:=hr.byte 1;have h2:=hr.byte 2;have h3:=hr.byte 3;obtain⟨b,o,rfl,hb,hc⟩:=hr.2 (by omega);have c0:=hc 0 (by omega);rw[Nat.add_zero]at c0;have c1:=hc 1 (by omega);have c2:=hc 2 (by omega);have c3:=hc 3 (by omega);have HV:Hid (rdN l=l.getD 0 0*16777216+l.getD 1 0*65536+l.getD 2 0*256+l.getD 3 0):=by unfold rdN;rw[if_pos hn.symm];rfl
  have HW:Hid (rdE l=0):=by unfold rdE;rw[if_pos hn.symm];rfl
  clear hc hb hn hr;generalize l.getD 0 0=x0 at*;generalize l.getD 1 0=x1 at*;generalize l.getD 2 0=x2 at*;generalize l.getD 3 0=x3 at*;go_enter Tryz.func284,Tryz.ntmps284;go_wp2_with fail;go_quiet (fail);go_wp2_with fail;go_ret2;rw[HV.out,HW.out];exact⟨by rw[←or4 x0 x1 x2 x3 h0 h1 h2 h3];rfl,Below.drewN (Below.refl _ _) _⟩
 ·have hne:((n:Int) !=4)=true:=by rw[bne_iff_ne];omega
  have HV:Hid (rdN l=0):=by unfold rdN;rw[if_neg (by omega)];rfl
  have HW:Hid (rdE l=2):=by unfold rdE;rw[if_neg (by omega)];rfl
  clear hn hr;go_enter Tryz.func284,Tryz.ntmps284;go_wp2_with fail;go_ret2;rw[HV.out,HW.out];exact⟨rfl,Below.refl _ _⟩
def good(l:List Nat):Bool:=decide (4≤l.length)&&decide (rdN (l.drop (l.length -4))=Crc.sum (l.take (l.length -4)))
theorem jst(n c:Nat)(A:Option Addr)(l:List Nat)(w:World)(hr:Rd w w.heap.size A l)(hn:n=l.length)(hc:n≤c)(hl:l.length≤2147483647):
  Calls Tryz.prog 243 #[.slice A n c] w fun e w'=>e= .returned (.bool (good l))∧Below w.heap.size w w':=by
 by_cases h4:n<4
 ·have HG:Hid (good l=false):=by show good l=false;unfold good;rw[decide_eq_false (by omega)];rfl
  clear hr hn hl;go_enter Tryz.func243,Tryz.ntmps243;go_wp2_with fail;go_ret;rw[HG.out];exact⟨rfl,Below.refl _ _⟩
 ·have hn1:n≤2147483647:=by omega
  have hn4:4≤n:=by omega
  have HG:Hid (good l=decide (rdN (l.drop (n -4))=Crc.sum (l.take (n -4)))):=by show good l=_;unfold good;rw[decide_eq_true (by omega:4≤l.length),hn];rfl
  have HR:=zh hr;obtain⟨b,o,rfl,hb,hcl⟩:=hr.2 (by omega);have HD:Hid (Rd w w.heap.size (some ⟨b,o+(n -4),none⟩) (l.drop (n -4))):=by
   have:=hr.drop (k:=n -4) (c:=n) (by omega) (fun a=>⟨a.block,a.off+(n -4),a.spot⟩) (fun _ _=>rfl);rw[if_neg (by omega)]at this;exact this
  have HL:Hid ((l.drop (n -4)).length=4):=by show _=_;rw[List.length_drop];omega
  have HN:=zh hn;clear hr hb hcl hn hl;go_enter Tryz.func243,Tryz.ntmps243;go_wp2_with fail;refine(jss (n -(n -4)) _ _ (l.drop (n -4)) _ HD.out (by rw[HL.out];omega)).mono ?_;rintro e w1 ⟨rfl,hb1⟩;rw[show rdE (l.drop (n -4))=0 from by unfold rdE;rw[if_pos HL.out]];have HT:Hid (Rd w1 w1.heap.size (some ⟨b,o,none⟩) (l.take (n -4))):=(HR.out.take _).on hb1;have HB1:=zh hb1;clear hb1;have HK:Hid ((l.take (n -4)).length=n -4):=by show _=_;rw[List.length_take,←HN.out];omega
  clear HD HL HR;generalize rdN (l.drop (n -4))=v at HG⊢;generalize l.take (n -4)=lt at*;go_wp2_with fail;refine(jkd (n -4) _ _ lt _ HT.out HK.out.symm (by rw[HK.out];omega)).mono ?_;rintro e w2 ⟨rfl,hb2⟩;have HB2:=zh hb2;clear hb2;go_wp2_with fail;go_ret;rw[HG.out];refine⟨?_,HB1.out.trans (HB2.out.mono HB1.out.size)⟩;show Ending.returned (.bool _)=_
  congr 2
  rw[Bool.eq_iff_iff];simp[Int.ofNat_inj]
def jli(l:List Nat)(w:World)(e:Ending)(w':World):Prop:=
 ∃g c,e= .returned (.slice (some ⟨g,0,none⟩) (l.length+4) c)∧w'.ownsRow w.heap.size 5 1 (.slice (some ⟨g,0,none⟩) (l.length+4) c) (l.length+4) (vals (l++be4 (Crc.sum l)))∧Below w.heap.size w w'
theorem jsu(n c:Nat)(A:Option Addr)(l:List Nat)(w:World)(hr:Rd w w.heap.size A l)(hn:n=l.length)(hA:A=none→c=0)(hl:l.length≤1073741823):
  Calls Tryz.prog 183 #[.slice A n c] w (jli l w):=by
 obtain⟨i0,hi0,hz0,hz1,hz2⟩:=info_parts jbu;have hn1:n≤1073741823:=by omega
 have HR:=zh hr;clear hr;have HN:=zh hn;clear hn;have HA:=zh hA;clear hA;have I0:=zh hi0;clear hi0;have I1:=zh hz0;clear hz0;have I2:=zh hz1;clear hz1;have I3:=zh hz2;clear hz2;clear hl;go_enter Tryz.func183,Tryz.ntmps183
 go_wp2_with(first
  |(at_make;refine wpList_make_own _ rfl _ _ 58 rfl w.heap.size 5 i0 (.int .u8 0) 1 Tryz.underlying58 I0.out I1.out I2.out _ _ _ (n+4) rfl rfl (by omega) (by rw[I3.out];omega) (by unfold maxLen;omega) (Nat.le_refl _) ?_;intro w1 hown1 hg1;have O1:=zh hown1;have G1:=zh hg1;clear hown1 hg1)
  |(at_builtin;refine jam rfl (.tmp 8) (.tmp 9) _ rfl w.heap.size 5 i0 _ Tryz.underlying58 I0.out I1.out I2.out I3.out rfl (.slice (some ⟨w.heap.size,0,none⟩) 0 (n+4)) 0 [] rfl O1.out w1.heap.size n c A l rfl (HR.out.on ((Below.refl _ _).grown G1.out (Nat.le_refl _) (by simp))) HN.out HA.out (by omega) G1.out.size ?_;intro v2 w2 hown2 hg2;have O2:=zh hown2;have G2:=zh hg2;clear hown2 hg2))
 have B1:=zh ((Below.refl w.heap.size w).grown G1.out (Nat.le_refl _) (by simp));have B2:=zh (B1.out.grown G2.out B1.out.size (by simp[Value.ownBlock]));clear G1 G2 O1;refine(jkd n c A l w2 (HR.out.on B2.out) HN.out (by rw[←HN.out];omega)).mono ?_;rintro e w3 ⟨rfl,hb3⟩;have B3:=zh hb3;clear hb3;have hs:=Crc.sum_lt l;go_wp2_with fail;refine(jpc (Crc.sum l) w3 hs).mono ?_;rintro e w4 ⟨rfl,hr4,hb4,_⟩;have R4:=zh hr4;clear hr4;have B4:=zh hb4;clear hb4;have O4:=zh (jb6 (jb6 O2.out B3.out) B4.out);have B5:=zh (B2.out.trans ((B3.out.trans (B4.out.mono B3.out.size)).mono B2.out.size));clear O2 B3 B4 hs;go_wp2_with(at_builtin;refine jam rfl (.tmp 11) (.tmp 14) _ rfl w.heap.size 5 i0 _ Tryz.underlying58 I0.out I1.out I2.out I3.out rfl v2 (0+n) ([]++vals l) rfl O4.out w4.heap.size 4 4 _ (be4 (Crc.sum l)) rfl R4.out rfl (by simp) (by omega) B5.out.size ?_;intro v6 w6 hown6 hg6;have O6:=zh hown6;have G6:=zh hg6;clear hown6 hg6);go_ret;have hO:=O6.out;rw[Nat.zero_add,List.nil_append,←jbb,HN.out]at hO;obtain⟨g,c',rfl⟩:=jkz hO (by omega);refine⟨g,c',rfl,hO,B5.out.grown G6.out B5.out.size ?_⟩;intro k hk;rcases O4.out.2 with⟨rfl,_⟩|⟨g',cap,cur,rfl,hg',_⟩
 ·simp[Value.ownBlock]at hk
 ·simp only[Value.ownBlock,Option.some.injEq]at hk;omega
section
variable{w:World}{A:Option Addr}{n c:Nat}{l:List Nat}
theorem sum_at{w0:World}(W:World)(h:Sl w0 A n c l)(hl:l.length≤100000)(hb:Below w0.heap.size w0 W):
  Calls Tryz.prog 241 #[.slice A n c] W fun e w'=>e= .returned (.int .u32 ((Crc.sum l:Nat):Int))∧Below w0.heap.size w0 w':=
 (jkd n c A l W (h.rd.on hb) h.len (by omega)).mono fun _ _ ⟨he,h2⟩=>⟨he,hb.trans (h2.mono hb.size)⟩
theorem good_at{w0:World}(W:World)(h:Sl w0 A n c l)(hl:l.length≤100000)(hb:Below w0.heap.size w0 W):
  Calls Tryz.prog 243 #[.slice A n c] W fun e w'=>e= .returned (.bool (good l))∧Below w0.heap.size w0 w':=
 (jst n c A l W (h.rd.on hb) h.len h.cap (by omega)).mono fun _ _ ⟨he,h2⟩=>⟨he,hb.trans (h2.mono hb.size)⟩
end
end Go.Proofs.YtabandbigckfkaaGreatDoor
namespace Go.Proofs.YtabandbigckfkaaGreatDoor
def je4(L:List Nat):List Nat:=L++be4 (Crc.sum L)
theorem jdf(s:Nat):(be4 s).length=4:=rfl
theorem jhl(L:List Nat):(je4 L).length=L.length+4:=by simp[je4,jdf]
theorem jke{L:List Nat}(h:∀x∈L,x<256):∀x∈je4 L,x<256:=by
 intro x hx;rcases List.mem_append.1 hx with hx|hx
 ·exact h x hx
 ·exact jhk _ x hx
theorem jgz(a b:List Nat)(hb:b.length=4):good (a++b)=decide (rdN b=Crc.sum a):=by
 unfold good;rw[decide_eq_true (by simp[hb]),Bool.true_and];have h:(a++b).length -4=a.length:=by simp[hb]
 rw[h,List.drop_left,List.take_left]
theorem jkf(L:List Nat):good (je4 L)=true:=by
 unfold je4;rw[jgz _ _ (jdf _),rdN_be4 (Crc.sum_lt _)];simp
theorem rd4_eq(a b c d:Nat):rdN [a,b,c,d]=a*16777216+b*65536+c*256+d:=rfl
end Go.Proofs.YtabandbigckfkaaGreatDoor
