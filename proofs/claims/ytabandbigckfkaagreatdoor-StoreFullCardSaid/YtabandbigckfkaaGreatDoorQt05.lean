import Derived.Test.YtabandbigckfkaaGreatDoorQt04
import Derived.Laws.StructEq
import Derived.ChangeKeysEq
import Derived.Deep.Slices
set_option maxHeartbeats 6400000
set_option maxRecDepth 100000
set_option linter.unusedSimpArgs false
set_option linter.unusedVariables false
namespace Go.Proofs.YtabandbigckfkaaGreatDoor
open Go.RowKit
namespace Jn
open Fr
def Whole(d:Dk.St):Prop:=∃k ps,(∀p∈ps,ok p)∧k≤ps.length∧d=Js d.room k ps
theorem Whole.byt{d:Dk.St}(h:Whole d):Byt d:=by
 obtain⟨k,ps,h1,h2,h3⟩:=h;rw[h3];exact js_byt h1
theorem Whole.opened{d:Dk.St}(h:Byt d):Whole (opened d):=by
 obtain⟨h1,h2,h3,h4,h5⟩:=opened_l d h;refine⟨(ents d).length,ents d,h5,Nat.le_refl _,?_⟩;unfold Js;rw[List.take_length,←h1];show(⟨(Jn.opened d).room,(Jn.opened d).safe,(Jn.opened d).l⟩:Dk.St)=_;rw[h2,h1]
theorem putE_zero{p:List Nat}(h:putE p=0)(hb:∀x∈p,x<256):ok p:=⟨by have:=(put_ok h).1;omega,(put_ok h).2,hb⟩
theorem Whole.app{d:Dk.St}(h:Whole d){p:List Nat}(hp:∀x∈p,x<256):Whole (app d p):=by
 obtain⟨k,ps,h1,h2,h3⟩:=h;unfold Jn.app;by_cases he:putE p=0
 ·rw[if_neg (by omega)]
  unfold Dk.write;split
  ·rename_i hg
   have ho:=putE_zero he hp;refine⟨k,ps++[p],?_,by rw[List.length_append];omega,?_⟩
   ·intro x hx
    rcases List.mem_append.1 hx with hx|hx
    ·exact h1 x hx
    ·rw[List.mem_singleton.1 hx];exact ho
   ·unfold Js
    rw[List.take_append_of_le_length h2,all_append,all_one];have e1:=congrArg Dk.St.safe h3;have e2:=congrArg Dk.St.l h3;unfold Js at e1 e2;show(⟨d.room,d.safe,d.l++fr p⟩:Dk.St)=_;rw[e1,e2]
  ·exact⟨k,ps,h1,h2,h3⟩
 ·rw[if_pos he]
  exact⟨k,ps,h1,h2,h3⟩
theorem Whole.torn{d:Dk.St}(h:Whole d){p:List Nat}(hp:∀x∈p,x<256)(keep:Int):Whole (torn d p keep):=by
 unfold Jn.torn;split
 ·exact h
 ·exact Whole.opened (Byt.sync (h.byt.write fun x hx=>fr_byte hp x (List.mem_of_mem_take hx)))
theorem Whole.sync{d:Dk.St}(h:Whole d):Whole (Dk.sync d):=by
 obtain⟨k,ps,h1,h2,h3⟩:=h;refine⟨ps.length,ps,h1,Nat.le_refl _,?_⟩;have:=congrArg Dk.sync h3;rw[js_sync]at this;exact this
theorem bad_zero{ls:List (List Nat)}(h:bad ls=0):∀p∈ls,putE p=0:=by
 induction ls with
 |nil=>intro p hp;cases hp
 |cons q qs ih=>
  unfold bad at h;split at h
  ·omega
  ·intro p hp
   rcases List.mem_cons.1 hp with rfl|hp
   ·omega
   ·exact ih h p hp
theorem Whole.swap{d:Dk.St}(h:Whole d){ls:List (List Nat)}(hl:∀p∈ls,∀x∈p,x<256):Whole (swap d ls):=by
 unfold Jn.swap;by_cases hb:bad ls=0
 ·rw[if_neg (by omega)]
  unfold Dk.swap;split
  ·refine⟨ls.length,ls,fun p hp=>putE_zero (bad_zero hb p hp) (hl p hp),Nat.le_refl _,?_⟩
   unfold Js;rw[List.take_length]
  ·exact h
 ·rw[if_pos hb]
  exact h
theorem Whole.syncN{d:Dk.St}(h:Whole d):(((scan (d.l.drop d.safe)).1.length:Nat):Int)=((ents d).length:Nat) -(safeN d:Nat):=by
 obtain⟨k,ps,h1,h2,h3⟩:=h;have e:ents d=ps:=by rw[h3];exact js_ents h1
 have s:safeN d=k:=by rw[h3];exact js_safe h1 h2
 have d1:d.l.drop d.safe=all (ps.drop k):=by
  rw[h3];unfold Js;show(all ps).drop (all (ps.take k)).length=_
  conv=>lhs;rw[←List.take_append_drop k ps,all_append]
  rw[List.take_append_drop,List.drop_left'];rfl
 rw[e,s,d1,scan_whole (fun p hp=>h1 p (List.mem_of_mem_drop hp)),List.length_drop];omega
theorem crash_all(d:Dk.St)(h:Dk.Okay d):Dk.crash d (d.l.length:Nat)=Dk.sync d:=by
 have h1:=h.1;have:d.safe+Dk.kept d (d.l.length:Nat)=d.l.length:=by unfold Dk.kept Dk.opens;omega
 unfold Dk.crash Dk.leave Dk.sync;rw[this,List.take_length]
end Jn
def DskB(w:World)(B r:Nat)(d:Dk.St):Prop:=∃v,Dsk w r v d∧∀i,foot r v i→B≤i
def jpk(w0:World)(r:Nat)(d:Dk.St)(x:Value)(e:Ending)(w':World):Prop:=e= .returned x∧DskB w' w0.heap.size r d∧Below w0.heap.size w0 w'
theorem jpk.mk{w0 W:World}{r:Nat}{v:Value}{d:Dk.St}{x:Value}{e:Ending}{w':World}(h:jcl W r v d x e w')(hb:Below w0.heap.size w0 W)(hv:∀i,foot r v i→w0.heap.size≤i):jpk w0 r d x e w':=by
 obtain⟨rfl,v',h1,h2,h3⟩:=h;refine⟨rfl,⟨v',h1,?_⟩,hb.trans (h3.below hb.size hv)⟩;rintro i (rfl|hi)
 ·exact hv _ (.inl rfl)
 ·rcases h2 i hi with h4|h4
  ·exact hv i (.inr h4)
  ·exact Nat.le_trans hb.size h4
section
variable{w0:World}(W:World){r:Nat}{d:Dk.St}(hb:Below w0.heap.size w0 W)(hd:DskB W w0.heap.size r d)
include hb hd
theorem jjd{n c:Nat}{A:Option Addr}{b:List Nat}(hs:Sl W A n c b):Calls Tryz.prog 57 #[.pointer (some ⟨r,0,none⟩),.slice A n c] W (jpk w0 r (Dk.swap d b) (.int .i64 (Dk.swapE d b))):=by
 obtain⟨v,h1,h2⟩:=hd;exact(jgv W r n c A b v d h1 hs).mono fun _ _ h=>jpk.mk h hb h2
end
def NewPost(w0:World)(d:Dk.St)(W:World)(e:Ending)(w':World):Prop:=∃r,e= .returned (.pointer (some ⟨r,0,none⟩))∧W.heap.size≤r∧DskB w' W.heap.size r d∧Below w0.heap.size w0 w'∧Below W.heap.size W w'
theorem jlx{w0:World}(W:World)(n:Int)(hb:Below w0.heap.size w0 W):Calls Tryz.prog 56 #[.int .i64 n] W (NewPost w0 (Dk.new n) W):=by
 refine(joo n W).mono ?_;rintro e w' ⟨r,rfl,h1,h2,h3⟩;refine⟨r,rfl,h1,⟨_,h2,?_⟩,hb.trans (h3.mono hb.size),h3⟩;rintro i (rfl|hi)
 ·exact h1
 ·cases hi
def DskX(w:World)(X:Nat→Prop)(r:Nat)(d:Dk.St):Prop:=∃v,Dsk w r v d∧∀i,foot r v i→X i
theorem DskX.okay{w:World}{X:Nat→Prop}{r:Nat}{d:Dk.St}(h:DskX w X r d):Dk.Okay d:=by
 obtain⟨v,h1,h2⟩:=h;exact h1.okay
theorem DskX.keep{w w':World}{X:Nat→Prop}{r:Nat}{d:Dk.St}(h:DskX w X r d)(hk:∀i,X i→i<w.heap.size→w'.heap[i]? =w.heap[i]?):DskX w' X r d:=by
 obtain⟨v,h1,h2⟩:=h;exact⟨v,h1.keep fun i hi=>hk i (h2 i hi) (h1.lt i hi),h2⟩
theorem DskX.below{w w':World}{X:Nat→Prop}{r:Nat}{d:Dk.St}(h:DskX w X r d)(hb:Below w.heap.size w w'):DskX w' X r d:=h.keep fun i _ hi=>hb.block i hi
theorem DskB.toX{w:World}{B r:Nat}{d:Dk.St}{X:Nat→Prop}(h:DskB w B r d)(hX:∀i,B≤i→i<w.heap.size→X i):DskX w X r d:=by
 obtain⟨v,h1,h2⟩:=h;exact⟨v,h1,fun i hi=>hX i (h2 i hi) (h1.lt i hi)⟩
def jco(W:World)(X:Nat→Prop)(r:Nat)(d:Dk.St)(x:Value)(e:Ending)(w':World):Prop:=e= .returned x∧DskX w' X r d∧Kept X W w'
theorem jco.mk{W:World}{X:Nat→Prop}{r:Nat}{v:Value}{d:Dk.St}{x:Value}{e:Ending}{w':World}(h:jcl W r v d x e w')(hv:∀i,foot r v i→X i)(hX:∀i,W.heap.size≤i→X i):jco W X r d x e w':=by
 obtain⟨rfl,v',h1,h2,h3⟩:=h;refine⟨rfl,⟨v',h1,?_⟩,h3.more fun i _ hi=>hv i hi⟩;rintro i (rfl|hi)
 ·exact hv _ (.inl rfl)
 ·rcases h2 i hi with h4|h4
  ·exact hv i (.inr h4)
  ·exact hX i h4
section
variable(W:World){X:Nat→Prop}{r:Nat}{d:Dk.St}(hd:DskX W X r d)(hX:∀i,W.heap.size≤i→X i)
include hd hX
theorem jje{n c:Nat}{A:Option Addr}{b:List Nat}(hs:Sl W A n c b):Calls Tryz.prog 105 #[.pointer (some ⟨r,0,none⟩),.slice A n c] W (jco W X r (Dk.write d b) (.int .i64 (Dk.writeE d b))):=by
 obtain⟨v,h1,h2⟩:=hd;exact(jjx W r n c A b v d h1 hs).mono fun _ _ h=>jco.mk h h2 hX
theorem dSwap_x{n c:Nat}{A:Option Addr}{b:List Nat}(hs:Sl W A n c b):Calls Tryz.prog 57 #[.pointer (some ⟨r,0,none⟩),.slice A n c] W (jco W X r (Dk.swap d b) (.int .i64 (Dk.swapE d b))):=by
 obtain⟨v,h1,h2⟩:=hd;exact(jgv W r n c A b v d h1 hs).mono fun _ _ h=>jco.mk h h2 hX
theorem dSync_x:Calls Tryz.prog 114 #[.pointer (some ⟨r,0,none⟩)] W (jco W X r (Dk.sync d) (.int .i64 (Dk.opens d:Nat))):=by
 obtain⟨v,h1,h2⟩:=hd;exact(jk8 W r v d h1).mono fun _ _ h=>jco.mk h h2 hX
theorem jpl{keep:Int}(hk: -9223372036854775808≤keep∧keep≤9223372036854775807):Calls Tryz.prog 106 #[.pointer (some ⟨r,0,none⟩),.int .i64 keep] W (jco W X r (Dk.crash d keep) (.int .i64 (Dk.lost d keep:Nat))):=by
 obtain⟨v,h1,h2⟩:=hd;exact(jjw W r keep v d h1 hk).mono fun _ _ h=>jco.mk h h2 hX
theorem dCut_x{n:Int}(hk: -9223372036854775808≤n∧n≤9223372036854775807):Calls Tryz.prog 181 #[.pointer (some ⟨r,0,none⟩),.int .i64 n] W (jco W X r (Dk.cut d n) (.int .i64 (Dk.cutE d n))):=by
 obtain⟨v,h1,h2⟩:=hd;exact(jop W r n v d h1 hk).mono fun _ _ h=>jco.mk h h2 hX
omit hX in
theorem jjf:Calls Tryz.prog 59 #[.pointer (some ⟨r,0,none⟩)] W (jei d.l W):=by
 obtain⟨v,h1,_⟩:=hd;exact jom W r v d h1
omit hX in
theorem dLen_x:Calls Tryz.prog 107 #[.pointer (some ⟨r,0,none⟩)] W (jdd W (.int .i64 (d.l.length:Nat))):=by
 obtain⟨v,h1,_⟩:=hd;exact jol W r v d h1
omit hX in
theorem jly:Calls Tryz.prog 113 #[.pointer (some ⟨r,0,none⟩)] W (jdd W (.int .i64 (d.safe:Nat))):=by
 obtain⟨v,h1,_⟩:=hd;exact jk7 W r v d h1
omit hX in
theorem dRoom_x:Calls Tryz.prog 146 #[.pointer (some ⟨r,0,none⟩)] W (jdd W (.int .i64 (d.room -d.l.length:Nat))):=by
 obtain⟨v,h1,_⟩:=hd;exact jgu W r v d h1
end
open Fr
structure JAsk(p0 d0:Option Addr)(l:List Nat)(s R:Nat)(w:World):Prop where
 disk:∀W,Below w.heap.size w W→Calls Tryz.prog 104 #[.pointer p0] W fun e w'=>e= .returned (.pointer d0)∧w'=W
 all:∀W,Below w.heap.size w W→Calls Tryz.prog 59 #[.pointer d0] W (jei l W)
 safe:∀W,Below w.heap.size w W→Calls Tryz.prog 113 #[.pointer d0] W (jdd W (.int .i64 (s:Nat)))
 room:∀W,Below w.heap.size w W→Calls Tryz.prog 146 #[.pointer d0] W (jdd W (.int .i64 (R:Nat)))
 le:s≤l.length
 few:l.length≤1048576
theorem jcp(w:World)(q:Nat)(d0:Option Addr)(h:w.heap[q]? =some (.cells #[.pointer d0] 176 (0,0))):
  Calls Tryz.prog 104 #[.pointer (some ⟨q,0,none⟩)] w fun e w'=>e= .returned (.pointer d0)∧w'=w:=by
 have hc:w.cell? ⟨q,0,none⟩=some (.pointer d0):=by rw[cell_of_row w q 0 _ _ _ h];rfl
 clear h;go_enter Tryz.func104,Tryz.ntmps104;go_wp2_with fail;go_ret;exact⟨rfl,rfl⟩
section
variable{p0 d0:Option Addr}{l:List Nat}{s R:Nat}{w:World}(h:JAsk p0 d0 l s R w)
include h
theorem jjg:Calls Tryz.prog 70 #[.pointer p0] w (JAllF (scan l).1 w):=jpj p0 d0 l w (by have:=h.few;omega) h.disk h.all
theorem jpm:Calls Tryz.prog 78 #[.pointer p0] w (jdd w (.int .i64 ((scan l).1.length:Nat))):=by
 have H:=zh h;clear h;go_enter Tryz.func78,Tryz.ntmps78;go_wp2_with fail;refine(H.out.disk w (Below.refl _ _)).mono ?_;rintro e w1 ⟨rfl,rfl⟩;go_wp2_with fail;refine(H.out.all w1 (Below.refl _ _)).mono ?_;rintro e w2 ⟨A2,c2,rfl,ho2,hb2⟩;have S2:=zh ho2.sls;have B2:=zh hb2;clear ho2 hb2;go_wp2_with fail
 (with_reducible refine(jfv l.length c2 A2 l w2 S2.out (by have:=H.out.few;omega)).mono ?_)
 rintro e w3 ⟨rfl,hb3⟩;have B3:=zh (B2.out.trans (hb3.mono B2.out.size));clear hb3;go_wp2_with fail;go_ret;exact⟨rfl,B3.out⟩
theorem jlz:Calls Tryz.prog 79 #[.pointer p0] w (jdd w (.int .i64 (R:Nat))):=by
 have H:=zh h;clear h;go_enter Tryz.func79,Tryz.ntmps79;go_wp2_with fail;refine(H.out.disk w (Below.refl _ _)).mono ?_;rintro e w1 ⟨rfl,rfl⟩;go_wp2_with fail;refine(H.out.room w1 (Below.refl _ _)).mono ?_;rintro e w2 ⟨rfl,hb2⟩;have B2:=zh hb2;clear hb2;go_wp2_with fail;go_ret;exact⟨rfl,B2.out⟩
theorem jjh{d:Dk.St}(hR:d.room -d.l.length=R)(hok:Dk.Okay d){a:Addr}(hd:d0=some a)(n c:Nat)(A:Option Addr)(p:List Nat)(hs:Sl w A n c p)(hn:n≤900000000):
  Calls Tryz.prog 103 #[.pointer p0,.slice A n c] w fun e w'=>∃A' c' f,e= .returned (.tuple #[.slice A' f.length c',.int .i64 (Jn.appE d p)])∧OwnB w' w.heap.size (.slice A' f.length c') f∧(Jn.appE d p=0→f=fr p)∧Below w.heap.size w w':=by
 have H:=zh h;have HS:=zh hs;subst hd;clear h hs;unfold Dk.Okay at hok;by_cases h0:putE p=0
 ·have hp:=Jn.put_ok h0
  have h2:=jh4 (b:=[]) hp.1 hp.2;have HL:Hid (putL [] p=fr p):=by show putL [] p=fr p;rw[h2.2];rfl
  have HE:Hid (Jn.appE d p=Dk.writeE d (fr p)):=by show Jn.appE d p=_;unfold Jn.appE;rw[if_neg (by omega)]
  have HF:Hid ((fr p).length=p.length+6):=fr_length p;have hfl:(fr p).length≤1006:=by rw[HF.out];omega
  clear h2;go_enter Tryz.func103,Tryz.ntmps103;go_wp2_with fail;refine(H.out.disk w (Below.refl _ _)).mono ?_;rintro e w1 ⟨rfl,rfl⟩;go_wp2_with fail
  (with_reducible refine(jgc 0 0 n c none A [] p w1 (Sl.none_ _) HS.out (by omega) hn).mono ?_)
  rintro e w2 ⟨A2,c2,rfl,ho2,hb2⟩;rw[HL.out,h0]at*;have O2:=zh ho2;have B2:=zh hb2;clear ho2 hb2;obtain⟨m,hm⟩:∃m,m=(fr p).length:=⟨_,rfl⟩;rw[←hm];have HM:=zh hm;rw[←hm]at hfl;clear hm;go_wp2_with fail;refine(H.out.room w2 B2.out).mono ?_;rintro e w3 ⟨rfl,hb3⟩;have O3:=zh (O2.out.below hb3);have B3:=zh (B2.out.trans (hb3.mono B2.out.size));clear hb3;by_cases hg:R<m
  ·have HG:Hid (Dk.writeE d (fr p)=4):=by show Dk.writeE d (fr p)=4;unfold Dk.writeE;rw[if_neg];unfold Dk.goes;rw[←HM.out];omega
   go_wp2_with fail;go_ret2;refine⟨none,0,[],?_,OwnB.none_ _ _,fun e=> ?_,B3.out⟩
   ·rw[HE.out,HG.out];rfl
   ·rw[HE.out,HG.out]at e;omega
  ·have HG:Hid (Dk.writeE d (fr p)=0):=by show Dk.writeE d (fr p)=0;unfold Dk.writeE;rw[if_pos];unfold Dk.goes;rw[←HM.out];omega
   go_wp2_with fail;go_ret2;refine⟨A2,c2,fr p,?_,O3.out,fun _=>rfl,B3.out⟩;rw[HE.out,HG.out,HM.out];rfl
 ·have HE:Hid (Jn.appE d p=(putE p:Nat)):=by show Jn.appE d p=_;unfold Jn.appE;rw[if_pos h0]
  have h1:((putE p:Nat):Int)≠0:=by omega
  have HB:Hid (((putE p:Nat):Int) !=0):=by show(_ !=_)=true;rw[bne_iff_ne];exact h1
  have hbool:=HB.out;go_enter Tryz.func103,Tryz.ntmps103;go_wp2_with fail;refine(H.out.disk w (Below.refl _ _)).mono ?_;rintro e w1 ⟨rfl,rfl⟩;go_wp2_with fail
  (with_reducible refine(jgc 0 0 n c none A [] p w1 (Sl.none_ _) HS.out (by omega) hn).mono ?_)
  rintro e w2 ⟨A2,c2,rfl,ho2,hb2⟩;have B2:=zh hb2;clear ho2 hb2;generalize putE p=ee at*;go_wp2_with fail;go_ret2;refine⟨none,0,[],?_,OwnB.none_ _ _,fun e=> ?_,B2.out⟩
  ·rw[HE.out];rfl
  ·rw[HE.out]at e;exact absurd e h1
end
end Go.Proofs.YtabandbigckfkaaGreatDoor
namespace Go.Proofs.YtabandbigckfkaaGreatDoor
open Go.RowKit
def Jn.syncN(d:Dk.St):Int:=((Jn.ents d).length:Nat) -(Jn.safeN d:Nat)
open Fr
structure Jrn(w:World)(X:Nat→Prop)(q r:Nat)(d:Dk.St):Prop where
 blk:w.heap[q]? =some (.cells #[.pointer (some ⟨r,0,none⟩)] 176 (0,0))
 inX:X q
 dsk:DskX w (fun i=>X i∧i≠q) r d
 whole:Jn.Whole d
theorem DskX.lt{w:World}{X:Nat→Prop}{r:Nat}{d:Dk.St}(h:DskX w X r d):DskX w (fun i=>X i∧i<w.heap.size) r d:=by
 obtain⟨v,h1,h2⟩:=h;exact⟨v,h1,fun i hi=>⟨h2 i hi,h1.lt i hi⟩⟩
theorem DskX.more{w:World}{X Y:Nat→Prop}{r:Nat}{d:Dk.St}(h:DskX w X r d)(hY:∀i,X i→i<w.heap.size→Y i):DskX w Y r d:=by
 obtain⟨v,h1,h2⟩:=h;exact⟨v,h1,fun i hi=>hY i (h2 i hi) (h1.lt i hi)⟩
section
variable{w w':World}{X:Nat→Prop}{q r:Nat}{d:Dk.St}
theorem Jrn.lt(h:Jrn w X q r d):q<w.heap.size:=(Array.getElem?_eq_some_iff.1 h.blk).1
theorem Jrn.keep(h:Jrn w X q r d)(hk:∀i,X i→i<w.heap.size→w'.heap[i]? =w.heap[i]?):Jrn w' X q r d:=
 ⟨(hk q h.inX h.lt).trans h.blk,h.inX,h.dsk.keep fun i hi hl=>hk i hi.1 hl,h.whole⟩
theorem Jrn.below(h:Jrn w X q r d)(hb:Below w.heap.size w w'):Jrn w' X q r d:=h.keep fun i _ hi=>hb.block i hi
theorem Jrn.ask(h:Jrn w X q r d):JAsk (some ⟨q,0,none⟩) (some ⟨r,0,none⟩) d.l d.safe (d.room -d.l.length) w:=by
 have hok:=h.dsk.okay;unfold Dk.Okay at hok;exact⟨fun W hW=>jcp W q _ (h.below hW).blk,fun W hW=>jjf W (h.dsk.below hW),fun W hW=>jly W (h.dsk.below hW),fun W hW=>dRoom_x W (h.dsk.below hW),hok.1,by omega⟩
theorem Jrn.step{d':Dk.St}{x:Value}{e:Ending}(h:Jrn w X q r d)(hp:jco w (fun i=>X i∧i≠q) r d' x e w')(hw:Jn.Whole d'):e= .returned x∧Jrn w' X q r d'∧Kept X w w':=by
 obtain⟨rfl,h1,h2⟩:=hp;exact⟨rfl,⟨(h2.block q h.lt (fun hf=>hf.2 rfl)).trans h.blk,h.inX,h1,hw⟩,h2.more fun i _ hi=>hi.1⟩
theorem Jrn.fresh(h:Jrn w X q r d)(hX:∀i,w.heap.size≤i→X i):∀i,w.heap.size≤i→X i∧i≠q:=fun i hi=>⟨hX i hi,fun e=>by have:=h.lt;omega⟩
end
theorem jco.before{W W1 w':World}{X:Nat→Prop}{r:Nat}{d:Dk.St}{x:Value}{e:Ending}(h:jco W1 X r d x e w')(hb:Kept X W W1):jco W X r d x e w':=⟨h.1,h.2.1,hb.trans h.2.2 fun _ _ hi=>hi⟩
theorem jji(W:World){X:Nat→Prop}{r:Nat}{d:Dk.St}(hd:DskX W X r d)(hX:∀i,W.heap.size≤i→X i)(hy:Jn.Byt d):
  Calls Tryz.prog 108 #[.pointer (some ⟨r,0,none⟩)] W (jco W X r (Jn.opened d) (.int .i64 ((d.l.length:Nat) -(Jn.cutN d:Nat)))):=by
 have HD:=zh hd;have hok:=hd.okay;have hcl:=Jn.cutN_le d hy;have HC:=zh (Jn.cut_opened d hy);have HN:Hid (Jn.cutN d=(scan d.l).2.1):=rfl;have HX:=zh hX;unfold Dk.Okay at hok;have hlen:d.l.length≤1048576:=by omega
 clear hd hok hy hX;go_enter Tryz.func108,Tryz.ntmps108;go_wp2_with fail;refine(jjf W HD.out).mono ?_;rintro e w1 ⟨A1,c1,rfl,ho1,hb1⟩;have S1:=zh ho1.sls;have B1:=zh hb1;clear ho1 hb1;go_wp2_with fail
 (with_reducible refine(jlw d.l.length c1 A1 d.l w1 S1.out (by omega)).mono ?_)
 rintro e w2 ⟨A2,c2,rfl,_,hb2⟩;have B2:=zh (B1.out.trans (hb2.mono B1.out.size));rw[←HN.out];clear hb2;generalize Jn.cutN d=m at*;go_wp2_with fail;refine(dCut_x w2 (HD.out.below B2.out) (fun i hi=>HX.out i (Nat.le_trans B2.out.size hi)) (n:=(m:Int)) (by omega)).mono ?_;rw[HC.out.1,HC.out.2];rintro e w3 hp;obtain rfl:=hp.1;have P:=zh (hp.before (Kept.of_below B2.out));clear hp;go_wp2_with fail;go_ret;exact⟨rfl,P.out.2⟩
theorem jOpen_x(W:World){X:Nat→Prop}{r:Nat}{d:Dk.St}(hd:DskX W X r d)(hX:∀i,W.heap.size≤i→X i)(hy:Jn.Byt d):
  Calls Tryz.prog 58 #[.pointer (some ⟨r,0,none⟩)] W fun e w'=>e= .returned (.tuple #[.pointer (some ⟨W.heap.size,0,none⟩),.int .i64 ((d.l.length:Nat) -(Jn.cutN d:Nat))])∧Jrn w' X W.heap.size r (Jn.opened d)∧Kept X W w':=by
 have HD:=zh hd;have HX:=zh hX;have HY:=zh hy;clear hd hX hy;go_enter Tryz.func58,Tryz.ntmps58;go_wp2_with fail;have hb:=(Below.refl W.heap.size W).alloc (Nat.le_refl _) (.cells #[.pointer (some ⟨r,0,none⟩)] 176);have hbk:=heap_alloc_new W (.cells #[.pointer (some ⟨r,0,none⟩)] 176);have hsz:(W.alloc (.cells #[.pointer (some ⟨r,0,none⟩)] 176)).heap.size=W.heap.size+1:=by simp
 have D1:=zh ((HD.out.lt.below hb).more (Y:=fun i=>X i∧i≠W.heap.size) fun i hi _=>⟨hi.1,by have:=hi.2;omega⟩);have B1:=zh hb;have K1:=zh hbk;have Z1:=zh hsz;clear hb hbk hsz;generalize W.alloc (.cells #[.pointer (some ⟨r,0,none⟩)] 176)=w1 at*
 (with_reducible refine(jji w1 D1.out (fun i hi=>⟨HX.out i (by have:=Z1.out;omega),by have:=Z1.out;omega⟩) HY.out).mono ?_)
 rintro e w2 ⟨rfl,hd2,hk2⟩;have D2:=zh hd2;have KK:=zh hk2;clear hd2 hk2;obtain⟨z,hz⟩:∃z:Int,z=((d.l.length:Nat):Int) -(Jn.cutN d:Nat):=⟨_,rfl⟩;rw[←hz];have HZ:=zh hz;clear hz;go_wp2_with fail;go_ret2;refine⟨by rw[←HZ.out];rfl,⟨(KK.out.block W.heap.size (by have:=Z1.out;omega) (fun hf=>hf.2 rfl)).trans K1.out,HX.out _ (Nat.le_refl _),D2.out,Jn.Whole.opened HY.out⟩,?_⟩;exact(Kept.of_below (F:=X) B1.out).trans KK.out fun i _ hi=>hi.1
section
variable{W:World}{X:Nat→Prop}{q r:Nat}{d:Dk.St}(h:Jrn W X q r d)(hX:∀i,W.heap.size≤i→X i)
include h hX
theorem jg0{n c:Nat}{A:Option Addr}{p:List Nat}(hs:Sl W A n c p)(hn:n≤900000000):
  Calls Tryz.prog 62 #[.pointer (some ⟨q,0,none⟩),.slice A n c] W fun e w'=>e= .returned (.int .i64 (Jn.appE d p))∧Jrn w' X q r (Jn.app d p)∧Kept X W w':=by
 have H:=zh h;have HX:=zh hX;have C1:=zh (jjh h.ask rfl h.dsk.okay rfl n c A p hs hn);have HP:Hid (∀x∈p,x<256):=hs.rd.1;clear h hX hs;by_cases h0:Jn.appE d p=0
 ·have E0:Hid (Jn.app d p=Dk.write d (fr p)∧Dk.writeE d (fr p)=0):=by
   show _∧_;unfold Jn.appE at h0;by_cases hp:putE p=0
   ·rw[if_neg (by omega)]at h0
    unfold Jn.app;rw[if_neg (by omega)];exact⟨rfl,h0⟩
   ·rw[if_pos hp]at h0;omega
  have Z0:=zh h0;rw[h0]at C1;go_enter Tryz.func62,Tryz.ntmps62;go_wp2_with fail;refine C1.out.mono ?_;rintro e w1 ⟨A1,c1,f,rfl,ho1,hf,hb1⟩;have S1:=zh ho1.sls;have B1:=zh hb1;have HF:Hid (f=fr p):=hf (by trivial);have H1:=zh (H.out.below hb1);clear ho1 hb1 hf C1 h0;go_wp2_with fail;refine(jcp w1 q _ H1.out.blk).mono ?_;rintro e w1' ⟨rfl,rfl⟩;go_wp2_with fail
  (with_reducible refine(jje w1' H1.out.dsk (H1.out.fresh fun i hi=>HX.out i (Nat.le_trans B1.out.size hi)) S1.out).mono ?_)
  rw[HF.out,←E0.out.1,E0.out.2];rintro e w2 hp;obtain⟨rfl,hj,hk⟩:=H1.out.step hp (H.out.whole.app HP.out);have J2:=zh hj;have K2:=zh hk;clear hp hj hk;go_wp2_with fail;go_ret;exact⟨by rw[Z0.out];rfl,J2.out,(Kept.of_below (F:=X) B1.out).trans K2.out fun i _ hi=>hi⟩
 ·have E0:Hid (Jn.app d p=d):=by
   show _=d;unfold Jn.appE at h0;unfold Jn.app;by_cases hp:putE p=0
   ·rw[if_neg (by omega)]at h0⊢
    unfold Dk.writeE at h0;unfold Dk.write;split at h0
    ·omega
    ·rename_i hg;rw[if_neg hg]
   ·rw[if_pos hp]
  have hne:(Jn.appE d p !=0)=true:=by rw[bne_iff_ne];exact h0
  obtain⟨y,hy⟩:∃y,y=Jn.appE d p:=⟨_,rfl⟩;rw[←hy]at C1 hne⊢;clear h0 hy;go_enter Tryz.func62,Tryz.ntmps62;go_wp2_with fail;refine C1.out.mono ?_;rintro e w1 ⟨A1,c1,f,rfl,ho1,hf,hb1⟩;have B1:=zh hb1;clear ho1 hb1 hf C1;go_wp2_with fail;go_ret;exact⟨rfl,by rw[E0.out];exact H.out.below B1.out,Kept.of_below B1.out⟩
theorem jSync_x:Calls Tryz.prog 64 #[.pointer (some ⟨q,0,none⟩)] W fun e w'=>e= .returned (.int .i64 (Jn.syncN d))∧Jrn w' X q r (Dk.sync d)∧Kept X W w':=by
 have H:=zh h;have HX:=zh hX;have hok:=h.dsk.okay;unfold Dk.Okay at hok;have hle:=hok.1;have hlen:d.l.length≤1048576:=by omega
 have HN:Hid (((scan (d.l.drop d.safe)).1.length:Nat)=Jn.syncN d):=h.whole.syncN;clear h hX hok;go_enter Tryz.func64,Tryz.ntmps64;go_wp2_with fail;refine(jcp W q _ H.out.blk).mono ?_;rintro e W' ⟨rfl,rfl⟩;go_wp2_with fail;refine(jjf W' H.out.dsk).mono ?_;rintro e w1 ⟨A1,c1,rfl,ho1,hb1⟩;have S1:=zh ho1.sls;have B1:=zh hb1;have hcap:=ho1.sls.cap;have hmax:=ho1.sls.max;unfold maxLen at hmax;clear ho1 hb1;go_wp2_with fail;refine(jly w1 (H.out.dsk.below B1.out)).mono ?_;rintro e w2 ⟨rfl,hb2⟩;have S2:=zh (S1.out.on hb2);have B2:=zh (B1.out.trans (hb2.mono B1.out.size));clear hb2 S1;have CN:Hid (∀w A c,Sl w A (d.l.length -d.safe) c (d.l.drop d.safe)→Calls Tryz.prog 112 #[.slice A (d.l.length -d.safe) c] w (jdd w (.int .i64 (Jn.syncN d)))):=fun w A c hs=>by
  rw[←HN.out];exact jfv _ c A _ w hs (by omega)
 have fin:∀w3,Below w2.heap.size w2 w3→Calls Tryz.prog 114 #[.pointer (some ⟨r,0,none⟩)] w3 fun e w'=>(∃z:Int,e= .returned (.int .i64 z))∧Jrn w' X q r (Dk.sync d)∧Kept X W' w':=fun w3 hb3=>by
  have B3:=B2.out.trans (hb3.mono B2.out.size);have H3:=H.out.below B3;refine(dSync_x w3 H3.dsk (H3.fresh fun i hi=>HX.out i (Nat.le_trans B3.size hi))).mono ?_;intro e w4 hp;obtain⟨he,hj,hk⟩:=H3.step hp H.out.whole.sync;exact⟨⟨_,he⟩,hj,(Kept.of_below B3).trans hk fun i _ hi=>hi⟩
 have FIN:=zh fin;clear fin;by_cases hcs:c1=d.safe
 ·have S3:=zh (S2.out.dropAll hle hcs)
  rw[show c1 -d.safe=0 by omega]at S3;go_wp2_with fail
  (with_reducible refine(CN.out w2 _ _ S3.out).mono ?_)
  rintro e w3 ⟨rfl,hb3⟩;have F3:=zh (FIN.out w3 hb3);clear hb3 FIN;go_wp2_with fail;refine F3.out.mono ?_;rintro e w4 ⟨⟨z,rfl⟩,hj,hk⟩;have J4:=zh hj;have K4:=zh hk;clear hj hk;go_wp2_with fail;go_ret;exact⟨rfl,J4.out,K4.out⟩
 ·have S3:=zh (S2.out.drop hle hcs)
  go_wp2_with fail
  (with_reducible refine(CN.out w2 _ _ S3.out).mono ?_)
  rintro e w3 ⟨rfl,hb3⟩;have F3:=zh (FIN.out w3 hb3);clear hb3 FIN;go_wp2_with fail;refine F3.out.mono ?_;rintro e w4 ⟨⟨z,rfl⟩,hj,hk⟩;have J4:=zh hj;have K4:=zh hk;clear hj hk;go_wp2_with fail;go_ret;exact⟨rfl,J4.out,K4.out⟩
end
section
variable{W:World}{X:Nat→Prop}{q r:Nat}{d:Dk.St}(h:Jrn W X q r d)(hX:∀i,W.heap.size≤i→X i)
include h hX
theorem jTorn_x{n c:Nat}{A:Option Addr}{p:List Nat}(hs:Sl W A n c p)(hn:n≤900000000){keep:Int}:
  Calls Tryz.prog 52 #[.pointer (some ⟨q,0,none⟩),.slice A n c,.int .i64 keep] W fun e w'=>e= .returned (.int .i64 (Jn.tornE d p))∧Jrn w' X q r (Jn.torn d p keep)∧Kept X W w':=by
 have H:=zh h;have HX:=zh hX;have C1:=zh (jjh h.ask rfl h.dsk.okay rfl n c A p hs hn);have HP:Hid (∀x∈p,x<256):=hs.rd.1;have HW:=zh (h.whole.torn hs.rd.1 keep);have hok:=h.dsk.okay;clear h hX hs;by_cases h0:Jn.appE d p=0
 ·obtain⟨kk,hkk⟩:∃kk,kk=Jn.keptN p keep:=⟨_,rfl⟩
  have hm:kk≤(fr p).length:=by rw[hkk];unfold Jn.keptN;omega
  have hmx:max 0 (min keep (((fr p).length:Nat):Int))=(kk:Nat):=by rw[hkk];unfold Jn.keptN;omega
  have E0:Hid (Jn.torn d p keep=Jn.opened (Dk.sync (Dk.write d ((fr p).take kk)))):=by show Jn.torn d p keep=_;unfold Jn.torn;rw[if_neg (by omega),←hkk]
  have T0:Hid (Jn.tornE d p=13):=by show _=_;unfold Jn.tornE;rw[if_neg (by omega)]
  have HY:Hid (Jn.Byt (Dk.write d ((fr p).take kk))):=H.out.whole.byt.write fun x hx=>fr_byte HP.out x (List.mem_of_mem_take hx);have HC:=zh (Jn.crash_all (Dk.write d ((fr p).take kk)) (hok.write _));have hfl:(fr p).length≤1048576:=by
   rw[fr_length];unfold Jn.appE at h0;by_cases hp:putE p=0
   ·have:=(Jn.put_ok hp).2;omega
   ·rw[if_pos hp]at h0;omega
  have hwl:(Dk.write d ((fr p).take kk)).l.length≤1048576:=Nat.le_trans (hok.write _).2.1 (hok.write _).2.2;rw[h0]at C1;clear hkk h0 hok;obtain⟨f,hf0⟩:∃f,f=fr p:=⟨_,rfl⟩;rw[←hf0]at hm hmx E0 HY HC hfl hwl;have HF0:=zh hf0;clear hf0;generalize Jn.tornE d p=te at*;go_enter Tryz.func52,Tryz.ntmps52;go_wp2_with fail;refine C1.out.mono ?_;rintro e w1 ⟨A1,c1,f1,rfl,ho1,hf,hb1⟩;obtain rfl:f1=f:=(hf (by trivial)).trans HF0.out.symm;have B1:=zh hb1;have S1:=zh ((ho1.sls).take (k:=kk) hm);have H1:=zh (H.out.below hb1);have hcap:=ho1.sls.cap;have hmax:=ho1.sls.max;unfold maxLen at hmax;clear ho1 hb1 hf C1;go_wp2_with fail;refine(jcp w1 q _ H1.out.blk).mono ?_;rintro e w1' ⟨rfl,rfl⟩;go_wp2_with fail
  (with_reducible refine(jje w1' H1.out.dsk (H1.out.fresh fun i hi=>HX.out i (Nat.le_trans B1.out.size hi)) S1.out).mono ?_)
  rintro e w2 ⟨rfl,hd2,hk2⟩;have D2:=zh hd2;have K2:=zh hk2;have F2:Hid (∀i,w2.heap.size≤i→X i∧i≠q):=fun i hi=>H1.out.fresh (fun i hi=>HX.out i (Nat.le_trans B1.out.size hi)) i (Nat.le_trans hk2.size hi);clear hd2 hk2;obtain⟨d2,hd2⟩:∃d2,d2=Dk.write d (f1.take kk):=⟨_,rfl⟩;rw[←hd2]at E0 HY HC hwl D2;generalize Dk.writeE d (f1.take kk)=we at*;clear hd2;go_wp2_with fail;refine(dLen_x w2 D2.out).mono ?_;rintro e w3 ⟨rfl,hb3⟩;have D3:=zh (D2.out.below hb3);have K3:=zh (K2.out.trans (Kept.of_below (F:=fun i=>X i∧i≠q) hb3) fun i _ hi=>hi);have F3:Hid (∀i,w3.heap.size≤i→X i∧i≠q):=fun i hi=>F2.out i (Nat.le_trans hb3.size hi);clear hb3 F2 K2 D2;have CC:=zh (jpl w3 D3.out F3.out (keep:=(d2.l.length:Nat)) (by omega));rw[HC.out]at CC;go_wp2_with fail
  (with_reducible refine CC.out.mono ?_)
  rintro e w4 ⟨rfl,hd4,hk4⟩;have D4:=zh hd4;have K4:=zh (K3.out.trans hk4 fun i _ hi=>hi);have F4:Hid (∀i,w4.heap.size≤i→X i∧i≠q):=fun i hi=>F3.out i (Nat.le_trans hk4.size hi);clear hd4 hk4 CC F3 D3 K3;generalize Dk.lost d2 (d2.l.length:Nat)=lo at*;go_wp2_with fail
  (with_reducible refine(jji w4 D4.out F4.out HY.out.sync).mono ?_)
  rintro e w5 hp;obtain⟨rfl,hj,hk⟩:=H1.out.step (hp.before K4.out) (by rw[←E0.out];exact HW.out);rw[←E0.out]at hj;have J5:=zh hj;have K5:=zh ((Kept.of_below (F:=X) B1.out).trans hk fun i _ hi=>hi);clear hp hj hk;go_wp2_with fail;go_ret;exact⟨by rw[T0.out];rfl,J5.out,K5.out⟩
 ·have E0:Hid (Jn.torn d p keep=d∧Jn.tornE d p=Jn.appE d p):=by
   show _∧_;unfold Jn.torn Jn.tornE;rw[if_pos h0,if_pos h0];exact⟨rfl,rfl⟩
  have hne:(Jn.appE d p !=0)=true:=by rw[bne_iff_ne];exact h0
  rw[E0.out.2];obtain⟨y,hy⟩:∃y,y=Jn.appE d p:=⟨_,rfl⟩;rw[←hy]at C1 hne⊢;clear h0 hy;go_enter Tryz.func52,Tryz.ntmps52;go_wp2_with fail;refine C1.out.mono ?_;rintro e w1 ⟨A1,c1,f,rfl,ho1,hf,hb1⟩;have B1:=zh hb1;clear ho1 hb1 hf C1;go_wp2_with fail;go_ret;exact⟨rfl,by rw[E0.out.1];exact H.out.below B1.out,Kept.of_below B1.out⟩
theorem jl0{n c:Nat}{A:Option Addr}{ls:List (List Nat)}(hs:SlS W A n c ls)(hl:ls.length≤1000)(hpl:∀p∈ls,p.length≤900000000):
  Calls Tryz.prog 54 #[.pointer (some ⟨q,0,none⟩),.slice A n c] W fun e w'=>e= .returned (.int .i64 (Jn.swapE d ls))∧Jrn w' X q r (Jn.swap d ls)∧Kept X W w':=by
 have H:=zh h;have HX:=zh hX;have HS:=zh hs;have hnl:n=ls.length:=hs.len;have hn1000:n≤1000:=by omega
 have HN:=zh hnl;have HPL:=zh hpl;have HB:Hid (∀p∈ls,∀x∈p,x<256):=fun p hp=>by
  obtain⟨j,hj,rfl⟩:=List.mem_iff_getElem.1 hp;obtain⟨b,o,_,_,hc⟩:=hs.rd (by omega);obtain⟨A',n',c',_,h2⟩:=hc j hj;have:=h2.rd.1
  rwa [jak hj]at this
 have HW:=zh (h.whole.swap HB.out);clear h hX hs hl hnl hpl;go_enter Tryz.func54,Tryz.ntmps54;go_wp2_with fail;refine(jcp W q _ H.out.blk).mono ?_;rintro e W' ⟨rfl,rfl⟩;go_wp2_with fail;go_loopw [6,17] (fun v i wr=>∃(m:Nat) (A':Option Addr) (c' y:Nat),m≤n∧i= .int .i64 m∧(∀j,j<m→putE (ls.getD j [])=0)∧v= .slice A' y c'∧y=(all (ls.take m)).length∧OwnB wr W'.heap.size (.slice A' y c') (all (ls.take m))∧Below W'.heap.size W' wr) (fun _ i _=>n -(intOf i).toNat)
 case atStart=>exact⟨0,none,0,0,by omega,rfl,fun j hj=>absurd hj (by omega),rfl,rfl,OwnB.none_ _ _,Below.refl _ _⟩
 case round=>
  obtain⟨m,A',c',y,hm,rfl,hput,rfl,hyl,hown,hb⟩:=hrel;have O:=zh hown;have B:=zh hb;have P:=zh hput;have YL:=zh hyl;have hy:y≤1006*m:=by rw[hyl];exact Jn.all_len (by rw[←HN.out];exact hm) hput
  clear hown hb hput hyl;by_cases hlt:m<n
  ·have hml:m<ls.length:=by rw[←HN.out];exact hlt
   obtain⟨b,o,rfl,hbb,hc⟩:=HS.out.rd (by omega);obtain⟨A2,n2,c2,hcell,hs2⟩:=hc m hml;have c0:=(B.out.cell (p:=⟨b,o+m,none⟩) hbb).trans hcell;have hp9:n2≤900000000:=by rw[hs2.len,jak hml];exact HPL.out _ (List.getElem_mem hml)
   have C2:=zh (jgc 0 0 n2 c2 none A2 [] (ls.getD m []) wr (Sl.none_ _) (hs2.on B.out) (by omega) hp9);have SN:=zh (all_take_snoc hml);have PM:=zh (fun he=>Jn.bad_at P.out hml he);clear hc hcell hs2 hp9;have i1:(0:Int)≤(m:Int):=by omega
   have i2:(m:Int)<(n:Int):=by omega
   obtain⟨x,hx⟩:∃x,x=all (ls.take m):=⟨_,rfl⟩;rw[←hx]at O YL SN;have HXx:=zh hx;clear hx;by_cases he:putE (ls.getD m [])=0
   ·have HE:=zh he
    have hpo:=Jn.put_ok he;have hL:putL [] (ls.getD m [])=fr (ls.getD m []):=(jh4 hpo.1 hpo.2).2;rw[hL,he]at C2;have HFL:Hid ((fr (ls.getD m [])).length≤1006):=by show _≤_;rw[fr_length];omega
    obtain⟨z,hz⟩:∃z,z=(fr (ls.getD m [])).length:=⟨_,rfl⟩;unfold jec at C2;rw[←hz]at C2 HFL;have HZ:=zh hz;clear he hpo hL hz;go_wp2_with fail
    (with_reducible refine C2.out.mono ?_)
    rintro e w4 ⟨A4,c4,rfl,ho4,hb4⟩;have S4:=zh ho4.sls;have O4:=zh (O.out.below hb4);have B4:=zh (B.out.trans (hb4.mono B.out.size));have LZ:Hid (x.length+(fr (ls.getD m [])).length≤140737488355328):=by show _≤_;have h1:=HFL.out;have h2:=YL.out;have h3:=HZ.out;omega
    have LX:Hid (y+z=(x++fr (ls.getD m [])).length):=by show _=_;rw[List.length_append,YL.out,HZ.out]
    clear ho4 hb4 C2;obtain⟨f,hf⟩:∃f,f=fr (ls.getD m []):=⟨_,rfl⟩;rw[←hf]at S4 LZ SN LX;clear hf HZ;go_wp2_with(at_builtin;refine jau rfl (.tmp 29) (.tmp 30) rfl W'.heap.size _ x rfl O4.out z c4 A4 f rfl S4.out LZ.out B4.out.size ?_;intro v5 w5 ho5 hb5;have O5:=zh ho5;have B5:=zh (B4.out.trans hb5);obtain⟨A5,c5,rfl,_⟩:=ho5.sl;clear ho5 hb5);rw[←LX.out]at O5;go_roundw
    case rel=>exact⟨m+1,A5,c5,y+z,by omega,by go_num,(fun j hj=>by rcases Nat.lt_or_ge j m with h|h;exact P.out j h;rw[show j=m from by omega];exact HE.out),by rw[LX.out,List.length_append],by rw[SN.out,LX.out],by rw[SN.out];exact O5.out,B5.out⟩
    case measure=>simp[intOf];omega
   ·have HBD:=zh (PM.out he)
    have hne:(((putE (ls.getD m []):Nat):Int) !=0)=true:=by rw[bne_iff_ne];omega
    have HXX:Hid (Jn.swap d ls=d∧Jn.swapE d ls=(putE (ls.getD m []):Nat)):=by
     show _∧_;unfold Jn.swap Jn.swapE;rw[HBD.out,if_pos he,if_pos he];exact⟨rfl,rfl⟩
    obtain⟨z,hz⟩:∃z,z=(putL [] (ls.getD m [])).length:=⟨_,rfl⟩;unfold jec at C2;rw[←hz]at C2;clear he hz HBD PM;generalize putE (ls.getD m [])=ee at*;go_wp2_with fail
    (with_reducible refine C2.out.mono ?_)
    rintro e w4 ⟨A4,c4,rfl,_,hb4⟩;have B4:=zh (B.out.trans (hb4.mono B.out.size));clear hb4;go_wp2_with fail;go_ret;exact⟨by rw[HXX.out.2];rfl,by rw[HXX.out.1];exact H.out.below B4.out,Kept.of_below B4.out⟩
  ·obtain rfl:m=n:=by omega
   have HT:Hid (ls.take m=ls):=by show _=_;rw[HN.out,List.take_length]
   have h0:=Jn.bad_none (fun j hj=>P.out j (by rw[HN.out];exact hj));have HXX:Hid (Jn.swap d ls=Dk.swap d (all ls)∧Jn.swapE d ls=Dk.swapE d (all ls)):=by
    show _∧_;unfold Jn.swap Jn.swapE;rw[h0,if_neg (by omega),if_neg (by omega)];exact⟨rfl,rfl⟩
   have S:=zh O.out.sls;rw[HT.out]at S;have H1:=zh (H.out.below B.out);clear h0 HT O YL;go_wp2_with fail
   (with_reducible refine(dSwap_x wr H1.out.dsk (H1.out.fresh fun i hi=>HX.out i (Nat.le_trans B.out.size hi)) S.out).mono ?_)
   rw[←HXX.out.1,←HXX.out.2];rintro e w2 hp;obtain⟨rfl,hj,hk⟩:=H1.out.step hp HW.out;have J2:=zh hj;have K2:=zh ((Kept.of_below (F:=X) B.out).trans hk fun i _ hi=>hi);clear hp hj hk;obtain⟨ee,hee⟩:∃ee,ee=Jn.swapE d ls:=⟨_,rfl⟩;rw[←hee];have HEE:=zh hee;clear hee;go_wp2_with fail;go_ret;exact⟨by rw[←HEE.out];rfl,J2.out,K2.out⟩
end
end Go.Proofs.YtabandbigckfkaaGreatDoor
namespace Go.Proofs.YtabandbigckfkaaGreatDoor
namespace Spc
def dg(n:Nat):List Nat:=if h:n<10 then[48+n]else dg (n/10)++[48+n%10]
termination_by n
decreasing_by omega
theorem dg_one{n:Nat}(h:n<10):dg n=[48+n]:=by rw[dg];simp[h]
theorem dg_more{n:Nat}(h:¬n<10):dg n=dg (n/10)++[48+n%10]:=by rw[dg];simp[h]
def digs(n:Int):List Nat:=if n<0 then 45::dg n.natAbs else dg n.natAbs
theorem dg_byte(n:Nat):∀x∈dg n,48≤x∧x≤57:=by
 induction n using Nat.strongRecOn with
 |ind n ih=>
  intro x hx;by_cases h:n<10
  ·rw[dg_one h]at hx;simp at hx;omega
  ·rw[dg_more h]at hx
   rcases List.mem_append.1 hx with hx|hx
   ·exact ih _ (by omega) x hx
   ·simp at hx;omega
theorem digs_byte(n:Int):∀x∈digs n,x<256∧x≠32:=by
 intro x hx;unfold digs at hx;split at hx
 ·rcases List.mem_cons.1 hx with rfl|hx
  ·omega
  ·have:=dg_byte _ x hx;omega
 ·have:=dg_byte _ x hx;omega
theorem dg_len(n k:Nat)(h:n<10^(k+1)):(dg n).length≤k+1:=by
 induction k generalizing n with
 |zero=>rw[dg_one (by simpa using h)];simp
 |succ k ih=>
  by_cases h1:n<10
  ·rw[dg_one h1];simp
  ·rw[dg_more h1,List.length_append]
   have:=ih (n/10) (by rw[Nat.pow_succ]at h;omega);simp;omega
theorem dg_pos(n:Nat):1≤(dg n).length:=by
 by_cases h:n<10
 ·rw[dg_one h];simp
 ·rw[dg_more h,List.length_append];simp
def acc(l:List Nat)(n:Int):Int:=l.foldl (fun(n:Int) (c:Nat)=>10*n+(c:Int) -48) n
theorem acc_snoc(l:List Nat)(c:Nat)(n:Int):acc (l++[c]) n=10*acc l n+c -48:=by unfold acc;rw[List.foldl_append];rfl
theorem acc_dg(n:Nat):acc (dg n) 0=n:=by
 induction n using Nat.strongRecOn with
 |ind n ih=>
  by_cases h:n<10
  ·rw[dg_one h];show 10*(0:Int)+((48+n:Nat):Int) -48=n;omega
  ·rw[dg_more h,acc_snoc,ih _ (by omega)];omega
def from_(l:List Nat):Nat:=if l.getD 0 0=45∧0<l.length then 1 else 0
def numV(l:List Nat):Int:=if from_ l=1 then -(acc ((l.drop (from_ l)).take 10) 0)else acc ((l.drop (from_ l)).take 10) 0
def numB(l:List Nat):Bool:=decide (l.length≤from_ l+9)&&decide (digs (numV l)=l)
theorem num_digs(n:Int)(h0:0≤n)(h9:n<1000000000):numV (digs n)=n∧numB (digs n)=true:=by
 have e:digs n=dg n.natAbs:=by unfold digs;rw[if_neg (by omega)]
 have hl:=dg_len n.natAbs 8 (by omega);have hp:=dg_pos n.natAbs;have hf:from_ (digs n)=0:=by
  unfold from_;rw[if_neg];rintro⟨h1,h2⟩;rw[e]at h1 h2;have:=dg_byte n.natAbs ((dg n.natAbs).getD 0 0) (by rw[jak h2];exact List.getElem_mem h2);omega
 have hv:numV (digs n)=n:=by
  unfold numV;rw[hf,if_neg (by omega),List.drop_zero,List.take_of_length_le (by rw[e];omega),e,acc_dg];omega
 refine⟨hv,?_⟩;unfold numB;rw[hv,hf,Bool.and_eq_true,decide_eq_true_eq,decide_eq_true_eq];exact⟨by rw[e];omega,rfl⟩
def wstep(ws:List (List Nat))(c:Nat):List (List Nat):=if c=32 then ws++[[]]else ws.dropLast++[ws.getLastD []++[c]]
def words(l:List Nat):List (List Nat):=l.foldl wstep [[]]
theorem fold_word(ws:List (List Nat))(u v:List Nat)(hv:∀x∈v,x≠32):v.foldl wstep (ws++[u])=ws++[u++v]:=by
 induction v generalizing u with
 |nil=>simp
 |cons c v ih=>
  have hc:c≠32:=hv c (by simp);rw[List.foldl_cons];have:wstep (ws++[u]) c=ws++[u++[c]]:=by unfold wstep;rw[if_neg hc];simp
  rw[this,ih _ (fun x hx=>hv x (by simp[hx]))];simp
def join:List (List Nat)→List Nat
 |[]=>[]
 |u::l=>u++l.flatMap fun v=>32::v
theorem fold_words(ws:List (List Nat))(l:List (List Nat))(hl:∀v∈l,∀x∈v,x≠32)(hne:ws≠[]):(l.flatMap fun v=>32::v).foldl wstep ws=ws++l:=by
 induction l generalizing ws with
 |nil=>simp
 |cons v l ih=>
  rw[List.flatMap_cons,List.foldl_append,List.foldl_cons];have:wstep ws 32=ws++[[]]:=by unfold wstep;rw[if_pos rfl]
  rw[this,fold_word _ _ _ (hl v (by simp)),List.nil_append,ih _ (fun y hy=>hl y (by simp[hy])) (by simp)];simp
theorem words_join{l:List (List Nat)}(hl:∀v∈l,∀x∈v,x≠32)(hne:l≠[]):words (join l)=l:=by
 rcases l with _|⟨u,l⟩
 ·exact absurd rfl hne
 ·show(u++l.flatMap fun v=>32::v).foldl wstep [[]]=_
  rw[List.foldl_append,show([[]]:List (List Nat))=[]++[[]]from rfl,fold_word _ _ _ (hl u (by simp)),fold_words _ _ (fun v hv=>hl v (by simp[hv])) (by simp)];simp
def text(s:Sp):List Nat:=join ((flds s).map digs)
theorem text_words(s:Sp):words (text s)=(flds s).map digs:=
 words_join (fun v hv x hx=>by
  obtain⟨n,_,rfl⟩:=List.mem_map.1 hv;exact(digs_byte n x hx).2) (by simp[flds])
def rdS(t:List Nat):Sp:=of ((words t).map numV)
def rdE(t:List Nat):Int:=if(words t).length≠12∨¬(∀u∈words t,numB u=true)then 2 else chkE (rdS t)
def rdV(t:List Nat):Sp:=if rdE t=0 then rdS t else zero
theorem back{s:Sp}(h:May s):rdE (text s)=0∧rdV (text s)=s:=by
 have hw:=text_words s;have hn:∀n∈flds s,numV (digs n)=n∧numB (digs n)=true:=fun n hn=>by
  have:=h.small n hn;exact num_digs n this.1 (by omega)
 have hs:rdS (text s)=s:=by
  unfold rdS;rw[hw,List.map_map];have:(flds s).map (numV∘digs)=flds s:=by
   conv=>rhs;rw[←List.map_id (flds s)]
   exact List.map_congr_left fun n hm=>(hn n hm).1
  rw[this,of_flds]
 have he:rdE (text s)=0:=by
  unfold rdE;rw[if_neg,hs]
  ·unfold chkE;rw[if_pos (chk_of h)]
  ·rw[hw]
   rintro(h1|h1)
   ·exact h1 (by rw[List.length_map];rfl)
   ·refine h1 fun u hu=> ?_
    obtain⟨n,hm,rfl⟩:=List.mem_map.1 hu;exact(hn n hm).2
 refine⟨he,?_⟩;unfold rdV;rw[if_pos he,hs]
end Spc
open Go.RowKit
theorem jav(n lo hi:Int)(w:World):Calls Tryz.prog 231 #[.int .i64 n,.int .i64 lo,.int .i64 hi] w fun e w'=>e= .returned (.bool (Spc.inn n lo hi))∧w'=w:=by
 have HI:Hid (Spc.inn n lo hi=(decide (lo≤n)&&decide (n≤hi))):=rfl;by_cases h1:lo≤n
 ·by_cases h2:n≤hi
  ·have e:Spc.inn n lo hi=true:=Spc.inn_iff.2 ⟨h1,h2⟩
   rw[e];clear HI e;go_enter Tryz.func231,Tryz.ntmps231;go_wp2_with fail;go_ret;exact⟨rfl,rfl⟩
  ·have e:Spc.inn n lo hi=false:=by rw[HI.out,Bool.and_eq_false_iff,decide_eq_false_iff_not,decide_eq_false_iff_not];exact .inr h2
   rw[e];clear HI e;go_enter Tryz.func231,Tryz.ntmps231;go_wp2_with fail;go_ret;exact⟨rfl,rfl⟩
 ·have e:Spc.inn n lo hi=false:=by rw[HI.out,Bool.and_eq_false_iff,decide_eq_false_iff_not,decide_eq_false_iff_not];exact .inl h1
  rw[e];clear HI e;go_enter Tryz.func231,Tryz.ntmps231;go_wp2_with fail;go_ret;exact⟨rfl,rfl⟩
theorem jaw(n least many:Int)(hl:0≤least∧least≤1000)(hm:0<many∧many≤1000)(w:World):Calls Tryz.prog 196 #[.int .i64 n,.int .i64 least,.int .i64 many] w fun e w'=>e= .returned (.int .i64 (Spc.near n least many))∧w'=w:=by
 have HN:Hid (Spc.near n least many=least+n%18446744073709551616%many):=rfl;have h1:=Int.emod_nonneg n (b:=18446744073709551616) (by omega);have h2:=Int.emod_lt_of_pos n (b:=18446744073709551616) (by omega);have h3:=Int.emod_nonneg (n%18446744073709551616) (b:=many) (by omega);have h4:=Int.emod_lt_of_pos (n%18446744073709551616) hm.1;have hu:IntKind.u64.wrap n=n%18446744073709551616:=IntKind.wrap_u64 n;have hu2:IntKind.u64.wrap many=many:=by rw[IntKind.wrap_u64];omega
 generalize n%18446744073709551616=y at*;have ht:y.tmod many=y%many:=Int.tmod_eq_emod_of_nonneg h1;generalize y%many=z at*;go_enter Tryz.func196,Tryz.ntmps196;go_wp2_with fail;go_ret;exact⟨by rw[HN.out];rfl,rfl⟩
def Spc.cells(s:Spc.Sp):Array Value:=#[.int .i64 s.v,.int .i64 s.d,.int .i64 s.u,.int .i64 s.n,.int .i64 s.g,.int .i64 s.a,.int .i64 s.b,.int .i64 s.c,.int .i64 s.e,.int .i64 s.w,.int .i64 s.x,.int .i64 s.k]
def Spc.val(s:Spc.Sp):Value:= .agg (Spc.cells s)
structure SpAt(w:World)(g:Nat)(s:Spc.Sp):Prop where
 f0:w.cell? ⟨g,0,none⟩=some (.int .i64 s.v)
 f1:w.cell? ⟨g,1,none⟩=some (.int .i64 s.d)
 f2:w.cell? ⟨g,2,none⟩=some (.int .i64 s.u)
 f3:w.cell? ⟨g,3,none⟩=some (.int .i64 s.n)
 f4:w.cell? ⟨g,4,none⟩=some (.int .i64 s.g)
 f5:w.cell? ⟨g,5,none⟩=some (.int .i64 s.a)
 f6:w.cell? ⟨g,6,none⟩=some (.int .i64 s.b)
 f7:w.cell? ⟨g,7,none⟩=some (.int .i64 s.c)
 f8:w.cell? ⟨g,8,none⟩=some (.int .i64 s.e)
 f9:w.cell? ⟨g,9,none⟩=some (.int .i64 s.w)
 f10:w.cell? ⟨g,10,none⟩=some (.int .i64 s.x)
 f11:w.cell? ⟨g,11,none⟩=some (.int .i64 s.k)
theorem jac{w:World}{g:Nat}{s:Spc.Sp}{t:TypeId}{fr:Nat×Nat}(h:w.heap[g]? =some (.cells (Spc.cells s) t fr)):SpAt w g s:=by
 constructor<;>(rw[cell_of_row w g _ _ _ _ h];rfl)
theorem SpAt.below{w w':World}{g:Nat}{s:Spc.Sp}(h:SpAt w g s)(hg:g<w.heap.size)(hb:Below w.heap.size w w'):SpAt w' g s:=
 ⟨(hb.cell (p:=⟨g,0,none⟩) hg).trans h.f0,(hb.cell (p:=⟨g,1,none⟩) hg).trans h.f1,(hb.cell (p:=⟨g,2,none⟩) hg).trans h.f2,(hb.cell (p:=⟨g,3,none⟩) hg).trans h.f3,(hb.cell (p:=⟨g,4,none⟩) hg).trans h.f4,(hb.cell (p:=⟨g,5,none⟩) hg).trans h.f5,(hb.cell (p:=⟨g,6,none⟩) hg).trans h.f6,(hb.cell (p:=⟨g,7,none⟩) hg).trans h.f7,(hb.cell (p:=⟨g,8,none⟩) hg).trans h.f8,(hb.cell (p:=⟨g,9,none⟩) hg).trans h.f9,(hb.cell (p:=⟨g,10,none⟩) hg).trans h.f10,(hb.cell (p:=⟨g,11,none⟩) hg).trans h.f11⟩
theorem jcf{s:Spc.Sp}{j:Nat}(hj:j≤4)(h:∀m,m<j→Spc.at_ s m≠0)(he:j=4∨Spc.at_ s j=0):Spc.steps s=[s.a,s.b,s.c,s.e].take j:=by
 unfold Spc.steps;have g0:0<j→s.a≠0:=fun x=>h 0 x;have g1:1<j→s.b≠0:=fun x=>h 1 x;have g2:2<j→s.c≠0:=fun x=>h 2 x;have g3:3<j→s.e≠0:=fun x=>h 3 x;rcases j with _|_|_|_|_|j
 ·have e:s.a=0:=he.resolve_left (by omega)
  simp[e]
 ·have e:s.b=0:=he.resolve_left (by omega)
  simp[g0,e]
 ·have e:s.c=0:=he.resolve_left (by omega)
  simp[g0,g1,e]
 ·have e:s.e=0:=he.resolve_left (by omega)
  simp[g0,g1,g2,e]
 ·simp[g0,g1,g2,g3]
 ·omega
theorem jia:Tryz.prog.underlying 35=some (.struct (Tryz.prog.fieldsOf 35)):=by kernel_rfl
theorem jj2:Tryz.prog.stoodInHeld 35=false:=by kernel_rfl
theorem jl1:Tryz.prog.underlying 33=some (.array 4 3):=by kernel_rfl
theorem jbd:Tryz.prog.eqGuardType Tryz.prog.depth 35=false:=by kernel_rfl
theorem jl2:Tryz.prog.cellsOf 3=1:=by kernel_rfl
section
variable{P:Program}{W:World}
theorem jl3{d:Nat}{xs ys:Array Value}:(Op.eqFields d xs ys []).run P W= .ok true W:=rfl
theorem ja7{d:Nat}{xs ys:Array Value}{f:Field}{fs:List Field}{a b:Value}{r R:Bool}(hn:f.name≠ "_")(h1:(part f.type xs f.offset).run P W= .ok a W)(h2:(part f.type ys f.offset).run P W= .ok b W)
  (h3:(Op.equalIn d f.type a b).run P W= .ok r W) (h4:(Op.eqFields d xs ys fs).run P W= .ok R W):(Op.eqFields d xs ys (f::fs)).run P W= .ok (r&&R) W:=by
 cases r<;>simp[Op.eqFields,hn,h1,h2,h3,h4,Sem.run_bind,Result.andThen]
theorem eqi_nil{d:Nat}{e:TypeId}{c:Nat}{xs ys:Array Value}:(Op.eqItems d e c xs ys []).run P W= .ok true W:=rfl
theorem jem{d:Nat}{e:TypeId}{c:Nat}{xs ys:Array Value}{i:Nat}{is:List Nat}{a b:Value}{r R:Bool}(h1:(part e xs (i*c)).run P W= .ok a W)(h2:(part e ys (i*c)).run P W= .ok b W)
  (h3:(Op.equalIn d e a b).run P W= .ok r W) (h4:(Op.eqItems d e c xs ys is).run P W= .ok R W):(Op.eqItems d e c xs ys (i::is)).run P W= .ok (r&&R) W:=by
 cases r<;>simp[Op.eqItems,h1,h2,h3,h4,Sem.run_bind,Result.andThen]
end
theorem arr_eq(a b c e a' b' c' e':Int)(d:Nat)(W:World):(Op.equalIn (d+2) 33 (.agg #[.int .i64 a,.int .i64 b,.int .i64 c,.int .i64 e]) (.agg #[.int .i64 a',.int .i64 b',.int .i64 c',.int .i64 e'])).run Tryz.prog W= .ok ((a==a')&&((b==b')&&((c==c')&&((e==e')&&true)))) W:=by
 obtain⟨i0,hi0,hz0,hz1,hz2⟩:=info_parts jek;rw[run_equalIn_array W (d+1) _ _ jl1 hi0,jl2,show List.range 4=[0,1,2,3]from rfl];have hi:∀x y,(Op.equalIn (d+1) 3 (.int .i64 x) (.int .i64 y)).run Tryz.prog W= .ok (x==y) W:=fun x y=>run_equalIn_int W d 3 .i64 .i64 x y Tryz.underlying3;refine jem ?_ ?_ (hi _ _) (jem ?_ ?_ (hi _ _) (jem ?_ ?_ (hi _ _) (jem ?_ ?_ (hi _ _) eqi_nil)))
 all_goals simp[go_sem,Sem.run_bind,Result.andThen]
def Spc.same(s t:Spc.Sp):Bool:=(s.v==t.v)&&((s.d==t.d)&&((s.u==t.u)&&((s.n==t.n)&&((s.g==t.g)&&(((s.a==t.a)&&((s.b==t.b)&&((s.c==t.c)&&((s.e==t.e)&&true))))&&((s.w==t.w)&&((s.x==t.x)&&((s.k==t.k)&&true))))))))
theorem Spc.same_iff{s t:Spc.Sp}:Spc.same s t=true↔s=t:=by
 unfold Spc.same;simp only[Bool.and_eq_true,beq_iff_eq,and_true];constructor
 ·rintro⟨h1,h2,h3,h4,h5,⟨h6,h7,h8,h9⟩,h10,h11,h12⟩
  cases s;cases t
  simp only at h1 h2 h3 h4 h5 h6 h7 h8 h9 h10 h11 h12;subst h1 h2 h3 h4 h5 h6 h7 h8 h9 h10 h11 h12;rfl
 ·rintro rfl
  simp
theorem jg1(s t:Spc.Sp)(d:Nat)(W:World):(Op.equalIn (d+3) 35 (Spc.val s) (Spc.val t)).run Tryz.prog W= .ok (Spc.same s t) W:=by
 unfold Spc.val;rw[run_equalIn_agg W (d+2) 35 _ _ jia jj2];have hi:∀x y,(Op.equalIn (d+2) 3 (.int .i64 x) (.int .i64 y)).run Tryz.prog W= .ok (x==y) W:=fun x y=>run_equalIn_int W (d+1) 3 .i64 .i64 x y Tryz.underlying3;have ha:=arr_eq s.a s.b s.c s.e t.a t.b t.c t.e d W;simp only[Program.fieldsOf,Tryz.underlying35,Spc.cells];unfold Spc.same;refine ja7 (by decide) ?_ ?_ (hi _ _) (ja7 (by decide) ?_ ?_ (hi _ _) (ja7 (by decide) ?_ ?_ (hi _ _) (ja7 (by decide) ?_ ?_ (hi _ _) (ja7 (by decide) ?_ ?_ (hi _ _) (ja7 (by decide) ?_ ?_ ha (ja7 (by decide) ?_ ?_ (hi _ _) (ja7 (by decide) ?_ ?_ (hi _ _) (ja7 (by decide) ?_ ?_ (hi _ _) jl3))))))))
 all_goals simp[go_sem,Sem.run_bind,Result.andThen]
theorem spec_eq(s t:Spc.Sp)(W:World):(binOp .eql 35 (Spc.val s) (Spc.val t)).run Tryz.prog W= .ok (.bool (Spc.same s t)) W:=by
 have h:=jg1 s t 9997 W;unfold Spc.val at*;rw[run_eql_struct,h];rfl
theorem jcg(s t:Spc.Sp)(W:World):(binOp .neq 35 (Spc.val s) (Spc.val t)).run Tryz.prog W= .ok (.bool (!Spc.same s t)) W:=by
 have h:=jg1 s t 9997 W;unfold Spc.val at*;rw[run_neq_struct,h];rfl
open Go
theorem jpn{P:Program}{t:TypeId}{fs:Array Field}(hu:P.underlying t=some (.struct fs)){ts:List TypeId}(hc:P.cellsOf t=ts.length)(ht:P.cellTypes P.depth t=some ts){W:World}{r:Reach}{b0:Nat}{v:Value}(h:Value.okWide P W r b0 t v):
  ∃cs:List Value,v= .agg cs.toArray∧cs.length=ts.length∧∀(j:Nat) (u:TypeId),ts[j]? =some u→∃c,cs[j]? =some c∧Cell.okWide P W r b0 u c:=by
 unfold Value.okWide at h;rw[hu]at h;obtain⟨cs,rfl,hsz,ts',hts,_,hall⟩:=h;rw[ht]at hts;obtain rfl:=Option.some.inj hts;rw[hc]at hsz;refine⟨cs.toList,by simp,by simpa using hsz,fun j u hj=> ?_⟩;have hjl:j<ts.length:=(List.getElem?_eq_some_iff.1 hj).1;obtain⟨u',hu',hcell⟩:=hall j (cs[j]'(by omega)) (by simp[hsz,hjl]);rw[Nat.mod_eq_of_lt hjl,hj]at hu';obtain rfl:=Option.some.inj hu';exact⟨_,by simp[hsz,hjl],hcell⟩
theorem jpo{P:Program}{t:TypeId}(hu:P.underlying t=some (.int .i64)){W:World}{r:Reach}{b0:Nat}{v:Value}(h:Cell.okWide P W r b0 t v):∃n,v= .int .i64 n∧-9223372036854775808≤n∧n≤9223372036854775807:=by
 unfold Cell.okWide at h;rw[hu]at h
 cases v<;>simp[Cell.ok,hu]at h
 case int k n=>
  obtain⟨rfl,h1⟩:=h;refine⟨n,rfl,?_⟩;simp[IntKind.has,IntKind.min,IntKind.max,IntKind.signed,IntKind.bits]at h1;omega
theorem jpp{P:Program}{t:TypeId}(hu:P.underlying t=some .string){W:World}{r:Reach}{b0:Nat}{v:Value}(h:Cell.okWide P W r b0 t v):∃s,v= .string s∧s.size≤maxLen:=by
 unfold Cell.okWide at h;rw[hu]at h
 cases v<;>simp[Cell.ok,hu]at h
 case string s=>exact⟨s,rfl,by unfold maxLen;omega⟩
end Go.Proofs.YtabandbigckfkaaGreatDoor
namespace Go.Proofs.YtabandbigckfkaaGreatDoor
open Go.RowKit
def Rc.cells(r:Rc.R):Array Value:=#[.int .i64 r.kind,.int .i64 r.epoch,.int .i64 r.who,.int .i64 r.n,.int .i64 r.seq,.string r.text,.int .i64 r.sp.v,.int .i64 r.sp.d,.int .i64 r.sp.u,.int .i64 r.sp.n,.int .i64 r.sp.g,.int .i64 r.sp.a,.int .i64 r.sp.b,.int .i64 r.sp.c,.int .i64 r.sp.e,.int .i64 r.sp.w,.int .i64 r.sp.x,.int .i64 r.sp.k]
def Rc.val(r:Rc.R):Value:= .agg (Rc.cells r)
structure RcAt(w:World)(g:Nat)(r:Rc.R):Prop where
 row:w.heap[g]? =some (.cells (Rc.cells r) 45 (0,0))
theorem RcAt.new(w:World)(r:Rc.R):RcAt (w.alloc (.cells (Rc.cells r) 45)) w.heap.size r:=⟨heap_alloc_new w _⟩
theorem RcAt.on{w w':World}{g:Nat}{r:Rc.R}(h:RcAt w g r)(hb:Below w.heap.size w w'):RcAt w' g r:=⟨(hb.block g (Array.getElem?_eq_some_iff.1 h.row).1).trans h.row⟩
structure RcCs(w:World)(g:Nat)(r:Rc.R):Prop where
 c0:w.cell? ⟨g,0,none⟩=some (.int .i64 r.kind)
 c1:w.cell? ⟨g,1,none⟩=some (.int .i64 r.epoch)
 c2:w.cell? ⟨g,2,none⟩=some (.int .i64 r.who)
 c3:w.cell? ⟨g,3,none⟩=some (.int .i64 r.n)
 c4:w.cell? ⟨g,4,none⟩=some (.int .i64 r.seq)
 c5:w.cell? ⟨g,5,none⟩=some (.string r.text)
 c6:w.cell? ⟨g,6,none⟩=some (.int .i64 r.sp.v)
 c7:w.cell? ⟨g,7,none⟩=some (.int .i64 r.sp.d)
 c8:w.cell? ⟨g,8,none⟩=some (.int .i64 r.sp.u)
 c9:w.cell? ⟨g,9,none⟩=some (.int .i64 r.sp.n)
 c10:w.cell? ⟨g,10,none⟩=some (.int .i64 r.sp.g)
 c11:w.cell? ⟨g,11,none⟩=some (.int .i64 r.sp.a)
 c12:w.cell? ⟨g,12,none⟩=some (.int .i64 r.sp.b)
 c13:w.cell? ⟨g,13,none⟩=some (.int .i64 r.sp.c)
 c14:w.cell? ⟨g,14,none⟩=some (.int .i64 r.sp.e)
 c15:w.cell? ⟨g,15,none⟩=some (.int .i64 r.sp.w)
 c16:w.cell? ⟨g,16,none⟩=some (.int .i64 r.sp.x)
 c17:w.cell? ⟨g,17,none⟩=some (.int .i64 r.sp.k)
 lt:g<w.heap.size
theorem RcAt.cs{w:World}{g:Nat}{r:Rc.R}(h:RcAt w g r):RcCs w g r:=
 ⟨by rw[cell_of_row w g 0 _ _ _ h.row];rfl,by rw[cell_of_row w g 1 _ _ _ h.row];rfl,by rw[cell_of_row w g 2 _ _ _ h.row];rfl,by rw[cell_of_row w g 3 _ _ _ h.row];rfl,by rw[cell_of_row w g 4 _ _ _ h.row];rfl,by rw[cell_of_row w g 5 _ _ _ h.row];rfl,
  by rw[cell_of_row w g 6 _ _ _ h.row];rfl,by rw[cell_of_row w g 7 _ _ _ h.row];rfl,by rw[cell_of_row w g 8 _ _ _ h.row];rfl,by rw[cell_of_row w g 9 _ _ _ h.row];rfl,by rw[cell_of_row w g 10 _ _ _ h.row];rfl,by rw[cell_of_row w g 11 _ _ _ h.row];rfl,
  by rw[cell_of_row w g 12 _ _ _ h.row];rfl,by rw[cell_of_row w g 13 _ _ _ h.row];rfl,by rw[cell_of_row w g 14 _ _ _ h.row];rfl,by rw[cell_of_row w g 15 _ _ _ h.row];rfl,by rw[cell_of_row w g 16 _ _ _ h.row];rfl,by rw[cell_of_row w g 17 _ _ _ h.row];rfl,(Array.getElem?_eq_some_iff.1 h.row).1⟩
theorem jaf:Tryz.prog.underlying 45=some (.struct (Tryz.prog.fieldsOf 45)):=by kernel_rfl
theorem jpq:Tryz.prog.cellsOf 45=18:=by kernel_rfl
theorem jl4:Tryz.prog.cellTypes Tryz.prog.depth 45=some [3,3,3,3,3,9,3,3,3,3,3,3,3,3,3,3,3,3]:=by kernel_rfl
theorem open_rec{W:World}{r:Reach}{b0:Nat}{v:Value}(hv:Value.okWide Tryz.prog W r b0 45 v):∃x:Rc.R,v=Rc.val x∧Rc.In x:=by
 obtain⟨cs,rfl,hl,key⟩:=jpn (ts:=[3,3,3,3,3,9,3,3,3,3,3,3,3,3,3,3,3,3]) jaf jpq jl4 hv;clear hv;have ki:∀j:Nat,([3,3,3,3,3,9,3,3,3,3,3,3,3,3,3,3,3,3]:List TypeId)[j]? =some 3→∃n,cs[j]? =some (.int .i64 n)∧Spc.i64 n:=fun j hj=>by
  obtain⟨c,e,k⟩:=key j _ hj;obtain⟨n,rfl,i⟩:=jpo Tryz.underlying3 k;exact⟨n,e,i⟩
 obtain⟨n0,e0,i0⟩:=ki 0 rfl;obtain⟨n1,e1,i1⟩:=ki 1 rfl;obtain⟨n2,e2,i2⟩:=ki 2 rfl;obtain⟨n3,e3,i3⟩:=ki 3 rfl;obtain⟨n4,e4,i4⟩:=ki 4 rfl;obtain⟨c5,e5,k5⟩:=key 5 _ rfl;obtain⟨s5,rfl,i5⟩:=jpp Tryz.underlying9 k5;obtain⟨n6,e6,i6⟩:=ki 6 rfl;obtain⟨n7,e7,i7⟩:=ki 7 rfl;obtain⟨n8,e8,i8⟩:=ki 8 rfl;obtain⟨n9,e9,i9⟩:=ki 9 rfl;obtain⟨n10,e10,i10⟩:=ki 10 rfl;obtain⟨n11,e11,i11⟩:=ki 11 rfl;obtain⟨n12,e12,i12⟩:=ki 12 rfl;obtain⟨n13,e13,i13⟩:=ki 13 rfl;obtain⟨n14,e14,i14⟩:=ki 14 rfl;obtain⟨n15,e15,i15⟩:=ki 15 rfl;obtain⟨n16,e16,i16⟩:=ki 16 rfl;obtain⟨n17,e17,i17⟩:=ki 17 rfl;clear key ki k5;obtain⟨a0,a1,a2,a3,a4,a5,a6,a7,a8,a9,a10,a11,a12,a13,a14,a15,a16,a17,rfl⟩:∃a0 a1 a2 a3 a4 a5 a6 a7 a8 a9 a10 a11 a12 a13 a14 a15 a16 a17,cs=[a0,a1,a2,a3,a4,a5,a6,a7,a8,a9,a10,a11,a12,a13,a14,a15,a16,a17]:=by
  clear e0 e1 e2 e3 e4 e5 e6 e7 e8 e9 e10 e11 e12 e13 e14 e15 e16 e17
  match cs,hl with
  |[a0,a1,a2,a3,a4,a5,a6,a7,a8,a9,a10,a11,a12,a13,a14,a15,a16,a17],_=>exact⟨_,_,_,_,_,_,_,_,_,_,_,_,_,_,_,_,_,_,rfl⟩
 simp at e0 e1 e2 e3 e4 e5 e6 e7 e8 e9 e10 e11 e12 e13 e14 e15 e16 e17;subst e0 e1 e2 e3 e4 e5 e6 e7 e8 e9 e10 e11 e12 e13 e14 e15 e16 e17;refine⟨⟨n0,n1,n2,n3,n4,s5,⟨n6,n7,n8,n9,n10,n11,n12,n13,n14,n15,n16,n17⟩⟩,rfl,?_,i5,?_⟩
 ·intro x hx
  simp only[Rc.nums,List.mem_cons,List.not_mem_nil,or_false]at hx;rcases hx with rfl|rfl|rfl|rfl|rfl<;>assumption
 ·intro n hn
  simp only[Spc.flds,List.mem_cons,List.not_mem_nil,or_false]at hn;rcases hn with rfl|rfl|rfl|rfl|rfl|rfl|rfl|rfl|rfl|rfl|rfl|rfl<;>assumption
theorem zR{ops:Array Oper}{rest:List Oper}{op:Oper}{a:Act}{w:World}{Q:Exit→Act→World→Prop}{g:Nat}{r:Rc.R}(x:Operand)(hg:RcAt w g r)(h:wpList Tryz.prog ops Q rest (a.put op.dst (.agg (Rc.cells r))) w)(hgd:op.guard=none:=by rfl)(ho:op.op= .load 45 x:=by rfl)(hx:a.eval x= .pointer (some ⟨g,0,none⟩):=by rfl):wpList Tryz.prog ops Q (op::rest) a w:=wpList_load_row hgd 45 x ho g hx 45 _ (0,0) _ hg.row jaf rfl (by kernel_rfl) h
open Go.Deep
structure SlR{T:Type}(K:Nat)(E:World→List Value→T→Prop)(w:World)(A:Option Addr)(n c:Nat)(ts:List T):Prop where
 rd:∀j t,ts[j]? =some t→∃b o cs,A=some ⟨b,o,none⟩∧b<w.heap.size∧cs.length=K∧(∀i,i<K→w.cell? ⟨b,o+j*K+i,none⟩=cs[i]?)∧E w cs t
 len:n=ts.length
 cap:n≤c
 max:c≤maxLen
 nil:A=none→c=0
section
variable{T:Type}{K:Nat}{E:World→List Value→T→Prop}
theorem SlR.none_(w:World):SlR K E w none 0 0 []:=⟨by simp,rfl,Nat.le_refl _,Nat.zero_le _,fun _=>rfl⟩
theorem list_of{n:Nat}{p:Nat→T→Prop}(h:∀i,i<n→∃x,p i x):∃ts:List T,ts.length=n∧∀j t,ts[j]? =some t→p j t:=by
 induction n with
 |zero=>exact⟨[],rfl,by simp⟩
 |succ n ih=>
  obtain⟨ts,h1,h2⟩:=ih fun i hi=>h i (by omega);obtain⟨x,hx⟩:=h n (by omega);refine⟨ts++[x],by simp[h1],fun j t hj=> ?_⟩;rcases Nat.lt_or_ge j ts.length with hlt|hge
  ·rw[List.getElem?_append_left hlt]at hj;exact h2 j t hj
  ·have hjl:j<(ts++[x]).length:=(List.getElem?_eq_some_iff.1 hj).1
   rw[List.length_append,List.length_singleton]at hjl;obtain rfl:j=n:=by omega
   rw[List.getElem?_append_right hge,show j -ts.length=0 from by omega]at hj;simp at hj;subst hj;exact hx
theorem slr_of{H:Type}{enc:TypeId×Value→H}{P:Program}{w:World}{held:Bool}{t e:TypeId}{fuel:Nat}{A:Option Addr}{n c:Nat}{x:DataW H×List MemPlace}(ht:P.underlying t=some (.slice e))(hK:P.cellsOf e=K)(hK0:0<K)
  (hE:∀f cs y,DataW.trod enc P w 0 (fun _=>true) held f e cs=some y→cs.length=K→∃t,E w cs t) (h:DataW.trod enc P w 0 (fun _=>true) held fuel t [.slice A n c]=some x):∃ts,SlR K E w A n c ts:=by
 rcases open_slice ht h with⟨h1,_⟩|⟨a,len,cap,m,f,D,Pl,h1,_,hl,hm,hmm,_,hi⟩
 ·simp only[List.cons.injEq,Value.slice.injEq,and_true]at h1
  obtain⟨rfl,rfl,rfl⟩:=h1;exact⟨[],SlR.none_ w⟩
 ·simp only[List.cons.injEq,Value.slice.injEq,and_true]at h1
  obtain⟨rfl,rfl,rfl⟩:=h1;simp only[if_true]at hmm;rw[hK]at hi;have each:∀i,i<n→∃y:List Value×T,y.1.length=K∧(∀k,k<K→w.cell? ((a.add (i*K)).add k)=y.1[k]?)∧E w y.1 y.2:=by
   intro i hin;obtain⟨cs,hc,ht'⟩:=hi i (by omega);obtain⟨_,hcl,hat⟩:=World.cells?_some hc;obtain⟨y,hy⟩:=hE _ _ _ ht' hcl;exact⟨(cs,y),hcl,hat,hy⟩
  obtain⟨ys,hyl,hys⟩:=list_of each;refine⟨ys.map (·.2),fun j t hj=> ?_,by simp[hyl],hl,hm,fun h=>by cases h⟩;rw[List.getElem?_map]at hj;obtain⟨y,hy,rfl⟩:=Option.map_eq_some_iff.1 hj;obtain⟨h2,h3,h4⟩:=hys j y hy;obtain⟨b,o,spot⟩:=a;have hk0:=h3 0 hK0;rw[List.getElem?_eq_getElem (by omega)]at hk0;have hspot:spot=none:=by
   have hyj:j<ys.length:=(List.getElem?_eq_some_iff.1 hy).1;obtain⟨q2,q3,_⟩:=hys 0 _ (List.getElem?_eq_getElem (show 0<ys.length by omega));have q0:=q3 0 hK0;rw[List.getElem?_eq_getElem (by omega)]at q0;simpa[Addr.add]using World.cell?_spot q0
  subst hspot;have hadd:∀k,((⟨b,o,none⟩:Addr).add (j*K)).add k=⟨b,o+j*K+k,none⟩:=by
   intro k;rw[add_add];unfold Addr.add;split
   ·rename_i h0
    congr 1
    omega
   ·simp[Nat.add_assoc]
  refine⟨b,o,y.1,rfl,?_,h2,fun k hk=>by rw[←hadd];exact h3 k hk,h4⟩;have:=block_lt_of_cell hk0;rw[hadd]at this;exact this
section
variable{G:List Value→Option Nat}{e:TypeId}{w0 w w':World}{B:Nat}{v:Value}{ts:List T}
end
end
end Go.Proofs.YtabandbigckfkaaGreatDoor
