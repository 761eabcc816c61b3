import Derived.Test.YtkinlcfhojjalaaGreatDoorQz15
import Derived.Lib.SmallJoins
import Derived.Lib.LaidTab
import Derived.Lib.LaidU8
import Derived.Test.YtkinlcfhojjalaaGreatDoorQz09
set_option maxHeartbeats 6400000
set_option maxRecDepth 100000
set_option linter.all false
namespace Go.Proofs.YtkinlcfhojjalaaGreatDoor
open Go.RowKit Go.Deep Go.Maps Go.Shelf
theorem jqs(w:World)(q oq:Nat)(cs:Array Value)(ty:TypeId)(mo:Option Nat)(s:Kv.St)(l:List Kv.Po)(n c:Nat)(A:Option Addr)(w0:World)(hk:KvIs w q oq cs ty mo s)(h:SlP w0 A n c l)(hb0:zF w0 w)(hz:l.length<=70):
  Calls Tryz.prog 232 #[.pointer (some ⟨q,oq,none⟩),.slice A n c] w (KInt (Kv.doE s l:Nat) w):=by
 have hn:=h.len;have hmx:=h.max;have hcp:=h.cap;unfold maxLen at hmx;have HA:=zh h;have HN:=zh hn;have HZ:=zh hz;have B0:=zh hb0;have HK:=zh hk.ask;have GD:=zh hk.good;have B:=zh (Below.refl w.heap.size w);clear h hn hb0 hk hz;by_cases h0:n=0
 ·have NE:Hid (Kv.doE s l=1):=Kv.doE_right fun h=>by have:=h.1;have:=HN.o;omega
  subst h0;go_in;go_wp2;go_ret;exact⟨by rw[NE.o];rfl,B.o⟩
 have hn0:((n:Int)==0)=false:=by rw[zq];omega
 have CB:Hid (∀w1,zF w w1->Calls Tryz.prog 257 #[.slice A n c,.func (.func 258) #[] #[]] w1 (fun e w'=>e= .returned (.bool (l.any Kv.badB))/\zF w1 w')):=fun w1 hb=>jcw 258 #[] Kv.badB (enters_of Tryz.func258 zk rfl) l n c A w0 w1 HA.o (B0.o.trans (hb.mono B0.o.size)) (bad_fn HA.o)
 cases hbad:l.any Kv.badB with
 |true=>
  rw[hbad]at CB;have NE:Hid (Kv.doE s l=1):=Kv.doE_right fun h=>by
   obtain⟨o,ho,hb⟩:=List.any_eq_true.1 hbad;exact Kv.badB_iff.1 hb (h.2.1 o ho)
  clear hbad;go_in
  go_wp2_with(first
    |(go_at_call 257;refine(CB.o _ B.o).mono ?_;rintro e w1 ⟨rfl,hb⟩;have B:=zh (B.o.trans (hb.mono B.o.size));clear hb))
  go_ret;exact⟨by rw[NE.o];rfl,B.o⟩
 |false=>
 rw[hbad]at CB;have OK:Hid (∀o∈l,Kv.PoOk o):=fun o ho=>by
  have h1:=List.any_eq_false.1 hbad o ho;exact Classical.byContradiction fun h2=>h1 (Kv.badB_iff.2 h2)
 clear hbad;by_cases hpw:l.Pairwise fun a b=>a.key≠b.key
 case neg=>
  have CT:Hid (∀w1,zF w w1->Calls Tryz.prog 259 #[.slice A n c] w1 (fun e w'=>e= .returned (.bool true)/\zF w1 w')):=fun w1 hb=>(jgz l n c A w0 w1 HA.o (B0.o.trans (hb.mono B0.o.size)) HZ.o).mono fun e w' ⟨⟨x,h1,h2⟩,h3⟩=>⟨by rw[h1,h2.2 hpw],h3⟩;have NE:Hid (Kv.doE s l=1):=Kv.doE_right fun h=>hpw h.2.2;clear hpw;go_in
  go_wp2_with(first
    |(go_at_call 257;refine(CB.o _ B.o).mono ?_;rintro e w1 ⟨rfl,hb⟩;have B:=zh (B.o.trans (hb.mono B.o.size));clear hb)
    |(go_at_call 259;refine(CT.o _ B.o).mono ?_;rintro e w1 ⟨rfl,hb⟩;have B:=zh (B.o.trans (hb.mono B.o.size));clear hb))
  go_ret;exact⟨by rw[NE.o];rfl,B.o⟩
 have CT:Hid (∀w1,zF w w1->Calls Tryz.prog 259 #[.slice A n c] w1 (fun e w'=>e= .returned (.bool false)/\zF w1 w')):=fun w1 hb=>(jgz l n c A w0 w1 HA.o (B0.o.trans (hb.mono B0.o.size)) HZ.o).mono fun e w' ⟨⟨x,h1,h2⟩,h3⟩=>⟨by
   rw[h1]
   cases x with
   |false=>rfl
   |true=>exact absurd hpw (h2.1 rfl),h3⟩
 have RT:Hid (Kv.Right l):=⟨by have:=HN.o;omega,OK.o,hpw⟩;clear hpw;have CO:Hid (∀w1,zF w w1->Calls Tryz.prog 257 #[.slice A n c,.func (.func 260) #[.pointer (some ⟨q,oq,none⟩)] #[]] w1 (fun e w'=>e= .returned (.bool (l.any (Kv.oddB s)))/\zF w1 w')):=fun w1 hb=>jcw 260 #[.pointer (some ⟨q,oq,none⟩)] (Kv.oddB s) (enters_of Tryz.func260 zk rfl) l n c A w0 w1 HA.o (B0.o.trans (hb.mono B0.o.size)) (odd_fn HA.o (HK.o.on hb))
 cases hodd:l.any (Kv.oddB s)with
 |true=>
  rw[hodd]at CO;have NE:Hid (Kv.doE s l=7):=by
   obtain⟨o,ho,hb⟩:=List.any_eq_true.1 hodd;exact Kv.doE_odd RT.o ⟨o,ho,Kv.oddB_iff.1 hb⟩
  clear hodd;go_in
  go_wp2_with(first
    |(go_at_call 257;refine(CB.o _ B.o).mono ?_;rintro e w1 ⟨rfl,hb⟩;have B:=zh (B.o.trans (hb.mono B.o.size));clear hb)
    |(go_at_call 259;refine(CT.o _ B.o).mono ?_;rintro e w1 ⟨rfl,hb⟩;have B:=zh (B.o.trans (hb.mono B.o.size));clear hb)
    |(go_at_call 257;refine(CO.o _ B.o).mono ?_;rintro e w1 ⟨rfl,hb⟩;have B:=zh (B.o.trans (hb.mono B.o.size));clear hb))
  go_ret;exact⟨by rw[NE.o];rfl,B.o⟩
 |false=>
 rw[hodd]at CO;have OD:Hid (∀o∈l,¬Kv.Odd s o):=fun o ho h=>List.any_eq_false.1 hodd o ho (Kv.oddB_iff.2 h);clear hodd;have CL:Hid (∀w1,zF w w1->Calls Tryz.prog 257 #[.slice A n c,.func (.func 261) #[.pointer (some ⟨q,oq,none⟩)] #[]] w1 (fun e w'=>e= .returned (.bool (l.any (Kv.lackB s)))/\zF w1 w')):=fun w1 hb=>jcw 261 #[.pointer (some ⟨q,oq,none⟩)] (Kv.lackB s) (enters_of Tryz.func261 zk rfl) l n c A w0 w1 HA.o (B0.o.trans (hb.mono B0.o.size)) (lack_fn HA.o (HK.o.on hb))
 cases hlk:l.any (Kv.lackB s)with
 |true=>
  rw[hlk]at CL;have NE:Hid (Kv.doE s l=5):=by
   obtain⟨o,ho,hb⟩:=List.any_eq_true.1 hlk;exact Kv.doE_lacks RT.o OD.o ⟨o,ho,(Kv.lackB_iff GD.o).1 hb⟩
  clear hlk;go_in
  go_wp2_with(first
    |(go_at_call 257;refine(CB.o _ B.o).mono ?_;rintro e w1 ⟨rfl,hb⟩;have B:=zh (B.o.trans (hb.mono B.o.size));clear hb)
    |(go_at_call 259;refine(CT.o _ B.o).mono ?_;rintro e w1 ⟨rfl,hb⟩;have B:=zh (B.o.trans (hb.mono B.o.size));clear hb)
    |(go_at_call 257;refine(CO.o _ B.o).mono ?_;rintro e w1 ⟨rfl,hb⟩;have B:=zh (B.o.trans (hb.mono B.o.size));clear hb)
    |(go_at_call 257;refine(CL.o _ B.o).mono ?_;rintro e w1 ⟨rfl,hb⟩;have B:=zh (B.o.trans (hb.mono B.o.size));clear hb))
  go_ret;exact⟨by rw[NE.o];rfl,B.o⟩
 |false=>
 rw[hlk]at CL;have LK:Hid (∀o∈l,¬Kv.Lacks s o):=fun o ho h=>List.any_eq_false.1 hlk o ho ((Kv.lackB_iff GD.o).2 h);clear hlk;have CN:Hid (∀w1,zF w w1->Calls Tryz.prog 262 #[.pointer (some ⟨q,oq,none⟩),.slice A n c] w1 (KInt ((Kv.after s l).l.length:Nat) w1)):=fun w1 hb=>jn4 w1 _ mo s l n c A w0 (HK.o.on hb) HA.o (B0.o.trans (hb.mono B0.o.size)) RT.o LK.o HZ.o;by_cases hf:64<(Kv.after s l).l.length
 ·have NE:Hid (Kv.doE s l=4):=Kv.doE_full RT.o OD.o LK.o hf
  generalize(Kv.after s l).l.length=ln at*;have hg:decide ((64:Int)<(ln:Nat))=true:=decide_eq_true zv;go_in
  go_wp2_with(first
    |(go_at_call 257;refine(CB.o _ B.o).mono ?_;rintro e w1 ⟨rfl,hb⟩;have B:=zh (B.o.trans (hb.mono B.o.size));clear hb)
    |(go_at_call 259;refine(CT.o _ B.o).mono ?_;rintro e w1 ⟨rfl,hb⟩;have B:=zh (B.o.trans (hb.mono B.o.size));clear hb)
    |(go_at_call 257;refine(CO.o _ B.o).mono ?_;rintro e w1 ⟨rfl,hb⟩;have B:=zh (B.o.trans (hb.mono B.o.size));clear hb)
    |(go_at_call 257;refine(CL.o _ B.o).mono ?_;rintro e w1 ⟨rfl,hb⟩;have B:=zh (B.o.trans (hb.mono B.o.size));clear hb)
    |(go_at_call 262;refine(CN.o _ B.o).mono ?_;rintro e w1 ⟨rfl,hb⟩;have B:=zh (B.o.trans (hb.mono B.o.size));clear hb))
  go_ret;exact⟨by rw[NE.o];rfl,B.o⟩
 ·have NE:Hid (Kv.doE s l=0):=Kv.doE_ok RT.o OD.o LK.o hf
  generalize(Kv.after s l).l.length=ln at*;have hg:decide ((64:Int)<(ln:Nat))=false:=decide_eq_false zv;go_in
  go_wp2_with(first
    |(go_at_call 257;refine(CB.o _ B.o).mono ?_;rintro e w1 ⟨rfl,hb⟩;have B:=zh (B.o.trans (hb.mono B.o.size));clear hb)
    |(go_at_call 259;refine(CT.o _ B.o).mono ?_;rintro e w1 ⟨rfl,hb⟩;have B:=zh (B.o.trans (hb.mono B.o.size));clear hb)
    |(go_at_call 257;refine(CO.o _ B.o).mono ?_;rintro e w1 ⟨rfl,hb⟩;have B:=zh (B.o.trans (hb.mono B.o.size));clear hb)
    |(go_at_call 257;refine(CL.o _ B.o).mono ?_;rintro e w1 ⟨rfl,hb⟩;have B:=zh (B.o.trans (hb.mono B.o.size));clear hb)
    |(go_at_call 262;refine(CN.o _ B.o).mono ?_;rintro e w1 ⟨rfl,hb⟩;have B:=zh (B.o.trans (hb.mono B.o.size));clear hb))
  go_ret;exact⟨by rw[NE.o];rfl,B.o⟩
open Go.RowKit Go.Deep Go.Maps
structure jdg(w:World)(q oq:Nat)(cs:Array Value)(ty:TypeId)(m:Nat)(r:Int)(l:List Kv.En):Prop where
 row:w.heap[q]? =some (.cells cs ty (0,0))
 k0:cs[oq]? =some (.int .i64 r)
 k1:cs[oq+1]? =some (.map (some m))
 nos:jn0 cs
 map:jbv Tryz.prog 9 w m l
theorem jdg.ne{w:World}{q oq m:Nat}{cs:Array Value}{ty:TypeId}{r:Int}{l:List Kv.En}(h:jdg w q oq cs ty m r l):q≠m:=fun e=>by
 obtain⟨D,⟨es,clock,hb,_⟩,_⟩:=h.map;have:=h.row;rw[e,hb]at this;injection this with this
 cases this
theorem jdg.cells{w:World}{q oq m:Nat}{cs:Array Value}{ty:TypeId}{r:Int}{l:List Kv.En}(h:jdg w q oq cs ty m r l):w.cell? ⟨q,oq,none⟩=some (.int .i64 r)/\w.cell? ⟨q,oq+1,none⟩=some (.map (some m))/\w.frozen? ⟨q,oq,none⟩=false/\q<w.heap.size:=
 ⟨by rw[cell_of_row w q oq _ _ _ h.row];exact h.k0,by rw[cell_of_row w q (oq+1) _ _ _ h.row];exact h.k1,frozen_of_row _ _ _ _ _ h.row,(zg h.row).1⟩
theorem jdg.on{w w':World}{q oq m:Nat}{cs:Array Value}{ty:TypeId}{r:Int}{l:List Kv.En}(h:jdg w q oq cs ty m r l)(hb:zF w w'):jdg w' q oq cs ty m r l:=⟨(hb.block q h.cells.2.2.2).trans h.row,h.k0,h.k1,h.nos,h.map.keep (hb.block m h.map.lt)⟩
theorem jdg.turned{w w':World}{q oq m:Nat}{cs:Array Value}{ty:TypeId}{r:Int}{l l':List Kv.En}(h:jdg w q oq cs ty m r l)(ht:w.mapTurned w' m)(hm:jbv Tryz.prog 9 w' m l'):jdg w' q oq cs ty m r l':=
 ⟨(ht.grown.block q h.cells.2.2.2 (fun e=>h.ne (by injection e))).trans h.row,h.k0,h.k1,h.nos,hm⟩
theorem je1{w w':World}{b i:Nat}(h:w'.heap[b]? =w.heap[b]?):w'.cell? ⟨b,i,none⟩=w.cell? ⟨b,i,none⟩:=by unfold World.cell?;rw[h]
theorem SlR.poH{w:World}{b o n c:Nat}{l:List Kv.Po}(h:SlP w (some ⟨b,o,none⟩) n c l){j:Nat}{x:Kv.Po}(hx:l[j]? =some x){w':World}(hb:w'.heap[b]? =w.heap[b]?):
  w'.cell? ⟨b,o+j*4,none⟩=some (.string x.key)/\w'.cell? ⟨b,o+j*4+1,none⟩=some (.string x.val)/\w'.cell? ⟨b,o+j*4+2,none⟩=some (.int .i64 x.rev)/\w'.cell? ⟨b,o+j*4+3,none⟩=some (.bool x.drop):=by
 obtain⟨h0,h1,h2,h3⟩:=h.po hx zD;exact⟨(je1 hb).trans h0,(je1 hb).trans h1,(je1 hb).trans h2,(je1 hb).trans h3⟩
theorem jg0(t k e:TypeId)(m:Option Nat)(w:World)(h:Tryz.prog.underlying t=some (.map k e)):(binOp .eql t (.map m) (.map none)).run Tryz.prog w= .ok (.bool m.isNone) w:=by
 simp only[binOp];simp[run_equal_map_nil w t k e m h]
theorem jj3{w:World}{q oq b o n c:Nat}{cs:Array Value}{ty:TypeId}{mo:Option Nat}{s:Kv.St}{l:List Kv.Po}(hk:KvIs w q oq cs ty mo s)(h:SlP w (some ⟨b,o,none⟩) n c l)(hl:0<l.length):b≠q/\mo≠some b/\b<w.heap.size:=by
 obtain⟨h0,_⟩:=h.po (List.getElem?_eq_getElem hl) zD;refine⟨fun e=> ?_,fun e=> ?_,(h.cell hl).1⟩
 ·subst e
  rw[cell_of_row _ _ _ _ _ _ hk.row]at h0;exact hk.nos _ _ h0
 ·subst e
  obtain⟨D,⟨es,clock,hb,_⟩,_⟩:=show jbv Tryz.prog 9 w b s.l from hk.map
  simp[World.cell?,hb]at h0
theorem jg1(w:World)(q oq:Nat)(cs:Array Value)(ty:TypeId)(m:Nat)(r:Int)(L:List Kv.En)(x:Kv.Po)(h:jdg w q oq cs ty m r L)(hr:Kv.Rise L)(hl:L.length<=1000000)(hk:x.key.size<=maxLen):
  Calls Tryz.prog 233 #[.pointer (some ⟨q,oq,none⟩),opV x] w (fun e w'=>e= .returned (.tuple #[])/\jdg w' q oq cs ty m r (Kv.step r L x)/\Kept (fun i=>i=m) w w'):=by
 have Q1:=heap_alloc_new w (.cells #[.string x.key,.string x.val,.int .i64 x.rev,.bool x.drop] 236);have BN:=zh ((Below.refl w.heap.size w).alloc zl (.cells #[.string x.key,.string x.val,.int .i64 x.rev,.bool x.drop] 236));have M2:=zh (h.on BN.o);have KS:=zh hk;have RI:=zh hr;have LB:=zh hl;have QH:=zh Q1;clear h hk hr hl Q1;obtain⟨ws,hws⟩:∃ws,ws=w.alloc (.cells #[.string x.key,.string x.val,.int .i64 x.rev,.bool x.drop] 236):=zx;obtain⟨g,hg⟩:∃g,g=w.heap.size:=zx;rw[<-hws,<-hg]at QH;rw[<-hws]at BN M2;have c0:ws.cell? ⟨g,0,none⟩=some (.string x.key):=by rw[cell_of_row ws g 0 _ _ _ QH.o];rfl
 have c1:ws.cell? ⟨g,1,none⟩=some (.string x.val):=by rw[cell_of_row ws g 1 _ _ _ QH.o];rfl
 have c3:ws.cell? ⟨g,3,none⟩=some (.bool x.drop):=by rw[cell_of_row ws g 3 _ _ _ QH.o];rfl
 obtain⟨d0,d1,d2,d3⟩:=M2.o.cells;have M3:=zh (M2.o.on (Below.refl ws.heap.size ws).drew);have K3:=zh ((Kept.of_below (F:=fun i=>i=m) BN.o).trans (Kept.of_below (F:=fun _=>False) (Below.refl ws.heap.size ws).drew) fun _ _ hf=>hf.elim);have HWS:=zh hws;have HG:=zh hg
 cases hd:x.drop with
 |true=>
  have SE:Hid (Kv.step r L x=Kv.dropK L x.key):=by show _=_;unfold Kv.step;rw[if_pos hd]
  obtain⟨wd,hrun,hmd,htd⟩:=jus Tryz.underlying9 Tryz.underlying79 M3.o.map RI.o x.key KS.o 0;have M4:=zh (M3.o.turned htd hmd);have K4:=zh (K3.o.trans (G:=fun i=>i=m) (Kept.of_grown htd.grown (fun k hk=>by injection hk with hk;exact hk.symm)) fun _ _ hi=>hi)
  rw[hd]at c3;clear hmd htd hws hg;rw[SE.o];unfold opV;obtain⟨key,val,rev,drop⟩:=x;simp only at*;obtain rfl:=hd;go_in;go_upto_region 1 with fail
  rw[<-HWS.o,<-HG.o];clear HWS HG;go_wp2_with fail;go_region;go_wp2;go_end0;exact⟨rfl,M4.o,K4.o⟩
 |false=>
  have SE:Hid (Kv.step r L x=Kv.putK (Kv.dropK L x.key) ⟨x.key,x.val,r⟩):=by show _=_;unfold Kv.step;rw[if_neg (by rw[hd];simp)]
  obtain⟨wd,hrun,hmd,htd⟩:=put_run Tryz.underlying9 Tryz.underlying79 M3.o.map RI.o LB.o x.key x.val r KS.o;have M4:=zh (M3.o.turned htd hmd);have K4:=zh (K3.o.trans (G:=fun i=>i=m) (Kept.of_grown htd.grown (fun k hk=>by injection hk with hk;exact hk.symm)) fun _ _ hi=>hi)
  rw[hd]at c3;clear hmd htd hws hg;rw[SE.o];unfold opV;obtain⟨key,val,rev,drop⟩:=x;simp only at*;obtain rfl:=hd;go_in;go_upto_region 1 with fail
  rw[<-HWS.o,<-HG.o];clear HWS HG;go_wp2_with fail;go_region;go_wp2;go_end0;exact⟨rfl,M4.o,K4.o⟩
def jlo(cs:Array Value)(oq:Nat)(r:Int)(mo:Option Nat):Array Value:=(cs.setIfInBounds (oq+1) (.map mo)).setIfInBounds oq (.int .i64 r)
theorem jn5{cs:Array Value}{oq:Nat}{r:Int}{mo:Option Nat}(h0:cs[oq]? =some (.int .i64 r))(h1:cs[oq+1]? =some (.map mo)):jlo cs oq r mo=cs:=by unfold jlo;rw[jgw h1,jgw h0]
theorem jqt{cs:Array Value}{oq:Nat}(r:Int){mo:Option Nat}(h1:cs[oq+1]? =some (.map mo)):jlo cs oq r mo=cs.setIfInBounds oq (.int .i64 r):=by unfold jlo;rw[jgw h1]
def KbDo(q oq:Nat)(cs:Array Value)(ty:TypeId)(mo:Option Nat)(s:Kv.St)(ops:List Kv.Po)(W:World)(e:Ending)(w':World):Prop:=
 ∃mo',e= .returned (.tuple #[.int .i64 (Kv.doN s ops),.int .i64 (Kv.doE s ops:Nat)])/\KvIs w' q oq (jlo cs oq (Kv.doS s ops).rev mo') ty mo' (Kv.doS s ops)/\Kept (fun i=>i=q\/mo=some i) W w'/\∀m,mo'=some m->mo=some m\/W.heap.size<=m
theorem jmy(W:World)(q oq:Nat)(cs:Array Value)(ty:TypeId)(mo:Option Nat)(s:Kv.St)(n c:Nat)(A:Option Addr)(l:List Kv.Po)(hk:KvIs W q oq cs ty mo s)(hrv:s.rev<=1000)(h:SlP W A n c l)(hz:l.length<=70):
  Calls Tryz.prog 179 #[.pointer (some ⟨q,oq,none⟩),.slice A n c] W (KbDo q oq cs ty mo s l W):=by
 have hn:=h.len;have hmx:=h.max;have hcp:=h.cap;unfold maxLen at hmx;have hr0:=hk.good.rev0;have HA:=zh h;have HN:=zh hn;have HZ:=zh hz;have HK:=zh hk;have HK0:=zh hk.k0;have HK1:=zh hk.k1;have NS:=zh hk.nos;have STAY:∀{w':World},zF W w'->Kv.doE s l≠0->KbDo q oq cs ty mo s l W (.returned (.tuple #[zi,.int .i64 (Kv.doE s l:Nat)])) w':=fun{w'} hb h0=>by
  refine⟨mo,by rw[(Kv.doS_no h0).2],?_,Kept.of_below hb,fun _ h=> .inl h⟩;rw[(Kv.doS_no h0).1,jn5 HK0.o HK1.o];exact HK.o.on hb
 have ST:Hid (∀{w':World},zF W w'->Kv.doE s l≠0->KbDo q oq cs ty mo s l W (.returned (.tuple #[zi,.int .i64 (Kv.doE s l:Nat)])) w'):=STAY;have CA:=zh (jqs W q oq cs ty mo s l n c A W HK.o HA.o zD HZ.o);have heq:=fun m w=>jg0 _ _ _ m w Tryz.underlying79;clear h hn hk hz STAY;by_cases h0:Kv.doE s l=0
 ·have H0:=zh h0
  rw[h0]at CA;clear h0
  cases mo with
  |some m=>
   go_in;go_upto_region 4 with(go_at_call 232;refine CA.o.mono ?_;rintro e w2 ⟨rfl,hb2⟩;have B2:=zh hb2;clear hb2)
   obtain⟨c0,c1,f0,hq⟩:=(HK.o.on B2.o).cells;have MID:Hid (jdg (w2.setCell ⟨q,oq,none⟩ (.int .i64 (s.rev+1))) q oq (cs.setIfInBounds oq (.int .i64 (s.rev+1))) ty m (s.rev+1) s.l):=⟨heap_setCell_same _ _ _ _ _ _ (HK.o.on B2.o).row,jlk HK0.o,jip HK1.o zv,NS.o.set _ (fun _ e=>by cases e),jbv.keep (HK.o.on B2.o).map (heap_setCell_other _ _ _ _ (by simpa using(HK.o.on B2.o).ne.symm))⟩;have KP:Hid (Kept (fun i=>i=q\/some m=some i) W (w2.setCell ⟨q,oq,none⟩ (.int .i64 (s.rev+1)))):=(Kept.of_below (F:=fun i=>i=q\/some m=some i) B2.o).trans (G:=fun i=>i=q) (Kept.of_grown (row:=some q) (jad _ _ _ _) (fun k hk=>by injection hk with hk;exact hk.symm)) fun i _ hi=> .inl hi
   have HM0:Hid (m<W.heap.size->some m=some m):=fun _=>rfl;go_wp2_with fail;generalize w2.setCell ⟨q,oq,none⟩ (.int .i64 (s.rev+1))=w3 at*;clear c0 c1 f0 hq;go_loopw [33] (fun i wr=>∃j:Nat,j<=n/\i= .int .i64 j/\jdg wr q oq (cs.setIfInBounds oq (.int .i64 (s.rev+1))) ty m (s.rev+1) ((l.take j).foldl (Kv.step (s.rev+1)) s.l)/\Kept (fun i=>i=q\/some m=some i) W wr/\(m<W.heap.size->some m=some m)) (fun i _=>n -(intOf i).toNat)
   case atStart=>exact⟨0,zv,rfl,MID.o,KP.o,fun _=>rfl⟩
   case round=>
    obtain⟨j,hj,rfl,hm,hkp,hm0⟩:=hrel;have MD:=zh hm;have KE:=zh hkp;have HM1:=zh hm0;clear hm hkp hm0;by_cases hlt:j<n
    ·obtain⟨b1,o1,rfl⟩:=HA.o.addr (by have:=HN.o;omega)
     have EA:Hid (l[j]? =some (l[j]'(by have:=HN.o;omega))):=List.getElem?_eq_getElem _;generalize l[j]'(by have:=HN.o;omega)=x at*;have AP:=jj3 HK.o HA.o (by have:=HN.o;omega);obtain⟨p0,p1,p2,p3⟩:=HA.o.poH EA.o (KE.o.block b1 AP.2.2 (by rintro(e|e);exact AP.1 e;exact AP.2.1 e));have KS:=zh (HA.o.poOk (List.mem_of_getElem? EA.o)).1;have LS:=zh (Kv.steps_snoc (s.rev+1) EA.o s.l);have RI:=zh (Kv.steps_rise (r:=s.rev+1) (ops:=l.take j) HK.o.good.rise);have LB:Hid (((l.take j).foldl (Kv.step (s.rev+1)) s.l).length<=1000000):=by
      have h1:=Kv.steps_length (s.rev+1) (l.take j) s.l;rw[List.length_take]at h1;have:=HK.o.good.len;have:=HZ.o;show _<=_;omega
     generalize(l.take j).foldl (Kv.step (s.rev+1)) s.l=L at*;clear AP;have Q1:=zh (heap_alloc_new wr (.cells #[.string x.key,.string x.val,.int .i64 x.rev,.bool x.drop] 236));have BN:=zh ((Below.refl wr.heap.size wr).alloc zl (.cells #[.string x.key,.string x.val,.int .i64 x.rev,.bool x.drop] 236));have M2:=zh (MD.o.on BN.o);have K2:=zh (KE.o.trans (Kept.of_below (F:=fun _=>False) BN.o) fun _ _ hf=>hf.elim);have CP:=zh (jg1 _ q oq _ ty m _ L x M2.o RI.o LB.o KS.o);rw[<-LS.o]at CP;go_wp2_with(go_at_call 233;refine CP.o.mono ?_;rintro e w4 ⟨rfl,hm4,hk4⟩;have M4:=zh hm4;have K4:=zh (K2.o.trans hk4 (fun i hi e=>by subst e;exact .inr rfl));clear hm4 hk4);exact⟨⟨j+1,zv,by go_num,M4.o,K4.o,by simp⟩,by simp[intOf];omega⟩
    ·have E:Hid (l.take j=l):=List.take_of_length_le (by have:=HN.o;omega)
     rw[E.o]at MD;obtain⟨d0,d1,d2,d3⟩:=MD.o.cells;go_wp2_with fail;have hok:=Kv.doS_ok H0.o;have hgd:=Kv.doS_good HK.o.good l;have hp:KbDo q oq cs ty (some m) s l W (.returned (.tuple #[.int .i64 (s.rev+1),zi])) wr:=by
      refine⟨some m,by rw[hok.2,H0.o];rfl,?_,KE.o,fun _ h=> .inl h⟩;rw[hok.1]at hgd⊢;rw[jqt _ HK1.o];exact⟨MD.o.row,MD.o.k0,MD.o.k1,MD.o.nos,MD.o.map,hgd⟩
     exact bodyPost_ret (v:= .tuple #[.int .i64 (s.rev+1),zi]) (by simp[results,Tryz.results179,go_sem]) rfl hp
  |none=>
   go_in;have hmm:=@run_makeMap Tryz.prog;go_upto_region 4 with(go_at_call 232;refine CA.o.mono ?_;rintro e w2 ⟨rfl,hb2⟩;have B2:=zh hb2;clear hb2)
   obtain⟨c0,c1,f0,hq⟩:=(HK.o.on B2.o).cells;have f1:w2.frozen? ⟨q,oq+1,none⟩=false:=frozen_of_row _ _ _ _ _ (HK.o.on B2.o).row;have BM:=zh ((Below.refl w2.heap.size w2).alloc zl (.map #[] 0));have S0:=zh (jbv.made (P:=Tryz.prog) (kt:=9) w2);have RW:=zh ((HK.o.on B2.o).on BM.o).row;have EL:Hid (s.l=[]):=HK.o.map;have MID:Hid (jdg ((w2.alloc (.map #[] 0)).setCell ⟨q,oq+1,none⟩ (.map (some w2.heap.size))) q oq (cs.setIfInBounds (oq+1) (.map (some w2.heap.size))) ty w2.heap.size s.rev s.l):=⟨heap_setCell_same _ _ _ _ _ _ RW.o,jip HK0.o zv,jlk HK1.o,NS.o.set _ (fun _ e=>by cases e),by rw[EL.o];exact S0.o.keep (heap_setCell_other _ _ _ _ (by simp;omega))⟩;have KP:Hid (Kept (fun i=>i=q\/none=some i) W ((w2.alloc (.map #[] 0)).setCell ⟨q,oq+1,none⟩ (.map (some w2.heap.size)))):=(Kept.of_below (F:=fun i=>i=q\/none=some i) (B2.o.trans (BM.o.mono B2.o.size))).trans (G:=fun i=>i=q) (Kept.of_grown (row:=some q) (jad _ _ _ _) (fun k hk=>by injection hk with hk;exact hk.symm)) fun i _ hi=> .inl hi
   have HM0:Hid (w2.heap.size<W.heap.size->none=some w2.heap.size):=fun h=>by have:=B2.o.size;omega
   have EW:Hid ((w2.alloc (.map #[] 0)).setCell ⟨q,oq+1,none⟩ (.map (some w2.heap.size))=(w2.setCell ⟨q,oq+1,none⟩ (.map (some w2.heap.size))).alloc (.map #[] 0)):=World.setCell_alloc_past _ _ _ _ hq;rw[EW.o]at MID KP;go_upto_region 6 with fail
   obtain⟨m,hm⟩:∃m,m=w2.heap.size:=zx;rw[<-hm]at MID KP HM0⊢;clear hm hmm c0 c1 f0 f1 hq BM S0 RW EW;generalize(w2.setCell ⟨q,oq+1,none⟩ (.map (some m))).alloc (.map #[] 0)=w5 at*;obtain⟨c0,c1,f0,hq⟩:=MID.o.cells;have MID:Hid (jdg (w5.setCell ⟨q,oq,none⟩ (.int .i64 (s.rev+1))) q oq (jlo cs oq (s.rev+1) (some m)) ty m (s.rev+1) s.l):=⟨heap_setCell_same _ _ _ _ _ _ MID.o.row,jlk MID.o.k0,jip MID.o.k1 zv,MID.o.nos.set _ (fun _ e=>by cases e),MID.o.map.keep (heap_setCell_other _ _ _ _ (by simpa using MID.o.ne.symm))⟩;have KP:Hid (Kept (fun i=>i=q\/none=some i) W (w5.setCell ⟨q,oq,none⟩ (.int .i64 (s.rev+1)))):=KP.o.trans (G:=fun i=>i=q) (Kept.of_grown (row:=some q) (jad _ _ _ _) (fun k hk=>by injection hk with hk;exact hk.symm)) fun i _ hi=> .inl hi
   go_wp2_with fail;generalize w5.setCell ⟨q,oq,none⟩ (.int .i64 (s.rev+1))=w3 at*;clear c0 c1 f0 hq;go_loopw [33] (fun i wr=>∃j:Nat,j<=n/\i= .int .i64 j/\jdg wr q oq (jlo cs oq (s.rev+1) (some m)) ty m (s.rev+1) ((l.take j).foldl (Kv.step (s.rev+1)) s.l)/\Kept (fun i=>i=q\/none=some i) W wr/\(m<W.heap.size->none=some m)) (fun i _=>n -(intOf i).toNat)
   case atStart=>exact⟨0,zv,rfl,MID.o,KP.o,HM0.o⟩
   case round=>
    obtain⟨j,hj,rfl,hm,hkp,hm0⟩:=hrel;have MD:=zh hm;have KE:=zh hkp;have HM1:=zh hm0;clear hm hkp hm0;by_cases hlt:j<n
    ·obtain⟨b1,o1,rfl⟩:=HA.o.addr (by have:=HN.o;omega)
     have EA:Hid (l[j]? =some (l[j]'(by have:=HN.o;omega))):=List.getElem?_eq_getElem _;generalize l[j]'(by have:=HN.o;omega)=x at*;have AP:=jj3 HK.o HA.o (by have:=HN.o;omega);obtain⟨p0,p1,p2,p3⟩:=HA.o.poH EA.o (KE.o.block b1 AP.2.2 (by rintro(e|e);exact AP.1 e;exact AP.2.1 e));have KS:=zh (HA.o.poOk (List.mem_of_getElem? EA.o)).1;have LS:=zh (Kv.steps_snoc (s.rev+1) EA.o s.l);have RI:=zh (Kv.steps_rise (r:=s.rev+1) (ops:=l.take j) HK.o.good.rise);have LB:Hid (((l.take j).foldl (Kv.step (s.rev+1)) s.l).length<=1000000):=by
      have h1:=Kv.steps_length (s.rev+1) (l.take j) s.l;rw[List.length_take]at h1;have:=HK.o.good.len;have:=HZ.o;show _<=_;omega
     generalize(l.take j).foldl (Kv.step (s.rev+1)) s.l=L at*;clear AP;have Q1:=zh (heap_alloc_new wr (.cells #[.string x.key,.string x.val,.int .i64 x.rev,.bool x.drop] 236));have BN:=zh ((Below.refl wr.heap.size wr).alloc zl (.cells #[.string x.key,.string x.val,.int .i64 x.rev,.bool x.drop] 236));have M2:=zh (MD.o.on BN.o);have K2:=zh (KE.o.trans (Kept.of_below (F:=fun _=>False) BN.o) fun _ _ hf=>hf.elim);have CP:=zh (jg1 _ q oq _ ty m _ L x M2.o RI.o LB.o KS.o);rw[<-LS.o]at CP;go_wp2_with(go_at_call 233;refine CP.o.mono ?_;rintro e w4 ⟨rfl,hm4,hk4⟩;have M4:=zh hm4;have K4:=zh (K2.o.trans hk4 (fun i hi e=>by subst e;exact .inr (HM1.o hi)));clear hm4 hk4);exact⟨⟨j+1,zv,by go_num,M4.o,K4.o,HM1.o⟩,by simp[intOf];omega⟩
    ·have E:Hid (l.take j=l):=List.take_of_length_le (by have:=HN.o;omega)
     rw[E.o]at MD;obtain⟨d0,d1,d2,d3⟩:=MD.o.cells;go_wp2_with fail;have hok:=Kv.doS_ok H0.o;have hgd:=Kv.doS_good HK.o.good l;have hp:KbDo q oq cs ty none s l W (.returned (.tuple #[.int .i64 (s.rev+1),zi])) wr:=by
      refine⟨some m,by rw[hok.2,H0.o];rfl,?_,KE.o,fun k hk=> .inr ?_⟩
      ·rw[hok.1]at hgd⊢
       exact⟨MD.o.row,MD.o.k0,MD.o.k1,MD.o.nos,MD.o.map,hgd⟩
      ·injection hk with hk
       rcases Nat.lt_or_ge m W.heap.size with h|h
       ·exact absurd (HM1.o h) (by simp)
       ·omega
     exact bodyPost_ret (v:= .tuple #[.int .i64 (s.rev+1),zi]) (by simp[results,Tryz.results179,go_sem]) rfl hp
 ·have H0:=zh h0
  obtain⟨z,hz⟩:∃z,z=Kv.doE s l:=zx;rw[<-hz]at h0 CA;have hz0:((z:Int)==0)=false:=by rw[zq];omega
  have HZ1:=zh hz;clear hz;go_in;go_wp2_with(go_at_call 232;refine CA.o.mono ?_;rintro e w2 ⟨rfl,hb2⟩;have B2:=zh hb2;clear hb2);have hs:=ST.o B2.o H0.o;rw[<-HZ1.o]at hs;exact bodyPost_ret (v:= .tuple #[zi,.int .i64 (z:Nat)]) (by simp[results,Tryz.results179,go_sem]) rfl hs
open Go.RowKit
theorem g_pow:Tryz.prog.globalNamed "internal/strconv.uint64pow10" =some 4:=by kernel_rfl
structure Tb(w:World):Prop where
 pow:Lib.TabIs Tryz.prog w "internal/strconv.uint64pow10" .u64 Lib.pow10Tab
theorem Tb.on{w w':World}(h:Tb w)(hb:zF w w'):Tb w':=⟨Joins.tab_stays g_pow h.pow hb zl⟩
theorem jj4(w:World)(k:Nat)(os:Array Obj):zF w (Go.Sort.grow (w.drewN k) os):=
 ⟨rfl,rfl,rfl,by show w.heap.size<=(w.heap++os).size;rw[Array.size_append];omega,fun j hj=>by show(w.heap++os)[j]? =_;rw[Array.getElem?_append_left hj]⟩
theorem jux(n:Int)(hn:Spc.i64 n)(w:World)(ht:Tb w):Calls Tryz.prog 171 #[.int .i64 n] w (APos w (.string (txt (Spc.digs n)))):=by
 refine(Tryz.strconv_Itoa n hn.1 hn.2 w ht.pow).mono ?_;rintro e w' ⟨rfl,k,os,rfl⟩;rw[Spc.itoa_txt];exact⟨rfl,jj4 _ _ _⟩
open Go
def jqu{H:Type}:DataW H->List Value
 | .lit (.int k n)=>[.int k n]
 | .lit (.bool b)=>[.bool b]
 | .lit (.string l)=>[.string ⟨l.toArray⟩]
 |_=>[]
def juy{H:Type}:DataW H->List Value
 | .agg ds=>ds.flatMap jqu
 |d=>jqu d
def leaf3{H:Type}:DataW H->List Value
 | .agg ds=>ds.flatMap juy
 |d=>juy d
section
variable{H:Type}{enc:TypeId×Value->H}{P:Program}{w:World}{base:Nat}{spare:Nat->Bool}{held:Bool}{t e:TypeId}
def jqv(enc:TypeId×Value->H)(P:Program)(w:World)(base:Nat)(spare:Nat->Bool)(held:Bool)(t:TypeId)(L:DataW H->List Value):Prop:=
 ∀fuel cs x,DataW.trod enc P w base spare held fuel t cs=some x->cs=L x.1
theorem jqw{k:IntKind}(he:P.underlying t=some (.int k)):jqv enc P w base spare held t jqu:=fun fuel cs x h=>by
 obtain⟨n,rfl,rfl,_⟩:=DataW.trod_int he h;rfl
theorem jqx(he:P.underlying t=some .string):jqv enc P w base spare held t jqu:=fun fuel cs x h=>by
 cases fuel with
 |zero=>simp[DataW.trod]at h
 |succ m=>
  unfold DataW.trod at h;rw[he]at h;split at h<;>simp_all;obtain⟨_,h⟩:=h;subst h;rfl
theorem chunks{k n:Nat}:∀{cs:List Value},cs.length=n*k->∀{c:Nat->List Value},(∀i,i<n->(cs.drop (i*k)).take k=c i)->cs=(List.range n).flatMap c:=by
 induction n with
 |zero=>
  intro cs hl c _;rw[Nat.zero_mul]at hl;rw[List.length_eq_zero_iff.1 hl];rfl
 |succ n ih=>
  intro cs hl c hc;have h0:=hc 0 zv;rw[Nat.zero_mul,List.drop_zero]at h0;have hl2:(cs.drop k).length=n*k:=by rw[List.length_drop,hl,Nat.succ_mul];omega
  have h1:=ih hl2 (c:=fun i=>c (i+1)) (fun i hi=>by
   have:=hc (i+1) zv;rw[<-this,List.drop_drop,Nat.succ_mul,Nat.add_comm])
  rw[List.range_succ_eq_map,List.flatMap_cons,List.flatMap_map,<-h0]
  conv=>lhs;rw[<-List.take_append_drop k cs]
  rw[h1]
theorem jg2{n:Nat}{L L2:DataW H->List Value}(hL:∀ds,L2 (.agg ds)=ds.flatMap L)(he:jqv enc P w base spare held e L)(ht:P.underlying t=some (.array n e))(hc:P.cellsOf t=n*P.cellsOf e):jqv enc P w base spare held t L2:=fun fuel cs x h=>by
 obtain⟨xs,m,rfl,rfl,hl,hxl,hi⟩:=DataW.trod_array ht h;rw[hc]at hl;have h2:=chunks hl (c:=fun i=>L ((xs.map (·.1)).getD i .nil)) (fun i hi2=>by
  have h3:=hi i hi2;have h4:xs[i]? =some (xs[i]'zv):=List.getElem?_eq_getElem _;rw[h4]at h3;have h5:=he _ _ _ h3;rw[h5,List.getD_eq_getElem?_getD,List.getElem?_map,h4];rfl)
 show cs=L2 (.agg (xs.map (·.1)));rw[hL];rw[h2];have:∀(ds:List (DataW H)),(List.range ds.length).flatMap (fun i=>L (ds.getD i .nil))=ds.flatMap L:=by
  intro ds
  induction ds with
  |nil=>rfl
  |cons d ds ih=>
   rw[List.length_cons,List.range_succ_eq_map,List.flatMap_cons,List.flatMap_map,List.flatMap_cons]
   congr 1
 have h6:=this (xs.map (·.1));rw[List.length_map,hxl]at h6;exact h6
end
def jhl(P:Program)(w:World)(name:String)(cs:List Value):Prop:=w.var? P name=some cs.toArray
theorem jmz{P:Program}{W:World}{name:String}{d:DataW Unit}{l:List (String×DataW Unit)}{g:Nat}{t:TypeId}{L:DataW Unit->List Value}(hm:laidMet P l W)(hd:(name,d)∈l)(hg:P.globalNamed name=some g)(hty:(P.globals[g]?).map (·.type)=some t)
  (hT:∀w base spare held,jqv (fun _=>()) P w base spare held t L):jhl P W name (L d):=by
 obtain⟨g',t',cs,fuel,p,h1,h2,h3,h4⟩:=Lib.laidMet.reads hm hd;rw[hg]at h1;obtain rfl:=Option.some.inj h1;rw[hty]at h2;obtain rfl:=Option.some.inj h2;have:=hT _ _ _ _ _ _ _ h4;unfold jhl;rw[h3,<-this]
theorem jhl.on{P:Program}{w w':World}{name:String}{cs:List Value}{g:Nat}(hg:P.globalNamed name=some g)(h:jhl P w name cs)(hb:zF w w'):jhl P w' name cs:=Joins.var_stays hg h hb zl
theorem jhl.cell{P:Program}{w:World}{name:String}{cs:List Value}{g:Nat}(hg:P.globalNamed name=some g)(h:jhl P w name cs){i:Nat}{v:Value}(hi:cs[i]? =some v):w.cell? ⟨g,i,none⟩=some v:=by
 unfold jhl World.var? at h;rw[hg]at h;simp only[Option.bind_some]at h;split at h
 ·rename_i c T fr hh
  obtain rfl:=Option.some.inj h;rw[cell_of_row w g i _ _ _ hh];simpa using hi
 ·cases h
end Go.Proofs.YtkinlcfhojjalaaGreatDoor
namespace Go.Proofs.YtkinlcfhojjalaaGreatDoor
open Go.RowKit
theorem jlp:Tryz.prog.globalNamed "pacesetter/phase.leads" =some 1:=by kernel_rfl
theorem jir:Tryz.prog.globalNamed "pacesetter/phase.words" =some 0:=by kernel_rfl
def juz(p e:Int):Int:=if Ph.to_ p e= -1 then 0 else Ph.to_ p e
theorem ju0{p e:Int}(h:Ph.to_ p e= -1):juz p e=0:=if_pos h
theorem jqy{p e:Int}(h:Ph.to_ p e≠-1):juz p e=Ph.to_ p e:=if_neg h
theorem zz17{p:Prop}(h:p:=by
 rcases Ph.pairs h with⟨rfl,rfl⟩|⟨rfl,rfl⟩|⟨rfl,rfl⟩|⟨rfl,rfl⟩|⟨rfl,rfl⟩|⟨rfl,rfl⟩|⟨rfl,rfl⟩|⟨rfl,rfl⟩|⟨rfl,rfl⟩|⟨rfl,rfl⟩|⟨rfl,rfl⟩|⟨rfl,rfl⟩
 all_goals decide):p:=h
theorem to_pos{p e:Int}(h:Ph.to_ p e≠-1):Ph.to_ p e≠0:=by
 exact zz17
def jqz:List Value:=[0,1,2,3,4,5].flatMap fun p=>[0,1,2,3,4,5,6,7,8].map fun e=> .int .i64 (juz p e)
def jq0:List Value:=[0,1,2,3,4,5,6,7,8].map fun e=> .string (Ph.word e)
structure PT(w:World):Prop where
 leads:jhl Tryz.prog w "pacesetter/phase.leads" jqz
 words:jhl Tryz.prog w "pacesetter/phase.words" jq0
theorem PT.on{w w':World}(h:PT w)(hb:zF w w'):PT w':=⟨h.leads.on jlp hb,h.words.on jir hb⟩
theorem jq1(p e:Nat)(hp:p<6)(he:e<9):jqz[p*9+e]? =some (.int .i64 (juz p e)):=by
 rcases p with _|_|_|_|_|_|p
 all_goals first|omega|skip
 all_goals rcases e with _|_|_|_|_|_|_|_|_|e
 all_goals first|rfl|omega
theorem jj5(p:Nat)(hp:p<9):jq0[p]? =some (.string (Ph.word p)):=by
 rcases p with _|_|_|_|_|_|_|_|_|p
 all_goals first|rfl|omega
theorem zz2q{p:Prop}(h:p:=by
 rw[decide_eq_true h1,decide_eq_false h2]
 go_in;go_wp2;go_ret;exact⟨rfl,rfl⟩):p:=h
theorem zz2s{p:Prop}(h:p:=by
 rw[decide_eq_true h1,decide_eq_true h2]
 go_in;go_wp2;go_ret;exact⟨rfl,rfl⟩):p:=h
theorem ju1(n:Int)(w:World):Calls Tryz.prog 235 #[.int .i64 n] w fun x w'=>x= .returned (.bool (decide (0<=n)&&decide (n<6)))/\w'=w:=by
 by_cases h1:0<=n
 ·by_cases h2:n<6
  ·exact zz2s
  ·exact zz2q
 ·rw[decide_eq_false h1]
  go_in;go_wp2;go_ret;exact⟨rfl,rfl⟩
theorem jm0(n:Int)(w:World):Calls Tryz.prog 236 #[.int .i64 n] w fun x w'=>x= .returned (.bool (decide (0<=n)&&decide (n<9)))/\w'=w:=by
 by_cases h1:0<=n
 ·by_cases h2:n<9
  ·exact zz2s
  ·exact zz2q
 ·rw[decide_eq_false h1]
  go_in;go_wp2;go_ret;exact⟨rfl,rfl⟩
theorem zz1c{p:Prop}(h:p:=by
 go_in
 go_wp2_with(first
  |(go_at_call 235;refine(HI.o _).mono ?_;rintro x w1 ⟨rfl,rfl⟩)
  |(go_at_call 236;refine(HJ.o _).mono ?_;rintro x w1 ⟨rfl,rfl⟩))
 go_ret2;exact⟨rfl,B.o⟩):p:=h
theorem jq2(p e:Int)(hp:i64P p)(he:i64P e)(w:World)(ht:PT w):Calls Tryz.prog 183 #[.int .i64 p,.int .i64 e] w (jfr w (.int .i64 (Ph.next p e)) (.bool (Ph.did p e))):=by
 have B:=zh (Below.refl w.heap.size w);have CI:=zh (fun n W=>ju1 n W);have CJ:=zh (fun n W=>jm0 n W);by_cases h1:0<=p/\p<6
 ·obtain⟨k,rfl⟩:=Int.eq_ofNat_of_zero_le h1.1
  by_cases h2:0<=e/\e<9
  ·obtain⟨j,rfl⟩:=Int.eq_ofNat_of_zero_le h2.1
   have hc:=ht.leads.cell jlp (jq1 k j zv zv);have hi:=fun W=>CI.o (k:Int) W;have hj:=fun W=>CJ.o (j:Int) W;rw[decide_eq_true h1.1,decide_eq_true h1.2]at hi;rw[decide_eq_true h2.1,decide_eq_true h2.2]at hj;have HI:=zh hi;have HJ:=zh hj;have a1:=h1.1;have a2:=h1.2;have a3:=h2.1;have a4:=h2.2;clear hi hj CI CJ ht hp he h1 h2;by_cases hd:Ph.to_ (k:Nat) (j:Nat)= -1
   ·rw[(Ph.next_no hd).1,(Ph.next_no hd).2]
    rw[ju0 hd]at hc;clear hd;exact zz1c
   ·rw[(Ph.next_yes rfl hd).1,(Ph.next_yes rfl hd).2]
    have hq:(Ph.to_ (k:Nat) (j:Nat)==0)=false:=by rw[zq];exact to_pos hd
    rw[jqy hd]at hc;clear hd;generalize Ph.to_ (k:Nat) (j:Nat)=x at*;exact zz1c
  ·have hf:=Ph.far (p:=(k:Nat)) (e:=e) (.inr zv)
   rw[(Ph.next_no hf).1,(Ph.next_no hf).2];have hi:=fun W=>CI.o (k:Int) W;have hj:=fun W=>CJ.o e W;rw[decide_eq_true h1.1,decide_eq_true h1.2]at hi;have hz:(decide (0<=e)&&decide (e<9))=false:=by rw[Bool.and_eq_false_iff,decide_eq_false_iff_not,decide_eq_false_iff_not];omega
   rw[hz]at hj;have HI:=zh hi;have HJ:=zh hj;clear hi hj CI CJ ht hp he h1 h2 hz hf;exact zz1c
 ·have hf:=Ph.far (p:=p) (e:=e) (.inl zv)
  rw[(Ph.next_no hf).1,(Ph.next_no hf).2];have hi:=fun W=>CI.o p W;have hz:(decide (0<=p)&&decide (p<6))=false:=by rw[Bool.and_eq_false_iff,decide_eq_false_iff_not,decide_eq_false_iff_not];omega
  rw[hz]at hi;have HI:=zh hi;clear hi CI CJ ht hp he h1 hz hf;go_in;go_wp2_with(go_at_call 235;refine(HI.o _).mono ?_;rintro x w1 ⟨rfl,rfl⟩);go_ret2;exact⟨rfl,B.o⟩
theorem jq3{n:Int}(h: -1000<=n/\n<=1000):i64P n:=by unfold i64P;omega
theorem zz27{p:Prop}(h:p:=by
 go_in;go_wp2_with(go_at_call 236;refine(HI.o _).mono ?_;rintro x w1 ⟨rfl,rfl⟩);go_ret;exact⟨rfl,B.o⟩):p:=h
theorem jq4(p:Int)(w:World)(ht:PT w):Calls Tryz.prog 184 #[.int .i64 p] w (jbg w (.string (Ph.word p))):=by
 have B:=zh (Below.refl w.heap.size w);have hi:=fun W=>jm0 p W;by_cases h1:0<=p/\p<9
 ·obtain⟨k,rfl⟩:=Int.eq_ofNat_of_zero_le h1.1
  have hc:=ht.words.cell jir (jj5 k zv);rw[decide_eq_true h1.1,decide_eq_true h1.2]at hi;have HI:=zh hi;have a1:=h1.1;have a2:=h1.2;clear hi ht h1;generalize Ph.word (k:Nat)=u at*;exact zz27
 ·rw[Ph.word_none zv]
  have hz:(decide (0<=p)&&decide (p<9))=false:=by rw[Bool.and_eq_false_iff,decide_eq_false_iff_not,decide_eq_false_iff_not];omega
  rw[hz]at hi;have HI:=zh hi;clear hi ht h1 hz;exact zz27
theorem pof_any(t:ByteArray)(w:World)(ht:PT w):Calls Tryz.prog 182 #[.string t] w (jfr w (.int .i64 (Ph.of t)) (.bool (Ph.isWord t))):=by
 have HW:=zh (fun j (hj:j<9)=>ht.words.cell jir (jj5 j hj));have B:=zh (Below.refl w.heap.size w);clear ht;go_in;go_wp2_with fail;go_loopw [5] (fun i wr=>∃k:Nat,k<=9/\i= .int .i64 k/\(∀j,j<k->Ph.word (j:Nat)≠t)/\wr=w) (fun i _=>9 -(intOf i).toNat)
 case atStart=>exact⟨0,zv,rfl,fun j hj=>by omega,rfl⟩
 case round=>
  obtain⟨k,hk,rfl,hj,rfl⟩:=hrel;have HJ:=zh hj;clear hj;by_cases hlt:k<9
  ·have hi:(k:Int)<9:=by omega
   have hc:=HW.o k hlt;by_cases he:Ph.word (k:Nat)=t
   ·have hts:((Ph.word (k:Nat)).toList==t.toList)=true:=by rw[jb7];exact decide_eq_true he
    have EP:Hid (Ph.place t=k):=Ph.place_is t hlt he HJ.o;clear he;generalize Ph.word (k:Nat)=u at*;go_wp2;go_ret2;refine⟨?_,B.o⟩;have h1:Ph.of t=(k:Nat):=by unfold Ph.of;rw[EP.o,if_pos hlt]
    have h2:Ph.isWord t=true:=by unfold Ph.isWord;rw[EP.o];exact decide_eq_true hlt
    rw[h1,h2];rfl
   ·have hts:((Ph.word (k:Nat)).toList==t.toList)=false:=by rw[jb7];exact decide_eq_false he
    have HE:=zh he;clear he;generalize hu:Ph.word (k:Nat)=u at*;have HU:=zh hu;clear hu;go_wp2_with fail;refine⟨⟨k+1,zv,by go_num,fun j hj=> ?_,trivial⟩,by simp[intOf];omega⟩;by_cases e:j=k
    ·subst e;rw[HU.o];exact HE.o
    ·exact HJ.o j zv
  ·exact zz15
theorem jq5(p:Int)(w:World):Calls Tryz.prog 180 #[.int .i64 p] w (jbg w (.bool (Ph.open_ p))):=by
 have B:=zh (Below.refl w.heap.size w);by_cases h:p=1\/p=2\/p=4
 ·rcases h with rfl|rfl|rfl
  all_goals
   go_in;go_wp2;go_ret;exact⟨rfl,B.o⟩
 ·rw[show Ph.open_ p=false from by unfold Ph.open_;simp;omega]
  have q1:(p==1)=false:=by rw[zq];omega
  have q2:(p==2)=false:=by rw[zq];omega
  have q4:(p==4)=false:=by rw[zq];omega
  clear h;go_in;go_wp2;go_ret;exact⟨rfl,B.o⟩open Go.Maps
structure BT(w:World):Prop where
 pow:Tb w
 ph:PT w
theorem BT.on{w w':World}(h:BT w)(hb:zF w w'):BT w':=⟨h.pow.on hb,h.ph.on hb⟩
structure BdIs(w:World)(q:Nat)(s:Bk.St)(ru:Nat->Bk.Un)(rv:Int)(lo ko:Option Nat)(H:Value)(K:Kv.St):Prop where
 at_:BdAt w q s ru rv (.map lo) (.map ko) H
 ls:LM.Opt w lo (Ls.zOf (Bd.tab s).l) (Bd.tab s).l.length
 kv:MapO w ko K.l
 kg:Kv.Good K
 kr:K.rev=rv
 kb:rv<=s.vs.length
 dg:Bd.Digs K s.vs
 raw:Bd.Raw ru s.us
 h:OwF Bk.rcC 18 56 w 0 H s.h
 lk:∀m,lo=some m->ko≠some m
 lok:Bd.Lok s
section
variable{w w':World}{q:Nat}{s:Bk.St}{ru:Nat->Bk.Un}{rv:Int}{lo ko:Option Nat}{H:Value}{K:Kv.St}
theorem jn6{H:Value}{e:TypeId}{w:World}{B:Nat}{l:List Rc.R}(h:OwF Bk.rcC 18 e w B H l):∀t,H≠ .string t:=by
 obtain⟨A,c,rfl⟩:=h.form;intro t e
 cases e
theorem zz1p{p:Prop}(h:p:=by
 unfold Bd.tab at he;by_cases h0:s.ep=0
 ·simp[h0]at he
 ·simp only[if_neg h0,List.mem_singleton]at he
  subst he;show s.ep<=_;omega):p:=h
theorem zz35{p:Prop}(h:p:=by
 unfold Bd.tab
 show(if s.ep=0 then[]else[_]).length<=_;split<;>simp):p:=h
theorem BdIs.lsIs(h:BdIs w q s ru rv lo ko H K):LsIs w q (Bd.cells s ru rv (.map lo) (.map ko) H) 83 lo (Bd.tab s):=by
 refine⟨h.at_.row,rfl,rfl,h.ls,Bd.tab_good h.lok,fun e he=> ?_,?_⟩
 ·have:=h.lok.ok.ep
  exact zz1p
 ·exact zz35
theorem BdIs.kvIs(h:BdIs w q s ru rv lo ko H K):KvIs w q 2 (Bd.cells s ru rv (.map lo) (.map ko) H) 83 ko K:=
 ⟨h.at_.row,by rw[h.kr];rfl,rfl,Bd.nostr (fun t e=>by cases e) (fun t e=>by cases e) (jn6 h.h),h.kv,h.kg⟩
theorem BdIs.qh(h:BdIs w q s ru rv lo ko H K):H.ownBlock≠some q:=by
 intro e;rcases h.h.2 with⟨rfl,_⟩|⟨g,cap,cur,rfl,hg,hh,r⟩
 ·cases e
 ·have e2:g=q:=by injection e
  subst e2;have:=h.at_.row;rw[hh]at this;injection this with this
  injection this with _ this
  exact absurd this (by decide)
theorem BdIs.ql(h:BdIs w q s ru rv lo ko H K):lo≠some q:=fun e=>(LsIs.ne (e▸h.lsIs)) rfl
theorem BdIs.qk(h:BdIs w q s ru rv lo ko H K):ko≠some q:=fun e=>(KvIs.ne (e▸h.kvIs)) rfl
theorem jn7{w:World}{m:Nat}{l:List Kv.En}(h:MapO w (some m) l):∃es clock,w.heap[m]? =some (.map es clock):=by
 obtain⟨D,⟨es,clock,hb,_⟩,_⟩:=show jbv Tryz.prog 9 w m l from h
 exact⟨es,clock,hb⟩
theorem zz1k{p:Prop}(h:p:=by
 rcases h.h.2 with⟨rfl,_⟩|⟨g,cap,cur,rfl,hg,hh,r⟩
 ·cases e2
 ·have e3:g=m:=by injection e2
  subst e3;rw[hh]at hb;injection hb with hb
  cases hb):p:=h
theorem BdIs.hl(h:BdIs w q s ru rv lo ko H K):∀m,lo=some m->H.ownBlock≠some m:=by
 intro m e e2;subst e;obtain⟨es,clock,hb⟩:=MapW.At.block (M:=LM) h.ls;exact zz1k
theorem BdIs.hk(h:BdIs w q s ru rv lo ko H K):∀m,ko=some m->H.ownBlock≠some m:=by
 intro m e e2;subst e;obtain⟨es,clock,hb⟩:=jn7 h.kv;exact zz1k
theorem BdIs.keep(h:BdIs w q s ru rv lo ko H K)(h1:w'.heap[q]? =w.heap[q]?)(h2:∀m,lo=some m->w'.heap[m]? =w.heap[m]?)(h3:∀m,ko=some m->w'.heap[m]? =w.heap[m]?)(h4:∀m,H.ownBlock=some m->w'.heap[m]? =w.heap[m]?):BdIs w' q s ru rv lo ko H K:=
 {h with at_:=h.at_.keep h1,ls:=h.ls.keep h2,kv:=h.kv.keep h3,h:=h.h.keep h4}
theorem BdIs.lt(h:BdIs w q s ru rv lo ko H K):q<w.heap.size/\(∀m,lo=some m->m<w.heap.size)/\(∀m,ko=some m->m<w.heap.size)/\∀m,H.ownBlock=some m->m<w.heap.size:=
 ⟨h.at_.lt,fun m e=>by subst e;exact MapW.Opt.lt h.ls,fun m e=>by subst e;exact MapO.lt h.kv,fun m e=>(h.h.lt m e).2⟩
theorem BdIs.on(h:BdIs w q s ru rv lo ko H K)(hb:zF w w'):BdIs w' q s ru rv lo ko H K:=
 h.keep (hb.block q h.lt.1) (fun m e=>hb.block m (h.lt.2.1 m e)) (fun m e=>hb.block m (h.lt.2.2.1 m e)) (fun m e=>hb.block m (h.lt.2.2.2 m e))
theorem BdIs.form(h:BdIs w q s ru rv lo ko H K):∃A c,H= .slice A s.h.length c:=h.h.form
def BdF(q:Nat)(lo ko:Option Nat)(H:Value)(i:Nat):Prop:=i=q\/lo=some i\/ko=some i\/H.ownBlock=some i
theorem BdIs.ltF(h:BdIs w q s ru rv lo ko H K):∀i,BdF q lo ko H i->i<w.heap.size:=by
 rintro i (rfl|e|e|e)
 ·exact h.lt.1
 ·exact h.lt.2.1 i e
 ·exact h.lt.2.2.1 i e
 ·exact h.lt.2.2.2 i e
end
def BdP:jnw:=fun w X q s=>∃ru rv lo ko H K,BdIs w q s ru rv lo ko H K/\(∀i,BdF q lo ko H i->X i)/\∀i,X i->i<w.heap.size
def ja1(q:Nat)(lo ko:Option Nat)(H:Value)(s':Bk.St)(v:Value)(W:World)(e:Ending)(w':World):Prop:=
 ∃ru' rv' lo' ko' H' K',e= .returned v/\BdIs w' q s' ru' rv' lo' ko' H' K'/\Kept (BdF q lo ko H) W w'/\∀i,BdF q lo' ko' H' i->BdF q lo ko H i\/W.heap.size<=i
section
variable{W W1 w':World}{X:Nat->Prop}{q:Nat}{s s':Bk.St}{ru:Nat->Bk.Un}{rv:Int}{lo ko:Option Nat}{H:Value}{K:Kv.St}{v:Value}{e:Ending}
theorem ja1.turn(hX:∀i,BdF q lo ko H i->X i)(hl:∀i,X i->i<W.heap.size)(h:ja1 q lo ko H s' v W e w'):BTurn BdP X q s' v W e w':=by
 obtain⟨ru',rv',lo',ko',H',K',h1,h2,h3,h4⟩:=h;refine⟨fun i=>X i\/BdF q lo' ko' H' i,h1,⟨ru',rv',lo',ko',H',K',h2,fun i hi=> .inr hi,fun i hi=> ?_⟩,fun i hi=> ?_,h3.more fun i _ hi=>hX i hi⟩
 ·rcases hi with hi|hi
  ·exact Nat.lt_of_lt_of_le (hl i hi) h3.size
  ·exact h2.ltF i hi
 ·rcases hi with hi|hi
  ·exact .inl hi
  ·rcases h4 i hi with h5|h5
   ·exact .inl (hX i h5)
   ·exact .inr h5
theorem ja1.stay(h:BdIs W q s ru rv lo ko H K)(hb:zF W w')(v:Value):ja1 q lo ko H s v W (.returned v) w':=
 ⟨ru,rv,lo,ko,H,K,rfl,h.on hb,Kept.of_below hb,fun _ hi=> .inl hi⟩
theorem ja1.ahead(hb:zF W W1)(h:ja1 q lo ko H s' v W1 e w')(hl:∀i,BdF q lo ko H i->i<W.heap.size):ja1 q lo ko H s' v W e w':=by
 obtain⟨ru',rv',lo',ko',H',K',h1,h2,h3,h4⟩:=h;exact⟨ru',rv',lo',ko',H',K',h1,h2,(Kept.of_below (F:=BdF q lo ko H) hb).trans h3 fun _ _ h=>h,fun i hi=>(h4 i hi).imp id (Nat.le_trans hb.size)⟩
theorem ja1.ret(h:ja1 q lo ko H s' v W e w')(u:Value):ja1 q lo ko H s' u W (.returned u) w':=by
 obtain⟨ru',rv',lo',ko',H',K',h1,h2,h3,h4⟩:=h;exact⟨ru',rv',lo',ko',H',K',rfl,h2,h3,h4⟩
end
open Go.Deep
theorem jn8(W:World)(p:Value)(k:ByteArray)(a b c:Int)(f:Bool)(CG:Calls Tryz.prog 176 #[p,.string k] W (fun e w'=>e= .returned (.tuple #[leV a b c,.bool f])/\zF W w'))(ho ep now:Int){z:Bool}(hz:z=true↔(a=ho/\b=ep)/\(c≠0/\now<c)):
  Calls Tryz.prog 172 #[p,.string k,.int .i64 ho,.int .i64 ep,.int .i64 now] W (fun e w'=>e= .returned (.bool z)/\zF W w'):=by
 have CG:=zh CG;by_cases h1:a=ho/\b=ep
 ·have C1:=zh (fun W=>jio W a b c ho ep (x:=true) (by simp[h1]))
  have C2:=zh (fun W=>jfg W a b c now (x:=z) (by rw[hz];simp[h1]));clear hz h1;unfold leV at*;go_in;go_upto_region 2 with(go_at_call 176;refine CG.o.mono ?_;rintro e w1 ⟨rfl,hb⟩;have B1:=zh hb;clear hb)
  have B2:=zh (B1.o.alloc (by have:=B1.o.size;omega) (.cells #[.int .i64 a,.int .i64 b,.int .i64 c] 231));have R2:=zh (heap_alloc_new w1 (.cells #[.int .i64 a,.int .i64 b,.int .i64 c] 231));obtain⟨g,hg⟩:∃g,g=w1.heap.size:=zx;rw[<-hg]at R2⊢;generalize w1.alloc (.cells #[.int .i64 a,.int .i64 b,.int .i64 c] 231)=w2 at*;have d0:=LsCells.c0 R2.o;have d1:=LsCells.c1 R2.o;have d2:=LsCells.c2 R2.o;have HG:=zh hg;clear hg
  go_wp2_with(first
   |(go_at_call 224;refine(C1.o _).mono ?_;rintro e w3 ⟨rfl,hb⟩;have B3:=zh (B2.o.trans (hb.mono B2.o.size));have R3:=jah R2.o hb;have e0:=LsCells.c0 R3;have e1:=LsCells.c1 R3;have e2:=LsCells.c2 R3;clear hb R3)
   |(go_at_call 225;refine(C2.o _).mono ?_;rintro e w4 ⟨rfl,hb⟩;have B4:=zh (B3.o.trans (hb.mono B3.o.size));clear hb))
  go_ret;exact⟨rfl,B4.o⟩
 ·have C1:=zh (fun W=>jio W a b c ho ep (x:=false) (by simpa using h1))
  obtain rfl:z=false:=by rw[Bool.eq_false_iff];intro h;exact h1 (hz.1 h).1
  clear hz h1;unfold leV at*;go_in;go_upto_region 2 with(go_at_call 176;refine CG.o.mono ?_;rintro e w1 ⟨rfl,hb⟩;have B1:=zh hb;clear hb)
  have B2:=zh (B1.o.alloc (by have:=B1.o.size;omega) (.cells #[.int .i64 a,.int .i64 b,.int .i64 c] 231));have R2:=zh (heap_alloc_new w1 (.cells #[.int .i64 a,.int .i64 b,.int .i64 c] 231));obtain⟨g,hg⟩:∃g,g=w1.heap.size:=zx;rw[<-hg]at R2⊢;generalize w1.alloc (.cells #[.int .i64 a,.int .i64 b,.int .i64 c] 231)=w2 at*;have d0:=LsCells.c0 R2.o;have d1:=LsCells.c1 R2.o;have d2:=LsCells.c2 R2.o;have HG:=zh hg;clear hg;go_wp2_with(go_at_call 224;refine(C1.o _).mono ?_;rintro e w3 ⟨rfl,hb⟩;have B3:=zh (B2.o.trans (hb.mono B2.o.size));clear hb);go_ret;exact⟨rfl,B3.o⟩
theorem jj6(W:World)(q:Nat)(cs:Array Value)(ty:TypeId)(mo:Option Nat)(s:Ls.St)(h:LsIs W q cs ty mo s)(k:ByteArray)(hk:k.size<=maxLen)(ho ep now:Int){z:Bool}(hz:z=true↔Ls.Holds s k ho ep now):
  Calls Tryz.prog 172 #[.pointer (some ⟨q,0,none⟩),.string k,.int .i64 ho,.int .i64 ep,.int .i64 now] W (fun e w'=>e= .returned (.bool z)/\zF W w'):=
 jn8 W _ k _ _ _ _ (jdw W q cs ty mo s h k hk) ho ep now (hz.trans (Ls.holds_is h.good k ho ep now))
open Classical in
noncomputable def Ls.notE(s:Ls.St)(k:ByteArray)(h ep:Int):Nat:=match Ls.find s.l k with
 |none=>5
 |some e=>if Ls.Other e h ep then 8 else 0
open Classical in
theorem Ls.notE_is{s:Ls.St}{k:ByteArray}{h ep:Int}{f x:Bool}(hf:(Ls.find s.l k).isSome=f)(hx:x=true↔Ls.holderOf s.l k=h/\Ls.epochOf s.l k=ep):Ls.notE s k h ep=if f then(if x then 0 else 8)else 5:=by
 unfold Ls.notE Ls.holderOf Ls.epochOf at*
 cases he:Ls.find s.l k with
 |none=>rw[he]at hf;subst hf;rfl
 |some e=>
  rw[he]at hf hx;subst hf;show(if Ls.Other e h ep then 8 else 0)=if x then 0 else 8
  unfold Ls.Other;by_cases h1:e.holder=h/\e.epoch=ep
  ·rw[if_neg zv,if_pos (hx.2 h1)]
  ·rw[if_pos zv,if_neg (fun h=>h1 (hx.1 h))]
theorem jj7(W:World)(q:Nat)(cs:Array Value)(ty:TypeId)(mo:Option Nat)(s:Ls.St)(h:LsIs W q cs ty mo s)(k:ByteArray)(hk:k.size<=maxLen)(ho ep:Int):
  Calls Tryz.prog 228 #[.pointer (some ⟨q,0,none⟩),.string k,.int .i64 ho,.int .i64 ep] W (fun e w'=>e= .returned (.int .i64 (Ls.notE s k ho ep:Nat))/\zF W w'):=by
 have CG:=zh (jdw W q cs ty mo s h k hk);obtain⟨x,hx⟩:∃x:Bool,x=true↔Ls.holderOf s.l k=ho/\Ls.epochOf s.l k=ep:=⟨decide _,decide_eq_true_iff⟩;have EN:=zh (Ls.notE_is (f:=(Ls.find s.l k).isSome) rfl hx);unfold LGet lval at CG;rw[EN.o];clear EN;generalize(Ls.find s.l k).isSome=f at*;generalize Ls.holderOf s.l k=a at*;generalize Ls.epochOf s.l k=b at*;generalize Ls.tillOf s.l k=c at*;have C1:=zh (fun W=>jio W a b c ho ep hx);clear h hk hx;unfold leV at*
 cases f with
 |false=>
  go_in;go_upto_region 2 with(go_at_call 176;refine CG.o.mono ?_;rintro e w1 ⟨rfl,hb⟩;have B1:=zh hb;clear hb)
  have B2:=zh (B1.o.alloc (by have:=B1.o.size;omega) (.cells #[.int .i64 a,.int .i64 b,.int .i64 c] 231));go_wp2;go_ret;exact⟨rfl,B2.o⟩
 |true=>
  cases x with
  |false=>
   go_in;go_upto_region 2 with(go_at_call 176;refine CG.o.mono ?_;rintro e w1 ⟨rfl,hb⟩;have B1:=zh hb;clear hb)
   have B2:=zh (B1.o.alloc (by have:=B1.o.size;omega) (.cells #[.int .i64 a,.int .i64 b,.int .i64 c] 231));go_wp2_with(go_at_call 224;refine(C1.o _).mono ?_;rintro e w3 ⟨rfl,hb⟩;have B3:=zh (B2.o.trans (hb.mono B2.o.size));clear hb);go_ret;exact⟨rfl,B3.o⟩
  |true=>
   go_in;go_upto_region 2 with(go_at_call 176;refine CG.o.mono ?_;rintro e w1 ⟨rfl,hb⟩;have B1:=zh hb;clear hb)
   have B2:=zh (B1.o.alloc (by have:=B1.o.size;omega) (.cells #[.int .i64 a,.int .i64 b,.int .i64 c] 231));go_wp2_with(go_at_call 224;refine(C1.o _).mono ?_;rintro e w3 ⟨rfl,hb⟩;have B3:=zh (B2.o.trans (hb.mono B2.o.size));clear hb);go_ret;exact⟨rfl,B3.o⟩
structure LsX(W:World)(X:Nat->Prop)(q:Nat)(mo:Option Nat):Prop where
 q:X q
 m:∀m,mo=some m->X m
 lt:∀i,X i->i<W.heap.size
def jh0(q:Nat)(cs:Array Value)(ty:TypeId)(mo:Option Nat)(s':Ls.St)(v:Value)(W:World)(e:Ending)(w':World):Prop:=
 ∃mo',e= .returned v/\LsIs w' q (cs.setIfInBounds 1 (.map mo')) ty mo' s'/\Kept (fun i=>i=q\/mo=some i) W w'/\∀m,mo'=some m->mo=some m\/W.heap.size<=m
theorem jee{W w':World}{X:Nat->Prop}{q:Nat}{cs:Array Value}{ty:TypeId}{mo:Option Nat}{s:Ls.St}(_:LsX W X q mo)(h:LsIs W q cs ty mo s)(hb:zF W w')(v:Value):jh0 q cs ty mo s v W (.returned v) w':=
 ⟨mo,rfl,by rw[set_same h.k1];exact h.on hb,Kept.of_below hb,fun _ hi=> .inl hi⟩
theorem jis{W W1 w':World}{X:Nat->Prop}{q:Nat}{cs:Array Value}{ty:TypeId}{mo mo':Option Nat}{s':Ls.St}(_:LsX W X q mo)(hb:zF W W1)(h:LsIs w' q (cs.setIfInBounds 1 (.map mo')) ty mo' s')(hk:Kept (fun i=>i=q\/mo=some i) W1 w')(hm:∀m,mo'=some m->mo=some m\/W1.heap.size<=m)(v:Value):jh0 q cs ty mo s' v W (.returned v) w':=
 ⟨mo',rfl,h,(Kept.of_below (F:=fun i=>i=q\/mo=some i) hb).trans hk fun _ _ h=>h,fun m e=>(hm m e).imp id (Nat.le_trans hb.size)⟩
structure RdW(w0:World)(q:Nat)(s:Bk.St)(ru:Nat->Bk.Un)(rv:Int)(lo ko:Option Nat)(H:Value)(K:Kv.St)(W:World):Prop where
 bd:BdIs W q s ru rv lo ko H K
 b:zF w0 W
theorem RdW.on{w0 W W':World}{q:Nat}{s:Bk.St}{ru:Nat->Bk.Un}{rv:Int}{lo ko:Option Nat}{H:Value}{K:Kv.St}(h:RdW w0 q s ru rv lo ko H K W)(hb:zF W W'):RdW w0 q s ru rv lo ko H K W':=
 ⟨h.bd.on hb,h.b.trans (hb.mono h.b.size)⟩
theorem jm1(n:Int)(hn:Spc.i64 n)(w:World)(ht:BT w):Calls Tryz.prog 110 #[.int .i64 n] w (BRet (.string (Bd.key n)) w):=by
 have C:=zh (jux n hn w ht.pow);unfold Bd.key;generalize txt (Spc.digs n)=k at*;clear ht hn;go_in;go_wp2_with(go_at_call 171;refine C.o.mono ?_;rintro e w1 ⟨rfl,hb⟩;have B:=zh hb;clear hb);go_ret;exact⟨rfl,B.o⟩
theorem jg3(q:Nat)(s:Bk.St)(ru:Nat->Bk.Un)(rv:Int)(lo ko:Option Nat)(H:Value)(K:Kv.St)(w:World)(h:BdIs w q s ru rv lo ko H K)(ht:BT w)(n:Int)(hn:Spc.i64 n):Calls Tryz.prog 60 #[.pointer (some ⟨q,0,none⟩),.int .i64 n] w (BRet (.tuple #[.string (Bk.text s.vs n),.bool (Bk.has s.vs n)]) w):=by
 have HT:=zh ht;have CK:Hid (∀W,BT W->Calls Tryz.prog 110 #[.int .i64 n] W (BRet (.string (Bd.key n)) W)):=fun W h=>jm1 n hn W h;obtain⟨hv,hr⟩:=h.dg.val h.kg h.lok.ok.rise n;have KS:Hid ((Bd.key n).size<=maxLen):=by
  have:=Bd.digs_len hn;show(Bd.key n).size<=maxLen;unfold Bd.key maxLen;rw[jbr];omega
 have CG:Hid (∀W,RdW w q s ru rv lo ko H K W->Calls Tryz.prog 109 #[.pointer (some ⟨q,2,none⟩),.string (Bd.key n)] W (KGet K (Bd.key n) W)):=fun W h=>jgx W _ ko K h.bd.kvIs.ask _ KS.o;unfold KGet at CG;rw[hv]at CG;have hne:(Kv.revOf K.l (Bd.key n) !=0)=Bk.has s.vs n:=by rw[Bool.eq_iff_iff,bne_iff_ne];exact hr
 have HNE:=zh hne;rw[<-HNE.o];have R0:=zh (RdW.mk h (Below.refl w.heap.size w));generalize Bk.text s.vs n=tx at*;generalize Kv.revOf K.l (Bd.key n)=rr at*;generalize Bd.key n=kk at*;clear hv hr hne HNE ht hn h KS;go_in;go_upto_region 3 with fail
 refine wp_region_held_drew (S:=RdW w q s ru rv lo ko H K) zk (R0.o.on (Below.refl w.heap.size w).drew) (fun hS=> ?_);refine tY 0 hS ?_;refine tY 1 hS ?_;refine tY 2 hS ?_;refine tY 3 hS ?_;simp only[Act.put,zT,zO,zS];refine rO 4 (fun K hK=> ?_);go_simp
 refine(CK.o _ (HT.o.on hS.b)).mono ?_
 rintro e w7 ⟨rfl,hb⟩;replace hS:=hS.on hb;clear hb;refine hK.out _ _ hS (fun _=> ?_);clear hK K;try simp only[Act.put,zT,zO,zS]
 refine rO 5 (fun K hK=> ?_);go_simp
 refine(CG.o _ hS).mono ?_
 rintro e w8 ⟨rfl,hb⟩;replace hS:=hS.on hb;clear hb;refine hK.out _ _ hS (fun _=> ?_);clear hK K;refine tY 6 hS ?_;refine tY 7 hS ?_;refine tY 8 hS ?_;refine tY 9 hS ?_;refine tY 10 hS ?_;simp only[Act.put,zT,zO,zS];refine wpAnyH_done zk ?_ _;have B:=zh hS.b;clear hS;go_wp2;go_ret2;exact⟨rfl,B.o⟩
theorem jm2(q:Nat)(s:Bk.St)(ru:Nat->Bk.Un)(rv:Int)(lo ko:Option Nat)(H:Value)(K:Kv.St)(w:World)(h:BdIs w q s ru rv lo ko H K)(ht:BT w)(n:Int)(hn:Spc.i64 n):Calls Tryz.prog 177 #[.pointer (some ⟨q,0,none⟩),.int .i64 n] w (BRet (.bool (Bk.has s.vs n)) w):=by
 have C:=zh (jg3 q s ru rv lo ko H K w h ht n hn);generalize Bk.text s.vs n=tx at*;generalize Bk.has s.vs n=hx at*;clear h ht hn;go_in;go_wp2_with(go_at_call 60;refine C.o.mono ?_;rintro e w1 ⟨rfl,hb⟩;have B:=zh hb;clear hb);go_ret;exact⟨rfl,B.o⟩
