/- What the laws of layer 13 lean on together. -/
import Derived.Test.YtabandbigckfkaaGreatDoorQt24
import Derived.Handed
import Derived.HandedShaped
import Derived.Stop.LaidErr
import Derived.Shelf.Vars
import Derived.MakeChecks
import Derived.Lay
set_option maxHeartbeats 6400000
set_option maxRecDepth 100000
set_option linter.unusedSimpArgs false
set_option linter.unusedVariables false
namespace Go.Proofs.YtabandbigckfkaaGreatDoor
open Go.RowKit
def jfi(L V H:Value)(b:Nat):Prop:=∃A n c o,(L= .slice A n c∨V= .slice A n c∨H= .slice A n c)∧A=some ⟨b,o,none⟩∧0<n
theorem row_lt{W:World}{s:Bk.St}{L V H:Value}(h:BkRd W s L V H){b:Nat}(hr:jfi L V H b):b<W.heap.size:=by
 obtain⟨⟨A1,c1,e1,h1⟩,⟨A2,c2,e2,h2⟩,⟨A3,c3,e3,h3⟩⟩:=h;obtain⟨A,n,c,o,hx,ha,hp⟩:=hr;rcases hx with e|e|e
 ·rw[e1]at e;injection e with x1 x2 x3;subst x1 x2 x3
  obtain⟨b',o',e',hb,_⟩:=h1.rd hp;rw[ha]at e';injection e' with e';injection e' with e' _;omega
 ·rw[e2]at e;injection e with x1 x2 x3;subst x1 x2 x3
  obtain⟨b',o',e',hb,_⟩:=h2.rd hp;rw[ha]at e';injection e' with e';injection e' with e' _;omega
 ·rw[e3]at e;injection e with x1 x2 x3;subst x1 x2 x3
  obtain⟨b',o',e',hb,_⟩:=h3.rd hp;rw[ha]at e';injection e' with e';injection e' with e' _;omega
theorem jhy{W:World}{L V H L2 V2 H2:Value}(h:jfy W L V H L2 V2 H2){b:Nat}(hr:jfi L2 V2 H2 b):jfi L V H b∨W.heap.size≤b:=by
 obtain⟨A,n,c,o,hx,ha,hp⟩:=hr;obtain⟨h1,h2,h3⟩:=h;rcases hx with e|e|e
 ·rcases h1 with h|h
  ·exact .inl ⟨A,n,c,o,.inl (h▸e),ha,hp⟩
  ·exact .inr (h A n c b o e ha hp)
 ·rcases h2 with h|h
  ·exact .inl ⟨A,n,c,o,.inr (.inl (h▸e)),ha,hp⟩
  ·exact .inr (h A n c b o e ha hp)
 ·rcases h3 with h|h
  ·exact .inl ⟨A,n,c,o,.inr (.inr (h▸e)),ha,hp⟩
  ·exact .inr (h A n c b o e ha hp)
theorem jqz{w w':World}{g:Nat}{s:Bk.St}{L V H:Value}(h:BkRd w s L V H)(hg:w.grownBy w' (some g))(hn:¬jfi L V H g):BkRd w' s L V H:=
 h.kept hg fun A n c b o e1 e2 hp e3=>hn (e3▸⟨A,n,c,o,e1,e2,hp⟩)
theorem jdc(w:World)(g:Nat)(cs:Array Value):w.grownBy (w.setRow g cs) (some g):=⟨rfl,rfl,rfl,by rw[jaz];exact Nat.le_refl _,fun k _ hk=>jbs _ _ (fun e=>hk (by rw[e]))⟩
section
variable{w0 W W':World}{g:Nat}{s:Bk.St}{L V H v:Value}{ls:List Rc.R}
end
open Go.Deep Go.Maps
theorem rd_same{w w':World}{s:Bk.St}{L V H:Value}(h:BkRd w s L V H)(hz:w.heap.size≤w'.heap.size)(hk:∀b,jfi L V H b→w'.heap[b]? =w.heap[b]?):BkRd w' s L V H:=by
 obtain⟨⟨A1,c1,e1,h1⟩,⟨A2,c2,e2,h2⟩,⟨A3,c3,e3,h3⟩⟩:=h;exact⟨⟨A1,c1,e1,h1.keep hz fun b o e hl=>hk b ⟨A1,_,c1,o,.inl e1,e,hl⟩⟩,⟨A2,c2,e2,h2.keep hz fun b o e hl=>hk b ⟨A2,_,c2,o,.inr (.inl e2),e,hl⟩⟩,⟨A3,c3,e3,h3.keep hz fun b o e hl=>hk b ⟨A3,_,c3,o,.inr (.inr e3),e,hl⟩⟩⟩
section
variable{w0 W W':World}{G:Nat→Prop}{p R g:Nat}{m:Int}{Ls:List Rc.R}
theorem SA.lts(h:SA w0 G p m R Ls W):∀i,G i→i<W.heap.size:=by
 obtain⟨_,r,q,b,X,h1,_⟩:=h;exact h1.g
theorem SA.grown(h:SA w0 G p m R Ls W)(hg:W.grownBy W' (some g))(hG:G g)(h0:w0.heap.size≤g):SA w0 G p m R Ls W':=by
 obtain⟨hT,r,q,b,X,h1,h2⟩:=h;have hk:Kept (fun i=>i=g) W W':=Kept.of_grown hg fun k e=>by injection e with e;exact e.symm
 have hb:=h1.below.grown hg h1.below.size fun k e=>by injection e with e;exact e▸h0
 refine⟨hT,r,q,b,X,⟨(hk.block p h1.lt fun e=>h1.pG.1 (e▸hG)).trans h1.row,h1.jr.keep fun i hi hl=>hk.block i hl fun e=>(h1.inX i hi).2.2.2 (e▸hG),fun i hi=>⟨(h1.inX i hi).1,Nat.lt_of_lt_of_le (h1.inX i hi).2.1 hk.size,(h1.inX i hi).2.2⟩,h1.pG,fun i hi=>Nat.lt_of_lt_of_le (h1.g i hi) hk.size,hb⟩,jbn (ji2 h2 hk (fun i hi _=> .inl (hi▸hG)) (fun i hi=>hi▸h0)) fun i hi=> .inl hi⟩
end
structure FuAt(w0 W:World)(p:Nat)(m:Int)(R:Nat)(Ls:List Rc.R)(g:Nat)(s:Bk.St)(L V H:Value):Prop where
 bk:BkAt W g s L V H
 rd:BkRd W s L V H
 st:SA w0 (fun i=>i=g∨jfi L V H i) p m R Ls W
 ng:w0.heap.size≤g
 gn:¬jfi L V H g
section
variable{w0 W W':World}{p R g:Nat}{m:Int}{Ls:List Rc.R}{s:Bk.St}{L V H:Value}
theorem FuAt.on(h:FuAt w0 W p m R Ls g s L V H)(hb:Below W.heap.size W W'):FuAt w0 W' p m R Ls g s L V H:=⟨h.bk.on hb,h.rd.on hb,h.st.on hb,h.ng,h.gn⟩
structure FuRes(w0 W W':World)(p:Nat)(m:Int)(R:Nat)(Ls:List Rc.R)(g:Nat)(s:Bk.St)(L V H:Value)(w':World):Prop where
 at_:FuAt w0 w' p m R Ls g s L V H
 new_:∀i,W.heap.size≤i→i<W'.heap.size→w'.heap[i]? =W'.heap[i]?
theorem FuAt.turn(h:FuAt w0 W p m R Ls g s L V H)(hb:Below W.heap.size W W'){L2:List Rc.R}{x:Value}{e:Ending}{w':World}(hr:SRes w0 (fun i=>(i=g∨jfi L V H i)∨(W.heap.size≤i∧i<W'.heap.size)) p m R L2 x W' e w')(hz:W'.heap.size≤w'.heap.size):
  e= .returned x∧FuRes w0 W W' p m R L2 g s L V H w':=by
 have h2:=h.on hb;exact⟨hr.1,⟨h2.bk.keep (hr.2.2 g (.inl (.inl rfl))),rd_same h2.rd hz fun b hb=>hr.2.2 b (.inl (.inr hb)),hr.2.1.less fun i hi=> .inl hi,h.ng,h.gn⟩,fun i h1 h3=>hr.2.2 i (.inr ⟨h1,h3⟩)⟩
theorem FuAt.more(h:FuAt w0 W p m R Ls g s L V H)(hb:Below W.heap.size W W'):SA w0 (fun i=>(i=g∨jfi L V H i)∨(W.heap.size≤i∧i<W'.heap.size)) p m R Ls W':=h.st.more hb
theorem FuAt.book(h:FuAt w0 W p m R Ls g s L V H)(hb:Below W.heap.size W W'){s2:Bk.St}{L2 V2 H2:Value}(hr:BkRd W' s2 L2 V2 H2)(hn:jfy W L V H L2 V2 H2):FuAt w0 (W'.setRow g (Bk.cells s2 L2 V2 H2)) p m R Ls g s2 L2 V2 H2:=by
 have gn:¬jfi L2 V2 H2 g:=fun hx=>by
  rcases jhy hn hx with h1|h1
  ·exact h.gn h1
  ·have:=h.bk.lt;omega
 have hA:=((h.more hb).grown (jdc W' g (Bk.cells s2 L2 V2 H2)) (.inl (.inl rfl)) h.ng).less (F:=fun i=>i=g∨jfi L2 V2 H2 i) fun i hi=>by
  rcases hi with hi|hi
  ·exact .inl (.inl hi)
  ·rcases jhy hn hi with h1|h1
   ·exact .inl (.inr h1)
   ·exact .inr ⟨h1,row_lt hr hi⟩
 exact⟨(h.bk.on hb).setRow _ _ _ _,jqz hr (jdc W' g _) gn,hA,h.ng,gn⟩
end
end Go.Proofs.YtabandbigckfkaaGreatDoor
namespace Go.Proofs.YtabandbigckfkaaGreatDoor
open Go.RowKit
def sv1:Rc.R:=⟨1,1,0,0,9,⟨#[]⟩,Spc.zero⟩
def sv2:Rc.R:=⟨2,1,0,1,0,⟨#[120]⟩,Spc.zero⟩
theorem job:Rc.right sv1=true:=by decide
theorem joc:Rc.right sv2=true:=by decide
theorem sv1_chk:Bk.chk (Bk.all 0 []) sv1=0:=by decide
theorem sv2_chk:Bk.chk (Bk.all 0 [sv1]) sv2=0:=by decide
theorem jod:(Rc.bytes sv1).length=6:=by decide+kernel
theorem joe:(Rc.bytes sv2).length=7:=by decide+kernel
theorem sv_com:So.com 0 100 [] sv1=[sv1]∧So.comE 0 100 [] sv1=0:=So.com_fits sv1_chk (by unfold So.Fits;rw[jod];decide)
theorem sv_tor:So.tor 0 100 [sv1] sv2 0=[sv1]∧So.torE 0 100 [sv1] sv2=13:=by
 have h:=So.tor_fits (m:=0) (R:=100) (L:=[sv1]) (r:=sv2) 0 sv2_chk (by unfold So.Fits So.ens;rw[joe];show(Fr.all [Rc.bytes sv1]).length+(7+6)≤100;rw[Fr.all_one,Fr.fr_length,jod];decide);rw[if_neg (show¬So.Kept sv2 0 by unfold So.Kept;rw[joe];decide)]at h;exact h
theorem sv_ep:(Bk.all 0 [sv1]).ep=1:=by decide
theorem sv_till:(Bk.all 0 [sv1]).till=9:=by decide
open Go.Deep Go.Maps
theorem So.torn_is{m:Int}{R:Nat}{L:List Rc.R}{rc:Rc.R}(ht:So.Took m L)(h0:Bk.chk (Bk.all m L) rc=0)(keep:Int):
  Jn.torn (So.disk R L) (Rc.bytes rc) keep=So.disk R (So.tor m R L rc keep)∧Jn.tornE (So.disk R L) (Rc.bytes rc)=So.torE m R L rc∧So.Took m (So.tor m R L rc keep)∧(So.tor m R L rc keep).length≤L.length+1:=by
 have hr:=Bk.chk_right h0;by_cases hf:So.Fits R L rc
 ·have h1:=So.disk_torn (So.took_right ht) hr hf keep
  have h2:=So.tor_fits keep h0 hf;rw[h1.1,h1.2,h2.1,h2.2];by_cases hk:So.Kept rc keep
  ·rw[if_pos hk,if_pos hk];exact⟨rfl,rfl,So.took_snoc ht h0,by rw[List.length_append];exact Nat.le_refl _⟩
  ·rw[if_neg hk,if_neg hk];exact⟨rfl,rfl,ht,by omega⟩
 ·have h1:=So.disk_torn_full hr hf keep
  have h2:=So.tor_full keep h0 hf;rw[h1.1,h1.2,h2.1,h2.2];exact⟨rfl,rfl,ht,by omega⟩
theorem jk4{w0 W:World}{G:Nat→Prop}{p R:Nat}{m:Int}{L:List Rc.R}(h:SA w0 G p m R L W)(ht:BT w0){rc:Rc.R}(hr:Rc.In rc)(keep:Int)(hn:L.length+1≤1000):
  Calls Tryz.prog 17 #[.pointer (some ⟨p,0,none⟩),.agg (Rc.cells rc),.int .i64 keep] W (SRes w0 G p m R (So.tor m R L rc keep) (.int .i64 (So.torE m R L rc)) W):=by
 have HN:=zh hn;clear hn;obtain⟨L2,hL2⟩:∃L2,L2=So.tor m R L rc keep:=⟨_,rfl⟩;obtain⟨E2,hE2⟩:∃E2,E2=So.torE m R L rc:=⟨_,rfl⟩;rw[←hL2,←hE2];have HC:=zh (And.intro hL2 hE2);clear hL2 hE2;have HR:=zh hr;have HT:=zh ht;have TK:=zh h.took;have HRT:=zh h.right;obtain⟨g,hg⟩:∃g,g=W.heap.size:=⟨_,rfl⟩;have h1:=h.rec rc;rw[←hg]at h1;have O1:Hid (∀i,G i→(W.alloc (.cells (Rc.cells rc) 45)).heap[i]? =W.heap[i]?):=by
  obtain⟨_,r,q,b,X,h2,_⟩:=h;exact fun i hi=>((Below.refl W.heap.size W).alloc (Nat.le_refl _) _).block i (h2.g i hi)
 have RA:Hid (RcAt (W.alloc (.cells (Rc.cells rc) 45)) g rc):=by rw[hg];exact RcAt.new W rc
 clear h hr ht;obtain⟨W1,hW1⟩:∃W1,W1=W.alloc (.cells (Rc.cells rc) 45):=⟨_,rfl⟩;rw[←hW1]at h1 O1 RA;obtain⟨_,r,q,b,X,hj,hk⟩:=h1;have J1:=zh hj;have K1:=zh hk;have CF:=zh (jht hj hk (HT.out.on0 hj.below) rc HR.out);have EQ:Hid (Bk.chk (Bk.all m L) rc=0→Rc.right rc=true):=fun h0=>Bk.chk_right h0;clear hj hk;obtain⟨s,hs⟩:∃s,s=Bk.all m L:=⟨_,rfl⟩;rw[←hs]at CF K1 EQ;have HS:=zh hs;clear hs;go_enter_defers Tryz.func17,Tryz.ntmps17;go_upto_region 1 with fail
 rw[←hW1];rw[←hg];clear hW1 hg;obtain⟨ans,hans⟩:∃ans,ans=Bk.chk s rc:=⟨_,rfl⟩;rw[←hans]at CF EQ;have AN:=zh hans;clear hans;by_cases h0:ans=0
 ·have HZ:Hid (Bk.chk s rc=0):=AN.out.symm.trans h0
  have RT:=zh (EQ.out h0);have TI:=zh (So.torn_is (R:=R) TK.out (by rw[←HS.out];exact HZ.out) keep);rw[←HC.out.1,←HC.out.2]at TI;subst h0;go_upto_region 4 with(first
   |((with_reducible show zL 11);refine zR (.tmp 4) RA.out ?_)
   |(go_at_call 50;(with_reducible refine CF.out.mono ?_);rintro e w2 ⟨A,n,c,rfl,hs,hb⟩;have J2:=zh (J1.out.on hb);have K2:=zh (jc8 K1.out hb);have R2:=zh (RA.out.on hb);have O2:=zh (fun i (hi:G i)=>(hb.block i (J1.out.g i (.inl hi))).trans (O1.out i hi));have S2:=zh hs;clear hb hs CF J1 K1 O1 RA))
  have S3:=zh (S2.out (by trivial));clear S2;have CA:=zh (jTorn_x (keep:=keep) J2.out.jrn J2.out.fresh S3.out (by rw[S3.out.len];have:=Rc.bytes_len RT.out;omega));rw[TI.out.1,TI.out.2.1]at CA;have lq2:=J2.out.lt;have c12:=J2.out.cells.2.2.1;go_wp2_with(go_at_call 52;(with_reducible refine CA.out.mono ?_);rintro e w3 ⟨rfl,hj,hk⟩;have J3:=zh (J2.out.turn hj hk);have O3:=zh (fun i (hi:G i)=>(J2.out.others hk i (.inl hi)).trans (O2.out i hi));clear hj hk CA lq2 c12);have J4:=J3.out;unfold So.disk at J4;rw[←So.ens_len L2]at J4;have RL:=So.took_right TI.out.2.2.1;have CL:=jfh J4 HT.out (So.ens_ok RL) (by rw[So.ens_len];have:=TI.out.2.2.2;have:=HN.out;omega);unfold LdPost at CL;rw[So.recs_ens RL,So.pre_all TI.out.2.2.1]at CL;refine jf6 (by simp[go_sem]) CL ?_;rintro e w9 ⟨rfl,hs9,ho9⟩;exact⟨_,rfl,_,results_tmp rfl _ _ _,rfl,hs9.less (fun i hi=> .inl hi),fun i hi=>(ho9 i (.inl hi)).trans (O3.out i hi)⟩
 ·have h1:(ans !=0)=true:=by simpa using h0
  go_wp2_with(first
   |((with_reducible show zL 11);refine zR (.tmp 4) RA.out ?_)
   |(go_at_call 50;(with_reducible refine CF.out.mono ?_);rintro e w2 ⟨A,n,c,rfl,hs,hb⟩;have J2:=zh (J1.out.on hb);have K2:=zh (jc8 K1.out hb);have R2:=zh (RA.out.on hb);have O2:=zh (fun i (hi:G i)=>(hb.block i (J1.out.g i (.inl hi))).trans (O1.out i hi));have S2:=zh hs;clear hb hs CF J1 K1 O1 RA))
  have C:=So.tor_no (R:=R) (L:=L) (m:=m) (r:=rc) keep (by rw[←HS.out,←AN.out];exact h0);rw[←HC.out.1,←HC.out.2,←HS.out,←AN.out]at C;have K4:=K2.out;rw[HS.out]at K4;refine⟨_,results_tmp rfl _ _ _,by rw[C.2];rfl,?_,O2.out⟩;rw[C.1];exact SA.less (F:=G) ⟨TK.out,r,q,b,_,J2.out,K4⟩ (fun i hi=> .inl hi)
theorem So.opened_is{d:Dk.St}(hb:Jn.Byt d):Jn.opened d=Jn.Js d.room (Jn.ents d).length (Jn.ents d):=by
 obtain⟨h1,h2,h3,_,_⟩:=Jn.opened_l d hb;unfold Jn.Js;rw[List.take_length,←h1];rw[←h1]at h2;generalize Jn.opened d=x at*
 cases x
 simp only at h2 h3;subst h2 h3;rfl
noncomputable def So.of(m:Int)(bs:List Nat):List Rc.R:=So.pre (Bk.new m) (So.recs (Fr.scan bs).1)
def noG:Nat→Prop:=fun _=>False
theorem stopen_full(W:World){A:Option Addr}{n c:Nat}{bs:List Nat}(hs:Sl W A n c bs)(room margin:Int)(ht:BT W)(hf:¬bs.length≤Dk.fits room):Calls Tryz.prog 20 #[.slice A n c,.int .i64 room,.int .i64 margin] W (fun e w'=>e= .returned (.tuple #[.pointer none,.int .i64 0,.int .i64 4])∧Below W.heap.size W w'):=by
 have S0:=zh hs;have HT:=zh ht;have HB:=zh hs.rd.1;have CN:=zh (jlx W room (Below.refl _ _));clear hs ht;have e1:Dk.swap (Dk.new room) bs=Dk.new room∧Dk.swapE (Dk.new room) bs=4:=by
  unfold Dk.swap Dk.swapE;rw[if_neg (show¬bs.length≤(Dk.new room).room from hf),if_neg (show¬bs.length≤(Dk.new room).room from hf)];exact⟨rfl,rfl⟩
 have E1:=zh e1;clear e1 hf;go_enter Tryz.func20,Tryz.ntmps20;go_upto_region 2 with(go_at_call 56;(with_reducible refine CN.out.mono ?_);rintro e w1 ⟨r,rfl,hr,hd1,hb1,_⟩;have D1:=zh hd1;have B1:=zh hb1;clear hr hd1 hb1 CN)
 have CS:=zh (jjd w1 B1.out D1.out (S0.out.on B1.out));rw[E1.out.2]at CS;go_wp2_with(go_at_call 57;(with_reducible refine CS.out.mono ?_);rintro e w2 ⟨rfl,_,hb2⟩;have B2:=zh hb2;clear hb2 CS);go_ret3;exact⟨rfl,B2.out⟩
theorem ji6(W:World){A:Option Addr}{n c:Nat}{bs:List Nat}(hs:Sl W A n c bs)(room margin:Int)(ht:BT W)(hf:bs.length≤Dk.fits room)(hn:(Fr.scan bs).1.length≤1000):Calls Tryz.prog 20 #[.slice A n c,.int .i64 room,.int .i64 margin] W (fun e w'=>∃p,e= .returned (.tuple #[.pointer (some ⟨p,0,none⟩),.int .i64 (((Fr.scan bs).1.length:Int) -((So.of margin bs).length:Nat)),.int .i64 0])∧SA W noG p margin (Dk.fits room) (So.of margin bs) w'):=by
 unfold So.of;have S0:=zh hs;have HT:=zh ht;have HB:=zh hs.rd.1;have CN:=zh (jlx W room (Below.refl _ _));clear hs ht;have e1:Dk.swap (Dk.new room) bs=⟨Dk.fits room,bs.length,bs⟩∧Dk.swapE (Dk.new room) bs=0:=by
  unfold Dk.swap Dk.swapE;rw[if_pos (show bs.length≤(Dk.new room).room from hf),if_pos (show bs.length≤(Dk.new room).room from hf)];exact⟨rfl,rfl⟩
 have E1:=zh e1;have HN:=zh hn;have OD:=zh (So.opened_is (d:=⟨Dk.fits room,bs.length,bs⟩) HB.out);have SG:=zh (Jn.scan_gives bs HB.out);clear e1 hf hn;obtain⟨ps,hps⟩:∃ps,ps=(Fr.scan bs).1:=⟨_,rfl⟩;rw[←hps]at HN SG⊢;have e2:Jn.ents ⟨Dk.fits room,bs.length,bs⟩=ps:=hps.symm;rw[e2]at OD;clear e2 hps;go_enter Tryz.func20,Tryz.ntmps20;go_upto_region 2 with(go_at_call 56;(with_reducible refine CN.out.mono ?_);rintro e w1 ⟨r,rfl,hr,hd1,hb1,_⟩;have D1:=zh hd1;have B1:=zh hb1;clear hr hd1 hb1 CN)
 have CS:=zh (jjd w1 B1.out D1.out (S0.out.on B1.out));rw[E1.out.1,E1.out.2]at CS;go_upto_region 5 with(go_at_call 57;(with_reducible refine CS.out.mono ?_);rintro e w2 ⟨rfl,hd2,hb2⟩;have D2:=zh hd2;have B2:=zh hb2;clear hd2 hb2 CS)
 have CO:=zh (jOpen_x w2 (X:=fun i=>W.heap.size≤i) (D2.out.toX fun i hi _=>hi) (fun i hi=>Nat.le_trans B2.out.size hi) HB.out);rw[OD.out]at CO;obtain⟨cl,hcl⟩:∃cl:Int,cl=((((⟨Dk.fits room,bs.length,bs⟩:Dk.St).l.length:Nat):Int) -(Jn.cutN ⟨Dk.fits room,bs.length,bs⟩:Nat)):=⟨_,rfl⟩;rw[←hcl]at CO;clear hcl;obtain⟨q,hq⟩:∃q,q=w2.heap.size:=⟨_,rfl⟩;rw[←hq]at CO;clear hq;clear OD;go_upto_region 7 with(go_at_call 58;(with_reducible refine CO.out.mono ?_);rintro e w3 ⟨rfl,hj3,hk3⟩;have J3:=zh hj3;have B3:=zh (B2.out.trans (hk3.below B2.out.size fun i hi=>hi));have Z3:=zh hk3.size;clear hj3 hk3 CO)
 have hb4:Below w3.heap.size w3 (w3.alloc (.cells #[.pointer (some ⟨r,0,none⟩),.pointer (some ⟨q,0,none⟩),.pointer none,.int .i64 margin] 104)):=(Below.refl _ _).alloc (Nat.le_refl _) _;have J4:Hid (StJ W noG w3.heap.size margin (Jn.Js (Dk.fits room) ps.length ps) (.pointer none) r q (fun i=>W.heap.size≤i∧i<w3.heap.size) (w3.alloc (.cells #[.pointer (some ⟨r,0,none⟩),.pointer (some ⟨q,0,none⟩),.pointer none,.int .i64 margin] 104))):=
  ⟨heap_alloc_new w3 _,(J3.out.more fun i hi hl=>⟨hi,hl⟩).below hb4,fun i hi=>⟨hi.1,Nat.lt_of_lt_of_le hi.2 hb4.size,Nat.ne_of_lt hi.2,fun hf=>hf⟩,⟨fun hf=>hf,B3.out.size⟩,fun i hi=>hi.elim,B3.out.trans (hb4.mono B3.out.size)⟩
 have CL:=zh (jfh J4.out HT.out SG.out.1 HN.out).1;clear hb4 J3 D2 D1;obtain⟨p,hp⟩:∃p,p=w3.heap.size:=⟨_,rfl⟩;rw[←hp]at CL⊢;clear hp J4;generalize w3.alloc (.cells #[.pointer (some ⟨r,0,none⟩),.pointer (some ⟨q,0,none⟩),.pointer none,.int .i64 margin] 104)=w4 at*;go_wp2_with(go_at_call 51;(with_reducible refine CL.out.mono ?_);rintro e w5 ⟨rfl,hs5,_⟩;have A5:=zh hs5;clear hs5 CL);go_ret3;exact⟨p,rfl,A5.out⟩
theorem jof(W:World)(room margin:Int)(ht:BT W):Calls Tryz.prog 12 #[.int .i64 room,.int .i64 margin] W (fun e w'=>∃p,e= .returned (.pointer (some ⟨p,0,none⟩))∧SA W noG p margin (Dk.fits room) [] w'):=by
 have C:=zh (ji6 W (Sl.none_ W) room margin ht (Nat.zero_le _) (by rw[Fr.scan_nil];exact Nat.zero_le _));have e:So.of margin []=[]:=by unfold So.of;rw[Fr.scan_nil];rfl
 rw[e,Fr.scan_nil]at C;clear ht e;go_enter Tryz.func12,Tryz.ntmps12;go_wp2_with(go_at_call 20;(with_reducible refine C.out.mono ?_);rintro e w1 ⟨p,rfl,hs⟩;have A1:=zh hs;clear hs);go_ret;exact⟨p,rfl,A1.out⟩
theorem jog{w0 W:World}{G:Nat→Prop}{p R:Nat}{m:Int}{L:List Rc.R}(h:SA w0 G p m R L W):Calls Tryz.prog 35 #[.pointer (some ⟨p,0,none⟩)] W (jdd W (.int .i64 (L.length:Nat))):=by
 have HR:=h.right;obtain⟨_,r,q,b,X,h1,_⟩:=h;have lq:=h1.lt;have cc:=h1.cells.2.2.1;have C:=zh (jpm h1.jr.ask);have e0:(Fr.scan (So.disk R L).l).1=So.ens L:=Jn.js_ents (So.ens_ok HR);rw[e0,So.ens_len]at C;clear h1 HR;go_enter Tryz.func35,Tryz.ntmps35;go_wp2_with(go_at_call 78;(with_reducible refine C.out.mono ?_);rintro e w1 ⟨rfl,hb⟩);go_ret;exact⟨rfl,hb⟩
theorem stroom_any{w0 W:World}{G:Nat→Prop}{p R:Nat}{m:Int}{L:List Rc.R}(h:SA w0 G p m R L W):Calls Tryz.prog 36 #[.pointer (some ⟨p,0,none⟩)] W (jdd W (.int .i64 ((R -(Fr.all (So.ens L)).length:Nat)))):=by
 have HR:=h.right;obtain⟨_,r,q,b,X,h1,_⟩:=h;have lq:=h1.lt;have cc:=h1.cells.2.2.1;have C:=zh (jlz h1.jr.ask);clear h1 HR;go_enter Tryz.func36,Tryz.ntmps36;go_wp2_with(go_at_call 79;(with_reducible refine C.out.mono ?_);rintro e w1 ⟨rfl,hb⟩);go_ret;exact⟨rfl,hb⟩
theorem stbytes_any{w0 W:World}{G:Nat→Prop}{p R:Nat}{m:Int}{L:List Rc.R}(h:SA w0 G p m R L W):Calls Tryz.prog 21 #[.pointer (some ⟨p,0,none⟩)] W (jei (Fr.all (So.ens L)) W):=by
 have HR:=h.right;obtain⟨_,r,q,b,X,h1,_⟩:=h;have lq:=h1.lt;have cc:=h1.cells.2.1;have C:=zh (jjf W h1.jr.dsk);clear h1 HR;go_enter Tryz.func21,Tryz.ntmps21;go_wp2_with(go_at_call 59;(with_reducible refine C.out.mono ?_);rintro e w1 ⟨A,c,rfl,ho,hb⟩);go_ret;exact⟨A,c,rfl,ho,hb⟩
theorem jgr{w0 W:World}{G:Nat→Prop}{p R:Nat}{m:Int}{L:List Rc.R}(h:SA w0 G p m R L W)(hn:L.length≤1000):Calls Tryz.prog 30 #[.pointer (some ⟨p,0,none⟩)] W (jmm Bk.rcC L W):=by
 have HRT:=zh h.right;have HN:=zh hn;obtain⟨_,r,q,b,X,h1,_⟩:=h;have lq:=h1.lt;have c1:=h1.cells.2.2.1;have CA:=zh (jjg h1.jr.ask);have e0:(Fr.scan (So.disk R L).l).1=So.ens L:=Jn.js_ents (So.ens_ok HRT.out);rw[e0]at CA;unfold JAllF at CA;unfold jmm;rw[So.ens_len]at CA;clear h1 e0 hn;obtain⟨own,hown⟩:∃own:Value,own= .slice none 0 0:=⟨_,rfl⟩;obtain⟨n,hnn⟩:∃n,n=L.length:=⟨_,rfl⟩;have NL:=zh hnn;rw[←hnn]at CA HN⊢;clear hnn;have OWN:=zh hown;go_enter Tryz.func30,Tryz.ntmps30;go_upto_region 5 with(go_at_call 70;(with_reducible refine CA.out.mono ?_);rintro e w3 ⟨A3,c3,rfl,ho3,hb3⟩;have OF3:=zh ho3;have B3:=zh hb3;clear ho3 hb3)
 clear lq c1 CA;have S3:=zh (jc6 (by rw[So.ens_len];exact NL.out) OF3.out);have Z3:=zh B3.out.size;have hcap:=S3.out.cap;have hmax:=S3.out.max;unfold maxLen at hmax;have hn2:(n:Int)≤1000:=by have:=HN.out;omega
 rw[←OWN.out];clear hown;go_loopw [3,16] (fun v i wr=>∃j:Nat,j≤n∧i= .int .i64 j∧OwF Bk.rcC 18 45 wr w3.heap.size v (L.take j)∧Below w3.heap.size w3 wr) (fun _ i _=>n -(intOf i).toNat)
 case atStart=>exact⟨0,Nat.zero_le _,rfl,by rw[OWN.out];exact OwF.none_ _ _ _,Below.refl _ _⟩
 case round=>
  obtain⟨j,hj,rfl,ho4,hb4⟩:=hrel;have O4:=zh ho4;have B4:=zh hb4;have S4:=zh (S3.out.on hb4);clear ho4 hb4;have i1:(0:Int)≤(j:Int):=by omega
  by_cases hlt:j<n
  ·have HLT:Hid (j<L.length):=by show _<_;have:=NL.out;omega
   obtain⟨b3,o3,hA3,hb3,hc3⟩:=S4.out.rd (by rw[So.ens_len];have:=HLT.out;omega);obtain⟨A4,n4,c4,hcell,hs4⟩:=hc3 j (by rw[So.ens_len];exact HLT.out);have hx:(So.ens L).getD j []=Rc.bytes (L[j]'HLT.out):=by rw[List.getD_eq_getElem?_getD,List.getElem?_eq_getElem (by rw[So.ens_len];exact HLT.out)];unfold So.ens;rw[List.getElem_map];rfl
   have TK:L.take (j+1)=L.take j++[L[j]'HLT.out]:=List.take_succ_eq_append_getElem HLT.out;have RT:=zh (HRT.out _ (List.getElem_mem HLT.out));rw[hx]at hs4;generalize L[j]'HLT.out=rc at*;have hn4:n4≤1000:=by have:=hs4.len;have:=Rc.bytes_len RT.out;omega
   have CR:=zh (jhw wr A4 n4 c4 _ hs4 hn4);rw[(Rc.rd_back RT.out).1,(Rc.rd_back RT.out).2]at CR;have TK:=zh TK;clear hx hc3 hs4 hn4;subst hA3;have q1:((j:Nat):Int)<(n:Nat):=by omega
   go_upto_region 8 with(first
   |(go_at_call 71;(with_reducible refine CR.out.mono ?_);rintro e w4 ⟨rfl,hb5⟩;have O5:=zh (O4.out.below hb5);have B5:=zh (B4.out.trans (hb5.mono B4.out.size));clear hb5 CR)
   |((with_reducible show zW);refine jaa rfl (.tmp 6) (.tmp 23) rfl w4.heap.size rc Rc.none_ rfl rfl ⟨heap_alloc_new w4 _⟩ ?_))
   rw[World.setRow_alloc_new];have hb6:Below w4.heap.size w4 (w4.alloc (.cells (Rc.cells rc) 45)):=(Below.refl _ _).alloc (Nat.le_refl _) _;have RA:=zh (RcAt.new w4 rc);have O6:=zh (O5.out.below hb6);have B6:=zh (B5.out.trans (hb6.mono B5.out.size));clear hb6 O5 B5;obtain⟨g,hg⟩:∃g,g=w4.heap.size:=⟨_,rfl⟩;rw[←hg]at RA⊢;clear hg;generalize w4.alloc (.cells (Rc.cells rc) 45)=w6 at*;clear hcell hb3
   go_wp2_with(first
   |((with_reducible show zL 26);refine zR (.tmp 6) RA.out ?_)
   |((with_reducible show zB 27);refine jck Tryz.underlying28 jbv (by omega) (by omega) rfl (.tmp 26) rfl (Rc.cells rc) rfl rfl ?_)
   |(at_builtin;refine jaj Bk.rcC_len Bk.rcC_one Tryz.underlying28 jbv rfl (by omega) rfl (.tmp 25) (.tmp 27) rfl w3.heap.size _ _ rfl O6.out rc rfl (by have:=HN.out;have:=HLT.out;have:=NL.out;rw[List.length_take];unfold maxLen;omega) (by have:=HN.out;have:=HLT.out;have:=NL.out;rw[List.length_take];omega) B6.out.size ?_;intro v9 w9 ho9 hb9 hg9 hv9;have O9:=zh ho9;have B9:=zh (B6.out.trans hb9);clear ho9 hb9 hg9 hv9))
   exact⟨⟨j+1,by omega,by go_num,by rw[TK.out];exact O9.out,B9.out⟩,by simp[intOf];omega⟩
  ·have q1:((n:Nat):Int)≤(j:Nat):=by omega
   have e:L.take j=L:=List.take_of_length_le (by have:=NL.out;omega);rw[e]at O4;obtain⟨A9,c9,rfl⟩:=O4.out.form;clear e;go_wp2_with fail;go_ret;have hn9:=NL.out;subst hn9;exact⟨A9,c9,rfl,O4.out.sl,B3.out.trans (B4.out.mono Z3.out),fun bb oo e=>Nat.le_trans Z3.out (O4.out.lt bb (by rw[e];rfl)).1⟩
theorem jk5{w0 W:World}{G:Nat→Prop}{p R:Nat}{m:Int}{L:List Rc.R}(h:SA w0 G p m R L W)(ht:BT w0)(hn:L.length≤1000):Calls Tryz.prog 27 #[.pointer (some ⟨p,0,none⟩)] W (fun e w'=>∃q',e= .returned (.pointer (some ⟨q',0,none⟩))∧BP W (fun _=>False) q' (Bk.all m L) w'):=by
 have CR:=zh (jgr (h.on (Below.refl W.heap.size W).drew) hn);have HN:=zh hn;have HT:=zh ht;have HIN:Hid (∀r∈L,Rc.In r):=fun r hr=>Rc.ok_in (Rc.ok_of (h.right r hr));obtain⟨_,r,q,b,X,h1,_⟩:=h;have J0:=zh h1;clear h1 hn ht;go_enter Tryz.func27,Tryz.ntmps27;go_upto_region 3 with fail
 refine wp_region_held_drew (S:=fun V=>StJ w0 G p m (So.disk R L) (.pointer (some ⟨b,0,none⟩)) r q X V) (by kernel_rfl) (J0.out.on (Below.refl _ _).drew) (fun hS=> ?_);refine tY 0 hS ?_;refine tY 1 hS ?_;refine tY 2 hS ?_;refine tZ 3 rfl (by intro W hW;have lq:=hW.lt;have c3:=hW.cells.2.2.2.2;go_simp;(try with_reducible rfl)) hS ?_;refine tY 4 hS ?_;simp only[Act.put,zT,zO,zS];refine rO 5 (fun K hK=> ?_);go_simp
 with_reducible refine CR.out.mono ?_
 rintro e w4 ⟨A4,c4,rfl,hs4,hb,_⟩;have S4:=zh hs4;have B4:=zh hb;have CA:=zh (jqm m A4 L.length c4 L HIN.out w4 hs4 (by have:=HN.out;omega) (HT.out.on0 (hS.on hb).below));clear hs4;replace hS:=hS.on hb;clear hb;refine hK.out _ _ hS (fun _=> ?_);clear hK K;try simp only[Act.put,zT,zO,zS]
 refine rO 6 (fun K hK=> ?_);go_simp
 with_reducible refine CA.out.mono ?_
 intro e w5 hp;obtain⟨q5,rfl,hb5⟩:=bp_made hp;have K5:=zh hb5;have hb:=jbr hb5;have B5:=zh (B4.out.trans (hb.mono B4.out.size));clear hb5 hp;replace hS:=hS.on hb;clear hb;refine hK.out _ _ hS (fun _=> ?_);clear hK K;refine tY 7 hS ?_;refine tY 8 hS ?_;refine tY 9 hS ?_;refine tY 10 hS ?_;refine tY 11 hS ?_;simp only[Act.put,zT,zO,zS];refine wpAnyH_done (by kernel_rfl) ?_ _;clear hS;go_wp2_with fail;go_ret;exact⟨q5,rfl,jny K5.out ((Below.refl W.heap.size W).drew.trans B4.out) (fun i hi=>hi.elim)⟩
theorem sv1_in:Rc.In sv1:=Rc.ok_in (Rc.ok_of job)
theorem sv2_in:Rc.In sv2:=Rc.ok_in (Rc.ok_of joc)
theorem slives_any(W:World)(ht:BT W):Calls Tryz.prog 11 #[] W (BRet (.bool true) W):=by
 have T0:=zh ht;have CN:=zh (jof W 100 0 ht);have CC:=zh (fun p w (h:SA W noG p 0 (Dk.fits 100) [] w)=>jhx h ht sv1_in);have CT:=zh (fun p w (h:SA W noG p 0 (Dk.fits 100) [sv1] w)=>jk4 h ht sv2_in 0 (by decide));have e100:Dk.fits 100=100:=rfl;rw[e100]at CN CC CT;rw[sv_com.1,sv_com.2]at CC;rw[sv_tor.1,sv_tor.2]at CT;have CL:=zh (fun p w (h:SA W noG p 0 100 [sv1] w)=>jog h);have CB:=zh (fun p w (h:SA W noG p 0 100 [sv1] w)=>jk5 h ht (by decide));have hv0:∀w,(Instr.field 93 (.agg (Bk.viewC (Bk.all 0 [sv1]))) 0).run Tryz.prog w= .ok (.int .i64 1) w:=fun w=>by rw[vf0,sv_ep]
 have hv2:∀w,(Instr.field 93 (.agg (Bk.viewC (Bk.all 0 [sv1]))) 2).run Tryz.prog w= .ok (.int .i64 9) w:=fun w=>by rw[vf2,sv_till]
 clear ht e100;generalize Bk.all 0 [sv1]=s at*;go_enter Tryz.func11,Tryz.ntmps11;go_upto_region 4 with(first
  |(go_at_call 12;(with_reducible refine CN.out.mono ?_);rintro e w1 ⟨p,rfl,hs⟩;have A0:=zh hs;clear hs)
  |((with_reducible show wpList _ _ _ ({dst:=some 6,op:= .build _ _,type:=_,pos:=_,after:=_,guard:=_}::_) _ _);refine jeg rfl 45 _ rfl (Rc.cells sv1) (by kernel_rfl) ?_)
  |((with_reducible show wpList _ _ _ ({dst:=some 9,op:= .build _ _,type:=_,pos:=_,after:=_,guard:=_}::_) _ _);refine jeg rfl 45 _ rfl (Rc.cells sv2) (by kernel_rfl) ?_)
  |(go_at_call 23;(with_reducible refine(CC.out _ _ A0.out).mono ?_);rintro e w2 ⟨rfl,hs,_⟩;have A1:=zh hs;clear hs A0)
  |(go_at_call 17;(with_reducible refine(CT.out _ _ A1.out).mono ?_);rintro e w3 ⟨rfl,hs,_⟩;have A2:=zh hs;clear hs A1))
 clear CN CC CT
 go_wp2_with(first
  |(go_at_call 35;(with_reducible refine(CL.out _ _ A2.out).mono ?_);rintro e w4 ⟨rfl,hb⟩;have A2:=zh (A2.out.on hb);clear hb)
  |(go_at_call 27;(with_reducible refine(CB.out _ _ A2.out).mono ?_);rintro e w5 ⟨q,rfl,hk⟩;have A2:=zh (A2.out.on (jbr hk));have K:=zh hk;clear hk)
  |(go_at_call 45;(with_reducible refine(bp_view K.out).mono ?_);rintro e w6 ⟨rfl,hb⟩;have A2:=zh (A2.out.on hb);clear hb K))
 go_ret;exact⟨rfl,A2.out.below⟩
end Go.Proofs.YtabandbigckfkaaGreatDoor
namespace Go.Proofs.YtabandbigckfkaaGreatDoor
open Go
variable{H:Type}{enc:TypeId×Value→H}
theorem ji7{a:Assume}{C:Checked}{os:Os}{f:FuncId}{fn:Func}{s:ChangeSpec}{conds:List PathCond}{apart fresh handsOn again:Bool}{X:World→Array Value→Prop}
  (hX:∀(w w':World) (args:Array Value),w.heap=w'.heap→X w args→X w' args)
  (own:ownKnob C.prog.godebug=none) (started:os.Started) (noInit:C.prog.inits.idxOf? f=none) (hfn:C.prog.funcs[f]? =some fn)
  (witness:∃(w:World) (tape:Tape) (i:Input),w.os=os∧(w.forCall tape i).Shaped C.prog∧i.vars=[]∧Input.okWide C.prog (w.forCall tape i) .any w.heap.size f i∧
   ((s.pre enc C.prog fn conds apart (w.forCall tape i).memory i.args∧X (w.forCall tape i).memory i.args)∧sizedMet enc C.prog fn (OpenSpec.ofChange s) apart (w.forCall tape i).memory i.args)∧a.holds C.prog (lone (Frame.enter C.prog f i.args .normal) [] (w.forCall tape i)))
  (contract:∀(W:World) (base:Nat) (args:Array Value) (ds gs:List (DataW H)) (before:List MemPlace),
   (∀(j:Nat) t v,fn.params[j]? =some t→args[j]? =some v→Value.okWide C.prog W .any base t v)→
   DataW.Whole enc C.prog fn.params.toList s.vars apart W args.toList ds gs before→
   X W args→W.ShapedOpen C.prog→
   Calls C.prog f args W fun e W'=>∃v,e= .returned v∧s.post enc C.prog fn apart fresh handsOn again W args v W'):
  ReturnsInHanded a C os f .any (fun w args=>(s.pre enc C.prog fn conds apart w args∧X w args)∧sizedMet enc C.prog fn (OpenSpec.ofChange s) apart w args) (s.post enc C.prog fn apart fresh handsOn again):=by
 refine returnsInHanded_of_calls own started noInit witness ?_;intro w tape i _ hsh _ hok hpre _;obtain⟨_,_,_,fn',hfn',_,_,_,_,hval⟩:=hok;have e:fn'=fn:=Option.some.inj (hfn'.symm.trans hfn);subst e;obtain⟨⟨⟨ds,gs,before,hw,_⟩,hx⟩,_⟩:=hpre;have hw':=DataW.Whole.of_heap (w':=w.forCall tape i) (by rfl) hw;refine(contract (w.forCall tape i) w.heap.size i.args ds gs before hval hw' (hX _ _ _ (by rfl) hx) hsh).mono fun e W' ⟨v,he,hp⟩=> ?_;subst he;exact ChangeSpec.post_blind hp
open Go.RowKit
theorem jf8:leaf3 (Rows.laid_pacesetter_phase_leads:DataW Unit)=jmy:=by kernel_rfl
theorem jf9:jmv (Rows.laid_pacesetter_phase_words:DataW Unit)=jmz:=by kernel_rfl
theorem jju:Rows.laid_internal_strconv_uint64pow10=(Lib.tabData .u64 Lib.pow10Tab:DataW Unit):=by kernel_rfl
theorem tb_of{W:World}(hL:laidMetH Tryz.prog Rows.storeFullRow.laid W)(_:W.ShapedOpen Tryz.prog):BT W:=by
 rw[MakeChecks.laidMetH_plain _ _ _ (by kernel_rfl)]at hL;refine⟨⟨?_⟩,?_,?_⟩
 ·have h3:=hL.tail.tail
  exact Lib.tabIs_of_head (n:=20) (t:=367) (e:=312) g_pow (by kernel_rfl) (by kernel_rfl) Tryz.underlying312 (by kernel_rfl) (by kernel_rfl) (jju▸h3)
 ·have:=jeo (name:= "pacesetter/phase.leads") (d:=Rows.laid_pacesetter_phase_leads) (L:=leaf3) (t:=295) hL (by simp[Rows.storeFullRow]) jgk (by kernel_rfl)
   (fun _ _ _ _=>jca (fun _=>rfl) (jca (n:=9) (e:=3) (L:=jkm) (fun _=>rfl) (jhi Tryz.underlying3) Tryz.underlying294 (by kernel_rfl)) Tryz.underlying295 (by kernel_rfl))
  rw[jf8]at this;exact this
 ·have:=jeo (name:= "pacesetter/phase.words") (d:=Rows.laid_pacesetter_phase_words) (L:=jmv) (t:=293) hL (by simp[Rows.storeFullRow]) je9 (by kernel_rfl)
   (fun _ _ _ _=>jca (fun _=>rfl) (jhj Tryz.underlying9) Tryz.underlying293 (by kernel_rfl))
  rw[jf9]at this;exact this
theorem tb_ofE{W:World}(hL:laidMetH Tryz.prog Rows.bookAllRow.laid W)(_:W.ShapedOpen Tryz.prog):BT W:=by
 rw[MakeChecks.laidMetH_plain _ _ _ (by kernel_rfl)]at hL;refine⟨⟨?_⟩,?_,?_⟩
 ·have h3:=hL.tail.tail
  exact Lib.tabIs_of_head (n:=20) (t:=367) (e:=312) g_pow (by kernel_rfl) (by kernel_rfl) Tryz.underlying312 (by kernel_rfl) (by kernel_rfl) (jju▸h3)
 ·have:=jeo (name:= "pacesetter/phase.leads") (d:=Rows.laid_pacesetter_phase_leads) (L:=leaf3) (t:=295) hL (by simp[Rows.bookAllRow]) jgk (by kernel_rfl)
   (fun _ _ _ _=>jca (fun _=>rfl) (jca (n:=9) (e:=3) (L:=jkm) (fun _=>rfl) (jhi Tryz.underlying3) Tryz.underlying294 (by kernel_rfl)) Tryz.underlying295 (by kernel_rfl))
  rw[jf8]at this;exact this
 ·have:=jeo (name:= "pacesetter/phase.words") (d:=Rows.laid_pacesetter_phase_words) (L:=jmv) (t:=293) hL (by simp[Rows.bookAllRow]) je9 (by kernel_rfl)
   (fun _ _ _ _=>jca (fun _=>rfl) (jhj Tryz.underlying9) Tryz.underlying293 (by kernel_rfl))
  rw[jf9]at this;exact this
open Go.Deep
theorem jbl{n:Int}(h:(Lit.int .i64 n).wf=true): -9223372036854775808≤n∧n≤9223372036854775807:=by
 simp[Lit.wf,IntKind.min,IntKind.max,IntKind.signed,IntKind.bits]at h;omega
def ERc(_:World)(cs:List Value)(r:Rc.R):Prop:=cs=Bk.rcC r∧Rc.In r
theorem joh{H:Type}{enc:TypeId×Value→H}{w:World}{held:Bool}(f:Nat)(cs:List Value)(y:DataW H×List MemPlace)(h:DataW.trod enc Tryz.prog w 0 (fun _=>true) held f 35 cs=some y)(hl:cs.length=12):∃s:Spc.Sp,cs=[.int .i64 s.v,.int .i64 s.d,.int .i64 s.u,.int .i64 s.n,.int .i64 s.g,.int .i64 s.a,.int .i64 s.b,.int .i64 s.c,.int .i64 s.e,.int .i64 s.w,.int .i64 s.x,.int .i64 s.k]∧Spc.In s:=by
 obtain⟨xs,n,_,_,_,hxl,hf⟩:=DataW.trod_struct Tryz.underlying35 h
 match cs,hl with
 |[a0,a1,a2,a3,a4,a5,a6,a7,a8,a9,a10,a11],_=>
  have hxl3:xs.length=9:=hxl;have k1:Tryz.prog.cellsOf 3=1:=by kernel_rfl
  have k4:Tryz.prog.cellsOf 33=4:=by kernel_rfl
  have h0:DataW.trod enc Tryz.prog w 0 (fun _=>true) held n 3 (([a0,a1,a2,a3,a4,a5,a6,a7,a8,a9,a10,a11].drop 0).take (Tryz.prog.cellsOf 3))=xs[0]? :=hf 0 _ rfl;have h1:DataW.trod enc Tryz.prog w 0 (fun _=>true) held n 3 (([a0,a1,a2,a3,a4,a5,a6,a7,a8,a9,a10,a11].drop 1).take (Tryz.prog.cellsOf 3))=xs[1]? :=hf 1 _ rfl;have h2:DataW.trod enc Tryz.prog w 0 (fun _=>true) held n 3 (([a0,a1,a2,a3,a4,a5,a6,a7,a8,a9,a10,a11].drop 2).take (Tryz.prog.cellsOf 3))=xs[2]? :=hf 2 _ rfl;have h3:DataW.trod enc Tryz.prog w 0 (fun _=>true) held n 3 (([a0,a1,a2,a3,a4,a5,a6,a7,a8,a9,a10,a11].drop 3).take (Tryz.prog.cellsOf 3))=xs[3]? :=hf 3 _ rfl;have h4:DataW.trod enc Tryz.prog w 0 (fun _=>true) held n 3 (([a0,a1,a2,a3,a4,a5,a6,a7,a8,a9,a10,a11].drop 4).take (Tryz.prog.cellsOf 3))=xs[4]? :=hf 4 _ rfl;have h9:DataW.trod enc Tryz.prog w 0 (fun _=>true) held n 3 (([a0,a1,a2,a3,a4,a5,a6,a7,a8,a9,a10,a11].drop 9).take (Tryz.prog.cellsOf 3))=xs[6]? :=hf 6 _ rfl;have h10:DataW.trod enc Tryz.prog w 0 (fun _=>true) held n 3 (([a0,a1,a2,a3,a4,a5,a6,a7,a8,a9,a10,a11].drop 10).take (Tryz.prog.cellsOf 3))=xs[7]? :=hf 7 _ rfl;have h11:DataW.trod enc Tryz.prog w 0 (fun _=>true) held n 3 (([a0,a1,a2,a3,a4,a5,a6,a7,a8,a9,a10,a11].drop 11).take (Tryz.prog.cellsOf 3))=xs[8]? :=hf 8 _ rfl;have hA:DataW.trod enc Tryz.prog w 0 (fun _=>true) held n 33 (([a0,a1,a2,a3,a4,a5,a6,a7,a8,a9,a10,a11].drop 5).take (Tryz.prog.cellsOf 33))=xs[5]? :=hf 5 _ rfl;rw[k1]at h0 h1 h2 h3 h4 h9 h10 h11;rw[k4]at hA;rw[List.getElem?_eq_getElem (by omega)]at h0 h1 h2 h3 h4 h9 h10 h11 hA;obtain⟨ys,m,_,_,hl4,hyl,hi⟩:=DataW.trod_array (cs:=[a5,a6,a7,a8]) Tryz.underlying33 hA;have h5:DataW.trod enc Tryz.prog w 0 (fun _=>true) held m 3 (([a5,a6,a7,a8].drop (0*Tryz.prog.cellsOf 3)).take (Tryz.prog.cellsOf 3))=ys[0]? :=hi 0 (by omega);have h6:DataW.trod enc Tryz.prog w 0 (fun _=>true) held m 3 (([a5,a6,a7,a8].drop (1*Tryz.prog.cellsOf 3)).take (Tryz.prog.cellsOf 3))=ys[1]? :=hi 1 (by omega);have h7:DataW.trod enc Tryz.prog w 0 (fun _=>true) held m 3 (([a5,a6,a7,a8].drop (2*Tryz.prog.cellsOf 3)).take (Tryz.prog.cellsOf 3))=ys[2]? :=hi 2 (by omega);have h8:DataW.trod enc Tryz.prog w 0 (fun _=>true) held m 3 (([a5,a6,a7,a8].drop (3*Tryz.prog.cellsOf 3)).take (Tryz.prog.cellsOf 3))=ys[3]? :=hi 3 (by omega);rw[k1]at h5 h6 h7 h8;rw[List.getElem?_eq_getElem (by omega)]at h5 h6 h7 h8;obtain⟨x0,e0,_,w0⟩:=DataW.trod_int (cs:=[a0]) Tryz.underlying3 h0;obtain⟨x1,e1,_,w1⟩:=DataW.trod_int (cs:=[a1]) Tryz.underlying3 h1;obtain⟨x2,e2,_,w2⟩:=DataW.trod_int (cs:=[a2]) Tryz.underlying3 h2;obtain⟨x3,e3,_,w3⟩:=DataW.trod_int (cs:=[a3]) Tryz.underlying3 h3;obtain⟨x4,e4,_,w4⟩:=DataW.trod_int (cs:=[a4]) Tryz.underlying3 h4;obtain⟨x5,e5,_,w5⟩:=DataW.trod_int (cs:=[a5]) Tryz.underlying3 h5;obtain⟨x6,e6,_,w6⟩:=DataW.trod_int (cs:=[a6]) Tryz.underlying3 h6;obtain⟨x7,e7,_,w7⟩:=DataW.trod_int (cs:=[a7]) Tryz.underlying3 h7;obtain⟨x8,e8,_,w8⟩:=DataW.trod_int (cs:=[a8]) Tryz.underlying3 h8;obtain⟨x9,e9,_,w9⟩:=DataW.trod_int (cs:=[a9]) Tryz.underlying3 h9;obtain⟨x10,e10,_,w10⟩:=DataW.trod_int (cs:=[a10]) Tryz.underlying3 h10;obtain⟨x11,e11,_,w11⟩:=DataW.trod_int (cs:=[a11]) Tryz.underlying3 h11;simp at e0 e1 e2 e3 e4 e5 e6 e7 e8 e9 e10 e11;subst e0 e1 e2 e3 e4 e5 e6 e7 e8 e9 e10 e11;exact⟨⟨x0,x1,x2,x3,x4,x5,x6,x7,x8,x9,x10,x11⟩,rfl,by
   intro n hn;simp only[Spc.flds,List.mem_cons,List.not_mem_nil,or_false]at hn;have v0:=jbl w0;have v1:=jbl w1;have v2:=jbl w2;have v3:=jbl w3;have v4:=jbl w4;have v5:=jbl w5;have v6:=jbl w6;have v7:=jbl w7;have v8:=jbl w8;have v9:=jbl w9;have v10:=jbl w10;have v11:=jbl w11;rcases hn with rfl|rfl|rfl|rfl|rfl|rfl|rfl|rfl|rfl|rfl|rfl|rfl<;>assumption⟩
theorem jq0{H:Type}{enc:TypeId×Value→H}{w:World}{held:Bool}(f:Nat)(cs:List Value)(y:DataW H×List MemPlace)(h:DataW.trod enc Tryz.prog w 0 (fun _=>true) held f 45 cs=some y)(hl:cs.length=18):∃r,ERc w cs r:=by
 obtain⟨xs,n,_,_,_,hxl,hf⟩:=DataW.trod_struct Tryz.underlying45 h
 match cs,hl with
 |[a0,a1,a2,a3,a4,a5,a6,a7,a8,a9,a10,a11,a12,a13,a14,a15,a16,a17],_=>
  have hxl3:xs.length=7:=hxl;have k1:Tryz.prog.cellsOf 3=1:=by kernel_rfl
  have k2:Tryz.prog.cellsOf 9=1:=by kernel_rfl
  have k3:Tryz.prog.cellsOf 35=12:=by kernel_rfl
  have h0:DataW.trod enc Tryz.prog w 0 (fun _=>true) held n 3 (([a0,a1,a2,a3,a4,a5,a6,a7,a8,a9,a10,a11,a12,a13,a14,a15,a16,a17].drop 0).take (Tryz.prog.cellsOf 3))=xs[0]? :=hf 0 _ rfl;have h1:DataW.trod enc Tryz.prog w 0 (fun _=>true) held n 3 (([a0,a1,a2,a3,a4,a5,a6,a7,a8,a9,a10,a11,a12,a13,a14,a15,a16,a17].drop 1).take (Tryz.prog.cellsOf 3))=xs[1]? :=hf 1 _ rfl;have h2:DataW.trod enc Tryz.prog w 0 (fun _=>true) held n 3 (([a0,a1,a2,a3,a4,a5,a6,a7,a8,a9,a10,a11,a12,a13,a14,a15,a16,a17].drop 2).take (Tryz.prog.cellsOf 3))=xs[2]? :=hf 2 _ rfl;have h3:DataW.trod enc Tryz.prog w 0 (fun _=>true) held n 3 (([a0,a1,a2,a3,a4,a5,a6,a7,a8,a9,a10,a11,a12,a13,a14,a15,a16,a17].drop 3).take (Tryz.prog.cellsOf 3))=xs[3]? :=hf 3 _ rfl;have h4:DataW.trod enc Tryz.prog w 0 (fun _=>true) held n 3 (([a0,a1,a2,a3,a4,a5,a6,a7,a8,a9,a10,a11,a12,a13,a14,a15,a16,a17].drop 4).take (Tryz.prog.cellsOf 3))=xs[4]? :=hf 4 _ rfl;have h5:DataW.trod enc Tryz.prog w 0 (fun _=>true) held n 9 (([a0,a1,a2,a3,a4,a5,a6,a7,a8,a9,a10,a11,a12,a13,a14,a15,a16,a17].drop 5).take (Tryz.prog.cellsOf 9))=xs[5]? :=hf 5 _ rfl;have h6:DataW.trod enc Tryz.prog w 0 (fun _=>true) held n 35 (([a0,a1,a2,a3,a4,a5,a6,a7,a8,a9,a10,a11,a12,a13,a14,a15,a16,a17].drop 6).take (Tryz.prog.cellsOf 35))=xs[6]? :=hf 6 _ rfl;rw[k1]at h0 h1 h2 h3 h4;rw[k2]at h5;rw[k3]at h6;rw[List.getElem?_eq_getElem (by omega)]at h0 h1 h2 h3 h4 h5 h6;obtain⟨x0,e0,_,w0⟩:=DataW.trod_int (cs:=[a0]) Tryz.underlying3 h0;obtain⟨x1,e1,_,w1⟩:=DataW.trod_int (cs:=[a1]) Tryz.underlying3 h1;obtain⟨x2,e2,_,w2⟩:=DataW.trod_int (cs:=[a2]) Tryz.underlying3 h2;obtain⟨x3,e3,_,w3⟩:=DataW.trod_int (cs:=[a3]) Tryz.underlying3 h3;obtain⟨x4,e4,_,w4⟩:=DataW.trod_int (cs:=[a4]) Tryz.underlying3 h4;obtain⟨x5,e5,_,w5⟩:=DataW.trod_string (cs:=[a5]) Tryz.underlying9 h5;obtain⟨sp,e6,w6⟩:=joh _ [a6,a7,a8,a9,a10,a11,a12,a13,a14,a15,a16,a17] _ h6 rfl;simp at e0 e1 e2 e3 e4 e5;subst e0 e1 e2 e3 e4 e5;have hc:[.int .i64 x0,.int .i64 x1,.int .i64 x2,.int .i64 x3,.int .i64 x4,.string x5]++[a6,a7,a8,a9,a10,a11,a12,a13,a14,a15,a16,a17]=Bk.rcC ⟨x0,x1,x2,x3,x4,x5,sp⟩:=by
   rw[e6];rfl
  refine⟨⟨x0,x1,x2,x3,x4,x5,sp⟩,hc,?_,w5,w6⟩;intro x hx;simp only[Rc.nums,List.mem_cons,List.not_mem_nil,or_false]at hx;have v0:=jbl w0;have v1:=jbl w1;have v2:=jbl w2;have v3:=jbl w3;have v4:=jbl w4;rcases hx with rfl|rfl|rfl|rfl|rfl<;>assumption
theorem joi:Tryz.prog.cellsOf 45=18:=by kernel_rfl
theorem jq1{w:World}{A:Option Addr}{n c:Nat}{ts:List Rc.R}(h:SlR 18 ERc w A n c ts):SlF Bk.rcC w A n c ts∧∀r∈ts,Rc.In r:=by
 refine⟨sle_of Bk.rcC_len h (fun _ _ e=>e.1),fun r hr=> ?_⟩;obtain⟨j,hj,e⟩:=List.mem_iff_getElem.1 hr;obtain⟨b,o,cs,h1,h2,h3,h4,h5⟩:=h.rd j r (e▸List.getElem?_eq_getElem hj);exact h5.2
theorem recs_of{H:Type}{enc:TypeId×Value→H}{w:World}{held:Bool}{A:Option Addr}{n c:Nat}{f:Nat}{y:DataW H×List MemPlace}(h:DataW.trod enc Tryz.prog w 0 (fun _=>true) held f 28 [.slice A n c]=some y):∃ts,SlF Bk.rcC w A n c ts∧∀r∈ts,Rc.In r:=by
 obtain⟨ts,h1⟩:=slr_of Tryz.underlying28 joi (by omega) jq0 h;exact⟨ts,jq1 h1⟩
end Go.Proofs.YtabandbigckfkaaGreatDoor
