import Derived.Test.YtpehidgjfcfjoaaGreatDoorQz29
set_option maxHeartbeats 6400000
set_option maxRecDepth 100000
set_option linter.unusedSimpArgs false
set_option linter.unusedVariables false
namespace Go.Proofs.YtpehidgjfcfjoaaGreatDoor
open Go.RowKit Go.Deep Go.Maps
theorem jlk{w0 W:World}{F:Nat->Prop}{b:Nat}{s:Bk.St}(h:BP w0 F b s W)(ht:BT W){rc:Rc.R}(hr:Rc.In rc):jif Tryz.prog 29 #[.pointer (some ⟨b,0,none⟩),.agg (Rc.cells rc)] W (fun e w'=>e= .returned (.int .i64 (Bk.chk s rc))/\BP w0 F b (Bk.app s rc) w'/\Kept (fun i=>¬F i) W w'):=by
 obtain⟨X,h1,h2,h3,h4⟩:=h;refine(jmh h1 ht rc hr).mono fun _ w' hp=> ?_;obtain⟨X',e1,e2,e3,e4⟩:=hp;refine⟨e1,⟨X',e2,fun i hi=> ?_,fun b hb=>⟨fun hx=> ?_,Nat.lt_of_lt_of_le (h3 b hb).2 e4.size⟩,h4.trans (e4.below h4.size h2)⟩,e4.more fun i _ hi hf=>(h3 i hf).1 hi⟩
 ·rcases e3 i hi with h|h
  ·exact h2 i h
  ·exact Nat.le_trans h4.size h
 ·rcases e3 b hx with h|h
  ·exact(h3 b hb).1 h
  ·have:=(h3 b hb).2;omega
theorem So.load_at{m:Int}{ps:List (List Nat)}{j:Nat}(hj:j<=ps.length)(hc:Bk.cnt (Bk.new m) ((So.recs ps).take j)=j)(hs:∀h:j<ps.length,Bk.chk (Bk.run (Bk.new m) ((So.recs ps).take j)) (Rc.rdV (ps[j]))≠0):
  So.pre (Bk.new m) (So.recs ps)=(So.recs ps).take j/\((So.recs ps).take j).length=j/\So.ens ((So.recs ps).take j)=ps.take j:=by
 have hl:(So.recs ps).length=ps.length:=by unfold So.recs;exact List.length_map ..
 refine⟨So.pre_is zv hc (fun h=> ?_),by rw[List.length_take];omega,So.ens_take hc hj⟩;have:=hs zv;unfold So.recs at*
 rwa [List.getElem_map]
theorem So.load_on{m:Int}{ps:List (List Nat)}{j:Nat}(hj:j<ps.length)(hc:Bk.cnt (Bk.new m) ((So.recs ps).take j)=j):
  Bk.run (Bk.new m) ((So.recs ps).take (j+1))=Bk.app (Bk.run (Bk.new m) ((So.recs ps).take j)) (Rc.rdV (ps[j]))/\(Bk.chk (Bk.run (Bk.new m) ((So.recs ps).take j)) (Rc.rdV (ps[j]))=0->Bk.cnt (Bk.new m) ((So.recs ps).take (j+1))=j+1):=by
 have hl:(So.recs ps).length=ps.length:=by unfold So.recs;exact List.length_map ..
 have hx:(So.recs ps)[j]'zv=Rc.rdV (ps[j]):=by unfold So.recs;exact List.getElem_map ..
 have:=Bk.take_run (Bk.new m) (So.recs ps) (k:=j) zv;rw[hx,hc]at this;exact⟨this.1,fun h0=>by rw[this.2,if_pos h0]⟩
def LdPost(w0:World)(G:Nat->Prop)(p:Nat)(m:Int)(R:Nat)(ps:List (List Nat))(W:World)(e:Ending)(w':World):Prop:=
 SRes w0 G p m R (So.pre (Bk.new m) (So.recs ps)) (.int .i64 ((ps.length:Int) -((So.pre (Bk.new m) (So.recs ps)).length:Nat))) W e w'
theorem jdy{W:World}{B x c:Nat}{A:Option Addr}{ls:List (List Nat)}(hx:x=ls.length)(h:OwnF W B (.slice A x c) ls):SlS W A x c ls:=by
 obtain⟨A',c',e,h2⟩:=h.rows.sls;injection e with e1 e2 e3
 subst e1 e2 e3;exact h2
theorem BT.on0{w w':World}(h:BT w)(hb:Below w.heap.size w w'):BT w':=h.on hb
theorem jg4{w0 W:World}{G X:Nat->Prop}{p r q R:Nat}{m:Int}{ps:List (List Nat)}{v:Value}(h:StJ w0 G p m (Jn.Js R ps.length ps) v r q X W)(ht:BT w0)(hok:∀x∈ps,Fr.ok x)(hn:ps.length<=1000):
  jif Tryz.prog 25 #[.pointer (some ⟨p,0,none⟩)] W (LdPost w0 G p m R ps W):=by
 have HL:=zh h.lts;have H0:=zh h;have HT:=zh ht;have HOK:=zh hok;have HN:=zh hn;have lq:=h.lt;have c3:=h.cells.2.2.2.2;have CN:=zh (bp_new W m);have e0:(Fr.scan (Jn.Js R ps.length ps).l).1=ps:=Jn.js_ents hok;have SWJ:Hid (∀j,j<=ps.length->Jn.swap (Jn.Js R ps.length ps) (ps.take j)=Jn.Js R j (ps.take j)/\Jn.swapE (Jn.Js R ps.length ps) (ps.take j)=0):=by
  intro j hj;have h1:=Jn.js_swap (R:=R) (k:=ps.length) (ps:=ps) (qs:=ps.take j) (fun x hx=>hok x (List.mem_of_mem_take hx)) (Nat.le_trans (Fr.all_take_le ps j) h.jr.dsk.okay.2.1)
  rwa [List.length_take,Nat.min_eq_left hj]at h1
 obtain⟨d,hd⟩:∃d,d=Jn.Js R ps.length ps:=⟨_,rfl⟩;rw[<-hd]at H0 e0 SWJ;have HD:=zh hd;have E0:=zh e0;clear h ht hok hn hd e0;refine jhu Tryz.func25 rfl ?_;simp only[Tryz.ntmps25,List.size_toArray,List.length_cons,List.length_nil,Nat.reduceAdd,Nat.reduceSub,Array.replicate_succ,Array.replicate_zero,List.push_toArray,List.append_toArray,List.nil_append,List.cons_append];go_upto_region 2 with(go_at_call 28;(with_reducible refine CN.out.mono ?_);rintro e w1 ⟨b,rfl,hbk⟩;have J1:=zh (H0.out.on (jbg hbk));have K1:=zh (jrk hbk H0.out.below HL.out);have O1:=zh (fun i (hi:G i)=>(jbg hbk).block i (H0.out.g i hi));have lq1:=J1.out.lt;have c21:=J1.out.cells.2.2.2.1;have f21:=J1.out.frz 2;clear hbk lq c3)
 have J2:=zh (J1.out.put (.pointer (some ⟨b,0,none⟩)));have K2:=zh (jb7 (jld K1.out (Kept.of_grown (F:=fun i=>i=p) (jad w1 p 2 (.pointer (some ⟨b,0,none⟩))) (fun k e=>by injection e with e;exact e.symm)) (fun i hi _=> .inr (.inl hi)) (fun i hi=>hi▸J1.out.pG.2)) (fun i (hi:StF G p X i)=> .inl hi))
 have O2:Hid (∀i,G i->(w1.setCell ⟨p,2,none⟩ (.pointer (some ⟨b,0,none⟩))).heap[i]? =W.heap[i]?):=fun i hi=>((jad w1 p 2 (.pointer (some ⟨b,0,none⟩))).block i (J1.out.g i hi) (fun e=>J1.out.pG.1 (by injection e with e;exact e▸hi))).trans (O1.out i hi)
 clear lq1 c21 f21 J1 K1 O1;generalize w1.setCell ⟨p,2,none⟩ (.pointer (some ⟨b,0,none⟩))=w2 at*;have CA:=zh (jmc J2.out.jr.ask);rw[E0.out]at CA;have lq2:=J2.out.lt;have c12:=J2.out.cells.2.2.1;go_upto_region 3 with(go_at_call 26;(with_reducible refine CA.out.mono ?_);rintro e w3 ⟨A3,c3,rfl,ho3,hb3⟩;have OF3:=zh ho3;have J3:=zh (J2.out.on hb3);have K3:=zh (jla K2.out hb3);have O3:=zh (fun i (hi:G i)=>(hb3.block i (J2.out.g i hi)).trans (O2.out i hi));have B3:=zh hb3.size;clear ho3 hb3)
 clear lq2 c12 CA CN;have SF:Hid (∀i,StF G p X i->StF G p X i\/(w2.heap.size<=i/\i<w3.heap.size)):=fun i hi=> .inl hi;have EF:Hid (∀i,w2.heap.size<=i->i<w3.heap.size->StF G p X i\/(w2.heap.size<=i/\i<w3.heap.size)):=fun i h1 h2=> .inr ⟨h1,h2⟩;have GF:Hid (∀i,G i->StF G p X i\/(w2.heap.size<=i/\i<w3.heap.size)):=fun i hi=> .inl (.inl hi);obtain⟨F1,hF1⟩:∃F1,F1=fun i=>StF G p X i\/(w2.heap.size<=i/\i<w3.heap.size):=⟨_,rfl⟩;rw[<-hF1]at K3;replace SF:Hid (∀i,StF G p X i->F1 i):=by rw[hF1];exact SF.out
 replace EF:Hid (∀i,w2.heap.size<=i->i<w3.heap.size->F1 i):=by rw[hF1];exact EF.out
 replace GF:Hid (∀i,G i->F1 i):=by rw[hF1];exact GF.out
 clear hF1;have hcap:ps.length<=c3:=(jdy rfl OF3.out).cap;have hmax:c3<=maxLen:=(jdy rfl OF3.out).max;have hn2:ps.length<=1000:=HN.out;unfold maxLen at hmax;obtain⟨n,hnn⟩:∃n,n=ps.length:=⟨_,rfl⟩;rw[<-hnn]at OF3 hcap hn2⊢;have NL:=zh hnn;clear hnn;go_wp2_with fail;go_loopw [23] (fun i wr=>∃j:Nat,j<=n/\i= .int .i64 j/\Bk.cnt (Bk.new m) ((So.recs ps).take j)=j/\StJ w0 G p m d (.pointer (some ⟨b,0,none⟩)) r q X wr/\BP w0 F1 b (Bk.run (Bk.new m) ((So.recs ps).take j)) wr/\Kept (fun i=>¬F1 i) w3 wr) (fun i _=>n -(intOf i).toNat)
 case atStart=>exact⟨0,Nat.zero_le _,rfl,rfl,J3.out,K3.out,Kept.refl _ _⟩
 case round=>
  obtain⟨j,hj,rfl,hcn,hj4,hk4,hw4⟩:=hrel;have J4:=zh hj4;have K4:=zh hk4;have KW4:=zh hw4;have CN:=zh hcn;clear hj4 hk4 hw4 hcn;have i1:(0:Int)<=(j:Int):=by omega
  by_cases hlt:j<n
  ·have HLT:Hid (j<ps.length):=by show _<_;have:=NL.out;omega
   have S4:=jdy NL.out (OF3.out.kept KW4.out (fun i h1 h2 hn=>hn (EF.out i h1 h2)));obtain⟨b3,o3,hA3,hb3,hc3⟩:=S4.rd (by have:=NL.out;omega);obtain⟨A4,n4,c4,hcell,hs4⟩:=hc3 j HLT.out;have LO:=zh (So.load_on HLT.out CN.out);have PR:Hid (Bk.chk (Bk.run (Bk.new m) ((So.recs ps).take j)) (Rc.rdV (ps[j]'HLT.out))≠0->_):=fun h0=>So.load_at (Nat.le_of_lt HLT.out) CN.out (fun _=>h0);have hx:ps.getD j []=ps[j]'HLT.out:=by rw[List.getD_eq_getElem?_getD,List.getElem?_eq_getElem HLT.out];rfl
   have hok4:=HOK.out _ (List.getElem_mem HLT.out);rw[hx]at hs4;generalize ps[j]'HLT.out=x at*;have hn4:n4<=1000:=by have:=hs4.len;have:=hok4.2.1;omega
   have CR:=zh (jjz wr A4 n4 c4 x hs4 hn4);have HR:Hid (Rc.In (Rc.rdV x)):=Rc.rd_in x;have EQ:Hid (Bk.chk (Bk.run (Bk.new m) ((So.recs ps).take j)) (Rc.rdV x)=0->Rc.rdE x=0):=fun h0=>(So.rd_right (Bk.chk_right h0)).1;have SWP:=zh (SWJ.out j (Nat.le_of_lt HLT.out));generalize Rc.rdV x=rc at*;generalize Rc.rdE x=er at*;obtain⟨s,hs⟩:∃s,s=Bk.run (Bk.new m) ((So.recs ps).take j):=⟨_,rfl⟩;rw[<-hs]at K4 LO PR EQ;have HS:=zh hs;clear hs hx hc3 hs4 hn4 hok4 S4;subst hA3;have q1:((j:Nat):Int)<(n:Nat):=by omega
   go_upto_region 7 with(first
   |(go_at_call 27;(with_reducible refine CR.out.mono ?_);rintro e w4 ⟨rfl,hb4⟩;have J5a:=zh (J4.out.on hb4);have K5a:=zh (jb6 K4.out hb4);have KW5a:=zh (KW4.out.trans (Kept.of_below (F:=fun i=>¬F1 i) hb4) (fun _ _ hf=>hf));clear hb4 CR)
   |((with_reducible show zW);refine jaa rfl (.tmp 6) (.tmp 31) rfl w4.heap.size rc Rc.none_ rfl rfl ⟨heap_alloc_new w4 _⟩ ?_))
   rw[World.setRow_alloc_new];have hb5:Below w4.heap.size w4 (w4.alloc (.cells (Rc.cells rc) 60)):=(Below.refl _ _).alloc (Nat.le_refl _) _;have RA:=zh (RcAt.new w4 rc);have J5:=zh (J5a.out.on hb5);have KW5:=zh (KW5a.out.trans (Kept.of_below (F:=fun i=>¬F1 i) hb5) (fun _ _ hf=>hf));have K5:Hid (BP w0 (fun i=>F1 i\/i=w4.heap.size) b s (w4.alloc (.cells (Rc.cells rc) 60))):=jb7 (jla K5a.out hb5) (fun i hi=>hi.imp id fun e=>by rw[e];exact⟨Nat.le_refl _,by simp⟩);clear hb5 J5a K5a KW5a;obtain⟨g,hg⟩:∃g,g=w4.heap.size:=⟨_,rfl⟩;rw[<-hg]at RA K5⊢;clear hg;generalize w4.alloc (.cells (Rc.cells rc) 60)=w5 at*;clear hcell hb3;by_cases hz:Bk.chk s rc=0
   ·have he:er=0:=EQ.out hz
    subst he;have CP:=zh (jlk (jb6 K5.out (Below.refl _ _).drew) (HT.out.on0 (jbg (jb6 K5.out (Below.refl _ _).drew))) HR.out).1;rw[hz]at CP;have L1:=zh (LO.out.2 hz);refine wp_region_held_drew (S:=fun V=>StJ w0 G p m d (.pointer (some ⟨b,0,none⟩)) r q X V/\RcAt V g rc) zk ⟨J5.out.on (Below.refl _ _).drew,RA.out.on (Below.refl _ _).drew⟩ (fun hS=> ?_);refine tY 0 hS ?_;refine tY 1 hS ?_;refine tY 2 hS ?_;refine tY 3 hS ?_;refine tY 4 hS ?_;refine tY 5 hS ?_;simp only[Act.put,zT,zO,zS];refine tZ 6 rfl (by intro W hW;have lq:=hW.1.lt;have c2:=hW.1.cells.2.2.2.1;go_simp;(try with_reducible rfl)) hS ?_;refine tZ 7 (v:= .agg (Rc.cells rc)) rfl (fun W hW=>jau (.tmp 6) rfl g rc rfl hW.2) hS ?_;simp only[Act.put,zT,zO,zS];refine rO 8 (fun K hK=> ?_);go_simp
    with_reducible refine CP.out.mono ?_
    rintro e w7 ⟨rfl,hb7,hk7⟩;have KB7:=zh hb7;have KK7:=zh hk7;have hS2:=And.intro (hS.1.kept hk7 (fun i hi hn=>hn (.inl (SF.out i hi))) (jbg hb7)) (RcAt.mk ((hk7.block g hS.2.cs.lt (fun hn=>hn (.inr rfl))).trans hS.2.row));clear hS hb7 hk7;have hS:=hS2;clear hS2;refine hK.out _ _ hS (fun _=> ?_);clear hK K;refine tY 9 hS ?_;refine tY 10 hS ?_;simp only[Act.put,zT,zO,zS];refine wpAnyH_done zk ?_ _;have R7:=zh hS.1;clear hS;have KW7:=zh ((KW5.out.trans (Kept.of_below (F:=fun i=>¬F1 i) (Below.refl _ _).drew) (fun _ _ hf=>hf)).trans (KK7.out.more (G:=fun i=>¬F1 i) (fun i _ hi hf=>hi (.inl hf))) (fun _ _ hf=>hf));go_wp2_with fail;exact⟨⟨j+1,zv,by go_num,L1.out,R7.out,by rw[LO.out.1];exact jb7 KB7.out (fun i hi=> .inl hi),KW7.out⟩,by simp[intOf];omega⟩
   ·have PRE:=zh (PR.out hz)
    by_cases he:er=0
    ·subst he
     have CP:=zh (jlk (jb6 K5.out (Below.refl _ _).drew) (HT.out.on0 (jbg (jb6 K5.out (Below.refl _ _).drew))) HR.out).1;have hz2:(Bk.chk s rc !=0)=true:=by simpa using hz
     have AN:=zh (Bk.app_no hz);rw[AN.out]at CP;generalize Bk.chk s rc=cc at*;refine wp_region_held_drew (S:=fun V=>StJ w0 G p m d (.pointer (some ⟨b,0,none⟩)) r q X V/\RcAt V g rc) zk ⟨J5.out.on (Below.refl _ _).drew,RA.out.on (Below.refl _ _).drew⟩ (fun hS=> ?_);refine tY 0 hS ?_;refine tY 1 hS ?_;refine tY 2 hS ?_;refine tY 3 hS ?_;refine tY 4 hS ?_;refine tY 5 hS ?_;simp only[Act.put,zT,zO,zS];refine tZ 6 rfl (by intro W hW;have lq:=hW.1.lt;have c2:=hW.1.cells.2.2.2.1;go_simp;(try with_reducible rfl)) hS ?_;refine tZ 7 (v:= .agg (Rc.cells rc)) rfl (fun W hW=>jau (.tmp 6) rfl g rc rfl hW.2) hS ?_;simp only[Act.put,zT,zO,zS];refine rO 8 (fun K hK=> ?_);go_simp
     with_reducible refine CP.out.mono ?_
     rintro e w7 ⟨rfl,hb7,hk7⟩;have KB7:=zh hb7;have KK7:=zh hk7;have hS2:=And.intro (hS.1.kept hk7 (fun i hi hn=>hn (.inl (SF.out i hi))) (jbg hb7)) (RcAt.mk ((hk7.block g hS.2.cs.lt (fun hn=>hn (.inr rfl))).trans hS.2.row));clear hS hb7 hk7;have hS:=hS2;clear hS2;refine hK.out _ _ hS (fun _=> ?_);clear hK K;refine tY 9 hS ?_;refine tY 10 hS ?_;simp only[Act.put,zT,zO,zS];refine wpAnyH_done zk ?_ _;have R7:=zh hS.1;clear hS;have KW7:=zh ((KW5.out.trans (Kept.of_below (F:=fun i=>¬F1 i) (Below.refl _ _).drew) (fun _ _ hf=>hf)).trans (KK7.out.more (G:=fun i=>¬F1 i) (fun i _ hi hf=>hi (.inl hf))) (fun _ _ hf=>hf));go_upto_region 8 with fail
     have J8:=zh (R7.out.on (Below.refl _ _).drew);have K8:=zh (jb6 (jb7 KB7.out (fun i hi=> .inl hi):BP w0 F1 b s w7) (Below.refl _ _).drew);have O8:=zh (fun i (hi:G i)=>(KW7.out.block i (Nat.lt_of_lt_of_le (J3.out.g i hi) (Nat.le_refl _)) (fun hn=>hn (GF.out i hi))).trans (O3.out i hi));have S8:=zh (SlS.on (jdy NL.out (OF3.out.kept (KW7.out) (fun i h1 h2 hn=>hn (EF.out i h1 h2)))) (Below.refl _ _).drew);have CW:=zh (jqo J8.out.jrn J8.out.fresh (S8.out.take (k:=j) zv) (by rw[List.length_take];have:=HN.out;omega) (fun x hx=>Nat.le_trans (HOK.out x (List.mem_of_mem_take hx)).2.1 zv));rw[SWP.out.1,SWP.out.2]at CW;refine wp_region_held_drew (S:=fun V=>∃d' X',StJ w0 G p m d' (.pointer (some ⟨b,0,none⟩)) r q X' V) zk ⟨_,_,J8.out⟩ (fun hS=> ?_);refine tY 0 hS ?_;refine tY 1 hS ?_;refine tY 2 hS ?_;refine tZ 3 rfl (by intro W hW;obtain⟨d',X',hV⟩:=hW;have lq:=hV.lt;have c1:=hV.cells.2.2.1;go_simp;(try with_reducible rfl)) hS ?_;refine tY 4 hS ?_;refine tY 5 hS ?_;simp only[Act.put,zT,zO,zS];refine tZ 6 rfl (by intro W hW;have jc:j<=c3:=zv;go_simp;(try with_reducible rfl)) hS ?_;simp only[Act.put,zT,zO,zS];refine rO 7 (fun K hK=> ?_);go_simp
     with_reducible refine CW.out.mono ?_
     rintro e w9 ⟨rfl,hj9,hk9⟩;have T9:=zh (J8.out.turn hj9 hk9);have B9:=zh (J8.out.book (jb7 K8.out SF.out) hk9);have O9:=zh (J8.out.others hk9);have hS2:(fun V=>∃d' X',StJ w0 G p m d' (.pointer (some ⟨b,0,none⟩)) r q X' V) w9:=⟨_,_,T9.out⟩;clear CW hj9 hk9 hS;have hS:=hS2;clear hS2;refine hK.out _ _ hS (fun _=> ?_);clear hK K;try simp only[Act.put,zT,zO,zS]
     refine wpAnyH_done zk ?_ _;clear hS;go_wp2;go_ret;have e:So.disk R (So.pre (Bk.new m) (So.recs ps))=Jn.Js R j (ps.take j):=by unfold So.disk;rw[PRE.out.1,PRE.out.2.1,PRE.out.2.2]
     have T10:=T9.out;rw[<-e]at T10;have B10:=B9.out;rw[HS.out,<-PRE.out.1]at B10;exact⟨by rw[PRE.out.1,PRE.out.2.1,<-NL.out];rfl,⟨So.pre_cnt _ _,r,q,b,_,T10,B10⟩,fun i hi=>(O9.out i hi).trans (O8.out i hi)⟩
    ·have he2:(er !=0)=true:=by simpa using he
     refine wp_region_held_drew (S:=fun V=>StJ w0 G p m d (.pointer (some ⟨b,0,none⟩)) r q X V/\RcAt V g rc) zk ⟨J5.out.on (Below.refl _ _).drew,RA.out.on (Below.refl _ _).drew⟩ (fun hS=> ?_);refine tY 0 hS ?_;refine tY 1 hS ?_;refine tY 2 hS ?_;refine tN 3 hS ?_;refine tN 4 hS ?_;refine tN 5 hS ?_;simp only[Act.put,zT,zO,zS];refine tN 6 hS ?_;refine tN 7 hS ?_;refine tN 8 hS ?_;refine tN 9 hS ?_;refine tY 10 hS ?_;simp only[Act.put,zT,zO,zS];refine wpAnyH_done zk ?_ _;have R7:=zh hS.1;clear hS;have KW7:=zh (KW5.out.trans (Kept.of_below (F:=fun i=>¬F1 i) (Below.refl w5.heap.size w5).drew) (fun _ _ hf=>hf));have KB7:=zh (jb6 K5.out (Below.refl w5.heap.size w5).drew);generalize w5.drew=w7 at*;go_upto_region 8 with fail
     have J8:=zh (R7.out.on (Below.refl _ _).drew);have K8:=zh (jb6 (jb7 KB7.out (fun i hi=> .inl hi):BP w0 F1 b s w7) (Below.refl _ _).drew);have O8:=zh (fun i (hi:G i)=>(KW7.out.block i (Nat.lt_of_lt_of_le (J3.out.g i hi) (Nat.le_refl _)) (fun hn=>hn (GF.out i hi))).trans (O3.out i hi));have S8:=zh (SlS.on (jdy NL.out (OF3.out.kept (KW7.out) (fun i h1 h2 hn=>hn (EF.out i h1 h2)))) (Below.refl _ _).drew);have CW:=zh (jqo J8.out.jrn J8.out.fresh (S8.out.take (k:=j) zv) (by rw[List.length_take];have:=HN.out;omega) (fun x hx=>Nat.le_trans (HOK.out x (List.mem_of_mem_take hx)).2.1 zv));rw[SWP.out.1,SWP.out.2]at CW;refine wp_region_held_drew (S:=fun V=>∃d' X',StJ w0 G p m d' (.pointer (some ⟨b,0,none⟩)) r q X' V) zk ⟨_,_,J8.out⟩ (fun hS=> ?_);refine tY 0 hS ?_;refine tY 1 hS ?_;refine tY 2 hS ?_;refine tZ 3 rfl (by intro W hW;obtain⟨d',X',hV⟩:=hW;have lq:=hV.lt;have c1:=hV.cells.2.2.1;go_simp;(try with_reducible rfl)) hS ?_;refine tY 4 hS ?_;refine tY 5 hS ?_;simp only[Act.put,zT,zO,zS];refine tZ 6 rfl (by intro W hW;have jc:j<=c3:=zv;go_simp;(try with_reducible rfl)) hS ?_;simp only[Act.put,zT,zO,zS];refine rO 7 (fun K hK=> ?_);go_simp
     with_reducible refine CW.out.mono ?_
     rintro e w9 ⟨rfl,hj9,hk9⟩;have T9:=zh (J8.out.turn hj9 hk9);have B9:=zh (J8.out.book (jb7 K8.out SF.out) hk9);have O9:=zh (J8.out.others hk9);have hS2:(fun V=>∃d' X',StJ w0 G p m d' (.pointer (some ⟨b,0,none⟩)) r q X' V) w9:=⟨_,_,T9.out⟩;clear CW hj9 hk9 hS;have hS:=hS2;clear hS2;refine hK.out _ _ hS (fun _=> ?_);clear hK K;try simp only[Act.put,zT,zO,zS]
     refine wpAnyH_done zk ?_ _;clear hS;go_wp2;go_ret;have e:So.disk R (So.pre (Bk.new m) (So.recs ps))=Jn.Js R j (ps.take j):=by unfold So.disk;rw[PRE.out.1,PRE.out.2.1,PRE.out.2.2]
     have T10:=T9.out;rw[<-e]at T10;have B10:=B9.out;rw[HS.out,<-PRE.out.1]at B10;exact⟨by rw[PRE.out.1,PRE.out.2.1,<-NL.out];rfl,⟨So.pre_cnt _ _,r,q,b,_,T10,B10⟩,fun i hi=>(O9.out i hi).trans (O8.out i hi)⟩
  ·have ej:j=n:=by omega
   have q1:((n:Nat):Int)<=(j:Nat):=by omega
   have PRE:=zh (So.load_at (m:=m) (ps:=ps) (j:=j) (by have:=NL.out;omega) CN.out (fun hx=>absurd hx (by have:=NL.out;omega)));have EJ:Hid (ps.take j=ps/\j=ps.length):=⟨List.take_of_length_le (by have:=NL.out;omega),by have:=NL.out;omega⟩;have KW7:=KW4;clear ej;go_wp2;go_ret;have EP:=EJ.out.1;have PR:=PRE.out;rw[EP]at PR;refine⟨by rw[PR.1,PR.2.1,EJ.out.2];simp,⟨So.pre_cnt _ _,r,q,b,X,?_,?_⟩,fun i (hi:G i)=>(KW7.out.block i (Nat.lt_of_lt_of_le (J3.out.g i hi) (Nat.le_refl _)) (fun hn=>hn (GF.out i hi))).trans (O3.out i hi)⟩
   ·have e:So.disk R (So.pre (Bk.new m) (So.recs ps))=d:=by unfold So.disk;rw[PR.1,PR.2.1,PR.2.2,HD.out,EJ.out.2]
    rw[e];exact J4.out
   ·rw[PR.1]
    exact jb7 K4.out SF.out
namespace So
def comE(m:Int)(R:Nat)(L:List Rc.R)(r:Rc.R):Int:=if Bk.chk (Bk.all m L) r=0 then(if Fits R L r then 0 else 4)else Bk.chk (Bk.all m L) r
def com(m:Int)(R:Nat)(L:List Rc.R)(r:Rc.R):List Rc.R:=if Bk.chk (Bk.all m L) r=0/\Fits R L r then L++[r]else L
def torE(m:Int)(R:Nat)(L:List Rc.R)(r:Rc.R):Int:=if Bk.chk (Bk.all m L) r=0 then(if Fits R L r then 13 else 4)else Bk.chk (Bk.all m L) r
def tor(m:Int)(R:Nat)(L:List Rc.R)(r:Rc.R)(keep:Int):List Rc.R:=if Bk.chk (Bk.all m L) r=0/\Fits R L r/\Kept r keep then L++[r]else L
theorem com_no{m:Int}{R:Nat}{L:List Rc.R}{r:Rc.R}(h:Bk.chk (Bk.all m L) r≠0):com m R L r=L/\comE m R L r=Bk.chk (Bk.all m L) r:=by unfold com comE;rw[if_neg (fun x=>h x.1),if_neg h];exact⟨rfl,rfl⟩
theorem com_full{m:Int}{R:Nat}{L:List Rc.R}{r:Rc.R}(h:Bk.chk (Bk.all m L) r=0)(hf:¬Fits R L r):com m R L r=L/\comE m R L r=4:=by unfold com comE;rw[if_neg (fun x=>hf x.2),if_pos h,if_neg hf];exact⟨rfl,rfl⟩
theorem com_fits{m:Int}{R:Nat}{L:List Rc.R}{r:Rc.R}(h:Bk.chk (Bk.all m L) r=0)(hf:Fits R L r):com m R L r=L++[r]/\comE m R L r=0:=by unfold com comE;rw[if_pos ⟨h,hf⟩,if_pos h,if_pos hf];exact⟨rfl,rfl⟩
theorem tor_no{m:Int}{R:Nat}{L:List Rc.R}{r:Rc.R}(k:Int)(h:Bk.chk (Bk.all m L) r≠0):tor m R L r k=L/\torE m R L r=Bk.chk (Bk.all m L) r:=by unfold tor torE;rw[if_neg (fun x=>h x.1),if_neg h];exact⟨rfl,rfl⟩
theorem tor_full{m:Int}{R:Nat}{L:List Rc.R}{r:Rc.R}(k:Int)(h:Bk.chk (Bk.all m L) r=0)(hf:¬Fits R L r):tor m R L r k=L/\torE m R L r=4:=by unfold tor torE;rw[if_neg (fun x=>hf x.2.1),if_pos h,if_neg hf];exact⟨rfl,rfl⟩
theorem tor_fits{m:Int}{R:Nat}{L:List Rc.R}{r:Rc.R}(k:Int)(h:Bk.chk (Bk.all m L) r=0)(hf:Fits R L r):tor m R L r k=(if Kept r k then L++[r]else L)/\torE m R L r=13:=by
 unfold tor torE;rw[if_pos h,if_pos hf];by_cases hk:Kept r k
 ·rw[if_pos ⟨h,hf,hk⟩,if_pos hk];exact⟨rfl,rfl⟩
 ·rw[if_neg (fun x=>hk x.2.2),if_neg hk];exact⟨rfl,rfl⟩
end So
theorem SA.rec{w0 W:World}{G:Nat->Prop}{p R:Nat}{m:Int}{L:List Rc.R}(h:SA w0 G p m R L W)(rc:Rc.R):SA w0 (fun i=>G i\/i=W.heap.size) p m R L (W.alloc (.cells (Rc.cells rc) 60)):=
 (h.more ((Below.refl _ _).alloc (Nat.le_refl _) _)).less fun i hi=>hi.imp id fun e=>by rw[e];exact⟨Nat.le_refl _,by simp⟩
theorem jfp{w0 W:World}{G:Nat->Prop}{p R:Nat}{m:Int}{L:List Rc.R}(h:SA w0 G p m R L W)(ht:BT w0){rc:Rc.R}(hr:Rc.In rc):
  Calls Tryz.prog 14 #[.pointer (some ⟨p,0,none⟩),.agg (Rc.cells rc)] W (SRes w0 G p m R (So.com m R L rc) (.int .i64 (So.comE m R L rc)) W):=by
 obtain⟨L2,hL2⟩:∃L2,L2=So.com m R L rc:=⟨_,rfl⟩;obtain⟨E2,hE2⟩:∃E2,E2=So.comE m R L rc:=⟨_,rfl⟩;rw[<-hL2,<-hE2];have HC:=zh (And.intro hL2 hE2);clear hL2 hE2;have HR:=zh hr;have HT:=zh ht;have TK:=zh h.took;have HRT:=zh h.right;obtain⟨g,hg⟩:∃g,g=W.heap.size:=⟨_,rfl⟩;have h1:=h.rec rc;rw[<-hg]at h1;have O1:Hid (∀i,G i->(W.alloc (.cells (Rc.cells rc) 60)).heap[i]? =W.heap[i]?):=by
  obtain⟨_,r,q,b,X,h2,_⟩:=h;exact fun i hi=>((Below.refl W.heap.size W).alloc (Nat.le_refl _) _).block i (h2.g i hi)
 have RA:Hid (RcAt (W.alloc (.cells (Rc.cells rc) 60)) g rc):=by rw[hg];exact RcAt.new W rc
 clear h hr ht;obtain⟨W1,hW1⟩:∃W1,W1=W.alloc (.cells (Rc.cells rc) 60):=⟨_,rfl⟩;rw[<-hW1]at h1 O1 RA;obtain⟨_,r,q,b,X,hj,hk⟩:=h1;have J1:=zh hj;have K1:=zh hk;have CF:=zh (jjw hj hk (HT.out.on0 hj.below) rc HR.out);have EQ:Hid (Bk.chk (Bk.all m L) rc=0->Rc.right rc=true):=fun h0=>Bk.chk_right h0;clear hj hk;obtain⟨s,hs⟩:∃s,s=Bk.all m L:=⟨_,rfl⟩;rw[<-hs]at CF K1 EQ;have HS:=zh hs;clear hs;go_enter_defers Tryz.func14,Tryz.ntmps14;go_upto_region 1 with fail
 rw[<-hW1];rw[<-hg];clear hW1 hg;obtain⟨ans,hans⟩:∃ans,ans=Bk.chk s rc:=⟨_,rfl⟩;rw[<-hans]at CF EQ;have AN:=zh hans;clear hans;by_cases h0:ans=0
 ·have HZ:Hid (Bk.chk s rc=0):=AN.out.symm.trans h0
  have RT:=zh (EQ.out h0);subst h0;go_upto_region 4 with(first
   |((with_reducible show zL 10);refine zR (.tmp 3) RA.out ?_)
   |(go_at_call 33;(with_reducible refine CF.out.mono ?_);rintro e w2 ⟨A,n,c,rfl,hs,hb⟩;have J2:=zh (J1.out.on hb);have K2:=zh (jb6 K1.out hb);have R2:=zh (RA.out.on hb);have O2:=zh (fun i (hi:G i)=>(hb.block i (J1.out.g i (.inl hi))).trans (O1.out i hi));have S2:=zh hs;clear hb hs CF J1 K1 O1 RA))
  have S3:=zh (S2.out (by trivial));clear S2;by_cases hf:So.Fits R L rc
  ·have HF:=zh hf
   have DF:=zh (So.disk_app (R:=R) RT.out HF.out);have CA:=zh (jjp J2.out.jrn J2.out.fresh S3.out (by rw[S3.out.len];have:=Rc.bytes_len RT.out;omega));have lq2:=J2.out.lt;have c12:=J2.out.cells.2.2.1;rw[DF.out.2]at CA;go_upto_region 7 with(go_at_call 34;(with_reducible refine CA.out.mono ?_);rintro e w3 ⟨rfl,hj,hk⟩;have J3:=zh (J2.out.turn hj hk);have K3:=zh (J2.out.book K2.out hk);have R3:Hid (RcAt w3 g rc):=⟨(J2.out.others hk g (.inr rfl)).trans R2.out.row⟩;have O3:=zh (fun i (hi:G i)=>(J2.out.others hk i (.inl hi)).trans (O2.out i hi));clear hj hk CA lq2 c12)
   obtain⟨d',hd'⟩:∃d',d'=Jn.app (So.disk R L) (Rc.bytes rc):=⟨_,rfl⟩;rw[<-hd']at J3 DF;clear hd';obtain⟨X',hX'⟩:∃X',X'=(fun i=>(X i\/w2.heap.size<=i)/\i<w3.heap.size):=⟨_,rfl⟩;rw[<-hX']at J3 K3;clear hX';refine wp_mono (h:=?_) (fun e a w (h:e=Exit.normal/\_)=>h.2);refine wp_region_held_drew (S:=fun V=>StJ w0 (fun i=>G i\/i=g) p m d' (.pointer (some ⟨b,0,none⟩)) r q X' V/\RcAt V g rc) zk ⟨J3.out.on (Below.refl _ _).drew,R3.out.on (Below.refl _ _).drew⟩ (fun hS=> ?_);refine jj9 0 (v:=?_) rfl zk (fun _ _ _ h=>nomatch h.1) rfl ?_ hS ?_
   rotate_left
   ·intro W hW;go_simp;(try with_reducible rfl)
   simp only[Act.put,zT,zO,zS];refine jj9 1 (v:=?_) rfl zk (fun _ _ _ h=>nomatch h.1) rfl ?_ hS ?_
   rotate_left
   ·intro W hW;go_simp;(try with_reducible rfl)
   simp only[Act.put,zT,zO,zS];refine jj9 2 (v:=?_) rfl zk (fun _ _ _ h=>nomatch h.1) rfl ?_ hS ?_
   rotate_left
   ·intro W hW;go_simp;(try with_reducible rfl)
   simp only[Act.put,zT,zO,zS];refine jj9 3 (v:=?_) rfl zk (fun _ _ _ h=>nomatch h.1) rfl ?_ hS ?_
   rotate_left
   ·intro W hW;have lq:=hW.1.lt;have c2:=hW.1.cells.2.2.2.1;go_simp;(try with_reducible rfl)
   simp only[Act.put,zT,zO,zS];refine jj9 4 (v:= .agg (Rc.cells rc)) rfl zk (fun _ _ _ h=>nomatch h.1) rfl (fun W hW=>jau (.tmp 3) rfl g rc rfl hW.2) hS ?_;simp only[Act.put,zT,zO,zS];refine rO 5 (fun K hK=> ?_);go_simp;refine hK.out _ _ hS (fun _=> ?_);clear hK K;try simp only[Act.put,zT,zO,zS]
   refine wpAnyH_done zk ?_ _;refine⟨rfl,?_⟩;have J7:=zh hS.1;have R7:=zh hS.2;clear hS;have K7:=zh (jb6 K3.out (Below.refl w3.heap.size w3).drew);have O7:Hid (∀i,G i->w3.drew.heap[i]? =W.heap[i]?):=O3.out;clear J3 K3 R3 O3;generalize w3.drew=w7 at*;have CS:=zh (jSync_x J7.out.jrn J7.out.fresh);have lq7:=J7.out.lt;have c17:=J7.out.cells.2.2.1;go_wp2_with(go_at_call 35;(with_reducible refine CS.out.mono ?_);rintro e w8 ⟨rfl,hj,hk⟩;have J8:=zh (J7.out.turn hj hk);have K8:=zh (J7.out.book K7.out hk);have O8:=zh (fun i (hi:G i)=>(J7.out.others hk i (.inl hi)).trans (O7.out i hi));clear hj hk CS lq7 c17);rw[DF.out.1]at J8;have C:=So.com_fits (by rw[<-HS.out];exact HZ.out) HF.out;rw[<-HC.out.1,<-HC.out.2]at C;refine jhv (by simp[go_sem]) (jlk K8.out (HT.out.on0 J8.out.below) HR.out) ?_;rintro e w9 ⟨rfl,hb9,hk9⟩;have J9:=J8.out.kept hk9 (fun i hi hn=>hn hi) (jbg hb9);rw[HS.out]at hb9;refine⟨_,rfl,_,results_tmp rfl _ _ _,by rw[C.2];rfl,?_,fun i hi=>(hk9.block i (J8.out.g i (.inl hi)) (fun hn=>hn (.inl (.inl hi)))).trans (O8.out i hi)⟩;rw[C.1];have e:Bk.app (Bk.all m L) rc=Bk.all m (L++[rc]):=(Bk.run_snoc _ _ _).symm;rw[e]at hb9;exact SA.less (F:=G) ⟨So.took_snoc TK.out (by rw[<-HS.out];exact HZ.out),r,q,b,_,J9,hb9⟩ (fun i hi=> .inl hi)
  ·have HF:=zh hf
   have DF:=zh (So.disk_full (R:=R) RT.out HF.out);have CA:=zh (jjp J2.out.jrn J2.out.fresh S3.out (by rw[S3.out.len];have:=Rc.bytes_len RT.out;omega));have lq2:=J2.out.lt;have c12:=J2.out.cells.2.2.1;rw[DF.out.1,DF.out.2]at CA;go_wp2_with(go_at_call 34;(with_reducible refine CA.out.mono ?_);rintro e w3 ⟨rfl,hj,hk⟩;have J3:=zh (J2.out.turn hj hk);have K3:=zh (J2.out.book K2.out hk);have R3:Hid (RcAt w3 g rc):=⟨(J2.out.others hk g (.inr rfl)).trans R2.out.row⟩;have O3:=zh (fun i (hi:G i)=>(J2.out.others hk i (.inl hi)).trans (O2.out i hi));clear hj hk CA lq2 c12);have C:=So.com_full (by rw[<-HS.out];exact HZ.out) HF.out;rw[<-HC.out.1,<-HC.out.2]at C;have K4:=K3.out;rw[HS.out]at K4;refine⟨_,results_tmp rfl _ _ _,by rw[C.2];rfl,?_,O3.out⟩;rw[C.1];exact SA.less (F:=G) ⟨TK.out,r,q,b,_,J3.out,K4⟩ (fun i hi=> .inl hi)
 ·have h1:(ans !=0)=true:=by simpa using h0
  go_wp2_with(first
   |((with_reducible show zL 10);refine zR (.tmp 3) RA.out ?_)
   |(go_at_call 33;(with_reducible refine CF.out.mono ?_);rintro e w2 ⟨A,n,c,rfl,hs,hb⟩;have J2:=zh (J1.out.on hb);have K2:=zh (jb6 K1.out hb);have R2:=zh (RA.out.on hb);have O2:=zh (fun i (hi:G i)=>(hb.block i (J1.out.g i (.inl hi))).trans (O1.out i hi));have S2:=zh hs;clear hb hs CF J1 K1 O1 RA))
  have C:=So.com_no (R:=R) (L:=L) (m:=m) (r:=rc) (by rw[<-HS.out,<-AN.out];exact h0);rw[<-HC.out.1,<-HC.out.2,<-HS.out,<-AN.out]at C;have K4:=K2.out;rw[HS.out]at K4;refine⟨_,results_tmp rfl _ _ _,by rw[C.2];rfl,?_,O2.out⟩;rw[C.1];exact SA.less (F:=G) ⟨TK.out,r,q,b,_,J2.out,K4⟩ (fun i hi=> .inl hi)
theorem zzx{p:Prop}(h:p:=by
 rintro b ⟨A,n,c,o,he,hA,hn⟩;obtain⟨⟨A1,c1,e1,_⟩,⟨A2,c2,e2,_⟩,⟨A3,c3,e3,_⟩⟩:=h;rcases he with e|e|e
 ·rw[e1]at e;injection e with _ e _;have:(Bk.tl (Bk.new m)).length=0:=rfl;omega
 ·rw[e2]at e;injection e with _ e _;have:(Bk.new m).vs.length=0:=rfl;omega
 ·rw[e3]at e;injection e with _ e _;have:(Bk.new m).h.length=0:=rfl;omega):p:=h
theorem jr0{w:World}{m:Int}{L V H:Value}(h:BkRd w (Bk.new m) L V H):∀b,¬je6 L V H b:=by
 exact zzx
theorem jn2(room margin:Int)(w:World):Calls Tryz.prog 18 #[.int .i64 room,.int .i64 margin] w (fun e w'=>∃L V H,e= .returned (.agg (Ss.cs margin (Dk.fits room:Nat) ⟨#[]⟩ ⟨#[]⟩ (.slice none 0 0) (Bk.cells (Bk.new margin) L V H)).toArray)/\BkRd w' (Bk.new margin) L V H/\Below w.heap.size w w'):=by
 have hz:=jfb;have CD:=zh (fun W=>jtp room W);have CB:=zh (fun W=>joq margin W);go_in;go_upto_region 1 with fail
 obtain⟨g,hg⟩:∃g,g=w.heap.size:=⟨_,rfl⟩;have Z:Hid ((w.alloc (.cells Ss.zeros 40)).heap[g]? =some (.cells Ss.zeros 40 (0,0))):=by rw[hg];exact heap_alloc_new w _
 have B1:Hid (Below w.heap.size w (w.alloc (.cells Ss.zeros 40))):=(Below.refl _ _).alloc (Nat.le_refl _) _;have G1:Hid (w.heap.size<=g):=Nat.le_of_eq hg.symm;rw[<-hg];clear hg;generalize w.alloc (.cells Ss.zeros 40)=w1 at*
 go_wp2_with(first
  |(go_at_call 38;(with_reducible refine(CD.out _).mono ?_);rintro e w2 ⟨rfl,hb⟩;have Z:Hid (w2.heap[g]? =some (.cells Ss.zeros 40 (0,0))):=(hb.block g (Array.getElem?_eq_some_iff.1 Z.out).1).trans Z.out;have B1:=zh (B1.out.trans (hb.mono B1.out.size));clear hb)
  |(go_at_call 39;(with_reducible refine(CB.out _).mono ?_);rintro e w3 ⟨L,V,H,rfl,hrd,hb⟩;have RD:=zh hrd;have Z:Hid (w3.heap[g]? =some (.cells Ss.zeros 40 (0,0))):=(hb.block g (Array.getElem?_eq_some_iff.1 Z.out).1).trans Z.out;have B1:=zh (B1.out.trans (hb.mono B1.out.size));clear hb hrd)
  |((with_reducible show wpList _ _ _ ({dst:=some 10,op:= .build _ _,type:=_,pos:=_,after:=_,guard:=_}::_) _ _);refine jdh rfl 40 _ rfl (Ss.cs margin (Dk.fits room:Nat) ⟨#[]⟩ ⟨#[]⟩ (.slice none 0 0) (Bk.cells (Bk.new margin) L V H)).toArray zk ?_)
  |((with_reducible show zW);refine jas rfl (.tmp 4) (.tmp 10) rfl rfl rfl Z.out rfl (Ss.one (l:= .slice none 0 0) rfl RD.out.one) ?_))
 have hg:=ja2 w3 g (Ss.cs margin (Dk.fits room:Nat) ⟨#[]⟩ ⟨#[]⟩ (.slice none 0 0) (Bk.cells (Bk.new margin) L V H)).toArray;exact bodyPost_ret (v:= .agg _) (jnn Tryz.results18 _ rfl ⟨setRow_heap _ g _ _ _ _ Z.out⟩) rfl ⟨L,V,H,rfl,jdq RD.out hg (jr0 RD.out _),B1.out.grown hg B1.out.size fun k e=>by injection e with e;exact e▸G1.out⟩
end Go.Proofs.YtpehidgjfcfjoaaGreatDoor
