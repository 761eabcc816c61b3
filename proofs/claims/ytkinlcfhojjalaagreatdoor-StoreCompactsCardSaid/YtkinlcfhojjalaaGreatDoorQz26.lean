import Derived.Test.YtkinlcfhojjalaaGreatDoorQz25
set_option maxHeartbeats 6400000
set_option maxRecDepth 100000
set_option linter.all false
namespace Go.Proofs.YtkinlcfhojjalaaGreatDoor
open Go.RowKit Go.Deep Go.Maps
theorem jl2{w0 W:World}{F:Nat->Prop}{b:Nat}{s:Bk.St}(h:BP w0 F b s W)(ht:BT W){rc:Rc.R}(hr:Rc.In rc):jhn Tryz.prog 37 #[.pointer (some ⟨b,0,none⟩),.agg (Rc.cells rc)] W (fun e w'=>e= .returned (.int .i64 (Bk.chk s rc))/\BP w0 F b (Bk.app s rc) w'/\Kept (fun i=>¬F i) W w'):=by
 obtain⟨X,h1,h2,h3,h4⟩:=h;refine(jiv h1 ht rc hr).mono fun _ w' hp=> ?_;obtain⟨X',e1,e2,e3,e4⟩:=hp;refine⟨e1,⟨X',e2,fun i hi=> ?_,fun b hb=>⟨fun hx=> ?_,Nat.lt_of_lt_of_le (h3 b hb).2 e4.size⟩,h4.trans (e4.below h4.size h2)⟩,e4.more fun i _ hi hf=>(h3 i hf).1 hi⟩
 ·exact zz30
 ·exact zz2x
theorem So.load_at{m:Int}{ps:List (List Nat)}{j:Nat}(hj:j<=ps.length)(hc:Bk.cnt (Bk.new m) ((So.recs ps).take j)=j)(hs:∀h:j<ps.length,Bk.chk (Bk.run (Bk.new m) ((So.recs ps).take j)) (Rc.rdV (ps[j]))≠0):
  So.pre (Bk.new m) (So.recs ps)=(So.recs ps).take j/\((So.recs ps).take j).length=j/\So.ens ((So.recs ps).take j)=ps.take j:=by
 have hl:(So.recs ps).length=ps.length:=by unfold So.recs;exact List.length_map ..
 refine⟨So.pre_is zv hc (fun h=> ?_),by rw[List.length_take];omega,So.ens_take hc hj⟩;have:=hs zv;unfold So.recs at*
 rwa [List.getElem_map]
theorem So.load_on{m:Int}{ps:List (List Nat)}{j:Nat}(hj:j<ps.length)(hc:Bk.cnt (Bk.new m) ((So.recs ps).take j)=j):
  Bk.run (Bk.new m) ((So.recs ps).take (j+1))=Bk.app (Bk.run (Bk.new m) ((So.recs ps).take j)) (Rc.rdV (ps[j]))/\(Bk.chk (Bk.run (Bk.new m) ((So.recs ps).take j)) (Rc.rdV (ps[j]))=0->Bk.cnt (Bk.new m) ((So.recs ps).take (j+1))=j+1):=by
 have hl:(So.recs ps).length=ps.length:=by unfold So.recs;exact List.length_map ..
 have hx:(So.recs ps)[j]'zv=Rc.rdV (ps[j]):=by unfold So.recs;exact List.getElem_map ..
 have:=Bk.take_run (Bk.new m) (So.recs ps) (k:=j) zv;rw[hx,hc]at this;exact⟨this.1,fun h0=>by rw[this.2,if_pos h0]⟩
def LdPost(w0:World)(G:Nat->Prop)(p:Nat)(m:Int)(R:Nat)(ps:List (List Nat))(W:World)(e:Ending)(w':World):Prop:=
 SRes w0 G p m R (So.pre (Bk.new m) (So.recs ps)) (.int .i64 ((ps.length:Int) -((So.pre (Bk.new m) (So.recs ps)).length:Nat))) W e w'
theorem jd1{W:World}{B x c:Nat}{A:Option Addr}{ls:List (List Nat)}(hx:x=ls.length)(h:OwnF W B (.slice A x c) ls):SlS W A x c ls:=by
 obtain⟨A',c',e,h2⟩:=h.rows.sls;injection e with e1 e2 e3
 subst e1 e2 e3;exact h2
theorem BT.on0{w w':World}(h:BT w)(hb:zF w w'):BT w':=h.on hb
theorem jha{w0 W:World}{G X:Nat->Prop}{p r q R:Nat}{m:Int}{ps:List (List Nat)}{v:Value}(h:StJ w0 G p m (Jn.Js R ps.length ps) v r q X W)(ht:BT w0)(hok:∀x∈ps,Fr.ok x)(hn:ps.length<=1000):
  jhn Tryz.prog 33 #[.pointer (some ⟨p,0,none⟩)] W (LdPost w0 G p m R ps W):=by
 have HL:=zh h.lts;have H0:=zh h;have HT:=zh ht;have HOK:=zh hok;have HN:=zh hn;have lq:=h.lt;have c3:=h.cells.2.2.2.2;have CN:=zh (bp_new W m);have e0:(Fr.scan (Jn.Js R ps.length ps).l).1=ps:=Jn.js_ents hok;have SWJ:Hid (∀j,j<=ps.length->Jn.swap (Jn.Js R ps.length ps) (ps.take j)=Jn.Js R j (ps.take j)/\Jn.swapE (Jn.Js R ps.length ps) (ps.take j)=0):=by
  intro j hj;have h1:=Jn.js_swap (R:=R) (k:=ps.length) (ps:=ps) (qs:=ps.take j) (fun x hx=>hok x (List.mem_of_mem_take hx)) (Nat.le_trans (Fr.all_take_le ps j) h.jr.dsk.okay.2.1)
  rwa [List.length_take,Nat.min_eq_left hj]at h1
 obtain⟨d,hd⟩:∃d,d=Jn.Js R ps.length ps:=zx;rw[<-hd]at H0 e0 SWJ;have HD:=zh hd;have E0:=zh e0;clear h ht hok hn hd e0;refine jh4 Tryz.func33 rfl ?_;simp only[Tryz.ntmps33,List.size_toArray,List.length_cons,List.length_nil,Nat.reduceAdd,Nat.reduceSub,Array.replicate_succ,Array.replicate_zero,List.push_toArray,List.append_toArray,List.nil_append,List.cons_append];go_upto_region 2 with(go_at_call 49;refine CN.o.mono ?_;rintro e w1 ⟨b,rfl,hbk⟩;have J1:=zh (H0.o.on (jar hbk));have K1:=zh (jr3 hbk H0.o.below HL.o);have O1:=zh (fun i (hi:G i)=>(jar hbk).block i (H0.o.g i hi));have lq1:=J1.o.lt;have c21:=J1.o.cells.2.2.2.1;have f21:=J1.o.frz 2;clear hbk lq c3)
 have J2:=zh (J1.o.put (.pointer (some ⟨b,0,none⟩)));have K2:=zh (jbh (jlv K1.o (Kept.of_grown (F:=fun i=>i=p) (jad w1 p 2 (.pointer (some ⟨b,0,none⟩))) (fun k e=>by injection e with e;exact e.symm)) (fun i hi _=> .inr (.inl hi)) (fun i hi=>hi▸J1.o.pG.2)) (fun i (hi:StF G p X i)=> .inl hi))
 have O2:Hid (∀i,G i->(w1.setCell ⟨p,2,none⟩ (.pointer (some ⟨b,0,none⟩))).heap[i]? =W.heap[i]?):=fun i hi=>((jad w1 p 2 (.pointer (some ⟨b,0,none⟩))).block i (J1.o.g i hi) (fun e=>J1.o.pG.1 (by injection e with e;exact e▸hi))).trans (O1.o i hi)
 clear lq1 c21 f21 J1 K1 O1;generalize w1.setCell ⟨p,2,none⟩ (.pointer (some ⟨b,0,none⟩))=w2 at*;have CA:=zh (jmp J2.o.jr.ask);rw[E0.o]at CA;have lq2:=J2.o.lt;have c12:=J2.o.cells.2.2.1;go_upto_region 3 with(go_at_call 50;refine CA.o.mono ?_;rintro e w3 ⟨A3,c3,rfl,ho3,hb3⟩;have OF3:=zh ho3;have J3:=zh (J2.o.on hb3);have K3:=zh (jiw K2.o hb3);have O3:=zh (fun i (hi:G i)=>(hb3.block i (J2.o.g i hi)).trans (O2.o i hi));have B3:=zh hb3.size;clear ho3 hb3)
 clear lq2 c12 CA CN;have SF:Hid (∀i,StF G p X i->StF G p X i\/(w2.heap.size<=i/\i<w3.heap.size)):=fun i hi=> .inl hi;have EF:Hid (∀i,w2.heap.size<=i->i<w3.heap.size->StF G p X i\/(w2.heap.size<=i/\i<w3.heap.size)):=fun i h1 h2=> .inr ⟨h1,h2⟩;have GF:Hid (∀i,G i->StF G p X i\/(w2.heap.size<=i/\i<w3.heap.size)):=fun i hi=> .inl (.inl hi);obtain⟨F1,hF1⟩:∃F1,F1=fun i=>StF G p X i\/(w2.heap.size<=i/\i<w3.heap.size):=zx;rw[<-hF1]at K3;replace SF:Hid (∀i,StF G p X i->F1 i):=by rw[hF1];exact SF.o
 replace EF:Hid (∀i,w2.heap.size<=i->i<w3.heap.size->F1 i):=by rw[hF1];exact EF.o
 replace GF:Hid (∀i,G i->F1 i):=by rw[hF1];exact GF.o
 clear hF1;have hcap:ps.length<=c3:=(jd1 rfl OF3.o).cap;have hmax:c3<=maxLen:=(jd1 rfl OF3.o).max;have hn2:ps.length<=1000:=HN.o;unfold maxLen at hmax;obtain⟨n,hnn⟩:∃n,n=ps.length:=zx;rw[<-hnn]at OF3 hcap hn2⊢;have NL:=zh hnn;clear hnn;go_wp2_with fail;go_loopw [23] (fun i wr=>∃j:Nat,j<=n/\i= .int .i64 j/\Bk.cnt (Bk.new m) ((So.recs ps).take j)=j/\StJ w0 G p m d (.pointer (some ⟨b,0,none⟩)) r q X wr/\BP w0 F1 b (Bk.run (Bk.new m) ((So.recs ps).take j)) wr/\Kept (fun i=>¬F1 i) w3 wr) (fun i _=>n -(intOf i).toNat)
 case atStart=>exact⟨0,Nat.zero_le _,rfl,rfl,J3.o,K3.o,Kept.refl _ _⟩
 case round=>
  obtain⟨j,hj,rfl,hcn,hj4,hk4,hw4⟩:=hrel;have J4:=zh hj4;have K4:=zh hk4;have KW4:=zh hw4;have CN:=zh hcn;clear hj4 hk4 hw4 hcn;have i1:(0:Int)<=(j:Int):=by omega
  by_cases hlt:j<n
  ·have HLT:Hid (j<ps.length):=by show _<_;have:=NL.o;omega
   have S4:=jd1 NL.o (OF3.o.kept KW4.o (fun i h1 h2 hn=>hn (EF.o i h1 h2)));obtain⟨b3,o3,hA3,hb3,hc3⟩:=S4.rd (by have:=NL.o;omega);obtain⟨A4,n4,c4,hcell,hs4⟩:=hc3 j HLT.o;have LO:=zh (So.load_on HLT.o CN.o);have PR:Hid (Bk.chk (Bk.run (Bk.new m) ((So.recs ps).take j)) (Rc.rdV (ps[j]'HLT.o))≠0->_):=fun h0=>So.load_at (Nat.le_of_lt HLT.o) CN.o (fun _=>h0);have hx:ps.getD j []=ps[j]'HLT.o:=by rw[List.getD_eq_getElem?_getD,List.getElem?_eq_getElem HLT.o];rfl
   have hok4:=HOK.o _ (List.getElem_mem HLT.o);rw[hx]at hs4;generalize ps[j]'HLT.o=x at*;have hn4:n4<=1000:=by have:=hs4.len;have:=hok4.2.1;omega
   have CR:=zh (jki wr A4 n4 c4 x hs4 hn4);have HR:Hid (Rc.In (Rc.rdV x)):=Rc.rd_in x;have EQ:Hid (Bk.chk (Bk.run (Bk.new m) ((So.recs ps).take j)) (Rc.rdV x)=0->Rc.rdE x=0):=fun h0=>(So.rd_right (Bk.chk_right h0)).1;have SWP:=zh (SWJ.o j (Nat.le_of_lt HLT.o));generalize Rc.rdV x=rc at*;generalize Rc.rdE x=er at*;obtain⟨s,hs⟩:∃s,s=Bk.run (Bk.new m) ((So.recs ps).take j):=zx;rw[<-hs]at K4 LO PR EQ;have HS:=zh hs;clear hs hx hc3 hs4 hn4 hok4 S4;subst hA3;have q1:((j:Nat):Int)<(n:Nat):=by omega
   go_upto_region 7 with(first
   |(go_at_call 51;refine CR.o.mono ?_;rintro e w4 ⟨rfl,hb4⟩;have J5a:=zh (J4.o.on hb4);have K5a:=zh (jbf K4.o hb4);have KW5a:=zh (KW4.o.trans (Kept.of_below (F:=fun i=>¬F1 i) hb4) (fun _ _ hf=>hf));clear hb4 CR)
   |((with_reducible show zW);refine jaa rfl (.tmp 6) (.tmp 31) rfl w4.heap.size rc Rc.none_ rfl rfl ⟨heap_alloc_new w4 _⟩ ?_))
   rw[World.setRow_alloc_new];have hb5:zF w4 (w4.alloc (.cells (Rc.cells rc) 56)):=zE;have RA:=zh (RcAt.new w4 rc);have J5:=zh (J5a.o.on hb5);have KW5:=zh (KW5a.o.trans (Kept.of_below (F:=fun i=>¬F1 i) hb5) (fun _ _ hf=>hf));have K5:Hid (BP w0 (fun i=>F1 i\/i=w4.heap.size) b s (w4.alloc (.cells (Rc.cells rc) 56))):=jbh (jiw K5a.o hb5) (fun i hi=>hi.imp id fun e=>by rw[e];exact⟨zl,by simp⟩);clear hb5 J5a K5a KW5a;obtain⟨g,hg⟩:∃g,g=w4.heap.size:=zx;rw[<-hg]at RA K5⊢;clear hg;generalize w4.alloc (.cells (Rc.cells rc) 56)=w5 at*;clear hcell hb3;by_cases hz:Bk.chk s rc=0
   ·have he:er=0:=EQ.o hz
    subst he;have CP:=zh (jl2 (jbf K5.o zD.drew) (HT.o.on0 (jar (jbf K5.o zD.drew))) HR.o).1;rw[hz]at CP;have L1:=zh (LO.o.2 hz);refine wp_region_held_drew (S:=fun V=>StJ w0 G p m d (.pointer (some ⟨b,0,none⟩)) r q X V/\RcAt V g rc) zk ⟨J5.o.on zD.drew,RA.o.on zD.drew⟩ (fun hS=> ?_);refine tY 0 hS ?_;refine tY 1 hS ?_;refine tY 2 hS ?_;refine tY 3 hS ?_;refine tY 4 hS ?_;refine tY 5 hS ?_;simp only[Act.put,zT,zO,zS];refine tZ 6 rfl (by intro W hW;have lq:=hW.1.lt;have c2:=hW.1.cells.2.2.2.1;go_simp;(try with_reducible rfl)) hS ?_;refine tZ 7 (v:= .agg (Rc.cells rc)) rfl (fun W hW=>jax (.tmp 6) rfl g rc rfl hW.2) hS ?_;simp only[Act.put,zT,zO,zS];refine rO 8 (fun K hK=> ?_);go_simp
    refine CP.o.mono ?_
    rintro e w7 ⟨rfl,hb7,hk7⟩;have KB7:=zh hb7;have KK7:=zh hk7;have hS2:=And.intro (hS.1.kept hk7 (fun i hi hn=>hn (.inl (SF.o i hi))) (jar hb7)) (RcAt.mk ((hk7.block g hS.2.cs.lt (fun hn=>hn (.inr rfl))).trans hS.2.row));clear hS hb7 hk7;have hS:=hS2;clear hS2;refine hK.out _ _ hS (fun _=> ?_);clear hK K;refine tY 9 hS ?_;refine tY 10 hS ?_;simp only[Act.put,zT,zO,zS];refine wpAnyH_done zk ?_ _;have R7:=zh hS.1;clear hS;have KW7:=zh ((KW5.o.trans (Kept.of_below (F:=fun i=>¬F1 i) zD.drew) (fun _ _ hf=>hf)).trans (KK7.o.more (G:=fun i=>¬F1 i) (fun i _ hi hf=>hi (.inl hf))) (fun _ _ hf=>hf));go_wp2_with fail;exact⟨⟨j+1,zv,by go_num,L1.o,R7.o,by rw[LO.o.1];exact jbh KB7.o (fun i hi=> .inl hi),KW7.o⟩,by simp[intOf];omega⟩
   ·have PRE:=zh (PR.o hz)
    by_cases he:er=0
    ·subst he
     have CP:=zh (jl2 (jbf K5.o zD.drew) (HT.o.on0 (jar (jbf K5.o zD.drew))) HR.o).1;have hz2:(Bk.chk s rc !=0)=true:=by simpa using hz
     have AN:=zh (Bk.app_no hz);rw[AN.o]at CP;generalize Bk.chk s rc=cc at*;refine wp_region_held_drew (S:=fun V=>StJ w0 G p m d (.pointer (some ⟨b,0,none⟩)) r q X V/\RcAt V g rc) zk ⟨J5.o.on zD.drew,RA.o.on zD.drew⟩ (fun hS=> ?_);refine tY 0 hS ?_;refine tY 1 hS ?_;refine tY 2 hS ?_;refine tY 3 hS ?_;refine tY 4 hS ?_;refine tY 5 hS ?_;simp only[Act.put,zT,zO,zS];refine tZ 6 rfl (by intro W hW;have lq:=hW.1.lt;have c2:=hW.1.cells.2.2.2.1;go_simp;(try with_reducible rfl)) hS ?_;refine tZ 7 (v:= .agg (Rc.cells rc)) rfl (fun W hW=>jax (.tmp 6) rfl g rc rfl hW.2) hS ?_;simp only[Act.put,zT,zO,zS];refine rO 8 (fun K hK=> ?_);go_simp
     refine CP.o.mono ?_
     rintro e w7 ⟨rfl,hb7,hk7⟩;have KB7:=zh hb7;have KK7:=zh hk7;have hS2:=And.intro (hS.1.kept hk7 (fun i hi hn=>hn (.inl (SF.o i hi))) (jar hb7)) (RcAt.mk ((hk7.block g hS.2.cs.lt (fun hn=>hn (.inr rfl))).trans hS.2.row));clear hS hb7 hk7;have hS:=hS2;clear hS2;refine hK.out _ _ hS (fun _=> ?_);clear hK K;refine tY 9 hS ?_;refine tY 10 hS ?_;simp only[Act.put,zT,zO,zS];refine wpAnyH_done zk ?_ _;have R7:=zh hS.1;clear hS;have KW7:=zh ((KW5.o.trans (Kept.of_below (F:=fun i=>¬F1 i) zD.drew) (fun _ _ hf=>hf)).trans (KK7.o.more (G:=fun i=>¬F1 i) (fun i _ hi hf=>hi (.inl hf))) (fun _ _ hf=>hf));go_upto_region 8 with fail
     have J8:=zh (R7.o.on zD.drew);have K8:=zh (jbf (jbh KB7.o (fun i hi=> .inl hi):BP w0 F1 b s w7) zD.drew);have O8:=zh (fun i (hi:G i)=>(KW7.o.block i (Nat.lt_of_lt_of_le (J3.o.g i hi) zl) (fun hn=>hn (GF.o i hi))).trans (O3.o i hi));have S8:=zh (SlS.on (jd1 NL.o (OF3.o.kept (KW7.o) (fun i h1 h2 hn=>hn (EF.o i h1 h2)))) zD.drew);have CW:=zh (jk0 J8.o.jrn J8.o.fresh (S8.o.take (k:=j) zv) (by rw[List.length_take];have:=HN.o;omega) (fun x hx=>Nat.le_trans (HOK.o x (List.mem_of_mem_take hx)).2.1 zv));rw[SWP.o.1,SWP.o.2]at CW;refine wp_region_held_drew (S:=fun V=>∃d' X',StJ w0 G p m d' (.pointer (some ⟨b,0,none⟩)) r q X' V) zk ⟨_,_,J8.o⟩ (fun hS=> ?_);refine tY 0 hS ?_;refine tY 1 hS ?_;refine tY 2 hS ?_;refine tZ 3 rfl (by intro W hW;obtain⟨d',X',hV⟩:=hW;have lq:=hV.lt;have c1:=hV.cells.2.2.1;go_simp;(try with_reducible rfl)) hS ?_;refine tY 4 hS ?_;refine tY 5 hS ?_;simp only[Act.put,zT,zO,zS];refine tZ 6 rfl (by intro W hW;have jc:j<=c3:=zv;go_simp;(try with_reducible rfl)) hS ?_;simp only[Act.put,zT,zO,zS];refine rO 7 (fun K hK=> ?_);go_simp
     refine CW.o.mono ?_
     rintro e w9 ⟨rfl,hj9,hk9⟩;have T9:=zh (J8.o.turn hj9 hk9);have B9:=zh (J8.o.book (jbh K8.o SF.o) hk9);have O9:=zh (J8.o.others hk9);have hS2:(fun V=>∃d' X',StJ w0 G p m d' (.pointer (some ⟨b,0,none⟩)) r q X' V) w9:=⟨_,_,T9.o⟩;clear CW hj9 hk9 hS;have hS:=hS2;clear hS2;refine hK.out _ _ hS (fun _=> ?_);clear hK K;try simp only[Act.put,zT,zO,zS]
     refine wpAnyH_done zk ?_ _;clear hS;go_wp2;go_ret;have e:So.disk R (So.pre (Bk.new m) (So.recs ps))=Jn.Js R j (ps.take j):=by unfold So.disk;rw[PRE.o.1,PRE.o.2.1,PRE.o.2.2]
     have T10:=T9.o;rw[<-e]at T10;have B10:=B9.o;rw[HS.o,<-PRE.o.1]at B10;exact⟨by rw[PRE.o.1,PRE.o.2.1,<-NL.o];rfl,⟨So.pre_cnt _ _,r,q,b,_,T10,B10⟩,fun i hi=>(O9.o i hi).trans (O8.o i hi)⟩
    ·have he2:(er !=0)=true:=by simpa using he
     refine wp_region_held_drew (S:=fun V=>StJ w0 G p m d (.pointer (some ⟨b,0,none⟩)) r q X V/\RcAt V g rc) zk ⟨J5.o.on zD.drew,RA.o.on zD.drew⟩ (fun hS=> ?_);refine tY 0 hS ?_;refine tY 1 hS ?_;refine tY 2 hS ?_;refine tN 3 hS ?_;refine tN 4 hS ?_;refine tN 5 hS ?_;simp only[Act.put,zT,zO,zS];refine tN 6 hS ?_;refine tN 7 hS ?_;refine tN 8 hS ?_;refine tN 9 hS ?_;refine tY 10 hS ?_;simp only[Act.put,zT,zO,zS];refine wpAnyH_done zk ?_ _;have R7:=zh hS.1;clear hS;have KW7:=zh (KW5.o.trans (Kept.of_below (F:=fun i=>¬F1 i) (Below.refl w5.heap.size w5).drew) (fun _ _ hf=>hf));have KB7:=zh (jbf K5.o (Below.refl w5.heap.size w5).drew);generalize w5.drew=w7 at*;go_upto_region 8 with fail
     have J8:=zh (R7.o.on zD.drew);have K8:=zh (jbf (jbh KB7.o (fun i hi=> .inl hi):BP w0 F1 b s w7) zD.drew);have O8:=zh (fun i (hi:G i)=>(KW7.o.block i (Nat.lt_of_lt_of_le (J3.o.g i hi) zl) (fun hn=>hn (GF.o i hi))).trans (O3.o i hi));have S8:=zh (SlS.on (jd1 NL.o (OF3.o.kept (KW7.o) (fun i h1 h2 hn=>hn (EF.o i h1 h2)))) zD.drew);have CW:=zh (jk0 J8.o.jrn J8.o.fresh (S8.o.take (k:=j) zv) (by rw[List.length_take];have:=HN.o;omega) (fun x hx=>Nat.le_trans (HOK.o x (List.mem_of_mem_take hx)).2.1 zv));rw[SWP.o.1,SWP.o.2]at CW;refine wp_region_held_drew (S:=fun V=>∃d' X',StJ w0 G p m d' (.pointer (some ⟨b,0,none⟩)) r q X' V) zk ⟨_,_,J8.o⟩ (fun hS=> ?_);refine tY 0 hS ?_;refine tY 1 hS ?_;refine tY 2 hS ?_;refine tZ 3 rfl (by intro W hW;obtain⟨d',X',hV⟩:=hW;have lq:=hV.lt;have c1:=hV.cells.2.2.1;go_simp;(try with_reducible rfl)) hS ?_;refine tY 4 hS ?_;refine tY 5 hS ?_;simp only[Act.put,zT,zO,zS];refine tZ 6 rfl (by intro W hW;have jc:j<=c3:=zv;go_simp;(try with_reducible rfl)) hS ?_;simp only[Act.put,zT,zO,zS];refine rO 7 (fun K hK=> ?_);go_simp
     refine CW.o.mono ?_
     rintro e w9 ⟨rfl,hj9,hk9⟩;have T9:=zh (J8.o.turn hj9 hk9);have B9:=zh (J8.o.book (jbh K8.o SF.o) hk9);have O9:=zh (J8.o.others hk9);have hS2:(fun V=>∃d' X',StJ w0 G p m d' (.pointer (some ⟨b,0,none⟩)) r q X' V) w9:=⟨_,_,T9.o⟩;clear CW hj9 hk9 hS;have hS:=hS2;clear hS2;refine hK.out _ _ hS (fun _=> ?_);clear hK K;try simp only[Act.put,zT,zO,zS]
     refine wpAnyH_done zk ?_ _;clear hS;go_wp2;go_ret;have e:So.disk R (So.pre (Bk.new m) (So.recs ps))=Jn.Js R j (ps.take j):=by unfold So.disk;rw[PRE.o.1,PRE.o.2.1,PRE.o.2.2]
     have T10:=T9.o;rw[<-e]at T10;have B10:=B9.o;rw[HS.o,<-PRE.o.1]at B10;exact⟨by rw[PRE.o.1,PRE.o.2.1,<-NL.o];rfl,⟨So.pre_cnt _ _,r,q,b,_,T10,B10⟩,fun i hi=>(O9.o i hi).trans (O8.o i hi)⟩
  ·have ej:j=n:=by omega
   have q1:((n:Nat):Int)<=(j:Nat):=by omega
   have PRE:=zh (So.load_at (m:=m) (ps:=ps) (j:=j) (by have:=NL.o;omega) CN.o (fun hx=>absurd hx (by have:=NL.o;omega)));have EJ:Hid (ps.take j=ps/\j=ps.length):=⟨List.take_of_length_le (by have:=NL.o;omega),by have:=NL.o;omega⟩;have KW7:=KW4;clear ej;go_wp2;go_ret;have EP:=EJ.o.1;have PR:=PRE.o;rw[EP]at PR;refine⟨by rw[PR.1,PR.2.1,EJ.o.2];simp,⟨So.pre_cnt _ _,r,q,b,X,?_,?_⟩,fun i (hi:G i)=>(KW7.o.block i (Nat.lt_of_lt_of_le (J3.o.g i hi) zl) (fun hn=>hn (GF.o i hi))).trans (O3.o i hi)⟩
   ·have e:So.disk R (So.pre (Bk.new m) (So.recs ps))=d:=by unfold So.disk;rw[PR.1,PR.2.1,PR.2.2,HD.o,EJ.o.2]
    rw[e];exact J4.o
   ·rw[PR.1]
    exact jbh K4.o SF.o
theorem So.opened_is{d:Dk.St}(hb:Jn.Byt d):Jn.opened d=Jn.Js d.room (Jn.ents d).length (Jn.ents d):=by
 obtain⟨h1,h2,h3,_,_⟩:=Jn.opened_l d hb;unfold Jn.Js;rw[List.take_length,<-h1];rw[<-h1]at h2;generalize Jn.opened d=x at*
 cases x
 simp only at h2 h3;subst h2 h3;rfl
noncomputable def So.of(m:Int)(bs:List Nat):List Rc.R:=So.pre (Bk.new m) (So.recs (Fr.scan bs).1)
def noG:Nat->Prop:=fun _=>False
theorem jhb(W:World){A:Option Addr}{n c:Nat}{bs:List Nat}(hs:Sl W A n c bs)(room margin:Int)(ht:BT W)(hf:bs.length<=Dk.fits room)(hn:(Fr.scan bs).1.length<=1000):Calls Tryz.prog 11 #[.slice A n c,.int .i64 room,.int .i64 margin] W (fun e w'=>∃p,e= .returned (.tuple #[.pointer (some ⟨p,0,none⟩),.int .i64 (((Fr.scan bs).1.length:Int) -((So.of margin bs).length:Nat)),zi])/\SA W noG p margin (Dk.fits room) (So.of margin bs) w'):=by
 unfold So.of;have S0:=zh hs;have HT:=zh ht;have HB:=zh hs.rd.1;have CN:=zh (dNew_at W room zD);clear hs ht;have e1:Dk.swap (Dk.new room) bs=⟨Dk.fits room,bs.length,bs⟩/\Dk.swapE (Dk.new room) bs=0:=by
  unfold Dk.swap Dk.swapE;rw[if_pos (show bs.length<=(Dk.new room).room from hf),if_pos (show bs.length<=(Dk.new room).room from hf)];exact⟨rfl,rfl⟩
 have E1:=zh e1;have HN:=zh hn;have OD:=zh (So.opened_is (d:=⟨Dk.fits room,bs.length,bs⟩) HB.o);have SG:=zh (Jn.scan_gives bs HB.o);clear e1 hf hn;obtain⟨ps,hps⟩:∃ps,ps=(Fr.scan bs).1:=zx;rw[<-hps]at HN SG⊢;have e2:Jn.ents ⟨Dk.fits room,bs.length,bs⟩=ps:=hps.symm;rw[e2]at OD;clear e2 hps;go_in;go_upto_region 2 with(go_at_call 30;refine CN.o.mono ?_;rintro e w1 ⟨r,rfl,hr,hd1,hb1,_⟩;have D1:=zh hd1;have B1:=zh hb1;clear hr hd1 hb1 CN)
 have CS:=zh (jt8 w1 B1.o D1.o (S0.o.on B1.o));rw[E1.o.1,E1.o.2]at CS;go_upto_region 5 with(go_at_call 31;refine CS.o.mono ?_;rintro e w2 ⟨rfl,hd2,hb2⟩;have D2:=zh hd2;have B2:=zh hb2;clear hd2 hb2 CS)
 have CO:=zh (jOpen_x w2 (X:=fun i=>W.heap.size<=i) (D2.o.toX fun i hi _=>hi) (fun i hi=>Nat.le_trans B2.o.size hi) HB.o);rw[OD.o]at CO;obtain⟨cl,hcl⟩:∃cl:Int,cl=((((⟨Dk.fits room,bs.length,bs⟩:Dk.St).l.length:Nat):Int) -(Jn.cutN ⟨Dk.fits room,bs.length,bs⟩:Nat)):=zx;rw[<-hcl]at CO;clear hcl;obtain⟨q,hq⟩:∃q,q=w2.heap.size:=zx;rw[<-hq]at CO;clear hq;clear OD;go_upto_region 7 with(go_at_call 32;refine CO.o.mono ?_;rintro e w3 ⟨rfl,hj3,hk3⟩;have J3:=zh hj3;have B3:=zh (B2.o.trans (hk3.below B2.o.size fun i hi=>hi));have Z3:=zh hk3.size;clear hj3 hk3 CO)
 have hb4:zF w3 (w3.alloc (.cells #[.pointer (some ⟨r,0,none⟩),.pointer (some ⟨q,0,none⟩),.pointer none,.int .i64 margin] 70)):=zE;have J4:Hid (StJ W noG w3.heap.size margin (Jn.Js (Dk.fits room) ps.length ps) (.pointer none) r q (fun i=>W.heap.size<=i/\i<w3.heap.size) (w3.alloc (.cells #[.pointer (some ⟨r,0,none⟩),.pointer (some ⟨q,0,none⟩),.pointer none,.int .i64 margin] 70))):=
  ⟨heap_alloc_new w3 _,(J3.o.more fun i hi hl=>⟨hi,hl⟩).below hb4,fun i hi=>⟨hi.1,Nat.lt_of_lt_of_le hi.2 hb4.size,Nat.ne_of_lt hi.2,fun hf=>hf⟩,⟨fun hf=>hf,B3.o.size⟩,fun i hi=>hi.elim,B3.o.trans (hb4.mono B3.o.size)⟩
 have CL:=zh (jha J4.o HT.o SG.o.1 HN.o).1;clear hb4 J3 D2 D1;obtain⟨p,hp⟩:∃p,p=w3.heap.size:=zx;rw[<-hp]at CL⊢;clear hp J4;generalize w3.alloc (.cells #[.pointer (some ⟨r,0,none⟩),.pointer (some ⟨q,0,none⟩),.pointer none,.int .i64 margin] 70)=w4 at*;go_wp2_with(go_at_call 33;refine CL.o.mono ?_;rintro e w5 ⟨rfl,hs5,_⟩;have A5:=zh hs5;clear hs5 CL);go_ret3;exact⟨p,rfl,A5.o⟩
theorem jkj(W:World)(room margin:Int)(ht:BT W):Calls Tryz.prog 13 #[.int .i64 room,.int .i64 margin] W (fun e w'=>∃p,e= .returned (.pointer (some ⟨p,0,none⟩))/\SA W noG p margin (Dk.fits room) [] w'):=by
 have C:=zh (jhb W (Sl.none_ W) room margin ht (Nat.zero_le _) (by rw[Fr.scan_nil];exact Nat.zero_le _));have e:So.of margin []=[]:=by unfold So.of;rw[Fr.scan_nil];rfl
 rw[e,Fr.scan_nil]at C;clear ht e;go_in;go_wp2_with(go_at_call 11;refine C.o.mono ?_;rintro e w1 ⟨p,rfl,hs⟩;have A1:=zh hs;clear hs);go_ret;exact⟨p,rfl,A1.o⟩
open Go.RowKit
namespace Bk
theorem app_us{s:St}{r:Rc.R}{i:Nat}(hi:16<=i):(app s r).us i=s.us i:=by
 unfold app;split
 ·rename_i hc
  have hr:=chk_right hc;unfold act;split
  ·rfl
  ·split
   ·rfl
   ·split
    ·rfl
    ·split
     ·rfl
     ·split
      ·rename_i h5
       obtain⟨⟨h1,h2⟩,_⟩:=Rc.right5 h5 hr;show(if i=r.who.toNat then _ else s.us i)=_;rw[if_neg zv]
      ·split
       ·rename_i h6
        obtain⟨⟨h1,h2⟩,_⟩:=Rc.right6 h6 hr;show(if i=r.who.toNat then _ else s.us i)=_;rw[if_neg zv]
       ·split<;>rfl
 ·rfl
theorem run_us{i:Nat}(hi:16<=i):∀(l:List Rc.R) (s:St),(run s l).us i=s.us i
 |[],_=>rfl
 |r::l,s=>by
  show(run (app s r) l).us i=_;rw[run_us hi l,app_us hi]
theorem like_eq{m:Int}{a b:List Rc.R}(h:Like (all m a) (all m b)):all m a=all m b:=by
 have hm:(all m a).m=(all m b).m:=by unfold all;rw[run_m,run_m]
 have hu:(all m a).us=(all m b).us:=by
  funext i;rcases Nat.lt_or_ge i 16 with hi|hi
  ·exact h.us i hi
  ·unfold all;rw[run_us hi,run_us hi]
 obtain⟨h1,h2,h3,h4,h5,h6,h7,h8,h9,h10,h11,_,h13,h14⟩:=h;generalize all m a=x at*;generalize all m b=y at*
 cases x
 cases y
 simp only at*;subst h1 h2 h3 h4 h5 h6 h7 h8 h9 h10 h11 h13 h14 hm hu;rfl
theorem dgo_sub:∀(l:List Rc.R) (b:St),(dgo b l).Sublist l
 |[],_=>List.Sublist.slnil
 |r::l,b=>by
  rw[dgo];split
  ·exact(dgo_sub l b).cons r
  ·exact(dgo_sub l _).cons_cons r
theorem dgo_keeps:∀(l:List Rc.R) (b:St),Like (run b (dgo b l)) (run b l)/\refs b (dgo b l)=refs b l
 |[],_=>⟨⟨rfl,rfl,rfl,rfl,rfl,rfl,rfl,rfl,rfl,rfl,rfl,fun _ _=>rfl,rfl,rfl⟩,rfl⟩
 |r::l,b=>by
  rw[dgo];split
  ·rename_i h
   obtain⟨_,hc,h1,h2⟩:=h;obtain⟨g1,g2⟩:=dgo_keeps l b;have e:refs b (r::l)=0+refs (app b r) l:=by rw[refs_cons,if_pos hc]
   refine⟨g1.trans ?_,zv⟩;show Like _ (run (app b r) l);exact⟨h1.ep.symm,h1.who.symm,h1.till.symm,h1.stable.symm,h1.from_.symm,h1.ph.symm,h1.step.symm,h1.since.symm,h1.begun.symm,h1.seq.symm,h1.sp.symm,fun i hi=>(h1.us i hi).symm,h1.vs.symm,h1.h.symm⟩
  ·obtain⟨g1,g2⟩:=dgo_keeps l (app b r)
   refine⟨g1,?_⟩;rw[refs_cons,refs_cons,g2]
theorem all_dgo(m:Int)(l:List Rc.R):all m (dgo (new m) l)=all m l:=like_eq (dgo_keeps l (new m)).1
end Bk
namespace So
open Bk
theorem took_dgo{m:Int}{l:List Rc.R}(h:Took m l):Took m (dgo (new m) l):=by
 have h1:=(dgo_keeps l (new m)).2;unfold Took at*;unfold refs at h1;omega
theorem all_sub{a b:List Rc.R}(h:a.Sublist b):(Fr.all (ens a)).length<=(Fr.all (ens b)).length:=by
 induction h with
 |slnil=>exact zl
 |cons x _ ih=>
  refine Nat.le_trans ih ?_;show _<=(Fr.all ([Rc.bytes x]++ens _)).length;rw[Fr.all_append,zA];omega
 |cons_cons x _ ih=>
  show(Fr.all ([Rc.bytes x]++ens _)).length<=(Fr.all ([Rc.bytes x]++ens _)).length;rw[Fr.all_append,Fr.all_append,zA,zA];omega
theorem disk_dgo{m:Int}{R:Nat}{l:List Rc.R}(h:Took m l)(hr:(Fr.all (ens l)).length<=R):Jn.swap (disk R l) (ens (dgo (new m) l))=disk R (dgo (new m) l)/\Jn.swapE (disk R l) (ens (dgo (new m) l))=0:=by
 have hR:∀r∈dgo (new m) l,Rc.right r=true:=took_right (took_dgo h);have:=Jn.js_swap (R:=R) (k:=l.length) (ps:=ens l) (qs:=ens (dgo (new m) l)) (ens_ok hR) (Nat.le_trans (all_sub (dgo_sub l _)) hr);rw[ens_len]at this;exact this
theorem of_all{m:Int}{l:List Rc.R}(h:Took m l):of m (Fr.all (ens l))=l/\(Fr.scan (Fr.all (ens l))).1=ens l:=by
 have e:=Fr.scan_all (ens_ok (took_right h)) [];rw[List.append_nil,Fr.scan_nil,List.append_nil]at e;have e1:(Fr.scan (Fr.all (ens l))).1=ens l:=by rw[e]
 refine⟨?_,e1⟩;unfold of;rw[e1];show pre (new m) (recs (ens l))=l;rw[recs_ens (took_right h)];exact pre_all h
end So
open Go.Deep Go.Maps
theorem jhc{w0 W:World}{G:Nat->Prop}{p R:Nat}{m:Int}{L:List Rc.R}(h:SA w0 G p m R L W):Calls Tryz.prog 7 #[.pointer (some ⟨p,0,none⟩)] W (jd8 W (.int .i64 (L.length:Nat))):=by
 have HR:=h.right;obtain⟨_,r,q,b,X,h1,_⟩:=h;have lq:=h1.lt;have cc:=h1.cells.2.2.1;have C:=zh (jua h1.jr.ask);have e0:(Fr.scan (So.disk R L).l).1=So.ens L:=Jn.js_ents (So.ens_ok HR);rw[e0,So.ens_len]at C;clear h1 HR;go_in;go_wp2_with(go_at_call 22;refine C.o.mono ?_;rintro e w1 ⟨rfl,hb⟩);go_ret;exact⟨rfl,hb⟩
theorem jh7{w0 W:World}{G:Nat->Prop}{p R:Nat}{m:Int}{L:List Rc.R}(h:SA w0 G p m R L W):Calls Tryz.prog 8 #[.pointer (some ⟨p,0,none⟩)] W (jd8 W (.int .i64 ((R -(Fr.all (So.ens L)).length:Nat)))):=by
 have HR:=h.right;obtain⟨_,r,q,b,X,h1,_⟩:=h;have lq:=h1.lt;have cc:=h1.cells.2.2.1;have C:=zh (jpu h1.jr.ask);clear h1 HR;go_in;go_wp2_with(go_at_call 23;refine C.o.mono ?_;rintro e w1 ⟨rfl,hb⟩);go_ret;exact⟨rfl,hb⟩
theorem jl3{w0 W:World}{G:Nat->Prop}{p R:Nat}{m:Int}{L:List Rc.R}(h:SA w0 G p m R L W):Calls Tryz.prog 12 #[.pointer (some ⟨p,0,none⟩)] W (jep (Fr.all (So.ens L)) W):=by
 have HR:=h.right;obtain⟨_,r,q,b,X,h1,_⟩:=h;have lq:=h1.lt;have cc:=h1.cells.2.1;have C:=zh (jmo W h1.jr.dsk);clear h1 HR;go_in;go_wp2_with(go_at_call 34;refine C.o.mono ?_;rintro e w1 ⟨A,c,rfl,ho,hb⟩);go_ret;exact⟨A,c,rfl,ho,hb⟩
theorem je6{w0 W:World}{G:Nat->Prop}{p R:Nat}{m:Int}{L:List Rc.R}(h:SA w0 G p m R L W)(hn:L.length<=1000):Calls Tryz.prog 21 #[.pointer (some ⟨p,0,none⟩)] W (jnx Bk.rcC L W):=by
 have HRT:=zh h.right;have HN:=zh hn;obtain⟨_,r,q,b,X,h1,_⟩:=h;have lq:=h1.lt;have c1:=h1.cells.2.2.1;have CA:=zh (jmp h1.jr.ask);have e0:(Fr.scan (So.disk R L).l).1=So.ens L:=Jn.js_ents (So.ens_ok HRT.o);rw[e0]at CA;unfold JAllF at CA;unfold jnx;rw[So.ens_len]at CA;clear h1 e0 hn;obtain⟨own,hown⟩:∃own:Value,own= .slice none 0 0:=zx;obtain⟨n,hnn⟩:∃n,n=L.length:=zx;have NL:=zh hnn;rw[<-hnn]at CA HN⊢;clear hnn;have OWN:=zh hown;go_in;go_upto_region 5 with(go_at_call 50;refine CA.o.mono ?_;rintro e w3 ⟨A3,c3,rfl,ho3,hb3⟩;have OF3:=zh ho3;have B3:=zh hb3;clear ho3 hb3)
 clear lq c1 CA;have S3:=zh (jd1 (by rw[So.ens_len];exact NL.o) OF3.o);have Z3:=zh B3.o.size;have hcap:=S3.o.cap;have hmax:=S3.o.max;unfold maxLen at hmax;have hn2:(n:Int)<=1000:=by have:=HN.o;omega
 rw[<-OWN.o];clear hown;go_loopw [3,16] (fun v i wr=>∃j:Nat,j<=n/\i= .int .i64 j/\OwF Bk.rcC 18 56 wr w3.heap.size v (L.take j)/\zF w3 wr) (fun _ i _=>n -(intOf i).toNat)
 case atStart=>exact⟨0,Nat.zero_le _,rfl,by rw[OWN.o];exact OwF.none_ _ _ _,zD⟩
 case round=>
  obtain⟨j,hj,rfl,ho4,hb4⟩:=hrel;have O4:=zh ho4;have B4:=zh hb4;have S4:=zh (S3.o.on hb4);clear ho4 hb4;have i1:(0:Int)<=(j:Int):=by omega
  by_cases hlt:j<n
  ·have HLT:Hid (j<L.length):=by show _<_;have:=NL.o;omega
   obtain⟨b3,o3,hA3,hb3,hc3⟩:=S4.o.rd (by rw[So.ens_len];have:=HLT.o;omega);obtain⟨A4,n4,c4,hcell,hs4⟩:=hc3 j (by rw[So.ens_len];exact HLT.o);have hx:(So.ens L).getD j []=Rc.bytes (L[j]'HLT.o):=by rw[List.getD_eq_getElem?_getD,List.getElem?_eq_getElem (by rw[So.ens_len];exact HLT.o)];unfold So.ens;rw[List.getElem_map];rfl
   have TK:L.take (j+1)=L.take j++[L[j]'HLT.o]:=List.take_succ_eq_append_getElem HLT.o;have RT:=zh (HRT.o _ (List.getElem_mem HLT.o));rw[hx]at hs4;generalize L[j]'HLT.o=rc at*;have hn4:n4<=1000:=by have:=hs4.len;have:=Rc.bytes_len RT.o;omega
   have CR:=zh (jki wr A4 n4 c4 _ hs4 hn4);rw[(Rc.rd_back RT.o).1,(Rc.rd_back RT.o).2]at CR;have TK:=zh TK;clear hx hc3 hs4 hn4;subst hA3;have q1:((j:Nat):Int)<(n:Nat):=by omega
   go_upto_region 8 with(first
   |(go_at_call 51;refine CR.o.mono ?_;rintro e w4 ⟨rfl,hb5⟩;have O5:=zh (O4.o.below hb5);have B5:=zh (B4.o.trans (hb5.mono B4.o.size));clear hb5 CR)
   |((with_reducible show zW);refine jaa rfl (.tmp 6) (.tmp 23) rfl w4.heap.size rc Rc.none_ rfl rfl ⟨heap_alloc_new w4 _⟩ ?_))
   rw[World.setRow_alloc_new];have hb6:zF w4 (w4.alloc (.cells (Rc.cells rc) 56)):=zE;have RA:=zh (RcAt.new w4 rc);have O6:=zh (O5.o.below hb6);have B6:=zh (B5.o.trans (hb6.mono B5.o.size));clear hb6 O5 B5;obtain⟨g,hg⟩:∃g,g=w4.heap.size:=zx;rw[<-hg]at RA⊢;clear hg;generalize w4.alloc (.cells (Rc.cells rc) 56)=w6 at*;clear hcell hb3
   go_wp2_with(first
   |((with_reducible show zL 26);refine zR (.tmp 6) RA.o ?_)
   |((with_reducible show zB 27);refine jap Tryz.underlying22 ja0 zv zv rfl (.tmp 26) rfl (Rc.cells rc) rfl rfl ?_)
   |(at_builtin;refine jaf Bk.rcC_len Bk.rcC_one Tryz.underlying22 ja0 rfl zv rfl (.tmp 25) (.tmp 27) rfl w3.heap.size _ _ rfl O6.o rc rfl (by have:=HN.o;have:=HLT.o;have:=NL.o;rw[List.length_take];unfold maxLen;omega) (by have:=HN.o;have:=HLT.o;have:=NL.o;rw[List.length_take];omega) B6.o.size ?_;intro v9 w9 ho9 hb9 hg9 hv9;have O9:=zh ho9;have B9:=zh (B6.o.trans hb9);clear ho9 hb9 hg9 hv9))
   exact⟨⟨j+1,zv,by go_num,by rw[TK.o];exact O9.o,B9.o⟩,by simp[intOf];omega⟩
  ·have q1:((n:Nat):Int)<=(j:Nat):=by omega
   have e:L.take j=L:=List.take_of_length_le (by have:=NL.o;omega);rw[e]at O4;obtain⟨A9,c9,rfl⟩:=O4.o.form;clear e;go_wp2;go_ret;have hn9:=NL.o;subst hn9;exact⟨A9,c9,rfl,O4.o.sl,B3.o.trans (B4.o.mono Z3.o),fun bb oo e=>Nat.le_trans Z3.o (O4.o.lt bb (by rw[e];rfl)).1⟩
theorem jd2{w0 W:World}{G:Nat->Prop}{p R:Nat}{m:Int}{L:List Rc.R}(h:SA w0 G p m R L W)(ht:BT w0)(hn:L.length<=1000):Calls Tryz.prog 6 #[.pointer (some ⟨p,0,none⟩)] W (fun e w'=>∃q',e= .returned (.pointer (some ⟨q',0,none⟩))/\BP W (fun _=>False) q' (Bk.all m L) w'):=by
 have CR:=zh (je6 (h.on (Below.refl W.heap.size W).drew) hn);have HN:=zh hn;have HT:=zh ht;have HIN:Hid (∀r∈L,Rc.In r):=fun r hr=>Rc.ok_in (Rc.ok_of (h.right r hr));obtain⟨_,r,q,b,X,h1,_⟩:=h;have J0:=zh h1;clear h1 hn ht;go_in;go_upto_region 3 with fail
 refine wp_region_held_drew (S:=fun V=>StJ w0 G p m (So.disk R L) (.pointer (some ⟨b,0,none⟩)) r q X V) zk (J0.o.on zD.drew) (fun hS=> ?_);refine tY 0 hS ?_;refine tY 1 hS ?_;refine tY 2 hS ?_;refine tZ 3 rfl (by intro W hW;have lq:=hW.lt;have c3:=hW.cells.2.2.2.2;go_simp;(try with_reducible rfl)) hS ?_;refine tY 4 hS ?_;simp only[Act.put,zT,zO,zS];refine rO 5 (fun K hK=> ?_);go_simp
 refine CR.o.mono ?_
 rintro e w4 ⟨A4,c4,rfl,hs4,hb,_⟩;have S4:=zh hs4;have B4:=zh hb;have CA:=zh (jm4 m A4 L.length c4 L HIN.o w4 hs4 (by have:=HN.o;omega) (HT.o.on0 (hS.on hb).below));clear hs4;replace hS:=hS.on hb;clear hb;refine hK.out _ _ hS (fun _=> ?_);clear hK K;try simp only[Act.put,zT,zO,zS]
 refine rO 6 (fun K hK=> ?_);go_simp
 refine CA.o.mono ?_
 intro e w5 hp;obtain⟨q5,rfl,hb5⟩:=bp_made hp;have K5:=zh hb5;have hb:=jar hb5;have B5:=zh (B4.o.trans (hb.mono B4.o.size));clear hb5 hp;replace hS:=hS.on hb;clear hb;refine hK.out _ _ hS (fun _=> ?_);clear hK K;refine tY 7 hS ?_;refine tY 8 hS ?_;refine tY 9 hS ?_;refine tY 10 hS ?_;refine tY 11 hS ?_;simp only[Act.put,zT,zO,zS];refine wpAnyH_done zk ?_ _;clear hS;go_wp2;go_ret;exact⟨q5,rfl,jr3 K5.o ((Below.refl W.heap.size W).drew.trans B4.o) (fun i hi=>hi.elim)⟩
namespace Bd
def tw(M:Int)(e:Nat):Ls.St:=⟨M,if e=0 then[]else[⟨leader,0,e,0,true⟩]⟩
theorem put_one(x y:Ls.En)(hx:x.name=leader)(hy:y.name=leader):Ls.put [x] y=[y]:=by
 unfold Ls.put;rw[Ls.dropK_cons,hy,if_pos hx];rfl
theorem jie(y:Ls.En):Ls.put [] y=[y]:=rfl
theorem find_one(x:Ls.En)(hx:x.name=leader):Ls.find [x] leader=some x:=by rw[Ls.find_cons,if_pos hx]
theorem tw_find(M:Int)(e:Nat):Ls.find (tw M e).l leader=if e=0 then none else some ⟨leader,0,e,0,true⟩:=by
 unfold tw;by_cases h:e=0
 ·rw[if_pos h,if_pos h];rfl
 ·rw[if_neg h,if_neg h];exact find_one _ rfl
open Classical in
theorem tw_take(M:Int)(e:Nat){who now ttl:Int}(hr:Ls.Right leader who now ttl):Ls.takeE (tw M e) leader who now ttl=0/\Ls.takeS (tw M e) leader who now ttl=⟨M,[⟨leader,who,(e:Int)+1,Ls.late now ttl,false⟩]⟩:=by
 have hf:Ls.Free (tw M e) leader now:=fun en he=>by
  rw[tw_find]at he;split at he
  ·cases he
  ·injection he with he;subst he;exact .inl rfl
 have h0:Ls.takeE (tw M e) leader who now ttl=0:=by
  unfold Ls.takeE;rw[if_neg (fun h=>h hr),if_neg (fun h=>h hf)]
 refine⟨h0,?_⟩;unfold Ls.takeS;rw[if_pos h0];unfold Ls.taken Ls.epochOf;rw[tw_find];unfold tw;by_cases h:e=0
 ·subst h;rfl
 ·simp only[if_neg h]
  rw[put_one _ _ rfl rfl]
open Classical in
theorem tw_drop(M:Int)(e:Nat)(t:Int):Ls.dropE ⟨M,[⟨leader,0,(e:Int)+1,t,false⟩]⟩ leader 0 ((e:Int)+1)=0/\Ls.dropS ⟨M,[⟨leader,0,(e:Int)+1,t,false⟩]⟩ leader 0 ((e:Int)+1)=tw M (e+1):=by
 have h0:Ls.dropE ⟨M,[⟨leader,0,(e:Int)+1,t,false⟩]⟩ leader 0 ((e:Int)+1)=0:=by
  unfold Ls.dropE;rw[find_one _ rfl];show(if Ls.Other _ _ _ then 8 else if false=true then 10 else 0)=0;rw[if_neg (by unfold Ls.Other;simp),if_neg (by simp)]
 refine⟨h0,?_⟩;unfold Ls.dropS;rw[if_pos h0];unfold Ls.droppedS;rw[find_one _ rfl];show(⟨M,Ls.put [_] ⟨leader,0,(e:Int)+1,0,true⟩⟩:Ls.St)=_;rw[put_one _ _ rfl rfl];unfold tw;rw[if_neg zv];simp
theorem tw_few(M:Int){e n:Nat}(h1:e<=n)(h2:1<=n):Ls.Few (tw M e) n:=by
 unfold tw Ls.Few;by_cases h:e=0
 ·simp[h]
 ·simp only[if_neg h,List.mem_singleton,List.length_singleton]
  refine⟨fun x hx=> ?_,h2⟩;subst hx;show(e:Int)<=n;omega
theorem right_leader{who now ttl:Int}(h1:0<=who/\who<=63)(h2:0<=now/\now<=1099511627776)(h3:1<=ttl/\ttl<=1048576):Ls.Right leader who now ttl:=⟨by decide,by decide,h1.1,h1.2,h2,h3.1,h3.2⟩
theorem tw_last{s:Bk.St}(hk:Lok s){M:Int}{e:Nat}(he:(e:Int)+1=s.ep):Ls.takeS (tw M e) leader s.who (s.till -1) 1=tab {s with m:=M}:=by
 have h1:=hk.t1 zv;have h2:=hk.ok.till;have h3:=hk.ok.who;rw[(tw_take M e (right_leader h3 ⟨zv,zv⟩ ⟨zv,zv⟩)).2,tab_some (s:={s with m:=M}) (show s.ep≠0 by omega)]
 have:Ls.late (s.till -1) 1=s.till:=by unfold Ls.late;omega
 rw[this,he]
end Bd
theorem lsx_of{W:World}{q:Nat}{cs:Array Value}{ty:TypeId}{mo:Option Nat}{s:Ls.St}(h:LsIs W q cs ty mo s):LsX W (fun i=>i=q\/mo=some i) q mo:=
 ⟨.inl rfl,fun m e=> .inr e,fun i hi=>by
  rcases hi with rfl|e
  ·exact h.cells.2.2.2
  ·subst e;exact MapW.Opt.lt h.map⟩
def jl4(s:Bk.St)(m:Int)(W:World)(e:Ending)(w':World):Prop:=
 ∃mo,e= .returned (.agg #[.int .i64 (min (max m 0) 1048576),.map mo])/\LM.Opt w' mo (Ls.zOf (Bd.tab {s with m:=min (max m 0) 1048576}).l) (Bd.tab {s with m:=min (max m 0) 1048576}).l.length/\(∀b,mo=some b->W.heap.size<=b)/\zF W w'
structure TwAt(w0 W:World)(q:Nat)(M:Int)(mo:Option Nat)(s:Ls.St):Prop where
 is:LsIs W q #[.int .i64 M,.map mo] 78 mo s
 q0:w0.heap.size<=q
 m0:∀b,mo=some b->w0.heap.size<=b
 below:zF w0 W
theorem TwAt.turn{w0 W:World}{q:Nat}{M:Int}{mo:Option Nat}{s s':Ls.St}{v:Value}{e:Ending}{w':World}(h:TwAt w0 W q M mo s)(hp:jh0 q #[.int .i64 M,.map mo] 78 mo s' v W e w'):e= .returned v/\∃mo',TwAt w0 w' q M mo' s':=by
 obtain⟨mo',rfl,h1,h2,h3⟩:=hp;refine⟨rfl,mo',h1,h.q0,fun b hb=> ?_,h.below.trans (h2.below h.below.size fun i hi=> ?_)⟩
 ·rcases h3 b hb with h4|h4
  ·exact h.m0 b h4
  ·exact Nat.le_trans h.below.size h4
 ·rcases hi with rfl|hi
  ·exact h.q0
  ·exact h.m0 i hi
theorem TwAt.take{w0 W:World}{q:Nat}{M:Int}{mo:Option Nat}{s:Ls.St}(h:TwAt w0 W q M mo s)(hf:Ls.Few s 2199023255552)(ho now ttl:Int):Calls Tryz.prog 175 #[.pointer (some ⟨q,0,none⟩),.string ⟨#[108,101,97,100,101,114]⟩,.int .i64 ho,.int .i64 now,.int .i64 ttl] W (fun e w'=>∃v mo',e= .returned v/\TwAt w0 w' q M mo' (Ls.takeS s Bd.leader ho now ttl)):=
 (jh1 W _ q _ _ mo s (lsx_of h.is) h.is hf Bd.leader (by decide) ho now ttl).mono fun e w' hp=>by
  obtain⟨h1,mo',h2⟩:=h.turn hp;exact⟨_,mo',h1,h2⟩
theorem TwAt.drop{w0 W:World}{q:Nat}{M:Int}{mo:Option Nat}{s:Ls.St}(h:TwAt w0 W q M mo s)(ho ep:Int):Calls Tryz.prog 202 #[.pointer (some ⟨q,0,none⟩),.string ⟨#[108,101,97,100,101,114]⟩,.int .i64 ho,.int .i64 ep] W (fun e w'=>∃v mo',e= .returned v/\TwAt w0 w' q M mo' (Ls.dropS s Bd.leader ho ep)):=
 (jn9 W _ q _ _ mo s (lsx_of h.is) h.is Bd.leader (by decide) ho ep).mono fun e w' hp=>by
  obtain⟨h1,mo',h2⟩:=h.turn hp;exact⟨_,mo',h1,h2⟩
theorem jh8:Tryz.prog.underlying 78=some (.struct (Tryz.prog.fieldsOf 78)):=by kernel_rfl
theorem ji1(M:Int)(mo:Option Nat):(Tryz.prog.info? 78).map (·.size)=some (#[Value.int .i64 M,.map mo]).size:=by kernel_rfl
theorem jc8{w:World}{ops:Array Oper}{rest:List Oper}{op:Oper}{a:Act}{Q:Exit->Act->World->Prop}{g:Nat}{M:Int}{mo:Option Nat}{cs:Array Value}(hgd:op.guard=none)(x y:Operand)(ho:op.op= .store 78 x y)(hx:a.eval x= .pointer (some ⟨g,0,none⟩))(hy:a.eval y= .agg #[.int .i64 M,.map mo])(hg:w.heap[g]? =some (.cells cs 78 (0,0)))(hc:cs.size=2)
  (h:wpList Tryz.prog ops Q rest (a.put op.dst undef) (w.setRow g #[.int .i64 M,.map mo])):wpList Tryz.prog ops Q (op::rest) a w:=
 wpList_plain hgd fun _ hK=>wp_store_row 78 x y ho g #[.int .i64 M,.map mo] hx hy 78 _ hg (ji1 M mo) hc (by simp[Value.oneCell']) (hK _ _ h)
theorem TwAt.margin{w0 W:World}{q:Nat}{M:Int}{mo:Option Nat}{s:Ls.St}(h:TwAt w0 W q M mo s):s.margin=M:=by
 have:=h.is.k0;simp at this;exact this.symm
theorem twl_any(s:Bk.St)(hk:Bd.Lok s)(m:Int)(W:World):Calls Tryz.prog 156 #[.agg (Bk.viewC s),.int .i64 m] W (jl4 s m W):=by
 have LK:=zh hk;have x1:zF W (W.alloc (.cells (Bk.viewC s) 59)):=zE;have p1:=heap_alloc_new W (.cells (Bk.viewC s) 59);obtain⟨g,hg⟩:∃g,g=W.heap.size:=zx;have hs1:(W.alloc (.cells (Bk.viewC s) 59)).heap.size=g+1:=by simp[hg]
 obtain⟨W1,hW1⟩:∃W1,W1=W.alloc (.cells (Bk.viewC s) 59):=zx;rw[<-hW1]at x1 p1 hs1;rw[<-hg]at p1;have x2:zF W1 (W1.alloc (.cells #[zi,.map none] 78)):=zE;have p2:=heap_alloc_new W1 (.cells #[zi,.map none] 78);have p1b:=jah p1 x2;rw[hs1]at p2;have B2:=zh (x1.trans (x2.mono x1.size));obtain⟨W2,hW2⟩:∃W2,W2=W1.alloc (.cells #[zi,.map none] 78):=zx;rw[<-hW2]at B2 p1b p2;have P1:=zh p1b;have P2:=zh p2;have EW:Hid ((W.alloc (.cells (Bk.viewC s) 59)).alloc (.cells #[zi,.map none] 78)=W2):=by show _=_;rw[hW2,hW1]
 have EG:=zh hg;clear x1 x2 p1 p1b p2 hs1 hW1 hW2 hg hk;have VC:Hid (∀X,zF W2 X->X.cell? ⟨g,0,none⟩=some (.int .i64 s.ep)/\X.cell? ⟨g,1,none⟩=some (.int .i64 s.who)/\X.cell? ⟨g,2,none⟩=some (.int .i64 s.till)/\g<X.heap.size):=fun X hX=>by
  have h:=jah P1.o hX;exact⟨by rw[cell_of_row _ g 0 _ _ _ h];rfl,by rw[cell_of_row _ g 1 _ _ _ h];rfl,by rw[cell_of_row _ g 2 _ _ _ h];rfl,(zg h).1⟩
 have CN:=zh (fun X=>jjw X m);obtain⟨M,hM⟩:∃M,M=min (max m 0) 1048576:=zx;have HM:=zh hM;have LST:=zh (fun(e:Nat) (he:(e:Int)+1=s.ep)=>Bd.tw_last LK.o (M:=M) (e:=e) he);unfold jl4;rw[<-hM];clear hM;have EPB:=zh LK.o.ok.ep;have NOZ:Hid (s.ep=0->Bd.tab {s with m:=M}=Bd.tw M 0):=fun h=>by
  unfold Bd.tab Bd.tw;rw[if_pos (show({s with m:=M}:Bk.St).ep=0 from h),if_pos rfl]
 have TB:=zh (And.intro LK.o.ok.till LK.o.t1);generalize Bd.tab {s with m:=M}=tb at*
 go_in;go_upto_region 1 with fail
 rw[EW.o,<-EG.o];clear EW;generalize s.who=who at*;generalize s.till=till at*;generalize s.ep=ep at*;have q1:=EPB.o.1;have q2:=EPB.o.2;go_upto_region 2 with(go_at_call 89;refine(CN.o _).mono ?_;rintro e w1 ⟨rfl,hl,hb⟩;have T1:Hid (TwAt W2 w1 W2.heap.size M none (Bd.tw M 0)):=⟨by have h2:=hl;rw[show(Ls.new m).margin=M from HM.o.symm,show Ls.new m=Bd.tw M 0 from by unfold Ls.new Bd.tw;rw[<-HM.o,if_pos rfl]]at h2;exact h2,zl,fun b hb=>(by cases hb),hb⟩;obtain⟨q,hq⟩:∃q,q=W2.heap.size:=zx;rw[<-hq]at T1⊢;clear hl hb hq)
 go_wp2_with fail;go_loopw [6] (fun i wr=>∃(e:Nat) (mo:Option Nat),((e:Int)+1<=ep\/e=0)/\i= .int .i64 ((e:Int)+1)/\TwAt W2 wr q M mo (Bd.tw M e)) (fun i _=>ep.toNat+1 -(intOf i).toNat)
 case atStart=>exact⟨0,none,.inr rfl,rfl,T1.o⟩
 case round=>
  obtain⟨e,mo,he,rfl,ht⟩:=hrel;have TA:=zh ht;clear ht;obtain⟨v0,v1,v2,vl⟩:=VC.o _ TA.o.below;have k1:(0:Int)<=(e:Int):=by omega
  by_cases hlt:(e:Int)+1<ep
  ·have HLT:=zh hlt
   have CT:=zh (TA.o.take (Bd.tw_few M zv zv) 0 0 1);rw[(Bd.tw_take M e (Bd.right_leader ⟨zv,zv⟩ ⟨zv,zv⟩ ⟨zv,zv⟩)).2]at CT;have hw1:wrap64 ((e:Int)+1+1)=(e:Int)+1+1:=IntWalk.wrap64_in _ ⟨zv,zv⟩;have hw2:IntKind.i64.wrap ((e:Int)+1+1)=(e:Int)+1+1:=IntWalk.i64_in _ ⟨zv,zv⟩
   go_wp2_with(first
    |(go_at_call 175;refine CT.o.mono ?_;rintro en w3 ⟨vv,mo1,rfl,h1⟩;have T3:=zh h1;have CD:=zh (h1.drop 0 ((e:Int)+1));clear h1 CT)
    |(go_at_call 202;refine CD.o.mono ?_;rintro en w4 ⟨vv4,mo2,rfl,h1⟩;have T4:=zh h1;clear h1 CD T3))
   have h2:=HLT.o;refine⟨⟨e+1,mo2,.inl zv,by simp,?_⟩,by simp[intOf];omega⟩;have h3:=T4.o;rw[(Bd.tw_drop M e _).2]at h3;exact h3
  ·by_cases h0:0<ep
   ·have HE:Hid ((e:Int)+1=ep):=by show _=_;omega
    have CT:=zh (TA.o.take (Bd.tw_few M zv zv) who (till -1) 1);rw[LST.o e HE.o]at CT;have t1:=TB.o.1;have t2:=TB.o.2 zv;have hw1:wrap64 (till -1)=till -1:=IntWalk.wrap64_in _ ⟨zv,zv⟩;have hw2:IntKind.i64.wrap (till -1)=till -1:=IntWalk.i64_in _ ⟨zv,zv⟩;have h5:ep>0:=h0;have h6:ep<=(e:Int)+1:=by omega
    clear t1 t2;go_upto_region 9 with(go_at_call 175;refine CT.o.mono ?_;rintro en w3 ⟨vv,mo2,rfl,h1⟩;have T4:=zh h1;clear h1 CT)
    clear v0 v1 v2 vl;obtain⟨c0,c1,f1,lq⟩:=T4.o.is.cells;rw[T4.o.margin]at c0;have R0:=zh (jah P2.o T4.o.below);go_wp2_with((with_reducible show zW);refine jc8 rfl (.tmp 4) (.tmp 32) rfl rfl rfl R0.o rfl ?_);have g2:=(zg P2.o).1;have b2:=B2.o.size;exact bodyPost_ret (v:= .agg #[.int .i64 M,.map mo2]) (results_cell_row (P:=Tryz.prog) Tryz.results156 _ _ (g+1) 78 #[.int .i64 M,.map mo2] (0,0) _ rfl (setRow_heap w3 (g+1) _ _ _ _ R0.o) jh8 rfl (ji1 M mo2)) rfl ⟨mo2,rfl,T4.o.is.map.keep fun b hb=>jbn _ _ (by have:=T4.o.m0 b hb;omega),fun b hb=>by have:=T4.o.m0 b hb;omega,below_setRow (B2.o.trans (T4.o.below.mono B2.o.size)) (by have:=EG.o;omega) _⟩
   ·have h5:ep<=0:=by omega
    have h6:ep<=(e:Int)+1:=by omega
    have HZ:Hid (Bd.tw M e=tb):=by
     obtain rfl:e=0:=by omega
     exact(NOZ.o zv).symm
    have T4:=TA;rw[HZ.o]at T4;clear HZ TA;go_upto_region 9 with fail
    clear v0 v1 v2 vl;obtain⟨c0,c1,f1,lq⟩:=T4.o.is.cells;rw[T4.o.margin]at c0;have R0:=zh (jah P2.o T4.o.below);go_wp2_with((with_reducible show zW);refine jc8 rfl (.tmp 4) (.tmp 32) rfl rfl rfl R0.o rfl ?_);have g2:=(zg P2.o).1;have b2:=B2.o.size;exact bodyPost_ret (v:= .agg #[.int .i64 M,.map mo]) (results_cell_row (P:=Tryz.prog) Tryz.results156 _ _ (g+1) 78 #[.int .i64 M,.map mo] (0,0) _ rfl (setRow_heap wr (g+1) _ _ _ _ R0.o) jh8 rfl (ji1 M mo)) rfl ⟨mo,rfl,T4.o.is.map.keep fun b hb=>jbn _ _ (by have:=T4.o.m0 b hb;omega),fun b hb=>by have:=T4.o.m0 b hb;omega,below_setRow (B2.o.trans (T4.o.below.mono B2.o.size)) (by have:=EG.o;omega) _⟩
