import Derived.Test.YtkinlcfhojjalaaGreatDoorQz18
set_option maxHeartbeats 6400000
set_option maxRecDepth 100000
set_option linter.all false
namespace Go.Proofs.YtkinlcfhojjalaaGreatDoor
open Go.RowKit Go.Deep Go.Maps
section
variable{w w4 w':World}{q:Nat}{s s':Bk.St}{ru:Nat->Bk.Un}{rv:Int}{lo lo4 ko:Option Nat}{H:Value}{K:Kv.St}{cs:Array Value}{ty:TypeId}
theorem turn_l(h:BdIs w q s ru rv lo ko H K)(h4:LsIs w4 q cs ty lo4 (Bd.tab s'))(k4:Kept (fun i=>i=q\/lo=some i) w w4)(n4:∀m,lo4=some m->lo=some m\/w.heap.size<=m)(kq:KQ q w4 w')(ha:BdAt w' q s' ru rv (.map lo4) (.map ko) H)(hv:s'.vs=s.vs)(hh:s'.h=s.h)(hu:s'.us=s.us)(hl:Bd.Lok s'):
  ja1 q lo ko H s' (.tuple #[]) w (.returned (.tuple #[])) w':=by
 have hk2:Kept (fun i=>i=q\/lo=some i) w w':=k4.trans kq fun _ _ h=> .inl h;refine⟨ru,rv,lo4,ko,H,K,rfl,⟨ha,?_,?_,h.kg,h.kr,by rw[hv];exact h.kb,by rw[hv];exact h.dg,by rw[hu];exact h.raw,?_,fun m e e2=> ?_,hl⟩,hk2.more fun i _ e=> ?_,fun i hi=> ?_⟩
 ·exact h4.map.keep fun m e=>kq.block m (by subst e;exact MapW.Opt.lt h4.map) (fun e2=>by subst e;exact h4.ne e2.symm)
 ·exact h.kv.keep fun m e=>hk2.block m (h.lt.2.2.1 m e) (fun e2=>by rcases e2 with e2|e2;exact h.qk (by rw[e,e2]);exact h.lk m e2 e)
 ·rw[hh];exact h.h.keep fun m e=>hk2.block m (h.lt.2.2.2 m e) (fun e2=>by rcases e2 with e2|e2;exact h.qh (by rw[e,e2]);exact h.hl m e2 e)
 ·rcases n4 m e with h6|h6
  ·exact h.lk m h6 e2
  ·have:=h.lt.2.2.1 m e2;omega
 ·rcases e with e|e
  ·exact .inl e
  ·exact .inr (.inl e)
 ·rcases hi with hi|hi|hi|hi
  ·exact .inl (.inl hi)
  ·rcases n4 i hi with h6|h6
   ·exact .inl (.inr (.inl h6))
   ·exact .inr h6
  ·exact .inl (.inr (.inr (.inl hi)))
  ·exact .inl (.inr (.inr (.inr hi)))
theorem turn_k{ops:List Kv.Po}{e:Ending}(h:BdIs w q s ru rv lo ko H K)(h4:KbDo q 2 (Bd.cells s ru rv (.map lo) (.map ko) H) 83 ko K ops w e w')(hr:(Kv.doS K ops).rev=K.rev+1)(hs:s'.vs.length=s.vs.length+1)(hd:Bd.Digs (Kv.doS K ops) s'.vs)(hc:∀rv' km',Bd.cells s' ru rv' (.map lo) km' H=Bd.cells s ru rv' (.map lo) km' H)(ht:Bd.tab s'=Bd.tab s)(hh:s'.h=s.h)(hu:s'.us=s.us)(hl:Bd.Lok s')(u:Value):
  ja1 q lo ko H s' u w (.returned u) w':=by
 obtain⟨mo,_,h5,k5,n5⟩:=h4;refine⟨ru,(Kv.doS K ops).rev,lo,mo,H,Kv.doS K ops,rfl,⟨⟨?_⟩,?_,h5.map,h5.good,rfl,by rw[hr,hs,h.kr];have:=h.kb;omega,hd,by rw[hu];exact h.raw,?_,fun m e e2=> ?_,hl⟩,k5.more fun i _ e=> ?_,fun i hi=> ?_⟩
 ·rw[hc];exact h5.row
 ·rw[ht];exact h.ls.keep fun m e=>k5.block m (h.lt.2.1 m e) (fun e2=>by rcases e2 with e2|e2;exact h.ql (by rw[e,e2]);exact h.lk m e e2)
 ·rw[hh];exact h.h.keep fun m e=>k5.block m (h.lt.2.2.2 m e) (fun e2=>by rcases e2 with e2|e2;exact h.qh (by rw[e,e2]);exact h.hk m e2 e)
 ·rcases n5 m e2 with h6|h6
  ·exact h.lk m e h6
  ·have:=h.lt.2.1 m e;omega
 ·rcases e with e|e
  ·exact .inl e
  ·exact .inr (.inr (.inl e))
 ·rcases hi with hi|hi|hi|hi
  ·exact .inl (.inl hi)
  ·exact .inl (.inr (.inl hi))
  ·rcases n5 i hi with h6|h6
   ·exact .inl (.inr (.inr (.inl h6)))
   ·exact .inr h6
  ·exact .inl (.inr (.inr (.inr hi)))
theorem slp_one{m:Nat}{k v:ByteArray}{x:Int}{d:Bool}(h:w.heap[m]? =some (.cells #[.string k,.string v,.int .i64 x,.bool d] 236 (0,0)))(hk:k.size<=maxLen)(hv:v.size<=maxLen)(hx:jnz x):SlP w (some ⟨m,0,none⟩) 1 1 [⟨k,v,x,d⟩]:=by
 refine⟨fun j t hj=> ?_,rfl,zl,by unfold maxLen;omega,fun e=>by cases e⟩;rcases j with _|j
 ·injection hj with hj
  subst hj;refine⟨m,0,[.string k,.string v,.int .i64 x,.bool d],rfl,(zg h).1,rfl,fun i hi=> ?_,rfl,hk,hv,hx⟩;rw[cell_of_row w m _ _ _ _ h];rcases i with _|_|_|_|i
  all_goals first|rfl|omega
 ·simp at hj
end
theorem jrh(q:Nat)(s:Bk.St)(ru:Nat->Bk.Un)(rv:Int)(lo ko:Option Nat)(H:Value)(K:Kv.St)(w:World)(h:BdIs w q s ru rv lo ko H K)(ht:BT w)(r:Rc.R)(hin:Rc.In r)(hk:r.kind=2)(hc:Bk.chk s r=0):Calls Tryz.prog 118 #[.pointer (some ⟨q,0,none⟩),.agg (Rc.cells r)] w (ja1 q lo ko H (Bk.act s r) (.tuple #[]) w):=by
 have HT:=zh ht;have HR:=zh (Bk.chk_right hc);have LK:=zh (Bd.act_lok h.lok hc);have H0:=zh h;rw[Bk.act2 hk]at LK⊢;have HK:=zh hk;have GQ:Hid (w.heap.size≠q):=by have:=h.lt.1;show _≠_;omega
 obtain⟨hx1,hx2⟩:=Rc.right2 hk HR.o;obtain⟨hy1,hy2⟩:=Bk.two_ok (by rw[<-Bk.chk_two HR.o hk (Bk.chk_epoch hc zv)];exact hc);have DP:=zh (h.dg.pub (t:=r.text) h.kg h.lok.ok.rise hy1 hy2 zv zv hx1);have PL:=zh (Bk.pub_length s.vs ⟨r.n,r.text⟩);have HI:=zh (hin.nums r.n (by simp[Rc.nums]));have CK:Hid (∀W,BT W->Calls Tryz.prog 110 #[.int .i64 r.n] W (BRet (.string (Bd.key r.n)) W)):=fun W h=>jm1 r.n HI.o W h;have KS:Hid ((Bd.key r.n).size<=maxLen):=by have:=Bd.digs_len HI.o;show _<=_;unfold Bd.key maxLen;rw[jbr];omega
 have TS:Hid (r.text.size<=maxLen):=by show _<=_;unfold maxLen;omega
 have RV:Hid (K.rev<=1000):=by have:=h.kb;have:=h.kr;show _<=_;omega
 have CDo:Hid (∀W m,BdIs W q s ru rv lo ko H K->SlP W (some ⟨m,0,none⟩) 1 1 [⟨Bd.key r.n,r.text,0,false⟩]->Calls Tryz.prog 179 #[.pointer (some ⟨q,2,none⟩),.slice (some ⟨m,0,none⟩) 1 1] W (KbDo q 2 (Bd.cells s ru rv (.map lo) (.map ko) H) 83 ko K [⟨Bd.key r.n,r.text,0,false⟩] W)):=fun W m h hs=>jmy W q 2 _ _ ko K 1 1 (some ⟨m,0,none⟩) _ h.kvIs RV.o hs (by simp);clear hx1 hx2 hy1 hy2;obtain⟨W,hW⟩:∃W,W=w.alloc (.cells (Rc.cells r) 56):=zx;obtain⟨g,hg⟩:∃g,g=w.heap.size:=zx;have R0:=zh (RdC.open_ h r);rw[<-hW,<-hg]at R0;rw[<-hg]at GQ;have GE:Hid (w.heap.size=g):=hg.symm;clear h hk hc hin ht;go_in;go_upto_region 1 with fail
 rw[<-hW,<-hg];clear hW hg;refine wp_region_held_drew (S:=fun W=>RcAt W g r) zk (R0.o.rc.on (Below.refl W.heap.size W).drew) (fun hS=> ?_);refine tY 0 hS ?_;refine tY 1 hS ?_;refine tY 2 hS ?_;refine tY 3 hS ?_;refine tZ 4 rfl (by intro W hW;have c3:=(RcAt.cs hW).c3;have lg:=(RcAt.cs hW).lt;go_simp;(try with_reducible rfl)) hS ?_;refine tY 6 hS ?_;simp only[Act.put,zT,zO,zS];refine tZ 7 rfl (by intro W hW;have c5:=(RcAt.cs hW).c5;have lg:=(RcAt.cs hW).lt;go_simp;(try with_reducible rfl)) hS ?_;simp only[Act.put,zT,zO,zS];refine rO 5 (fun K hK=> ?_);go_simp
 refine(CK.o _ (HT.o.on R0.o.b.drew)).mono ?_
 rintro e w7 ⟨rfl,hb⟩;have B7:=zh (R0.o.b.drew.trans (hb.mono R0.o.b.drew.size));replace hS:=hS.on hb;clear hb;generalize hkk:Bd.key r.n=kk at*;refine hK.out _ _ hS (fun _=> ?_);clear hK K;refine tY 8 hS ?_;simp only[Act.put,zT,zO,zS];refine rO 9 (fun K hK=> ?_);go_simp;have hb5:zF w7 (w7.alloc (.cells #[.string kk,.string r.text,zi,.bool false] 236)):=zE;have SP:=zh (slp_one (heap_alloc_new w7 (.cells #[.string kk,.string r.text,zi,.bool false] 236)) KS.o TS.o (by unfold jnz;omega));have B5:=zh (B7.o.trans (hb5.mono B7.o.size));have hS2:=hS.on hb5;clear hS hb5;have hS:=hS2;clear hS2;generalize w7.alloc (.cells #[.string kk,.string r.text,zi,.bool false] 236)=W5 at*;generalize w7.heap.size=m5 at*;refine hK.out _ _ hS (fun _=> ?_);clear hK K;try simp only[Act.put,zT,zO,zS]
 refine rO 10 (fun K hK=> ?_);go_simp
 refine(CDo.o W5 m5 (H0.o.on B5.o) SP.o).mono ?_
 intro e w8 hp8;obtain⟨mo8,rfl,hp81,hp82,hp83⟩:=hp8;have P8:=zh (show KbDo q 2 _ _ ko _ [⟨kk,r.text,0,false⟩] W5 _ w8 from⟨mo8,rfl,hp81,hp82,hp83⟩);have NE:g≠q:=GQ.o;have NM:ko≠some g:=fun e=>by have:=H0.o.lt.2.2.1 g e;have:=GE.o;omega
 have hS2:RcAt w8 g r:=⟨(hp82.block g hS.cs.lt (fun e=>by rcases e with e|e;exact NE e;exact NM e)).trans hS.row⟩
 clear hS hp81 hp82 hp83 NE NM;have hS:=hS2;clear hS2;refine hK.out _ _ hS (fun _=> ?_);clear hK K;try simp only[Act.put,zT,zO,zS]
 refine wpAnyH_done zk ?_ _;clear hS;go_wp2;go_end0;have HX:=H0.o.on B5.o;exact(turn_k (s':={s with vs:=Bk.pub s.vs ⟨r.n,r.text⟩}) HX P8.o DP.o.2.1 PL.o DP.o.2.2.2 (fun _ _=>rfl) rfl rfl rfl LK.o _).ahead B5.o H0.o.ltF
theorem zz6{p:Prop}(h:p:=by
 go_simp
 refine CT.o.mono ?_
 intro e w4 hp4;obtain⟨lo4,rfl,hp41,hp42,hp43⟩:=hp4;have L4:=zh hp41;have K4:=zh ((Kept.of_below (F:=fun i=>i=q\/lo=some i) R1.o.b.drew).trans hp42 fun _ _ h=>h);have N4:Hid (∀m,lo4=some m->lo=some m\/w.heap.size<=m):=fun m e=>(hp43 m e).imp id (Nat.le_trans R1.o.b.drew.size);have NG1:g≠q:=GQ.o;have NG2:lo≠some g:=fun e=>by have:=H0.o.lt.2.1 g e;have:=GE.o;omega
 have hS2:RcAt w4 g r:=⟨(hp42.block g hS.cs.lt (fun e=>by rcases e with e|e;exact NG1 e;exact NG2 e)).trans hS.row⟩
 clear hS hp41 hp42 hp43 NG1 NG2;have hS:=hS2;clear hS2;refine hK.out _ _ hS (fun _=> ?_);clear hK K;try simp only[Act.put,zT,zO,zS]
 refine wpAnyH_done zk ?_ _;clear hS;have AT4:Hid (BdAt w4 q s ru rv (.map lo4) (.map ko) H):=⟨L4.o.row⟩;have CG:=zh (jdw w4 q _ _ lo4 _ L4.o Bd.leader (by decide));obtain⟨ge1,ge2,ge3⟩:=Bd.get_tab (s:=s9) (by rw[HS.o];show r.epoch≠0;have:=RE.o;omega);unfold LGet lval at CG;rw[ge1,ge2,ge3]at CG;rw[HS.o]at CG;clear ge1 ge2 ge3;unfold Bd.leader at CG;obtain⟨tl,htl⟩:∃tl,tl=Bk.leadT s r:=zx;have CG2:Hid (Calls Tryz.prog 176 #[.pointer (some ⟨q,0,none⟩),.string ⟨#[108,101,97,100,101,114]⟩] w4 (fun e w'=>∃fb,e= .returned (.tuple #[.agg #[.int .i64 r.who,.int .i64 r.epoch,.int .i64 tl],.bool fb])/\zF w4 w')):=by rw[htl];exact CG.o.mono fun e w' h=>⟨_,h.1,h.2⟩
 clear CG;have HTL:=zh htl;clear htl;go_upto_region 5 with(go_at_call 176;refine CG2.o.mono ?_;rintro e w5 ⟨fb,rfl,hb⟩;have B5:=zh hb;clear hb)
 have hb6:zF w5 (w5.alloc (.cells #[.int .i64 r.who,.int .i64 r.epoch,.int .i64 tl] 231)):=zE;have R6:=heap_alloc_new w5 (.cells #[.int .i64 r.who,.int .i64 r.epoch,.int .i64 tl] 231);have d0:=LsCells.c0 R6;have d1:=LsCells.c1 R6;have d2:=LsCells.c2 R6;have A6:=zh ((AT4.o.on B5.o).on hb6);have K6:=zh (KQ.of (B5.o.trans (hb6.mono B5.o.size)) q);have l6:=(zg R6).1;have NE6:w5.heap.size≠q:=by have:=(AT4.o.on B5.o).lt;omega
 have NE7:q≠w5.heap.size:=by omega
 clear R6 hb6;generalize w5.alloc (.cells #[.int .i64 r.who,.int .i64 r.epoch,.int .i64 tl] 231)=W6 at*;generalize w5.heap.size=g6 at*;have b4:=A6.o.cs.c4;have b5:=A6.o.cs.c5;have b6:=A6.o.cs.c6;have fz:=fun i=>A6.o.fz i;have lq:=A6.o.lt;go_region;clear b4 b5 b6 fz lq d0 d1 d2;have A7:=zh (show BdAt ((((W6.setCell ⟨q,4,none⟩ (.int .i64 r.epoch)).setCell ⟨q,5,none⟩ (.int .i64 r.who)).setCell ⟨q,6,none⟩ (.int .i64 tl)).drew) q _ _ _ _ _ _ from(jef (((A6.o.ep r.epoch).who r.who).till tl)));have K7:=zh (KQ.drew (KQ.set (KQ.set (KQ.set K6.o (4) (.int .i64 r.epoch)) (5) (.int .i64 r.who)) (6) (.int .i64 tl)));generalize hW7:(((W6.setCell ⟨q,4,none⟩ (.int .i64 r.epoch)).setCell ⟨q,5,none⟩ (.int .i64 r.who)).setCell ⟨q,6,none⟩ (.int .i64 tl)).drew=W7 at*;clear hW7;go_wp2;go_end0;refine turn_l (s':=s9) H0.o L4.o K4.o N4.o K7.o ?_ (by rw[HS.o]) (by rw[HS.o]) (by rw[HS.o]) LK.o;rw[HS.o,<-HTL.o];exact A7.o):p:=h
theorem jri(q:Nat)(s:Bk.St)(ru:Nat->Bk.Un)(rv:Int)(lo ko:Option Nat)(H:Value)(K:Kv.St)(w:World)(h:BdIs w q s ru rv lo ko H K)(ht:BT w)(r:Rc.R)(hin:Rc.In r)(hk:r.kind=1)(hc:Bk.chk s r=0):Calls Tryz.prog 116 #[.pointer (some ⟨q,0,none⟩),.agg (Rc.cells r)] w (ja1 q lo ko H (Bk.act s r) (.tuple #[]) w):=by
 have HT:=zh ht;have HR:=zh (Bk.chk_right hc);have LK:=zh (Bd.act_lok h.lok hc);have H0:=zh h;rw[Bk.act1 hk]at LK⊢;have HK:=zh hk;have GQ:Hid (w.heap.size≠q):=by have:=h.lt.1;show _≠_;omega
 obtain⟨hw1,hn1,hs1⟩:=Rc.right1 hk HR.o;have RE:=zh (Rc.ok_of HR.o).epoch;have hlo:=Bk.lead_ok (by rw[<-Bk.chk_lead HR.o hk];exact hc);have RI:Hid (Ls.Right Bd.leader r.who r.n r.seq):=⟨by decide,by decide,hw1.1,hw1.2,hn1,hs1.1,hs1.2⟩;have OKS:=zh h.lok.ok;clear hw1 hn1 hs1;have FEW:Hid (Ls.Few (Bd.tab s) 2199023255552):=by
  refine⟨fun e he=> ?_,?_⟩
  ·have:=OKS.o.ep
   exact zz1p
  ·exact zz35
 obtain⟨s9,hs9⟩:∃t,t=({s with ep:=r.epoch,who:=r.who,till:=Bk.leadT s r}:Bk.St):=zx
 rw[<-hs9]at LK⊢;have HS:=zh hs9;clear hs9;obtain⟨W,hW⟩:∃W,W=w.alloc (.cells (Rc.cells r) 56):=zx;obtain⟨g,hg⟩:∃g,g=w.heap.size:=zx;have R0:=zh (RdC.open_ h r);rw[<-hW,<-hg]at R0;rw[<-hg]at GQ;have GE:Hid (w.heap.size=g):=hg.symm;clear h hk hc hin ht;go_in;go_upto_region 1 with fail
 rw[<-hW,<-hg];clear hW hg;have c1:=R0.o.rc.cs.c1;have b4:=R0.o.bd.at_.cs.c4;have lq:=R0.o.bd.lt.1;have lg:=R0.o.rc.cs.lt;by_cases he:r.epoch=s.ep
 ·have q1:(r.epoch==s.ep)=true:=by simpa using he
  have HE:=zh he;clear he;have hq:=hlo.2;unfold Bk.leadOk at hq;rw[if_pos HE.o,Bool.and_eq_true,decide_eq_true_eq,decide_eq_true_eq]at hq;obtain⟨t1,t2⟩:=Bd.tab_renew (s:=s) (ep:=r.epoch) RI.o (by have:=RE.o;have:=HE.o;omega) hq.1 HE.o.symm hq.2;have TE:Hid (Ls.renewS (Bd.tab s) Bd.leader r.who r.epoch r.n r.seq=Bd.tab s9):=by show _=_;rw[t1,HS.o];unfold Bk.leadT;rw[if_pos HE.o,HE.o,<-hq.1]
  clear hq hlo t1 t2;go_upto_region 1 with fail
  go_region;go_upto_region 2 with fail
  clear c1 b4 lq lg;have R1:=zh (R0.o.on (Below.refl W.heap.size W).drew);generalize W.drew=W1 at*;have CT:=zh (jlq W1.drew (fun i=>i=q\/lo=some i) q _ _ lo (Bd.tab s) ⟨.inl rfl,fun m e=> .inr e,fun i hi=>by rcases hi with rfl|hi;exact(R1.o.bd.on (Below.refl W1.heap.size W1).drew).lt.1;exact(R1.o.bd.on (Below.refl W1.heap.size W1).drew).lt.2.1 i hi⟩ (R1.o.bd.on (Below.refl W1.heap.size W1).drew).lsIs Bd.leader (by decide) r.who r.epoch r.n r.seq)
  rw[TE.o]at CT;unfold Bd.leader at CT;refine wp_region_held_drew (S:=fun W=>RcAt W g r) zk (R1.o.rc.on (Below.refl W1.heap.size W1).drew) (fun hS=> ?_);refine tY 0 hS ?_;refine tY 1 hS ?_;refine tY 2 hS ?_;refine tY 3 hS ?_;refine tZ 4 rfl (by intro W hW;have c2:=(RcAt.cs hW).c2;have lg:=(RcAt.cs hW).lt;go_simp;(try with_reducible rfl)) hS ?_;refine tY 5 hS ?_;simp only[Act.put,zT,zO,zS];refine tZ 6 rfl (by intro W hW;have c1:=(RcAt.cs hW).c1;have lg:=(RcAt.cs hW).lt;go_simp;(try with_reducible rfl)) hS ?_;refine tY 7 hS ?_;refine tZ 8 rfl (by intro W hW;have c3:=(RcAt.cs hW).c3;have lg:=(RcAt.cs hW).lt;go_simp;(try with_reducible rfl)) hS ?_;refine tY 9 hS ?_;refine tZ 10 rfl (by intro W hW;have c4:=(RcAt.cs hW).c4;have lg:=(RcAt.cs hW).lt;go_simp;(try with_reducible rfl)) hS ?_;simp only[Act.put,zT,zO,zS];refine rO 11 (fun K hK=> ?_);exact zz6
 ·have q1:(r.epoch==s.ep)=false:=by simpa using he
  have HE:=zh he;have he2:r.epoch=s.ep+1:=by omega
  have HE2:=zh he2;clear he he2;have hq:=hlo.2;unfold Bk.leadOk at hq;rw[if_neg HE.o]at hq;obtain⟨t1,t2⟩:=Bd.tab_take (s:=s) RI.o hq (by have:=RE.o;have:=HE2.o;omega);have TE:Hid (Ls.takeS (Bd.tab s) Bd.leader r.who r.n r.seq=Bd.tab s9):=by show _=_;rw[t1,HS.o];unfold Bk.leadT;rw[if_neg HE.o,HE2.o]
  clear hq hlo t1 t2;go_upto_region 1 with fail
  go_region;go_upto_region 3 with fail
  clear c1 b4 lq lg;have R1:=zh (R0.o.on (Below.refl W.heap.size W).drew);generalize W.drew=W1 at*;have CT:=zh (jh1 W1.drew (fun i=>i=q\/lo=some i) q _ _ lo (Bd.tab s) ⟨.inl rfl,fun m e=> .inr e,fun i hi=>by rcases hi with rfl|hi;exact(R1.o.bd.on (Below.refl W1.heap.size W1).drew).lt.1;exact(R1.o.bd.on (Below.refl W1.heap.size W1).drew).lt.2.1 i hi⟩ (R1.o.bd.on (Below.refl W1.heap.size W1).drew).lsIs FEW.o Bd.leader (by decide) r.who r.n r.seq)
  rw[TE.o]at CT;unfold Bd.leader at CT;refine wp_region_held_drew (S:=fun W=>RcAt W g r) zk (R1.o.rc.on (Below.refl W1.heap.size W1).drew) (fun hS=> ?_);refine tY 0 hS ?_;refine tY 1 hS ?_;refine tY 2 hS ?_;refine tY 3 hS ?_;refine tZ 4 rfl (by intro W hW;have c2:=(RcAt.cs hW).c2;have lg:=(RcAt.cs hW).lt;go_simp;(try with_reducible rfl)) hS ?_;refine tY 5 hS ?_;simp only[Act.put,zT,zO,zS];refine tZ 6 rfl (by intro W hW;have c3:=(RcAt.cs hW).c3;have lg:=(RcAt.cs hW).lt;go_simp;(try with_reducible rfl)) hS ?_;refine tY 7 hS ?_;refine tZ 8 rfl (by intro W hW;have c4:=(RcAt.cs hW).c4;have lg:=(RcAt.cs hW).lt;go_simp;(try with_reducible rfl)) hS ?_;simp only[Act.put,zT,zO,zS];refine rO 9 (fun K hK=> ?_);exact zz6
theorem jdx{w:World}{q:Nat}{s:Bk.St}{ru:Nat->Bk.Un}{rv:Int}{lm km H:Value}(h:BdAt w q s ru rv lm km H):w.rangeAt q 4 (Bk.viewC s).toList:=by
 intro j v hv;rw[cell_of_row w q _ _ _ _ h.row];have hj:j<22:=by have:=(List.getElem?_eq_some_iff.1 hv).1;exact this
 rcases j with _|_|_|_|_|_|_|_|_|_|_|_|_|_|_|_|_|_|_|_|_|_|j
 all_goals first|(simp only[Bk.viewC]at hv;exact hv)|omega
theorem jau:Tryz.prog.underlying 59=some (.struct (Tryz.prog.fieldsOf 59)):=by kernel_rfl
theorem jbe(s:Bk.St):(Tryz.prog.info? 59).map (·.size)=some (Bk.viewC s).toList.length:=by kernel_rfl
theorem jh2(s:Bk.St):(Tryz.prog.info? 59).map (·.size)=some (Bk.viewC s).size:=by kernel_rfl
theorem ju4(s:Bk.St):(Bk.viewC s).all (·.oneCell')=true:=by simp[Bk.viewC];simp[Value.oneCell']
structure VwCs(w:World)(g:Nat)(s:Bk.St):Prop where
 d4:w.cell? ⟨g,4,none⟩=some (.int .i64 s.from_)
 d5:w.cell? ⟨g,5,none⟩=some (.int .i64 s.ph)
 d9:w.cell? ⟨g,9,none⟩=some (.int .i64 s.seq)
 d10:w.cell? ⟨g,10,none⟩=some (.int .i64 s.sp.v)
theorem vwcs{w:World}{g:Nat}{s:Bk.St}(h:w.heap[g]? =some (.cells (Bk.viewC s) 59 (0,0))):VwCs w g s:=by
 constructor
 all_goals (rw[cell_of_row w g _ _ _ _ h];rfl)
theorem jcy{w:World}{ops:Array Oper}{rest:List Oper}{op:Oper}{a:Act}{Q:Exit->Act->World->Prop}{g:Nat}{s:Bk.St}{cs:Array Value}(hgd:op.guard=none)(x y:Operand)(ho:op.op= .store 59 x y)(hx:a.eval x= .pointer (some ⟨g,0,none⟩))(hy:a.eval y= .agg (Bk.viewC s))(hg:w.heap[g]? =some (.cells cs 59 (0,0)))(hc:cs.size=(Bk.viewC s).size)
  (h:wpList Tryz.prog ops Q rest (a.put op.dst undef) (w.setRow g (Bk.viewC s))):wpList Tryz.prog ops Q (op::rest) a w:=
 wpList_plain hgd fun _ hK=>wp_store_row 59 x y ho g (Bk.viewC s) hx hy 59 _ hg (jh2 s) hc (ju4 s) (hK _ _ h)
theorem jrj(q:Nat)(s:Bk.St)(ru:Nat->Bk.Un)(rv:Int)(lo ko:Option Nat)(H:Value)(K:Kv.St)(w:World)(h:BdIs w q s ru rv lo ko H K)(ht:BT w)(r:Rc.R)(hin:Rc.In r):Calls Tryz.prog 123 #[.pointer (some ⟨q,0,none⟩),.agg (Rc.cells r)] w (BRet (.int .i64 (Bk.chk5 s r)) w):=by
 obtain⟨ans,hans⟩:∃ans,ans=Bk.chk5 s r:=zx;rw[<-hans];have AN:=zh hans;clear hans;have HT:=zh ht;obtain⟨W,hW⟩:∃W,W=w.alloc (.cells (Rc.cells r) 56):=zx;obtain⟨g,hg⟩:∃g,g=w.heap.size:=zx;have R0:=zh (RdC.open_ h r);rw[<-hW,<-hg]at R0;have GE:Hid (w.heap.size<=g):=Nat.le_of_eq hg.symm;have hw1:wrap64 (s.seq+1)=s.seq+1:=IntWalk.wrap64_in _ ⟨by have:=h.lok.ok.seq;omega,by have:=h.lok.ok.seq;omega⟩;clear h ht;go_in;go_upto_region 1 with fail
 rw[<-hW,<-hg];clear hW hg;have lq:=R0.o.bd.lt.1;go_upto_region 2 with(first
   |((with_reducible show zL 9);refine wpList_load_mid rfl 59 (.tmp 8) rfl q 4 rfl (Bk.viewC s).toList _ (jdx R0.o.bd.at_) jau rfl (jbe s) ?_)
   |((with_reducible show zW);refine jcy (s:=s) rfl (.tmp 5) (.tmp 9) rfl rfl rfl (heap_alloc_new W _) rfl ?_))
 rw[World.setRow_alloc_new];have hb2:zF W (W.alloc (.cells (Bk.viewC s) 59)):=zE;have B2:=zh (R0.o.b.trans (hb2.mono R0.o.b.size));have RC2:=R0.o.rc.on hb2;obtain⟨d4,d5,d9,d10⟩:=vwcs (heap_alloc_new W (.cells (Bk.viewC s) 59));have c3:=RC2.cs.c3;have c4:=RC2.cs.c4;clear RC2 hb2 lq;generalize W.heap.size=g2 at*;generalize W.alloc (.cells (Bk.viewC s) 59)=W2 at*;by_cases hph:s.ph=1
 ·have o1:(s.ph !=1)=false:=by simpa using hph
  by_cases hq:r.seq=s.seq+1
  ·have q1:(r.seq !=s.seq+1)=false:=by simpa using hq
   by_cases hn0:r.n=0
   ·have E:ans=0:=by rw[AN.o];unfold Bk.chk5;rw[if_neg zv,if_neg zv,if_neg zv]
    subst E;have p1:(r.n !=0)=false:=by simpa using hn0
    clear hq hn0 hph;go_wp2;go_ret;exact⟨rfl,B2.o⟩
   ·have p1:(r.n !=0)=true:=by simpa using hn0
    by_cases hnv:r.n=s.sp.v
    ·have E:ans=0:=by rw[AN.o];unfold Bk.chk5;rw[if_neg zv,if_neg zv,if_neg zv]
     subst E;have p2:(r.n !=s.sp.v)=false:=by simpa using hnv
     clear hq hn0 hnv hph;go_wp2;go_ret;exact⟨rfl,B2.o⟩
    ·have p2:(r.n !=s.sp.v)=true:=by simpa using hnv
     by_cases hnf:r.n=s.from_
     ·have E:ans=0:=by rw[AN.o];unfold Bk.chk5;rw[if_neg zv,if_neg zv,if_neg zv]
      subst E;have p3:(r.n !=s.from_)=false:=by simpa using hnf
      clear hq hn0 hnv hnf hph;go_wp2;go_ret;exact⟨rfl,B2.o⟩
     ·have E:ans=5:=by rw[AN.o];unfold Bk.chk5;rw[if_neg zv,if_neg zv,if_pos ⟨hn0,hnv,hnf⟩]
      subst E;have p3:(r.n !=s.from_)=true:=by simpa using hnf
      clear hq hn0 hnv hnf hph;go_wp2;go_ret;exact⟨rfl,B2.o⟩
  ·have E:ans=7:=by rw[AN.o];unfold Bk.chk5;rw[if_neg zv,if_pos hq]
   subst E;have q1:(r.seq !=s.seq+1)=true:=by simpa using hq
   clear hq hph;go_wp2;go_ret;exact⟨rfl,B2.o⟩
 ·have o1:(s.ph !=1)=true:=by simpa using hph
  by_cases hph4:s.ph=4
  ·have o4:(s.ph !=4)=false:=by simpa using hph4
   by_cases hq:r.seq=s.seq+1
   ·have q1:(r.seq !=s.seq+1)=false:=by simpa using hq
    by_cases hn0:r.n=0
    ·have E:ans=0:=by rw[AN.o];unfold Bk.chk5;rw[if_neg zv,if_neg zv,if_neg zv]
     subst E;have p1:(r.n !=0)=false:=by simpa using hn0
     clear hq hn0 hph hph4;go_wp2;go_ret;exact⟨rfl,B2.o⟩
    ·have p1:(r.n !=0)=true:=by simpa using hn0
     by_cases hnv:r.n=s.sp.v
     ·have E:ans=0:=by rw[AN.o];unfold Bk.chk5;rw[if_neg zv,if_neg zv,if_neg zv]
      subst E;have p2:(r.n !=s.sp.v)=false:=by simpa using hnv
      clear hq hn0 hnv hph hph4;go_wp2;go_ret;exact⟨rfl,B2.o⟩
     ·have p2:(r.n !=s.sp.v)=true:=by simpa using hnv
      by_cases hnf:r.n=s.from_
      ·have E:ans=0:=by rw[AN.o];unfold Bk.chk5;rw[if_neg zv,if_neg zv,if_neg zv]
       subst E;have p3:(r.n !=s.from_)=false:=by simpa using hnf
       clear hq hn0 hnv hnf hph hph4;go_wp2;go_ret;exact⟨rfl,B2.o⟩
      ·have E:ans=5:=by rw[AN.o];unfold Bk.chk5;rw[if_neg zv,if_neg zv,if_pos ⟨hn0,hnv,hnf⟩]
       subst E;have p3:(r.n !=s.from_)=true:=by simpa using hnf
       clear hq hn0 hnv hnf hph hph4;go_wp2;go_ret;exact⟨rfl,B2.o⟩
   ·have E:ans=7:=by rw[AN.o];unfold Bk.chk5;rw[if_neg zv,if_pos hq]
    subst E;have q1:(r.seq !=s.seq+1)=true:=by simpa using hq
    clear hq hph hph4;go_wp2;go_ret;exact⟨rfl,B2.o⟩
  ·have o4:(s.ph !=4)=true:=by simpa using hph4
   have E:ans=10:=by rw[AN.o];unfold Bk.chk5;rw[if_pos ⟨hph,hph4⟩]
   subst E;clear hph hph4;go_wp2;go_ret;exact⟨rfl,B2.o⟩
theorem zz3b{p:Prop}(h:p:=by
 subst E;clear hq;go_wp2;go_ret;exact⟨rfl,B2.o⟩):p:=h
theorem jrk(q:Nat)(s:Bk.St)(ru:Nat->Bk.Un)(rv:Int)(lo ko:Option Nat)(H:Value)(K:Kv.St)(w:World)(h:BdIs w q s ru rv lo ko H K)(ht:BT w)(r:Rc.R)(hin:Rc.In r)(hr:Rc.right r=true)(hk:r.kind=6):Calls Tryz.prog 125 #[.pointer (some ⟨q,0,none⟩),.agg (Rc.cells r)] w (BRet (.int .i64 (Bk.chk6 s r)) w):=by
 obtain⟨ans,hans⟩:∃ans,ans=Bk.chk6 s r:=zx;rw[<-hans];have AN:=zh hans;clear hans;have HT:=zh ht;obtain⟨W,hW⟩:∃W,W=w.alloc (.cells (Rc.cells r) 56):=zx;obtain⟨g,hg⟩:∃g,g=w.heap.size:=zx;have R0:=zh (RdC.open_ h r);rw[<-hW,<-hg]at R0;have GE:Hid (w.heap.size<=g):=Nat.le_of_eq hg.symm;obtain⟨hwho,hsq⟩:=Rc.right6 hk hr;obtain⟨k,hkk⟩:=Int.eq_ofNat_of_zero_le hwho.1;have k16:k<16:=by omega
 have i16:(k:Int)<16:=by omega
 obtain⟨hu1,hu2⟩:=h.raw k k16;have HA:Hid (ans=if(ru k).q≠r.seq then 7 else if(ru k).d=true then 10 else 0):=by
  show _=_;rw[AN.o];unfold Bk.chk6;rw[hkk,Int.toNat_natCast,hu1];by_cases hq:(ru k).q=r.seq
  ·have hd:(Bd.told (ru k)).d=(ru k).d:=by
    show((ru k).d|| decide ((ru k).q=0))=_;rw[decide_eq_false (show¬(ru k).q=0 by omega),Bool.or_false]
   rw[hd];rfl
  ·rw[if_pos (show(Bd.told (ru k)).q≠r.seq from hq),if_pos hq]
 clear AN hu1 hu2 hwho hsq hr;clear h ht;go_in;go_upto_region 1 with fail
 rw[<-hW,<-hg];clear hW hg;have c2:=R0.o.rc.cs.c2;rw[hkk]at c2;obtain⟨u0,u1,u2⟩:=R0.o.bd.at_.unit k16;have lq:=R0.o.bd.lt.1;have lg:=R0.o.rc.cs.lt;go_upto_region 1 with fail
 go_region;have hb2:zF W (W.alloc (.cells #[.int .i64 (ru k).v,.int .i64 (ru k).q,.bool (ru k).d] 35)).drew:=(zE).drew;have B2:=zh (R0.o.b.trans (hb2.mono R0.o.b.size));have RC2:=R0.o.rc.on hb2;have c4:=RC2.cs.c4;have hn:(W.alloc (.cells #[.int .i64 (ru k).v,.int .i64 (ru k).q,.bool (ru k).d] 35)).drew.heap[W.heap.size]? =some (.cells #[.int .i64 (ru k).v,.int .i64 (ru k).q,.bool (ru k).d] 35 (0,0)):=heap_alloc_new W _;have e1:(W.alloc (.cells #[.int .i64 (ru k).v,.int .i64 (ru k).q,.bool (ru k).d] 35)).drew.cell? ⟨W.heap.size,1,none⟩=some (.int .i64 (ru k).q):=by rw[cell_of_row _ W.heap.size 1 _ _ _ hn];rfl
 have e2:(W.alloc (.cells #[.int .i64 (ru k).v,.int .i64 (ru k).q,.bool (ru k).d] 35)).drew.cell? ⟨W.heap.size,2,none⟩=some (.bool (ru k).d):=by rw[cell_of_row _ W.heap.size 2 _ _ _ hn];rfl
 clear RC2 hb2 hn u0 u1 u2 lq lg c2;generalize(W.alloc (.cells #[.int .i64 (ru k).v,.int .i64 (ru k).q,.bool (ru k).d] 35)).drew=W2 at*;generalize W.heap.size=g2 at*;generalize(ru k).q=uq at*;generalize(ru k).d=ud at*;by_cases hq:uq=r.seq
 ·have q1:(r.seq !=uq)=false:=by simpa using hq.symm
  cases ud with
  |true=>
   have E:ans=10:=by rw[HA.o,if_neg (by simpa using hq),if_pos rfl]
   exact zz3b
  |false=>
   have E:ans=0:=by rw[HA.o,if_neg (by simpa using hq),if_neg (by simp)]
   exact zz3b
 ·have q1:(r.seq !=uq)=true:=by simpa using fun e:r.seq=uq=>hq e.symm
  have E:ans=7:=by rw[HA.o,if_pos hq]
  exact zz3b
theorem zz10{p:Prop}(h:p:=by
 simp only[Act.put,zT,zO,zS];refine wpAnyH_done zk ?_ _;have R1:=zh hS;clear hS
 cases b with
 |true=>
  obtain rfl:=HB.o.trans (if_pos rfl);clear HB;go_wp2;go_ret;exact⟨rfl,R1.o.b⟩
 |false=>
  obtain rfl:=HB.o.trans (if_neg (by simp));clear HB;go_wp2;go_ret;exact⟨rfl,R1.o.b⟩):p:=h
theorem jrl(q:Nat)(s:Bk.St)(ru:Nat->Bk.Un)(rv:Int)(lo ko:Option Nat)(H:Value)(K:Kv.St)(w:World)(h:BdIs w q s ru rv lo ko H K)(ht:BT w)(r:Rc.R)(hin:Rc.In r)(hr:Rc.right r=true):Calls Tryz.prog 115 #[.pointer (some ⟨q,0,none⟩),.agg (Rc.cells r)] w (BRet (.int .i64 (Bk.leadE s r)) w):=by
 obtain⟨ans,hans⟩:∃ans,ans=Bk.leadE s r:=zx;rw[<-hans];have AN:=zh hans;clear hans;have HT:=zh ht;obtain⟨W,hW⟩:∃W,W=w.alloc (.cells (Rc.cells r) 56):=zx;obtain⟨g,hg⟩:∃g,g=w.heap.size:=zx;have R0:=zh (RdC.open_ h r);rw[<-hW,<-hg]at R0;have GE:Hid (w.heap.size<=g):=Nat.le_of_eq hg.symm;have hr1:=(Rc.ok_of hr).epoch;have CL:Hid (s.ep≠0->∀W,RdC w q s ru rv lo ko H K g r W->Calls Tryz.prog 172 #[.pointer (some ⟨q,0,none⟩),.string ⟨#[108,101,97,100,101,114]⟩,.int .i64 r.who,.int .i64 s.ep,.int .i64 r.n] W (fun e w'=>e= .returned (.bool (decide (s.who=r.who)&&decide (r.n<s.till)))/\zF W w')):=fun h0 W h=>jj6 W q _ _ lo (Bd.tab s) h.bd.lsIs Bd.leader (by decide) r.who s.ep r.n (by rw[Bd.tab_holds s r.who s.ep r.n h0,Bool.and_eq_true,decide_eq_true_eq,decide_eq_true_eq];simp);have CF:Hid (∀W,RdC w q s ru rv lo ko H K g r W->Calls Tryz.prog 173 #[.pointer (some ⟨q,0,none⟩),.string ⟨#[108,101,97,100,101,114]⟩,.int .i64 r.n] W (fun e w'=>e= .returned (.bool (Bk.free s r.n))/\zF W w')):=fun W h=>jll W q _ _ lo (Bd.tab s) h.bd.lsIs Bd.leader (by decide) r.n (Bd.tab_free s r.n);have hw1:wrap64 (s.ep+1)=s.ep+1:=IntWalk.wrap64_in _ ⟨by have:=h.lok.ok.ep;omega,by have:=h.lok.ok.ep;omega⟩;have HA:Hid (ans=if r.epoch≠s.ep/\r.epoch≠s.ep+1 then 8 else if Bk.leadOk s r=true then 0 else 9):=AN.o;clear AN;clear h ht;go_in;go_upto_region 1 with fail
 rw[<-hW,<-hg];clear hW hg;have c1:=R0.o.rc.cs.c1;have b4:=R0.o.bd.at_.cs.c4;have lq:=R0.o.bd.lt.1;have lg:=R0.o.rc.cs.lt;by_cases he:r.epoch=s.ep
 ·have q1:(r.epoch==s.ep)=true:=by simpa using he
  have CL2:=zh (CL.o zv);clear CL CF;have HE:=zh he;have HB:Hid (ans=if(decide (s.who=r.who)&&decide (r.n<s.till))=true then 0 else 9):=by show _=_;rw[HA.o,if_neg zv];unfold Bk.leadOk;rw[if_pos he]
  clear HA;generalize(decide (s.who=r.who)&&decide (r.n<s.till))=b at*;go_upto_region 5 with fail
  clear c1 b4 lq lg;refine wp_region_held_drew (S:=RdC w q s ru rv lo ko H K g r) zk (R0.o.on (Below.refl W.heap.size W).drew) (fun hS=> ?_);refine tY 0 hS ?_;refine tY 1 hS ?_;refine tY 2 hS ?_;refine tY 3 hS ?_;refine tZ 4 rfl (by intro W hW;have c2:=hW.rc.cs.c2;have lg:=hW.rc.cs.lt;go_simp;(try with_reducible rfl)) hS ?_;refine tY 5 hS ?_;simp only[Act.put,zT,zO,zS];refine tZ 6 rfl (by intro W hW;have c1:=hW.rc.cs.c1;rw[HE.o]at c1;have lg:=hW.rc.cs.lt;go_simp;(try with_reducible rfl)) hS ?_;refine tY 7 hS ?_;refine tZ 8 rfl (by intro W hW;have c3:=hW.rc.cs.c3;have lg:=hW.rc.cs.lt;go_simp;(try with_reducible rfl)) hS ?_;simp only[Act.put,zT,zO,zS];refine rO 9 (fun K hK=> ?_);go_simp
  refine(CL2.o _ hS).mono ?_
  rintro e w7 ⟨rfl,hb⟩;replace hS:=hS.on hb;clear hb;refine hK.out _ _ hS (fun _=> ?_);clear hK K;refine tY 10 hS ?_;exact zz10
 ·have q1:(r.epoch==s.ep)=false:=by simpa using he
  by_cases he2:r.epoch=s.ep+1
  ·have q2:(r.epoch==s.ep+1)=true:=by simpa using he2
   have HB:Hid (ans=if Bk.free s r.n=true then 0 else 9):=by show _=_;rw[HA.o,if_neg zv];unfold Bk.leadOk;rw[if_neg he];rfl
   clear HA CL;generalize Bk.free s r.n=b at*;go_upto_region 7 with fail
   clear c1 b4 lq lg;refine wp_region_held_drew (S:=RdC w q s ru rv lo ko H K g r) zk (R0.o.on (Below.refl W.heap.size W).drew) (fun hS=> ?_);refine tY 0 hS ?_;refine tY 1 hS ?_;refine tY 2 hS ?_;refine tY 3 hS ?_;refine tZ 4 rfl (by intro W hW;have c3:=hW.rc.cs.c3;have lg:=hW.rc.cs.lt;go_simp;(try with_reducible rfl)) hS ?_;simp only[Act.put,zT,zO,zS];refine rO 5 (fun K hK=> ?_);go_simp
   refine(CF.o _ hS).mono ?_
   rintro e w7 ⟨rfl,hb⟩;replace hS:=hS.on hb;clear hb;refine hK.out _ _ hS (fun _=> ?_);clear hK K;refine tY 6 hS ?_;exact zz10
  ·have q2:(r.epoch==s.ep+1)=false:=by simpa using he2
   obtain rfl:=HA.o.trans (if_pos ⟨he,he2⟩);clear HA CL CF he he2;go_wp2;go_ret;exact⟨rfl,R0.o.b⟩
open Go.RowKit
theorem twelve{l:List Int}(h:l.length=12):∃l0 l1 l2 l3 l4 l5 l6 l7 l8 l9 l10 l11,l=[l0,l1,l2,l3,l4,l5,l6,l7,l8,l9,l10,l11]:=by
 match l,h with
 |[l0,l1,l2,l3,l4,l5,l6,l7,l8,l9,l10,l11],_=>exact⟨l0,l1,l2,l3,l4,l5,l6,l7,l8,l9,l10,l11,rfl⟩
structure SpFz(w:World)(g:Nat):Prop where
 z0:w.frozen? ⟨g,0,none⟩=false
 z1:w.frozen? ⟨g,1,none⟩=false
 z2:w.frozen? ⟨g,2,none⟩=false
 z3:w.frozen? ⟨g,3,none⟩=false
 z4:w.frozen? ⟨g,4,none⟩=false
 z5:w.frozen? ⟨g,5,none⟩=false
 z6:w.frozen? ⟨g,6,none⟩=false
 z7:w.frozen? ⟨g,7,none⟩=false
 z8:w.frozen? ⟨g,8,none⟩=false
 z9:w.frozen? ⟨g,9,none⟩=false
 z10:w.frozen? ⟨g,10,none⟩=false
 z11:w.frozen? ⟨g,11,none⟩=false
theorem jbc{w:World}{g:Nat}{cs:Array Value}{t:TypeId}(h:w.heap[g]? =some (.cells cs t (0,0))):SpFz w g:=by
 constructor<;>exact frozen_of_row w g _ _ _ h
def puts(w:World)(g:Nat):Nat->List Value->World
 |_,[]=>w
 |k,v::vs=>puts (w.setCell ⟨g,k,none⟩ v) g (k+1) vs
theorem jcg(g:Nat)(vs:List Value)(k:Nat)(w:World):w.grownBy (puts w g k vs) (some g):=by
 induction vs generalizing k w with
 |nil=>exact World.grownBy.refl _ _
 |cons v vs ih=>exact jam (jad _ _ _ _) (ih (k+1) _)
theorem jrm(g:Nat)(vs:List Value)(pre post:List Value)(old:List Value)(w:World)(t:TypeId)(hl:old.length=vs.length)(h:w.heap[g]? =some (.cells (pre++old++post).toArray t (0,0))):
  (puts w g pre.length vs).heap[g]? =some (.cells (pre++vs++post).toArray t (0,0)):=by
 induction vs generalizing pre old w with
 |nil=>
  have:old=[]:=List.eq_nil_of_length_eq_zero (by simpa using hl);subst this;exact h
 |cons v vs ih=>
  rcases old with _|⟨x,old⟩
  ·simp at hl
  ·have h1:=heap_setCell_same w g pre.length _ _ v h
   have e:(pre++x::old++post).toArray.setIfInBounds pre.length v=((pre++[v])++old++post).toArray:=by
    simp
   rw[e]at h1;have:=ih (pre++[v]) old _ (by simpa using hl) h1;rw[zA,List.length_singleton]at this;rw[show pre++v::vs++post=pre++[v]++vs++post by simp];exact this
theorem jfh{w:World}{g:Nat}{r s:Spc.Sp}{t:TypeId}(h:w.heap[g]? =some (.cells (Spc.cells r) t (0,0))):(puts w g 0 (Spc.cells s).toList).heap[g]? =some (.cells (Spc.cells s) t (0,0)):=by
 have:=jrm g (Spc.cells s).toList [] [] (Spc.cells r).toList w t rfl (by simpa using h);simpa using this
theorem arr_int:Tryz.prog.underlying 31=some (.array 4 3):=by kernel_rfl
theorem jro(s:Spc.Sp)(j:Nat)(hj:j<4)(W:World):(Instr.index 31 (.agg #[.int .i64 s.a,.int .i64 s.b,.int .i64 s.c,.int .i64 s.e]) (.int .i64 (j:Nat))).run Tryz.prog W= .ok (.int .i64 (Spc.at_ s j)) W:=by
 have h1:(0:Int)<=(j:Nat)/\((j:Nat):Int)<((4:Nat):Int):=by omega
 have hp:(#[.int .i64 s.a,.int .i64 s.b,.int .i64 s.c,.int .i64 s.e]:Array Value)[j]? =some (.int .i64 (Spc.at_ s j)):=by
  rcases j with _|_|_|_|j<;>first|rfl|omega
 generalize(#[.int .i64 s.a,.int .i64 s.b,.int .i64 s.c,.int .i64 s.e]:Array Value)=cs at*;simp[Instr.index,run_underlying arr_int,asIntOf,part,isAgg,run_underlying Tryz.underlying3,h1,hp,go_sem];intro h;omega
theorem jrp(s:Spc.Sp)(w:World):Calls Tryz.prog 185 #[Spc.val s] w fun e w'=>∃A c,e= .returned (.slice A (Spc.steps s).length c)/\OwnI w' w.heap.size (.slice A (Spc.steps s).length c) (Spc.steps s)/\zF w w':=by
 have hb:=(Below.refl w.heap.size w).alloc zl (.cells (Spc.cells s) 33);have A1:=zh (jae (heap_alloc_new w (.cells (Spc.cells s) 33)));have B1:=zh hb;obtain⟨f0,f1,f2,f3,f4,f5,f6,f7,f8,f9,f10,f11⟩:=A1.o;clear hb;unfold Spc.val at*;unfold Spc.cells at*;go_in;go_wp2_with fail;generalize w.alloc (.cells #[.int .i64 s.v,.int .i64 s.d,.int .i64 s.u,.int .i64 s.n,.int .i64 s.g,.int .i64 s.a,.int .i64 s.b,.int .i64 s.c,.int .i64 s.e,.int .i64 s.w,.int .i64 s.x,.int .i64 s.k] 33)=w1 at*;clear f0 f1 f2 f3 f4 f5 f6 f7 f8 f9 f10 f11 A1;go_loopw [3,8] (fun v i wr=>∃(j:Nat) (l:List Int),j<=4/\i= .int .i64 (j:Nat)/\l=[s.a,s.b,s.c,s.e].take j/\(∀m,m<j->Spc.at_ s m≠0)/\OwnI wr w1.heap.size v l/\zF w1 wr) (fun _ i _=>4 -(intOf i).toNat)
 case atStart=>exact⟨0,[],zv,rfl,rfl,fun m hm=>absurd hm zv,World.ownsRow_nil _ _ _ _,zD⟩
 case round=>
  obtain⟨j,l,hj,rfl,hl,hnz,ho,hbr⟩:=hrel;have O:=zh ho;have B:=zh hbr;have HL:=zh hl;have NZ:=zh hnz;have hll:l.length<=4:=by rw[hl,List.length_take];simp;omega
  have hbase:=hbr.size;have fin:Spc.steps s=l->∃A c,u3= .slice A (Spc.steps s).length c/\OwnI wr w.heap.size (.slice A (Spc.steps s).length c) (Spc.steps s)/\zF w wr:=fun e=>by
   exact zz1r
  have FIN:=zh fin;clear ho hbr hl hnz fin;by_cases hlt:j<4
  ·have hpj:=fun W=>jro s j hlt W
   have i1:(0:Int)<=(j:Int):=by omega
   have i2:(j:Int)<4:=by omega
   obtain⟨x,hx⟩:∃x,x=Spc.at_ s j:=zx;rw[<-hx]at hpj;by_cases h0:x=0
   ·have hxb:(x==0)=true:=by rw[h0];rfl
    have E:=zh (FIN.o (by rw[HL.o];exact jc1 (j:=j) zv NZ.o (.inr (by rw[<-hx];exact h0))));clear h0 hx;exact zz2k
   ·have hxb:(x==0)=false:=by rw[zq];exact h0
    have NX:Hid (∀m,m<j+1->Spc.at_ s m≠0):=fun m hm=>by
     rcases Nat.lt_or_ge m j with h|h
     ·exact NZ.o m h
     ·rw[show m=j by omega,<-hx];exact h0
    have HN:Hid (l++[x]=[s.a,s.b,s.c,s.e].take (j+1)):=by
     show _=_;rw[HL.o,hx];rcases j with _|_|_|_|j<;>first|rfl|omega
    clear h0 hx;go_wp2_with(at_builtin;refine jas rfl (.tmp 13) (.tmp 15) rfl w1.heap.size _ l rfl O.o _ rfl zv hbase ?_;intro v3 w3 ho3 hg3;have O3:=zh ho3;have B3:=zh (B.o.grown hg3 hbase (ja2 O.o));clear ho3 hg3);exact⟨⟨j+1,l++[x],zv,by go_num,HN.o,NX.o,O3.o,B3.o⟩,by simp[intOf];omega⟩
  ·obtain rfl:j=4:=by omega
   have E:=zh (FIN.o (by rw[HL.o];exact jc1 (j:=4) zv NZ.o (.inl rfl)));exact zz2k