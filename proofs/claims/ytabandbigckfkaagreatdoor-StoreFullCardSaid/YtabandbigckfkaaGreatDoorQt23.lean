import Derived.Test.YtabandbigckfkaaGreatDoorQt22
set_option maxHeartbeats 6400000
set_option maxRecDepth 100000
set_option linter.unusedSimpArgs false
set_option linter.unusedVariables false
namespace Go.Proofs.YtabandbigckfkaaGreatDoor
open Go.RowKit Go.Deep Go.Maps
structure StR(w0:World)(G:Nat→Prop)(p:Nat)(m:Int)(d:Dk.St)(r q:Nat)(X:Nat→Prop)(b:Nat)(s:Bk.St)(g:Nat)(rc:Rc.R)(W:World):Prop where
 st:StJ w0 G p m d (.pointer (some ⟨b,0,none⟩)) r q X W
 bk:BP w0 (StF G p X) b s W
 rc:RcAt W g rc
 bt:BT W
section
variable{w0 W W':World}{G X:Nat→Prop}{p r q b g:Nat}{m:Int}{d:Dk.St}{s:Bk.St}{rc:Rc.R}
theorem StR.on(h:StR w0 G p m d r q X b s g rc W)(hb:Below W.heap.size W W'):StR w0 G p m d r q X b s g rc W':=⟨h.st.on hb,jc8 h.bk hb,h.rc.on hb,h.bt.on hb⟩
theorem StR.open_(h:StJ w0 G p m d (.pointer (some ⟨b,0,none⟩)) r q X W)(hb:BP w0 (StF G p X) b s W)(ht:BT W)(rc:Rc.R):StR w0 G p m d r q X b s W.heap.size rc (W.alloc (.cells (Rc.cells rc) 45)):=by
 have ha:Below W.heap.size W (W.alloc (.cells (Rc.cells rc) 45)):=(Below.refl _ _).alloc (Nat.le_refl _) _;exact⟨h.on ha,jc8 hb ha,RcAt.new W rc,ht.on ha⟩
end
theorem jht{w0 W:World}{G X:Nat→Prop}{p r q b:Nat}{m:Int}{d:Dk.St}{s:Bk.St}(h:StJ w0 G p m d (.pointer (some ⟨b,0,none⟩)) r q X W)(hb:BP w0 (StF G p X) b s W)(ht:BT W)(rc:Rc.R)(hr:Rc.In rc):
  Calls Tryz.prog 50 #[.pointer (some ⟨p,0,none⟩),.agg (Rc.cells rc)] W (fun e w'=>∃A n c,e= .returned (.tuple #[.slice A n c,.int .i64 (Bk.chk s rc)])∧(Bk.chk s rc=0→Sl w' A n c (Rc.bytes rc))∧Below W.heap.size W w'):=by
 obtain⟨ans,hans⟩:∃ans,ans=Bk.chk s rc:=⟨_,rfl⟩;rw[←hans];have AN:=zh hans;have HR:=zh hr;have CC:Hid (∀W',StR w0 G p m d r q X b s W.heap.size rc W'→Calls Tryz.prog 33 #[.pointer (some ⟨b,0,none⟩),.agg (Rc.cells rc)] W' (BRet (.int .i64 ans) W')):=fun W' hx=>by rw[hans];exact jqn hx.bk hx.bt hr
 have BY:Hid (ans=0→Rc.bytesL rc=Rc.bytes rc∧Rc.bytesE rc=0):=fun h0=>Rc.bytes_yes (Bk.chk_right (hans.symm.trans h0));have CB:=zh (fun W'=>jky rc hr W');obtain⟨W1,hW1⟩:∃W1,W1=W.alloc (.cells (Rc.cells rc) 45):=⟨_,rfl⟩;obtain⟨g,hg⟩:∃g,g=W.heap.size:=⟨_,rfl⟩;have R0:=zh (StR.open_ h hb ht rc);rw[←hW1,←hg]at R0;rw[←hg]at CC;have B1:Hid (Below W.heap.size W W1):=by rw[hW1];exact(Below.refl _ _).alloc (Nat.le_refl _) _
 clear h hb ht hans hr;go_enter Tryz.func50,Tryz.ntmps50;go_upto_region 1 with fail
 rw[←hW1,←hg];clear hW1 hg;go_upto_region 3 with fail
 refine wp_region_held_drew (S:=StR w0 G p m d r q X b s g rc) (by kernel_rfl) (R0.out.on (Below.refl _ _).drew) (fun hS=> ?_);refine tY 0 hS ?_;refine tY 1 hS ?_;refine tY 2 hS ?_;refine tZ 3 rfl (by intro W hW;have lq:=hW.st.lt;have c2:=hW.st.cells.2.2.2.1;go_simp;(try with_reducible rfl)) hS ?_;refine tZ 4 (v:= .agg (Rc.cells rc)) rfl (fun W hW=>jap (.tmp 3) rfl g rc rfl hW.rc) hS ?_;simp only[Act.put,zT,zO,zS];refine rO 5 (fun K hK=> ?_);go_simp
 with_reducible refine(CC.out _ hS).mono ?_
 rintro e w8 ⟨rfl,hb⟩;have B8:=zh (B1.out.trans ((Below.refl _ _).drew.trans hb|>.mono B1.out.size));replace hS:=hS.on hb;clear hb;refine hK.out _ _ hS (fun _=> ?_);clear hK K;refine tY 6 hS ?_;simp only[Act.put,zT,zO,zS];refine wpAnyH_done (by kernel_rfl) ?_ _;have R9:=zh hS;clear hS;by_cases h0:ans=0
 ·have HY:=zh (BY.out h0)
  subst h0
  go_wp2_with(first
   |((with_reducible show zL 18);refine zR (.tmp 3) R9.out.rc ?_)
   |(go_at_call 102;(with_reducible refine(CB.out _).mono ?_);rintro e w10 ⟨A,c,rfl,hs,hb⟩;rw[HY.out.1]at hs⊢;rw[HY.out.2];have S10:=zh hs;have B10:=zh hb;clear hs hb))
  go_ret2;exact⟨_,_,_,rfl,by first|exact S10.out|exact fun _=>S10.out,B8.out.trans (B10.out.mono B8.out.size)⟩
 ·have h1:(ans !=0)=true:=by simpa using h0
  go_wp2_with fail;go_ret2;exact⟨_,_,_,rfl,by first|exact fun hx=>absurd hx h0|simp[h0],B8.out⟩
theorem stfit_none(W:World)(rc:Rc.R):Calls Tryz.prog 50 #[.pointer none,.agg (Rc.cells rc)] W (fun e w'=>e= .returned (.tuple #[.slice none 0 0,.int .i64 1])∧Below W.heap.size W w'):=by
 obtain⟨W1,hW1⟩:∃W1,W1=W.alloc (.cells (Rc.cells rc) 45):=⟨_,rfl⟩;have B1:Hid (Below W.heap.size W W1):=by rw[hW1];exact(Below.refl _ _).alloc (Nat.le_refl _) _
 go_enter Tryz.func50,Tryz.ntmps50;go_upto_region 1 with fail
 rw[←hW1];clear hW1;go_wp2_with fail;go_ret2;exact⟨rfl,B1.out⟩
end Go.Proofs.YtabandbigckfkaaGreatDoor
namespace Go.Proofs.YtabandbigckfkaaGreatDoor
open Go.RowKit
def mkS(l:List Int):Spc.Sp:=if l.length=12 then Spc.of l else Spc.zero
def mkE(l:List Int):Int:=if l.length=12 then 0 else 1
structure jfe(w:World)(gs gr:Nat)(o:Spc.Sp)(wx:World):Prop where
 at_:wx.heap[gs]? =some (.cells (Spc.cells o) 35 (0,0))
 res:wx.heap[gr]? =some (.cells (Spc.cells Spc.zero) 35 (0,0))
 below:Below w.heap.size w wx
 ne:gs≠gr
 lo:w.heap.size≤gs
 lor:w.heap.size≤gr
theorem jfe.start(w:World):jfe w (w.heap.size+1) w.heap.size Spc.zero ((w.alloc (.cells (Spc.cells Spc.zero) 35)).alloc (.cells (Spc.cells Spc.zero) 35)):=by
 have h1:=heap_alloc_new w (.cells (Spc.cells Spc.zero) 35);have hb1:=(Below.refl w.heap.size w).alloc (Nat.le_refl _) (.cells (Spc.cells Spc.zero) 35);have hz:(w.alloc (.cells (Spc.cells Spc.zero) 35)).heap.size=w.heap.size+1:=by simp
 generalize w.alloc (.cells (Spc.cells Spc.zero) 35)=w1 at*;have h2:=heap_alloc_new w1 (.cells (Spc.cells Spc.zero) 35);have hb2:=(Below.refl w1.heap.size w1).alloc (Nat.le_refl _) (.cells (Spc.cells Spc.zero) 35);rw[hz]at h2;exact⟨h2,(hb2.block w.heap.size (by omega)).trans h1,hb1.trans (hb2.mono (by omega)),by omega,by omega,Nat.le_refl _⟩
theorem jfe.on{w wx w':World}{gs gr:Nat}{o:Spc.Sp}(h:jfe w gs gr o wx)(hb:Below wx.heap.size wx w'):jfe w gs gr o w':=
 ⟨(hb.block gs (Array.getElem?_eq_some_iff.1 h.at_).1).trans h.at_,(hb.block gr (Array.getElem?_eq_some_iff.1 h.res).1).trans h.res,h.below.trans (hb.mono h.below.size),h.ne,h.lo,h.lor⟩
theorem jfe.set{w wx:World}{gs gr:Nat}{o:Spc.Sp}(h:jfe w gs gr o wx)(o':Spc.Sp)(k:Nat)(v:Int)(he:(Spc.cells o).setIfInBounds k (.int .i64 v)=Spc.cells o'):jfe w gs gr o' (wx.setCell ⟨gs,k,none⟩ (.int .i64 v)):=by
 refine⟨?_,?_,h.below.setCell h.lo _,h.ne,h.lo,h.lor⟩
 ·rw[←he];exact heap_setCell_same wx gs k _ _ _ h.at_
 ·exact((jad wx gs k _).block gr (Array.getElem?_eq_some_iff.1 h.res).1 (by simp;exact fun e=>h.ne e.symm)).trans h.res
theorem jn0{l:List Int}(hl:l.length=12){j:Nat}(hj:j<12):(Spc.cells (Spc.of (l.take j))).setIfInBounds j (.int .i64 (l.getD j 0))=Spc.cells (Spc.of (l.take (j+1))):=by
 obtain⟨l0,l1,l2,l3,l4,l5,l6,l7,l8,l9,l10,l11,rfl⟩:=twelve hl;rcases j with _|_|_|_|_|_|_|_|_|_|_|_|j<;>first|rfl|omega
theorem ji3{l:List Int}(hl:l.length=12):Spc.of (l.take 12)=Spc.of l:=by rw[List.take_of_length_le (by omega)]
theorem jqq(l:List Int)(A:Option Addr)(n c:Nat)(w:World)(h:SlI w A n c l)(hn:n≤1000):Calls Tryz.prog 124 #[.slice A n c] w (APos w (.tuple #[Spc.val (mkS l),.int .i64 (mkE l)])):=by
 have hlen:=h.len;by_cases h12:l.length=12
 ·have HV:Hid (Spc.val (mkS l)=Spc.val (Spc.of l)∧mkE l=0):=by
   unfold mkS mkE;show _∧_;rw[if_pos h12,if_pos h12];exact⟨rfl,rfl⟩
  obtain⟨b,off,rfl,hbl,hc⟩:=h.rd (by omega);have hcap:=h.cap;have hmax:=h.max;unfold maxLen at hmax;have H12:=zh h12;have HC:Hid (∀W,Below w.heap.size w W→∀j,j<12→W.cell? ⟨b,off+j,none⟩=some (.int .i64 (l.getD j 0))):=fun W hW j hj=>(hW.cell (p:=⟨b,off+j,none⟩) hbl).trans (hc j (by omega));obtain rfl:n=12:=by omega
  have CN:Hid (∀g W,Calls Tryz.prog 194 #[.pointer (some ⟨g,0,none⟩)] W fun e w'=>e= .returned (.agg (ptrs g))∧Below W.heap.size W w'):=jdh;rw[HV.out.2];clear h hc hbl hlen h12 hn;have P1:Hid (jfe w (w.heap.size+1) w.heap.size Spc.zero ((w.alloc (.cells #[.int .i64 0,.int .i64 0,.int .i64 0,.int .i64 0,.int .i64 0,.int .i64 0,.int .i64 0,.int .i64 0,.int .i64 0,.int .i64 0,.int .i64 0,.int .i64 0] 35)).alloc (.cells #[.int .i64 0,.int .i64 0,.int .i64 0,.int .i64 0,.int .i64 0,.int .i64 0,.int .i64 0,.int .i64 0,.int .i64 0,.int .i64 0,.int .i64 0,.int .i64 0] 35))):=jfe.start w;obtain⟨gr,hgr⟩:∃gr,gr=w.heap.size:=⟨_,rfl⟩;obtain⟨gs,hgs⟩:∃gs,gs=w.heap.size+1:=⟨_,rfl⟩;rw[←hgs,←hgr]at P1;have GR:=zh hgr;have GS:=zh hgs;clear hgr hgs;go_enter Tryz.func124,Tryz.ntmps124;go_wp2_with fail;rw[←GS.out,←GR.out];generalize(w.alloc (.cells #[.int .i64 0,.int .i64 0,.int .i64 0,.int .i64 0,.int .i64 0,.int .i64 0,.int .i64 0,.int .i64 0,.int .i64 0,.int .i64 0,.int .i64 0,.int .i64 0] 35)).alloc (.cells #[.int .i64 0,.int .i64 0,.int .i64 0,.int .i64 0,.int .i64 0,.int .i64 0,.int .i64 0,.int .i64 0,.int .i64 0,.int .i64 0,.int .i64 0,.int .i64 0] 35)=w1 at*;refine(CN.out gs w1).mono ?_;rintro e w2 ⟨rfl,hb2⟩;have P2:=zh (P1.out.on hb2);clear hb2 P1 CN GR GS;go_wp2_with fail;go_loopw [12] (fun i wr=>∃(j:Nat),j≤12∧i= .int .i64 (j:Nat)∧jfe w gs gr (Spc.of (l.take j)) wr) (fun i _=>12 -(intOf i).toNat)
  case atStart=>exact⟨0,by omega,rfl,P2.out⟩
  case round=>
   obtain⟨j,hj,rfl,hp⟩:=hrel;have P:=zh hp;clear hp P2;by_cases hlt:j<12
   ·have hpj:=fun W=>jgm gs j hlt W
    have hcj:=HC.out wr P.out.below j hlt;have hcg:=sp_at (jac P.out.at_) hlt;have hfg:wr.frozen? ⟨gs,j,none⟩=false:=frozen_of_row wr gs _ _ _ P.out.at_;have PX:=zh (P.out.set _ j _ (jn0 H12.out hlt));obtain⟨x,hx⟩:∃x,x=l.getD j 0:=⟨_,rfl⟩;rw[←hx]at hcj PX;have i1:(0:Int)≤(j:Int):=by omega
    have i2:(j:Int)<12:=by omega
    clear hx;go_wp2_with fail;exact⟨⟨j+1,by omega,by go_num,PX.out⟩,by simp[intOf];omega⟩
   ·obtain rfl:j=12:=by omega
    have hp:=P.out;rw[ji3 H12.out]at hp;obtain⟨o,ho⟩:∃o,o=Spc.of l:=⟨_,rfl⟩;rw[←ho]at hp HV;have PE:=zh hp;clear hp P ho;obtain⟨f0,f1,f2,f3,f4,f5,f6,f7,f8,f9,f10,f11⟩:=jac PE.out.at_;obtain⟨q0,q1,q2,q3,q4,q5,q6,q7,q8,q9,q10,q11⟩:=jac (s:=Spc.zero) PE.out.res;obtain⟨y0,y1,y2,y3,y4,y5,y6,y7,y8,y9,y10,y11⟩:=ja1 PE.out.res;simp only[Spc.zero]at q0 q1 q2 q3 q4 q5 q6 q7 q8 q9 q10 q11;have hP:=jd6 (s:=o) (r:=Spc.zero) PE.out.res;have hG:=jbt gr (Spc.cells o).toList 0 wr;obtain⟨W9,hW⟩:∃W9,W9=puts wr gr 0 (Spc.cells o).toList:=⟨_,rfl⟩;rw[←hW]at hP hG;have hB:=PE.out.below.grown hG PE.out.below.size (fun i hi=>by injection hi with hi;have:=PE.out.lor;omega)
    have key:((((((((((((wr.setCell ⟨gr,0,none⟩ (.int .i64 o.v)).setCell ⟨gr,1,none⟩ (.int .i64 o.d)).setCell ⟨gr,2,none⟩ (.int .i64 o.u)).setCell ⟨gr,3,none⟩ (.int .i64 o.n)).setCell ⟨gr,4,none⟩ (.int .i64 o.g)).setCell ⟨gr,5,none⟩ (.int .i64 o.a)).setCell ⟨gr,6,none⟩ (.int .i64 o.b)).setCell ⟨gr,7,none⟩ (.int .i64 o.c)).setCell ⟨gr,8,none⟩ (.int .i64 o.e)).setCell ⟨gr,9,none⟩ (.int .i64 o.w)).setCell ⟨gr,10,none⟩ (.int .i64 o.x)).setCell ⟨gr,11,none⟩ (.int .i64 o.k))=W9:=by rw[hW];rfl
    have KEY:=zh key;have HP:=zh hP;have HB:=zh hB;clear hP hG hW hB key PE;go_wp2_with fail;rw[KEY.out];clear f0 f1 f2 f3 f4 f5 f6 f7 f8 f9 f10 f11 q0 q1 q2 q3 q4 q5 q6 q7 q8 q9 q10 q11 y0 y1 y2 y3 y4 y5 y6 y7 y8 y9 y10 y11 KEY;obtain⟨f0,f1,f2,f3,f4,f5,f6,f7,f8,f9,f10,f11⟩:=jac (s:=o) HP.out;exact bodyPost_ret (v:= .tuple #[.agg #[.int .i64 o.v,.int .i64 o.d,.int .i64 o.u,.int .i64 o.n,.int .i64 o.g,.int .i64 o.a,.int .i64 o.b,.int .i64 o.c,.int .i64 o.e,.int .i64 o.w,.int .i64 o.x,.int .i64 o.k],.int .i64 0]) (by simp[results,Tryz.results124,go_sem,f0,f1,f2,f3,f4,f5,f6,f7,f8,f9,f10,f11]) rfl ⟨by rw[HV.out.1];rfl,HB.out⟩
 ·have HV:Hid (Spc.val (mkS l)= .agg #[.int .i64 0,.int .i64 0,.int .i64 0,.int .i64 0,.int .i64 0,.int .i64 0,.int .i64 0,.int .i64 0,.int .i64 0,.int .i64 0,.int .i64 0,.int .i64 0]∧mkE l=1):=by
   unfold mkS mkE;show _∧_;rw[if_neg h12,if_neg h12];exact⟨rfl,rfl⟩
  have hn12:¬(n:Int)=12:=by omega
  have hcap:=h.cap;have hmax:=h.max;unfold maxLen at hmax;have HB:=zh ((Below.refl w.heap.size w).alloc (Nat.le_refl _) (.cells #[.int .i64 0,.int .i64 0,.int .i64 0,.int .i64 0,.int .i64 0,.int .i64 0,.int .i64 0,.int .i64 0,.int .i64 0,.int .i64 0,.int .i64 0,.int .i64 0] 35));rw[HV.out.1,HV.out.2];clear h hlen h12 HV;go_enter Tryz.func124,Tryz.ntmps124;go_wp2_with fail;exact bodyPost_ret (v:= .tuple #[.agg #[.int .i64 0,.int .i64 0,.int .i64 0,.int .i64 0,.int .i64 0,.int .i64 0,.int .i64 0,.int .i64 0,.int .i64 0,.int .i64 0,.int .i64 0,.int .i64 0],.int .i64 1]) (by simp[results,Tryz.results124,go_sem]) rfl ⟨rfl,HB.out⟩
open Cdc
namespace Rc
theorem numsV_small(s:St):∀k,∀x∈numsV s k,x<4611686018427387904
 |0,x,h=>by cases h
 |k+1,x,h=>by
  rcases List.mem_append.1 (show x∈numsV s k++[numV (numsAt s k)]from h)with h|h
  ·exact numsV_small s k x h
  ·rw[List.mem_singleton]at h;subst h;exact numV_lt _
theorem nI_i64{l:List Nat}(h:∀x∈l,x<4611686018427387904):∀x∈nI l,Spc.i64 x:=by
 intro x hx;unfold nI at hx;obtain⟨y,hy,rfl⟩:=List.mem_map.1 hx;have:=h y hy;unfold Spc.i64;omega
theorem getD_i64{l:List Int}(h:∀x∈l,Spc.i64 x)(j:Nat):Spc.i64 (l.getD j 0):=by
 by_cases hj:j<l.length
 ·rw[jak hj];exact h _ (List.getElem_mem _)
 ·have:l.getD j 0=0:=by simp[List.getD,List.getElem?_eq_none (show l.length≤j by omega)]
  rw[this];unfold Spc.i64;omega
theorem listV_small(s:St):∀x∈listV s,x<4611686018427387904:=by
 intro x hx;unfold listV at hx;split at hx
 ·exact numsV_small _ _ x hx
 ·cases hx
theorem of_in{l:List Int}(h:∀x∈l,Spc.i64 x):Spc.In (Spc.of l):=by
 intro n hn;have k:=getD_i64 h;simp only[Spc.flds,Spc.of,List.mem_cons,List.not_mem_nil,or_false]at hn;rcases hn with rfl|rfl|rfl|rfl|rfl|rfl|rfl|rfl|rfl|rfl|rfl|rfl<;>exact k _
theorem zero_in:Spc.In Spc.zero:=by
 intro x hx;simp[Spc.flds,Spc.zero]at hx;unfold Spc.i64;omega
theorem textV_len(s:St):(textV s).length≤64:=by
 unfold textV tkV;split
 ·split
  ·rw[List.length_take];have:=cntV_le s;omega
  ·simp
 ·simp
theorem dec_in(l:List Nat):In (dec l):=by
 have hv:=nI_i64 (numsV_small ⟨l,0⟩ 5);have k:=getD_i64 hv;refine⟨?_,?_,?_⟩
 ·intro x hx
  simp only[nums,dec,List.mem_cons,List.not_mem_nil,or_false]at hx;rcases hx with rfl|rfl|rfl|rfl|rfl<;>exact k _
 ·show(txt (textV (k1 l))).size≤_
  rw[jbx];have:=textV_len (k1 l);unfold maxLen;omega
 ·show Spc.In (s3 l)
  unfold s3;split
  ·split
   ·exact of_in (nI_i64 (listV_small _))
   ·exact zero_in
  ·exact zero_in
theorem whole_end{l:List Nat}(h:whole l):endE (k3 l)=0:=by
 have:=(dec_bytes h.1).2;rw[h.2]at this;rw[this];rfl
end Rc
theorem jn1(s:St):(Cdc.text s).l.length≤s.l.length:=by
 unfold Cdc.text tk;split
 ·split
  ·rw[List.length_drop];have:=jh9 s;show _ -_≤_;omega
  ·simp[lost]
 ·exact jh9 s
namespace Rc
abbrev By(s:St):Prop:=∀x∈s.l,x<256
theorem num_only{s:St}(hb:By s)(h:(num s).e=0):s.e=0∧s.l=digs (numV s)++(num s).l∧By (num s):=by
 unfold num at h⊢;unfold numV;by_cases he:s.e=0
 ·rw[if_pos he]at h⊢
  rw[if_pos he];by_cases hd:dk s.l=0
  ·rw[if_pos hd]at h;cases h
  ·rw[if_neg hd,digs_dn hb hd]
   exact⟨he,(List.take_append_drop _ _).symm,fun x hx=>hb x (List.mem_of_mem_drop hx)⟩
 ·rw[if_neg he]at h;exact absurd h he
theorem nums_only{s:St}(hb:By s):∀k,(numsAt s k).e=0→s.e=0∧s.l=(numsV s k).flatMap digs++(numsAt s k).l∧By (numsAt s k)
 |0,h=>⟨h,rfl,hb⟩
 |k+1,h=>by
  have hx:(num (numsAt s k)).e=0:=h;have hk:(numsAt s k).e=0:=by
   by_cases hk:(numsAt s k).e=0
   ·exact hk
   ·rw[num_err hk]at hx;exact hx
  obtain⟨h1,h2,h3⟩:=nums_only hb k hk;obtain⟨h4,h5,h6⟩:=num_only h3 hx;refine⟨h1,?_,h6⟩;show s.l=(numsV s k++[numV (numsAt s k)]).flatMap digs++(num (numsAt s k)).l;rw[List.flatMap_append,List.append_assoc,List.flatMap_cons,List.flatMap_nil,List.append_nil,←h5];exact h2
theorem cnt_only{s:St}(hb:By s)(h:(cnt s).e=0):s.e=0∧s.l=digs (cntV s)++(cnt s).l∧By (cnt s):=by
 unfold cnt at h⊢;unfold cntV;by_cases hc:numV s≤64
 ·rw[if_pos hc]at h⊢
  rw[if_pos hc];exact num_only hb h
 ·rw[if_neg hc]at h;cases h
theorem tk_only{s:St}(hb:By s){n:Nat}(h:(tk s n).e=0):s.e=0∧s.l=tkV s n++(tk s n).l∧(tkV s n).length=n∧By (tk s n):=by
 unfold tk at h⊢;unfold tkV;by_cases he:s.e=0
 ·rw[if_pos he]at h⊢
  rw[if_pos he];by_cases hn:n≤s.l.length
  ·rw[if_pos hn,if_pos hn]
   exact⟨he,(List.take_append_drop _ _).symm,by rw[List.length_take];omega,fun x hx=>hb x (List.mem_of_mem_drop hx)⟩
  ·rw[if_neg hn]at h;cases h
 ·rw[if_neg he]at h;exact absurd h he
theorem text_only{s:St}(hb:By s)(h:(Cdc.text s).e=0):s.e=0∧s.l=digs (textV s).length++(textV s++(Cdc.text s).l)∧By (Cdc.text s):=by
 by_cases hc:(cnt s).e=0
 ·obtain⟨h1,h2,h3⟩:=cnt_only hb hc
  obtain⟨h4,h5,h6,h7⟩:=tk_only (n:=cntV s) h3 h;refine⟨h1,?_,h7⟩;show s.l=digs (tkV (cnt s) (cntV s)).length++(tkV (cnt s) (cntV s)++(tk (cnt s) (cntV s)).l);rw[h6,←h5];exact h2
 ·have:(tk (cnt s) (cntV s)).e=0:=h
  unfold tk at this;rw[if_neg hc]at this;exact absurd this hc
theorem list_only{s:St}(hb:By s)(h:(Cdc.list s).e=0):s.e=0∧s.l=digs (listV s).length++((listV s).flatMap digs++(Cdc.list s).l):=by
 obtain⟨h4,h5,h6⟩:(cnt s).e=0∧(By (cnt s)→(cnt s).l=(numsV (cnt s) (cntV s)).flatMap digs++(numsAt (cnt s) (cntV s)).l)∧True:=by
  by_cases hc:(cnt s).e=0
  ·exact⟨hc,fun h3=>(nums_only h3 (cntV s) h).2.1,trivial⟩
  ·have h0:(numsAt (cnt s) 0).e≠0:=hc
   have:=numsAt_err h0 (cntV s);rw[Nat.zero_add]at this;have hx:(numsAt (cnt s) (cntV s)).e=0:=h;rw[this]at hx;exact absurd hx hc
 obtain⟨h1,h2,h3⟩:=cnt_only hb h4;refine⟨h1,?_⟩;have e1:listV s=numsV (cnt s) (cntV s):=by unfold listV;rw[if_pos h]
 rw[e1,numsV_length];show s.l=digs (cntV s)++((numsV (cnt s) (cntV s)).flatMap digs++(numsAt (cnt s) (cntV s)).l);rw[←h5 h3];exact h2
theorem fl_nI(l:List Nat):fl (nI l)=l.flatMap digs:=by
 rw[jls];unfold nI;rw[List.map_map]
 congr 1
 induction l with
 |nil=>rfl
 |cons x t ih=>rw[List.map_cons,ih];rfl
theorem sb_txt{l:List Nat}(h:∀x∈l,x<256):sb (txt l)=l:=by
 have:txt (sb (txt l))=txt l:=jlh _;have h2:=txt_eq (jh6 (txt l)) h;rw[this]at h2;have h3:((txt l).toList==(txt l).toList)=true:=by simp
 rw[h3]at h2;exact of_decide_eq_true h2.symm
theorem five{l:List Int}(h:l.length=5):[l.getD 0 0,l.getD 1 0,l.getD 2 0,l.getD 3 0,l.getD 4 0]=l:=by
 match l,h with
 |[a,b,c,d,e],_=>rfl
theorem whole_of{l:List Nat}(hb:∀x∈l,x<256)(he:endE (k3 l)=0)(hr:right (dec l)=true):whole l:=by
 refine⟨hr,?_⟩;have h3:(k3 l).e=0∧(k3 l).l=[]:=by
  unfold endE at he;split at he
  ·cases he
  ·exact⟨he,List.length_eq_zero_iff.1 (by omega)⟩
 have hv:(nI (numsV ⟨l,0⟩ 5)).length=5:=by rw[jbu,numsV_length]
 have hn:nums (dec l)=v1 l:=five hv;have hkk:(dec l).kind=(v1 l).getD 0 0:=rfl;have key:(k2 l).e=0∧(By (k2 l)→(k2 l).l=(if(dec l).kind=3 then digs 12++fl (Spc.flds (dec l).sp)else[])):=by
  unfold k3 at h3;by_cases hk:(v1 l).getD 0 0=3
  ·rw[if_pos hk]at h3
   have hm:Spc.May (dec l).sp:=(ok_of hr).begin_ (hkk.trans hk);have hl:(listV (k2 l)).length=12:=by
    by_cases hl:(listV (k2 l)).length=12
    ·exact hl
    ·exfalso
     have e0:(dec l).sp=Spc.zero:=by
      show s3 l=_;unfold s3;rw[if_pos hk,if_neg hl]
     rw[e0]at hm;have:=Spc.chk_of hm;revert this;decide
   have es:(dec l).sp=Spc.of (nI (listV (k2 l))):=by
    show s3 l=_;unfold s3;rw[if_pos hk,if_pos hl]
   have he2:(k2 l).e=0:=by
    by_cases h2:(k2 l).e=0
    ·exact h2
    ·exfalso
     have hx:(Cdc.list (k2 l)).e=0:=h3.1;have hc:cnt (k2 l)=k2 l:=by
      unfold cnt;rw[numV_err h2,if_pos (by omega),num_err h2]
     have h0:(numsAt (cnt (k2 l)) 0).e≠0:=by rw[hc];exact h2
     have:=numsAt_err h0 (cntV (k2 l));rw[Nat.zero_add]at this;have hx2:(numsAt (cnt (k2 l)) (cntV (k2 l))).e=0:=hx;rw[this]at hx2;exact h0 hx2
   refine⟨he2,fun h2=> ?_⟩;have:=(list_only h2 h3.1).2;rw[h3.2,List.append_nil,hl]at this;rw[this,if_pos (hkk.trans hk),es,Spc.flds_of (by rw[jbu];exact hl),fl_nI]
  ·rw[if_neg hk]at h3
   exact⟨h3.1,fun _=>by rw[h3.2,if_neg (fun h=>hk (hkk.symm.trans h))]⟩
 have ht:(Cdc.text (k1 l)).e=0:=key.1;have h1e:(numsAt ⟨l,0⟩ 5).e=0:=by
  by_cases h1:(k1 l).e=0
  ·exact h1
  ·exfalso
   have hc:cnt (k1 l)=k1 l:=by
    unfold cnt;rw[numV_err h1,if_pos (by omega),num_err h1]
   have hx:(tk (cnt (k1 l)) (cntV (k1 l))).e=0:=ht;rw[hc]at hx;unfold tk at hx;rw[if_neg h1]at hx;exact h1 hx
 obtain⟨_,ha,hb1⟩:=nums_only (s:=⟨l,0⟩) hb 5 h1e;obtain⟨_,hc,hb2⟩:=text_only (s:=k1 l) hb1 ht;have hd:=key.2 hb2;have htv:∀x∈textV (k1 l),x<256:=fun x hx=>hb1 x (by
  rw[show(numsAt ⟨l,0⟩ 5).l=(k1 l).l from rfl,hc];exact List.mem_append_right _ (List.mem_append_left _ hx))
 unfold bytes;rw[←hd,hn];have e5:(dec l).text=txt (textV (k1 l)):=rfl;rw[e5,jbx,sb_txt htv,List.append_assoc];have e6:(k2 l).l=(Cdc.text (k1 l)).l:=rfl;rw[e6,←hc];have e7:fl (v1 l)=(numsV ⟨l,0⟩ 5).flatMap digs:=fl_nI _;rw[e7];exact ha.symm
end Rc
abbrev RcRd:Prop:=∀W A n c l,Sl W A n c l→n≤1000→Calls Tryz.prog 71 #[.slice A n c] W (APos W (.tuple #[.agg (Rc.cells (Rc.rdV l)),.int .i64 (Rc.rdE l)]))
def Rdr(w:World)(r:Nat)(s:St):Prop:=
 ∃A c,w.heap[r]? =some (.cells #[.slice A s.l.length c,.int .i64 s.e] 248 (0,0))∧Rd w r A s.l∧s.l.length≤c∧c≤maxLen∧(A=none→c=0)
theorem Rdr.lt{w:World}{r:Nat}{s:St}(h:Rdr w r s):r<w.heap.size:=by
 obtain⟨A,c,h,_⟩:=h;exact(Array.getElem?_eq_some_iff.1 h).1
theorem Rdr.below{w w':World}{r:Nat}{s:St}(h:Rdr w r s)(hb:Below w.heap.size w w'):Rdr w' r s:=by
 have hr:=h.lt;obtain⟨A,c,h,h2,h3⟩:=h;exact⟨A,c,by rw[hb.block r hr];exact h,h2.below (hb.mono (by omega)),h3⟩
structure jn2(w:World)(r:Nat)(s:St)(A:Option Addr)(c:Nat):Prop where
 blk:w.heap[r]? =some (.cells #[.slice A s.l.length c,.int .i64 s.e] 248 (0,0))
 left:w.cell? ⟨r,0,none⟩=some (.slice A s.l.length c)
 err:w.cell? ⟨r,1,none⟩=some (.int .i64 s.e)
 f0:w.frozen? ⟨r,0,none⟩=false
 f1:w.frozen? ⟨r,1,none⟩=false
 rd:Rd w r A s.l
 cap:s.l.length≤c
 max:c≤maxLen
 nil:A=none→c=0
theorem Rdr.fields{w:World}{r:Nat}{s:St}(h:Rdr w r s):∃A c,jn2 w r s A c:=by
 obtain⟨A,c,h,h2,h3,h4,h5⟩:=h;exact⟨A,c,h,by rw[cell_of_row w r 0 _ _ _ h];rfl,by rw[cell_of_row w r 1 _ _ _ h];rfl,frozen_of_row w r 0 _ _ h,frozen_of_row w r 1 _ _ h,h2,h3,h4,h5⟩
theorem rd_set{w:World}{r o:Nat}{A:Option Addr}{l:List Nat}(h:Rd w r A l)(v:Value):Rd (w.setCell ⟨r,o,none⟩ v) r A l:=
 h.keep fun p hp=>World.cell?_of_block (w:=w) (Below.heap_setCell _ _ _ _ (by simp;omega))
theorem jqr{w:World}{r:Nat}{s:St}{A:Option Addr}{c:Nat}(h:jn2 w r s A c):Rdr ((w.setCell ⟨r,0,none⟩ (.slice none 0 0)).setCell ⟨r,1,none⟩ (.int .i64 2)) r lost:=by
 refine⟨none,0,?_,Rd.empty _ _ _,Nat.le_refl _,Nat.zero_le _,fun _=>rfl⟩;have h1:=heap_setCell_same w r 0 _ _ (.slice none 0 0) h.blk;have h2:=heap_setCell_same (w.setCell ⟨r,0,none⟩ (.slice none 0 0)) r 1 _ _ (.int .i64 2) h1;rw[h2];rfl
theorem jqs{w:World}{r c':Nat}{s:St}{A A':Option Addr}{c:Nat}{l:List Nat}(h:jn2 w r s A c)(hr:Rd w r A' l)(h1:l.length≤c')(h2:c'≤maxLen)(h3:A'=none→c'=0):Rdr (w.setCell ⟨r,0,none⟩ (.slice A' l.length c')) r ⟨l,s.e⟩:=by
 refine⟨A',c',?_,rd_set hr _,h1,h2,h3⟩;rw[heap_setCell_same w r 0 _ _ _ h.blk];rfl
theorem jcw(w:World)(r:Nat)(s:St)(h:Rdr w r s):
  Calls Tryz.prog 189 #[.pointer (some ⟨r,0,none⟩)] w fun e w'=>e= .returned (.int .i64 s.e)∧w=w':=by
 obtain⟨A,c,hf⟩:=h.fields;have hc:=hf.err;clear hf h;generalize s.e=e at*;go_enter Tryz.func189,Tryz.ntmps189;go_wp2_with fail;go_ret;exact⟨rfl,rfl⟩
theorem jqt(w:World)(r:Nat)(s:St)(h:Rdr w r s):
  Calls Tryz.prog 195 #[.pointer (some ⟨r,0,none⟩)] w fun e w'=>e= .returned (.int .i64 (s.l.length:Nat))∧w=w':=by
 obtain⟨A,c,hf⟩:=h.fields;have hc:=hf.left;clear hf h;generalize s.l.length=n at*;go_enter Tryz.func195,Tryz.ntmps195;go_wp2_with fail;go_ret;exact⟨rfl,rfl⟩
theorem end_any(w:World)(r:Nat)(s:St)(h:Rdr w r s):
  Calls Tryz.prog 126 #[.pointer (some ⟨r,0,none⟩)] w fun e w'=>e= .returned (.int .i64 (endE s))∧w=w':=by
 have H:=zh h;clear h;have HE:Hid (endE s=if 0<s.l.length then 2 else s.e):=rfl;have HL:=zh (jqt w r s H.out);generalize s.l.length=n at HE HL;by_cases h0:0<n
 ·go_enter Tryz.func126,Tryz.ntmps126
  go_wp2_with fail;refine HL.out.mono ?_;rintro e w1 ⟨rfl,rfl⟩;go_wp2_with fail;go_ret;exact⟨jcc (by rw[HE.out,if_pos h0]),rfl⟩
 ·go_enter Tryz.func126,Tryz.ntmps126
  go_wp2_with fail;refine HL.out.mono ?_;rintro e w1 ⟨rfl,rfl⟩;go_wp2_with fail;refine(jcw w r s H.out).mono ?_;rintro e w1 ⟨rfl,rfl⟩;go_wp2_with fail;go_ret;exact⟨jcc (by rw[HE.out,if_neg h0]),rfl⟩
theorem jgo(w:World)(r:Nat)(s:St)(h:Rdr w r s):
  Calls Tryz.prog 191 #[.pointer (some ⟨r,0,none⟩)] w fun e w'=>e= .returned (.tuple #[])∧Rdr w' r lost∧w.grownBy w' (some r):=by
 obtain⟨A,c,hf⟩:=h.fields;have c0:=hf.left;have c1:=hf.err;have f0:=hf.f0;have f1:=hf.f1;have HL:=zh (jqr hf);clear hf h;generalize s.e=e at*;generalize s.l.length=n at*;go_enter Tryz.func191,Tryz.ntmps191;go_wp2_with fail;go_end0;exact⟨rfl,HL.out,jam (jad _ _ _ _) (jad _ _ _ _)⟩
def jqu(l:List Nat)(w:World)(e:Ending)(w':World):Prop:=∃r,e= .returned (.pointer (some ⟨r,0,none⟩))∧Rdr w' r ⟨l,0⟩∧w.heap.size≤r∧Below w.heap.size w w'
theorem jkz(n c:Nat)(A:Option Addr)(l:List Nat)(w:World)(hs:Sl w A n c l)(hl:n≤1000000):
  Calls Tryz.prog 120 #[.slice A n c] w (jqu l w):=by
 have HS:=zh hs;clear hs;go_enter Tryz.func120,Tryz.ntmps120;go_wp2_with fail;refine(jbi n c 0 A l w HS.out hl (by omega)).mono ?_;rintro e w1 ⟨v,rfl,ho,hb⟩;have O:=zh ho;clear ho;have B:=zh hb;clear hb;obtain⟨A2,c2,hv,h2⟩:=O.out.sl;subst hv;have H2:=zh h2;clear h2;have HB:=zh B.out.size;go_wp2_with fail;go_ret;refine⟨w1.heap.size,rfl,⟨A2,c2,heap_alloc_new w1 _,?_,H2.out.cap,H2.out.max,H2.out.nil⟩,HB.out,B.out.alloc HB.out _⟩;exact H2.out.rd.below ((Below.refl _ _).alloc (Nat.le_refl _) _)
theorem jff{l:List Nat}(h:l.length≤run l∨9≤run l):dk l=0∧dn l=0:=by
 have hn:isNum l=false:=by
  unfold isNum;rcases h with h|h
  ·rw[decide_eq_false (by omega)];rfl
  ·rw[show decide (run l<9)=false from decide_eq_false (by omega)];simp
 unfold dk dn;rw[hn];exact⟨rfl,rfl⟩
theorem sz_val(n k:Nat):sz (n:Int)=k+1↔(digs n).length=k+1∧n<4611686018427387904:=by
 unfold sz;by_cases h:n<4611686018427387904
 ·rw[if_pos (by omega),Int.toNat_natCast]
  exact⟨fun e=>⟨e,h⟩,fun e=>e.1⟩
 ·rw[if_neg (by omega)]
  exact⟨fun e=>by omega,fun e=>absurd e.2 h⟩
theorem some_of{l:List Nat}{k:Nat}(hr:run l=k)(h1:k<l.length)(h2:k<9)(hz:sz (val (l.take (k+1)):Nat)=k+1):dk l=k+1∧dn l=val (l.take (k+1)):=by
 subst hr;have h:=(sz_val _ _).1 hz;have hn:isNum l=true:=by
  unfold isNum;rw[decide_eq_true h1,decide_eq_true h2,decide_eq_true h.1,decide_eq_true h.2];rfl
 unfold dk dn;rw[if_pos hn,if_pos hn];exact⟨rfl,rfl⟩
theorem jk0{l:List Nat}{k:Nat}(hr:run l=k)(hz:sz (val (l.take (k+1)):Nat)≠k+1):dk l=0∧dn l=0:=by
 subst hr;have hn:isNum l=false:=by
  rw[Bool.eq_false_iff];intro h;simp only[isNum,Bool.and_eq_true,decide_eq_true_eq]at h;exact hz ((sz_val _ _).2 ⟨h.1.2,h.2⟩)
 unfold dk dn;rw[hn];exact⟨rfl,rfl⟩
theorem jqv{l:List Nat}{k:Nat}(h:k<l.length):val (l.take (k+1))=val (l.take k)+l.getD k 0%128*128^k:=by
 rw[jgs l k h,val_snoc,List.length_take,Nat.min_eq_left (by omega)]
theorem ji4(l:List Nat)(k:Nat):val (l.take k)<128^k:=by
 have h:=val_lt (l.take k);have:128^(l.take k).length≤128^k:=Nat.pow_le_pow_right (by omega) (by rw[List.length_take];omega);omega
theorem jqw(v x k:Nat)(hv:v<128^k)(hk:k≤8):wrap64 ((v:Int)+wrap64 ((x:Int)%128*2^(7*k)))=((v+x%128*128^k:Nat):Int):=by
 have e:((2:Int)^(7*k))=((128^k:Nat):Int):=by
  rw[Int.pow_mul];simp
 have h8:128^k≤72057594037927936:=Nat.le_trans (Nat.pow_le_pow_right (by omega) hk) (by decide);have hp:x%128*128^k≤127*128^k:=Nat.mul_le_mul_right _ (by omega);have e2:(x:Int)%128*((128^k:Nat):Int)=((x%128*128^k:Nat):Int):=by
  rw[Int.natCast_mul];rfl
 rw[e,e2];generalize 128^k=q at*;generalize x%128*q=y at*;rw[IntWalk.wrap64_in (y:Int) ⟨by omega,by omega⟩,IntWalk.wrap64_in _ ⟨by omega,by omega⟩];omega
def jn3(l:List Nat)(w:World)(e:Ending)(w':World):Prop:=e= .returned (.tuple #[.int .i64 (dn l:Nat),.int .i64 (dk l:Nat)])∧w=w'
def Jat(w:World)(r:Nat)(s:St)(a':Act)(w':World):Prop:=
 w'=w∧∃(k:Nat) (u6 u7 u8 u9 u10 u11 u12 u13 u14 u15 u16 u17 u18 u19 u20 u21 u22 u23 u24 u25 u26 u27 u28 u29 u30 u31 u32 u33 u34 u35 u36:Value),a'={tmps:=#[.pointer (some ⟨r,0,none⟩),undef,.int .i64 0,.int .i64 0,.int .i64 (val (s.l.take k):Nat),.int .i64 k,u6,u7,u8,u9,u10,u11,u12,u13,u14,u15,u16,u17,u18,u19,u20,u21,u22,u23,u24,u25,u26,u27,u28,u29,u30,u31,u32,u33,u34,u35,u36,undef,undef,undef,undef,undef,undef],defers:=[]}∧k≤s.l.length∧k≤9∧∀j,j<k→128≤s.l.getD j 0
theorem jk1(w:World)(r:Nat)(s:St)(h:Rdr w r s)(hl:s.l.length≤1000000):
  Calls Tryz.prog 190 #[.pointer (some ⟨r,0,none⟩)] w (jn3 s.l w):=by
 obtain⟨A,c,hf⟩:=h.fields;have hc:=hf.left;have HF:=zh hf;clear hf h;go_enter Tryz.func190,Tryz.ntmps190;go_wp2;refine jc9 0 (Jat w r s) (fun a' _=>10 -(intOf (a'.tmps.getD 5 undef)).toNat) rfl ?_ ?_
 ·intro key
  go_wp2;go_step3;rename_i K hK;refine hK _ _ (key _ _ ?_);exact⟨rfl,0,_,_,_,_,_,_,_,_,_,_,_,_,_,_,_,_,_,_,_,_,_,_,_,_,_,_,_,_,_,_,_,rfl,by omega,by omega,fun j hj=>by omega⟩
 ·rintro a' w' ⟨rfl,k,u6,u7,u8,u9,u10,u11,u12,u13,u14,u15,u16,u17,u18,u19,u20,u21,u22,u23,u24,u25,u26,u27,u28,u29,u30,u31,u32,u33,u34,u35,u36,rfl,hk1,hk2,hrun⟩
  have HR:=zh hrun;clear hrun;by_cases hend:k=s.l.length
  ·have HN:=zh (jff (l:=s.l) (.inl (by rw[←hend];exact run_ge HR.out)))
   have hc2:=hc;rw[←hend]at hc2;clear hc hend hk1 HR;go_wp2_with fail;simp only[Exit.jump];go_ret2;exact⟨by rw[HN.out.1,HN.out.2];rfl,rfl⟩
  ·by_cases h9:k=9
   ·have HN:=zh (jff (l:=s.l) (.inr (by rw[←h9];exact run_ge HR.out)))
    subst h9;have e1:((9:Int)==(s.l.length:Int))=false:=by rw[beq_eq_false_iff_ne];omega
    clear hend HR;generalize hnn:s.l.length=n at*;clear hnn;go_wp2_with fail;simp only[Exit.jump];go_ret2;exact⟨by rw[HN.out.1,HN.out.2];rfl,rfl⟩
   ·have hlt:k<s.l.length:=by omega
    have hx:=HF.out.rd.byte k;obtain⟨b,o,rfl,_,hcl⟩:=HF.out.rd.2 (by omega);have hck:=hcl k hlt;clear hcl;have e1:((k:Int)==(s.l.length:Int))=false:=by rw[beq_eq_false_iff_ne];omega
    have e2:((k:Int)==9)=false:=by rw[beq_eq_false_iff_ne];omega
    have k8:k≤8:=by omega
    have HX:Hid (s.l.getD k 0<128→run s.l=k):=fun h=>run_of HR.out hlt h;have HY:Hid (128≤s.l.getD k 0→∀j,j<k+1→128≤s.l.getD j 0):=fun h j hj=>by
     by_cases e:j=k
     ·subst e;exact h
     ·exact HR.out j (by omega)
    have HS:=zh ((jqw (val (s.l.take k)) (s.l.getD k 0) k (ji4 _ _) k8).trans (congrArg (fun x:Nat=>(x:Int)) (jqv hlt).symm));have HL:=zh hlt;clear hend h9 hk1 hk2 HR HF;generalize s.l.getD k 0=x at*;generalize val (s.l.take k)=v at*;have HM:Hid (∃m:Nat,val (s.l.take (k+1))=m):=⟨_,rfl⟩;by_cases hd:128≤x
    ·go_wp2_with fail
     go_step3;rw[HS.out];refine⟨rfl,⟨rfl,k+1,_,_,_,_,_,_,_,_,_,_,_,_,_,_,_,_,_,_,_,_,_,_,_,_,_,_,_,_,_,_,_,rfl,by have:=HL.out;omega,by omega,HY.out hd⟩,?_⟩;simp[intOf];omega
    ·have HZ:=zh (HX.out (by omega))
     have hd2:decide ((128:Int)≤(x:Int))=false:=decide_eq_false (by omega);have hd3:decide (128≤x)=false:=decide_eq_false (by omega);clear hd;by_cases hz:sz (val (s.l.take (k+1)):Nat)=k+1
     ·have HD:=zh (some_of HZ.out HL.out (by omega) hz)
      have HQ:=zh hz;clear hz;go_wp2_with fail;rw[HS.out];refine(jdo _ _).mono ?_;rintro e w1 ⟨rfl,rfl⟩;rw[HQ.out];have hne:(((k:Int)+1) !=((k+1:Nat):Int))=false:=by simp
      go_wp2_with fail;simp only[Exit.jump];go_ret2;exact⟨by rw[HD.out.1,HD.out.2];rfl,rfl⟩
     ·have HD:=zh (jk0 HZ.out hz)
      have hne:(((k:Int)+1) !=((sz (val (s.l.take (k+1)):Nat):Nat):Int))=true:=by rw[bne_iff_ne];omega
      clear hz;go_wp2_with fail;rw[HS.out];refine(jdo _ _).mono ?_;rintro e w1 ⟨rfl,rfl⟩;go_wp2_with fail;simp only[Exit.jump];go_ret2;exact⟨by rw[HD.out.1,HD.out.2];rfl,rfl⟩
theorem cut_run(A:Option Addr)(n c k:Nat)(hk:k≤n)(W:World):
  (Instr.slice 58 (.slice A n c) (some (.int .i64 (k:Int))) none none).run Tryz.prog W= .ok (.slice (if c=k then A else A.map fun x=>x.add k) (n -k) (c -k)) W:=by
 have h1:∀W:World,(sizeOf (Tryz.prog.elem 58)).run Tryz.prog W= .ok 1 W:=fun _=>by kernel_rfl
 rw[run_slice_l _ 58 A n c (by kernel_rfl) IntKind.i64 (k:Int) (by omega) (by omega),h1];simp[Result.andThen,sliced]
theorem Rdr.kept{w w':World}{r:Nat}{s:St}{row:Option Nat}(h:Rdr w r s)(hg:w.grownBy w' row)(hr:∀k,row=some k→r<k):Rdr w' r s:=by
 have hlt:=h.lt;obtain⟨A,c,h,h2,h3⟩:=h;have hb:∀k,k≤r→w'.heap[k]? =w.heap[k]? :=fun k hk=>hg.block k (by omega) (fun e=>by have:=hr k e.symm;omega);exact⟨A,c,by rw[hb r (by omega)];exact h,h2.keep fun p hp=>World.cell?_of_block (w:=w) (hb _ (by omega)),h3⟩
theorem jfg{w a b:World}{row row2:Option Nat}(h:w.grownBy a row)(k:a.grownBy b row2)(hr:∀i,row2=some i→w.heap.size≤i):w.grownBy b row:=
 ⟨k.os.trans h.os,k.tape.trans h.tape,k.output.trans h.output,Nat.le_trans h.size k.size,fun i hi hne=>(k.block i (Nat.lt_of_lt_of_le hi h.size) (fun e=>by have:=hr i e.symm;omega)).trans (h.block i hi hne)⟩
def jci(w:World)(r:Nat)(s:St)(n:Nat)(e:Ending)(w':World):Prop:=
 ∃A c,e= .returned (.slice A (tkV s n).length c)∧Rd w' w'.heap.size A (tkV s n)∧Rdr w' r (tk s n)∧w.grownBy w' (some r)
theorem jqx(w:World)(r n:Nat)(s:St)(h:Rdr w r s)(he:s.e≠0):
  Calls Tryz.prog 192 #[.pointer (some ⟨r,0,none⟩),.int .i64 n] w (jci w r s n):=by
 have H:=zh h;clear h;have hne:(s.e !=0)=true:=by rw[bne_iff_ne];exact he
 have HT:Hid (tkV s n=[]∧tk s n=s):=by show _∧_;unfold tkV tk;rw[if_neg he,if_neg he];exact⟨rfl,rfl⟩
 clear he;go_enter Tryz.func192,Tryz.ntmps192;go_wp2_with fail;refine(jcw w r s H.out).mono ?_;rintro e w1 ⟨rfl,rfl⟩;go_wp2_with fail;go_ret;unfold jci;rw[HT.out.1,HT.out.2];exact⟨none,0,rfl,Rd.empty _ _ _,H.out,World.grownBy.refl _ _⟩
theorem jn4(w:World)(r n:Nat)(s:St)(h:Rdr w r s)(he:s.e=0)(hn:s.l.length<n):
  Calls Tryz.prog 192 #[.pointer (some ⟨r,0,none⟩),.int .i64 n] w (jci w r s n):=by
 have H:=zh h;obtain⟨A,c,hf⟩:=h.fields;have c0:=hf.left;clear h hf;have HE:=zh he;have HT:Hid (tkV s n=[]∧tk s n=lost):=by show _∧_;unfold tkV tk;rw[if_pos he,if_pos he,if_neg (by omega),if_neg (by omega)];exact⟨rfl,rfl⟩
 clear he;generalize s.l.length=m at*;go_enter Tryz.func192,Tryz.ntmps192;go_wp2_with fail;refine(jcw w r s H.out).mono ?_;rintro e w1 ⟨rfl,rfl⟩;rw[HE.out];go_wp2_with fail;refine(jgo w r s H.out).mono ?_;rintro e w1 ⟨rfl,hr,hg⟩;have R:=zh hr;clear hr;have G:=zh hg;clear hg;go_wp2_with fail;go_ret;unfold jci;rw[HT.out.1,HT.out.2];exact⟨none,0,rfl,Rd.empty _ _ _,R.out,G.out⟩
theorem take_ok(w:World)(r n:Nat)(s:St)(h:Rdr w r s)(he:s.e=0)(hn:n≤s.l.length):
  Calls Tryz.prog 192 #[.pointer (some ⟨r,0,none⟩),.int .i64 n] w (jci w r s n):=by
 have H:=zh h;obtain⟨A,c,hf⟩:=h.fields;have HF:=zh hf;have c0:=hf.left;have f0:=hf.f0;have hcap:=hf.cap;obtain⟨A',hA,hsl⟩:∃A',A'=(if c=n then A else A.map fun x=>x.add n)∧∀W,(Instr.slice 58 (.slice A s.l.length c) (some (.int .i64 (n:Int))) none none).run Tryz.prog W= .ok (.slice A' (s.l.length -n) (c -n)) W:=⟨_,rfl,cut_run A s.l.length c n hn⟩;have HA:=zh hA;clear hA;have HE:=zh he;have HT:Hid (tkV s n=s.l.take n∧tk s n=⟨s.l.drop n,0⟩):=by show _∧_;unfold tkV tk;rw[if_pos he,if_pos he,if_pos (by omega),if_pos (by omega)];exact⟨rfl,rfl⟩
 have HR:Hid (Rdr (w.setCell ⟨r,0,none⟩ (.slice A' (s.l.length -n) (c -n))) r ⟨s.l.drop n,0⟩):=by
  have hd:Rd w r A' (s.l.drop n):=by
   rw[HA.out];exact hf.rd.drop hf.cap _ fun b o=>by unfold Addr.add;split<;>simp_all
  have:=jqs (c':=c -n) hf hd (by rw[List.length_drop];omega) (by have:=hf.max;omega) (fun e=>by
   rw[HA.out]at e;split at e
   ·have:=hf.nil e;omega
   ·rw[Option.map_eq_none_iff]at e;have:=hf.nil e;omega)
  rw[List.length_drop,he]at this;exact this
 have HD:=zh hf.rd;clear he h hf;generalize hm:s.l.length=m at*;have HM:=zh hm;clear hm;go_enter Tryz.func192,Tryz.ntmps192;go_wp2_with fail;refine(jcw w r s H.out).mono ?_;rintro e w1 ⟨rfl,rfl⟩;rw[HE.out];go_wp2_with fail;go_ret;unfold jci;rw[HT.out.1,HT.out.2];have hlen:(s.l.take n).length=n:=by rw[List.length_take,HM.out];omega
 rw[hlen];exact⟨A,c,rfl,((rd_set (HD.out.take n) _).more (by have:=H.out.lt;simp[World.setCell];omega)),HR.out,jad _ _ _ _⟩
theorem jjt(w:World)(r n:Nat)(s:St)(h:Rdr w r s):
  Calls Tryz.prog 192 #[.pointer (some ⟨r,0,none⟩),.int .i64 n] w (jci w r s n):=by
 by_cases he:s.e=0
 ·by_cases hn:n≤s.l.length
  ·exact take_ok w r n s h he hn
  ·exact jn4 w r n s h he (by omega)
 ·exact jqx w r n s h he
def jn5(w:World)(r:Nat)(n:Nat)(s':St)(e:Ending)(w':World):Prop:=
 e= .returned (.int .i64 (n:Nat))∧Rdr w' r s'∧w.grownBy w' (some r)
theorem jgp(w:World)(r:Nat)(s:St)(h:Rdr w r s)(hl:s.l.length≤1000000):
  Calls Tryz.prog 122 #[.pointer (some ⟨r,0,none⟩)] w (jn5 w r (numV s) (num s)):=by
 have H:=zh h;clear h;by_cases he:s.e=0
 ·have HE:=zh he
  have hd:=jk1 w r s H.out hl;by_cases hk:dk s.l=0
  ·have HT:Hid (numV s=0∧num s=lost):=by show _∧_;unfold numV num;rw[if_pos he,if_pos he,if_pos hk,dn_none hk];exact⟨rfl,rfl⟩
   unfold jn3 at hd;rw[hk,dn_none hk]at hd;have HD:=zh hd;clear he hd hk hl;go_enter Tryz.func122,Tryz.ntmps122;go_wp2_with fail;refine(jcw w r s H.out).mono ?_;rintro e w1 ⟨rfl,rfl⟩;rw[HE.out];go_wp2_with fail;refine HD.out.mono ?_;rintro e w1 ⟨rfl,rfl⟩;go_wp2_with fail;refine(jgo w r s H.out).mono ?_;rintro e w1 ⟨rfl,hr,hg⟩;have R:=zh hr;clear hr;have G:=zh hg;clear hg;go_wp2_with fail;go_ret;rw[HT.out.1,HT.out.2];exact⟨rfl,R.out,G.out⟩
  ·have hne:((dk s.l:Int)==0)=false:=by rw[beq_eq_false_iff_ne];omega
   have HT:Hid (numV s=dn s.l∧num s=⟨s.l.drop (dk s.l),0⟩):=by show _∧_;unfold numV num;rw[if_pos he,if_pos he,if_neg hk];exact⟨rfl,rfl⟩
   have HK:=zh (jjt w r (dk s.l) s H.out);have HQ:Hid (tk s (dk s.l)=⟨s.l.drop (dk s.l),0⟩):=by show _=_;unfold tk;rw[if_pos he,if_pos (dk_le _)]
   unfold jn3 at hd;have HD:=zh hd;clear he hd hk hl;generalize dk s.l=k at*;generalize dn s.l=n at*;go_enter Tryz.func122,Tryz.ntmps122;go_wp2_with fail;refine(jcw w r s H.out).mono ?_;rintro e w1 ⟨rfl,rfl⟩;rw[HE.out];go_wp2_with fail;refine HD.out.mono ?_;rintro e w1 ⟨rfl,rfl⟩;go_wp2_with fail;refine HK.out.mono ?_;rintro e w1 ⟨A,c,rfl,_,hr,hg⟩;have R:=zh hr;clear hr;have G:=zh hg;clear hg;go_wp2_with fail;go_ret;rw[HT.out.1,HT.out.2,←HQ.out];exact⟨rfl,R.out,G.out⟩
 ·have hne:(s.e !=0)=true:=by rw[bne_iff_ne];exact he
  have HT:Hid (numV s=0∧num s=s):=⟨numV_err he,num_err he⟩;clear he;go_enter Tryz.func122,Tryz.ntmps122;go_wp2_with fail;refine(jcw w r s H.out).mono ?_;rintro e w1 ⟨rfl,rfl⟩;go_wp2_with fail;go_ret;rw[HT.out.1,HT.out.2];exact⟨rfl,H.out,World.grownBy.refl _ _⟩
theorem jhu(w:World)(r:Nat)(s:St)(h:Rdr w r s)(hl:s.l.length≤1000000):
  Calls Tryz.prog 193 #[.pointer (some ⟨r,0,none⟩),.int .i64 64] w (jn5 w r (cntV s) (cnt s)):=by
 have HN:=zh (jgp w r s h hl);clear h hl;by_cases hk:numV s≤64
 ·have HT:Hid (cntV s=numV s∧cnt s=num s):=by show _∧_;unfold cntV cnt;rw[if_pos hk,if_pos hk];exact⟨rfl,rfl⟩
  generalize numV s=n at*;go_enter Tryz.func193,Tryz.ntmps193;go_wp2_with fail;refine HN.out.mono ?_;rintro e w1 ⟨rfl,hr,hg⟩;have R:=zh hr;clear hr;have G:=zh hg;clear hg;go_wp2_with fail;go_ret;rw[HT.out.1,HT.out.2];exact⟨rfl,R.out,G.out⟩
 ·have HT:Hid (cntV s=0∧cnt s=lost):=by show _∧_;unfold cntV cnt;rw[if_neg hk,if_neg hk];exact⟨rfl,rfl⟩
  have hk2:64<numV s:=by omega
  clear hk;generalize numV s=n at*;go_enter Tryz.func193,Tryz.ntmps193;go_wp2_with fail;refine HN.out.mono ?_;rintro e w1 ⟨rfl,hr,hg⟩;have R:=zh hr;clear hr;have G:=zh hg;clear hg;go_wp2_with fail;refine(jgo w1 r _ R.out).mono ?_;rintro e w2 ⟨rfl,hr,hg⟩;have R2:=zh hr;clear hr;have G2:=zh hg;clear hg;go_wp2_with fail;go_ret;rw[HT.out.1,HT.out.2];exact⟨rfl,R2.out,jam G.out G2.out⟩
def jgq(w:World)(r:Nat)(s:St)(e:Ending)(w':World):Prop:=
 e= .returned (.string (txt (textV s)))∧Rdr w' r (text s)∧w.grownBy w' (some r)
theorem jn6(w:World)(r:Nat)(s:St)(h:Rdr w r s)(hl:s.l.length≤1000000):
  Calls Tryz.prog 123 #[.pointer (some ⟨r,0,none⟩)] w (jgq w r s):=by
 have HN:=zh (jhu w r s h hl);have HT:Hid (textV s=tkV (cnt s) (cntV s)∧text s=tk (cnt s) (cntV s)):=⟨rfl,rfl⟩;clear h hl;generalize cntV s=n at*;go_enter Tryz.func123,Tryz.ntmps123;go_wp2_with fail;refine HN.out.mono ?_;rintro e w1 ⟨rfl,hr,hg⟩;have R:=zh hr;clear hr;have G:=zh hg;clear hg;go_wp2_with fail;refine(jjt w1 r n _ R.out).mono ?_;rintro e w2 ⟨A,c,rfl,hd,hr,hg⟩;have hcv:=conv_rd (c:=c) hd rfl;have R2:=zh hr;clear hr hd;have G2:=zh hg;clear hg;generalize tkV (cnt s) n=tv at*;go_wp2_with fail;go_ret;unfold jgq;rw[HT.out.1,HT.out.2];exact⟨rfl,R2.out,jam G.out G2.out⟩
def jep(w:World)(r:Nat)(s:St)(e:Ending)(w':World):Prop:=
 ∃A c,e= .returned (.slice A (listV s).length c)∧SlI w' A (listV s).length c (nI (listV s))∧Rdr w' r (list s)∧w.grownBy w' (some r)
theorem jhv{w:World}{B r:Nat}{v:Value}{l:List Int}(h:OwnI w B v l)(hr:r<B):v.ownBlock=none∨v.ownBlock≠some r:=by
 rcases hv:v.ownBlock with _|g
 ·exact .inl rfl
 ·right
  have:=(World.ownsRow.lt h g hv).1;intro e;injection e with e
  omega
theorem jn7(w:World)(r:Nat)(s:St)(h:Rdr w r s)(hl:s.l.length≤1000000):
  Calls Tryz.prog 125 #[.pointer (some ⟨r,0,none⟩)] w (jep w r s):=by
 obtain⟨i0,hi0,hz0,hz1,hz2⟩:=info_parts jek;have I0:=zh hi0;clear hi0;have I1:=zh hz0;clear hz0;have I2:=zh hz1;clear hz1;have I3:=zh hz2;clear hz2;have HN:=zh (jhu w r s h hl);have HT:Hid (list s=numsAt (cnt s) (cntV s)∧listV s=if(numsAt (cnt s) (cntV s)).e=0 then numsV (cnt s) (cntV s)else[]):=⟨rfl,rfl⟩;have hn:=cntV_le s;have HL:=zh (Nat.le_trans (jh9 s) hl);have HR0:=zh h.lt;clear h hl;generalize cntV s=n at*;generalize cnt s=t at*;go_enter Tryz.func125,Tryz.ntmps125;go_wp2_with fail;refine HN.out.mono ?_;rintro e w1 ⟨rfl,hr,hg⟩;have R:=zh hr;clear hr;have G:=zh hg;clear hg;go_wp2_with(at_make;refine wpList_make_own _ rfl _ _ 137 rfl w1.heap.size 3 i0 (.int .i64 0) 1 Tryz.underlying137 I0.out I1.out I2.out _ _ _ n rfl rfl (by omega) (by rw[I3.out];omega) (by unfold maxLen;omega) (Nat.le_refl _) ?_;intro w2 hown2 hg2;have O2:=zh hown2;have G2:=zh hg2;clear hown2 hg2);go_loopw [4,10] (fun v i wr=>∃k:Nat,k≤n∧i= .int .i64 k∧OwnI wr w1.heap.size v (nI (numsV t k))∧Rdr wr r (numsAt t k)∧w.grownBy wr (some r)∧w1.heap.size≤wr.heap.size) (fun _ i _=>n -(intOf i).toNat)
 case atStart=>exact⟨0,by omega,rfl,O2.out,R.out.kept G2.out (by simp),jfg G.out G2.out (by simp),G2.out.size⟩
 case round=>
  obtain⟨k,hk,rfl,ho,hr,hg,hsz⟩:=hrel;clear O2;have O:=zh ho;clear ho;have RR:=zh hr;clear hr;have GG:=zh hg;clear hg;have HZ:=zh hsz;clear hsz;by_cases hlt:k<n
  ·have HV:=zh (jgp wr r (numsAt t k) RR.out (Nat.le_trans (jge t k) HL.out))
   have HX:Hid (nI (numsV t (k+1))=nI (numsV t k)++[((numV (numsAt t k):Nat):Int)]):=jlq _ _;have HY:Hid (numsAt t (k+1)=num (numsAt t k)):=rfl;have HLN:Hid ((nI (numsV t k)).length=k):=by show _=_;rw[jbu,numsV_length]
   generalize numV (numsAt t k)=x at*;go_wp2_with fail;refine HV.out.mono ?_;rintro e w3 ⟨rfl,hr,hg⟩;have R3:=zh hr;clear hr;have G3:=zh hg;clear hg;have O3:Hid (OwnI w3 w1.heap.size _ (nI (numsV t k))):=World.ownsRow.kept O.out G3.out (jhv O.out (Nat.lt_of_lt_of_le HR0.out G.out.size));go_wp2_with(at_builtin;refine jan rfl (.tmp 12) (.tmp 15) rfl w1.heap.size _ _ rfl O3.out _ rfl (by rw[HLN.out];omega) (Nat.le_trans HZ.out G3.out.size) ?_;intro v4 w4 ho4 hg4;have O4:=zh ho4;have G4:=zh hg4;clear ho4 hg4);go_roundw
   case rel=>
    refine⟨k+1,by omega,by go_num,by rw[HX.out];exact O4.out,?_,?_,?_⟩
    ·rw[HY.out]
     exact R3.out.kept G4.out fun i hi=>Nat.lt_of_lt_of_le (Nat.lt_of_lt_of_le HR0.out G.out.size) (ja3 O3.out i hi)
    ·exact jfg (jam GG.out G3.out) G4.out fun i hi=>Nat.le_trans G.out.size (ja3 O3.out i hi)
    ·exact Nat.le_trans HZ.out (Nat.le_trans G3.out.size G4.out.size)
   case measure=>simp[intOf];omega
  ·obtain rfl:k=n:=by omega
   have HE:=zh (jcw wr r _ RR.out);by_cases he:(numsAt t k).e=0
   ·have HT2:Hid (listV s=numsV t k):=by show _=_;rw[HT.out.2,if_pos he]
    have HQ:=zh he;clear he;obtain⟨A2,c2,hv,h2⟩:=OwnI.sl O.out;subst hv;have H2:=zh h2;clear h2;go_wp2_with fail;refine HE.out.mono ?_;rintro e w5 ⟨rfl,rfl⟩;rw[HQ.out];go_wp2_with fail;go_ret;unfold jep;rw[HT.out.1,HT2.out,←jbu];exact⟨A2,c2,rfl,H2.out,RR.out,GG.out⟩
   ·have HT2:Hid (listV s=[]):=by show _=_;rw[HT.out.2,if_neg he]
    have hne:((numsAt t k).e !=0)=true:=by rw[bne_iff_ne];exact he
    clear he;go_wp2_with fail;refine HE.out.mono ?_;rintro e w5 ⟨rfl,rfl⟩;go_wp2_with fail;go_ret;unfold jep;rw[HT.out.1,HT2.out];exact⟨none,0,rfl,SlI.none_ _,RR.out,GG.out⟩
def RV(A:Option Addr)(c:Nat)(s:St):Value:= .agg #[.slice A s.l.length c,.int .i64 s.e]
theorem jd9{fn:Func}{p u:Tmp}(h:fn.results= #[.cell p 45,.tmp u])(tmps:Array Value)(w:World)(g:Nat)(r:Rc.R)(hp:tmps.getD p undef= .pointer (some ⟨g,0,none⟩))(hg:RcAt w g r):
  (results fn tmps).run Tryz.prog w= .ok (.tuple #[.agg (Rc.cells r),tmps.getD u undef]) w:=by
 rw[results_cell_tmp h,hp];have:=run_loadVar_row (P:=Tryz.prog) w g 45 45 (Rc.cells r) (0,0) _ hg.row jaf rfl (jai r);simp[asAddr,this,Result.andThen]
theorem jb2{w:World}{g:Nat}{o:Rc.R}(h:RcAt w g o)(o':Rc.R)(k:Nat)(v:Value)(he:(Rc.cells o).setIfInBounds k v=Rc.cells o'):RcAt (w.setCell ⟨g,k,none⟩ v) g o':=⟨by rw[←he];exact heap_setCell_same w g k _ _ _ h.row⟩
theorem jb3{w:World}{a g:Nat}{o:Rc.R}(h:RcAt w a o)(hne:a≠g)(k:Nat)(v:Value):RcAt (w.setCell ⟨g,k,none⟩ v) a o:=⟨((jad w g k v).block a h.cs.lt (by simp;exact hne)).trans h.row⟩
end Go.Proofs.YtabandbigckfkaaGreatDoor
