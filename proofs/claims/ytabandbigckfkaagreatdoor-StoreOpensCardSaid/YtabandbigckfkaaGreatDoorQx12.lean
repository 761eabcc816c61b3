import Derived.Test.YtabandbigckfkaaGreatDoorQx11
import Derived.Deep.DeepAppendRoom
import Derived.Lib.SliceRun
import Derived.Laws.IdiomCopy
import Derived.WalkSpells
import Derived.ArgAppend
set_option maxHeartbeats 6400000
set_option maxRecDepth 100000
set_option linter.unusedSimpArgs false
set_option linter.unusedVariables false
namespace Go.Proofs.YtabandbigckfkaaGreatDoor
open Go.RowKit
theorem jj8:Tryz.prog.globalNamed "pacesetter/phase.leads" =some 1:=by kernel_rfl
theorem jhh:Tryz.prog.globalNamed "pacesetter/phase.words" =some 0:=by kernel_rfl
def jsb(p e:Int):Int:=if Ph.to_ p e= -1 then 0 else Ph.to_ p e
theorem jsc{p e:Int}(h:Ph.to_ p e= -1):jsb p e=0:=if_pos h
theorem jot{p e:Int}(h:Ph.to_ p e≠-1):jsb p e=Ph.to_ p e:=if_neg h
theorem to_pos{p e:Int}(h:Ph.to_ p e≠-1):Ph.to_ p e≠0:=by
 rcases Ph.pairs h with⟨rfl,rfl⟩|⟨rfl,rfl⟩|⟨rfl,rfl⟩|⟨rfl,rfl⟩|⟨rfl,rfl⟩|⟨rfl,rfl⟩|⟨rfl,rfl⟩|⟨rfl,rfl⟩|⟨rfl,rfl⟩|⟨rfl,rfl⟩|⟨rfl,rfl⟩|⟨rfl,rfl⟩
 all_goals decide
def jou:List Value:=[0,1,2,3,4,5].flatMap fun p=>[0,1,2,3,4,5,6,7,8].map fun e=> .int .i64 (jsb p e)
def jov:List Value:=[0,1,2,3,4,5,6,7,8].map fun e=> .string (Ph.word e)
structure PT(w:World):Prop where
 leads:jgn Tryz.prog w "pacesetter/phase.leads" jou
 words:jgn Tryz.prog w "pacesetter/phase.words" jov
theorem PT.on{w w':World}(h:PT w)(hb:Below w.heap.size w w'):PT w':=⟨h.leads.on jj8 hb,h.words.on jhh hb⟩
theorem jow(p e:Nat)(hp:p<6)(he:e<9):jou[p*9+e]? =some (.int .i64 (jsb p e)):=by
 rcases p with _|_|_|_|_|_|p
 all_goals first|omega|skip
 all_goals rcases e with _|_|_|_|_|_|_|_|_|e
 all_goals first|rfl|omega
theorem jil(p:Nat)(hp:p<9):jov[p]? =some (.string (Ph.word p)):=by
 rcases p with _|_|_|_|_|_|_|_|_|p
 all_goals first|rfl|omega
theorem jsd(n:Int)(w:World):Calls Tryz.prog 257 #[.int .i64 n] w fun x w'=>x= .returned (.bool (decide (0≤n)&&decide (n<6)))∧w'=w:=by
 by_cases h1:0≤n
 ·by_cases h2:n<6
  ·rw[decide_eq_true h1,decide_eq_true h2]
   go_enter Tryz.func257,Tryz.ntmps257;go_wp2_with fail;go_ret;exact⟨rfl,rfl⟩
  ·rw[decide_eq_true h1,decide_eq_false h2]
   go_enter Tryz.func257,Tryz.ntmps257;go_wp2_with fail;go_ret;exact⟨rfl,rfl⟩
 ·rw[decide_eq_false h1]
  go_enter Tryz.func257,Tryz.ntmps257;go_wp2_with fail;go_ret;exact⟨rfl,rfl⟩
theorem jk7(n:Int)(w:World):Calls Tryz.prog 258 #[.int .i64 n] w fun x w'=>x= .returned (.bool (decide (0≤n)&&decide (n<9)))∧w'=w:=by
 by_cases h1:0≤n
 ·by_cases h2:n<9
  ·rw[decide_eq_true h1,decide_eq_true h2]
   go_enter Tryz.func258,Tryz.ntmps258;go_wp2_with fail;go_ret;exact⟨rfl,rfl⟩
  ·rw[decide_eq_true h1,decide_eq_false h2]
   go_enter Tryz.func258,Tryz.ntmps258;go_wp2_with fail;go_ret;exact⟨rfl,rfl⟩
 ·rw[decide_eq_false h1]
  go_enter Tryz.func258,Tryz.ntmps258;go_wp2_with fail;go_ret;exact⟨rfl,rfl⟩
theorem jox(p e:Int)(hp:i64P p)(he:i64P e)(w:World)(ht:PT w):Calls Tryz.prog 214 #[.int .i64 p,.int .i64 e] w (je2 w (.int .i64 (Ph.next p e)) (.bool (Ph.did p e))):=by
 have B:=zh (Below.refl w.heap.size w);have CI:=zh (fun n W=>jsd n W);have CJ:=zh (fun n W=>jk7 n W);by_cases h1:0≤p∧p<6
 ·obtain⟨k,rfl⟩:=Int.eq_ofNat_of_zero_le h1.1
  by_cases h2:0≤e∧e<9
  ·obtain⟨j,rfl⟩:=Int.eq_ofNat_of_zero_le h2.1
   have hc:=ht.leads.cell jj8 (jow k j (by omega) (by omega));have hi:=fun W=>CI.out (k:Int) W;have hj:=fun W=>CJ.out (j:Int) W;rw[decide_eq_true h1.1,decide_eq_true h1.2]at hi;rw[decide_eq_true h2.1,decide_eq_true h2.2]at hj;have HI:=zh hi;have HJ:=zh hj;have a1:=h1.1;have a2:=h1.2;have a3:=h2.1;have a4:=h2.2;clear hi hj CI CJ ht hp he h1 h2;by_cases hd:Ph.to_ (k:Nat) (j:Nat)= -1
   ·rw[(Ph.next_no hd).1,(Ph.next_no hd).2]
    rw[jsc hd]at hc;clear hd;go_enter Tryz.func214,Tryz.ntmps214
    go_wp2_with(first
     |(go_at_call 257;(with_reducible refine(HI.out _).mono ?_);rintro x w1 ⟨rfl,rfl⟩)
     |(go_at_call 258;(with_reducible refine(HJ.out _).mono ?_);rintro x w1 ⟨rfl,rfl⟩))
    go_ret2;exact⟨rfl,B.out⟩
   ·rw[(Ph.next_yes rfl hd).1,(Ph.next_yes rfl hd).2]
    have hq:(Ph.to_ (k:Nat) (j:Nat)==0)=false:=by rw[beq_eq_false_iff_ne];exact to_pos hd
    rw[jot hd]at hc;clear hd;generalize Ph.to_ (k:Nat) (j:Nat)=x at*;go_enter Tryz.func214,Tryz.ntmps214
    go_wp2_with(first
     |(go_at_call 257;(with_reducible refine(HI.out _).mono ?_);rintro x w1 ⟨rfl,rfl⟩)
     |(go_at_call 258;(with_reducible refine(HJ.out _).mono ?_);rintro x w1 ⟨rfl,rfl⟩))
    go_ret2;exact⟨rfl,B.out⟩
  ·have hf:=Ph.far (p:=(k:Nat)) (e:=e) (.inr (by omega))
   rw[(Ph.next_no hf).1,(Ph.next_no hf).2];have hi:=fun W=>CI.out (k:Int) W;have hj:=fun W=>CJ.out e W;rw[decide_eq_true h1.1,decide_eq_true h1.2]at hi;have hz:(decide (0≤e)&&decide (e<9))=false:=by rw[Bool.and_eq_false_iff,decide_eq_false_iff_not,decide_eq_false_iff_not];omega
   rw[hz]at hj;have HI:=zh hi;have HJ:=zh hj;clear hi hj CI CJ ht hp he h1 h2 hz hf;go_enter Tryz.func214,Tryz.ntmps214
   go_wp2_with(first
    |(go_at_call 257;(with_reducible refine(HI.out _).mono ?_);rintro x w1 ⟨rfl,rfl⟩)
    |(go_at_call 258;(with_reducible refine(HJ.out _).mono ?_);rintro x w1 ⟨rfl,rfl⟩))
   go_ret2;exact⟨rfl,B.out⟩
 ·have hf:=Ph.far (p:=p) (e:=e) (.inl (by omega))
  rw[(Ph.next_no hf).1,(Ph.next_no hf).2];have hi:=fun W=>CI.out p W;have hz:(decide (0≤p)&&decide (p<6))=false:=by rw[Bool.and_eq_false_iff,decide_eq_false_iff_not,decide_eq_false_iff_not];omega
  rw[hz]at hi;have HI:=zh hi;clear hi CI CJ ht hp he h1 hz hf;go_enter Tryz.func214,Tryz.ntmps214;go_wp2_with(go_at_call 257;(with_reducible refine(HI.out _).mono ?_);rintro x w1 ⟨rfl,rfl⟩);go_ret2;exact⟨rfl,B.out⟩
theorem joy{n:Int}(h: -1000≤n∧n≤1000):i64P n:=by unfold i64P;omega
theorem joz(p:Int)(w:World)(ht:PT w):Calls Tryz.prog 215 #[.int .i64 p] w (ja7 w (.string (Ph.word p))):=by
 have B:=zh (Below.refl w.heap.size w);have hi:=fun W=>jk7 p W;by_cases h1:0≤p∧p<9
 ·obtain⟨k,rfl⟩:=Int.eq_ofNat_of_zero_le h1.1
  have hc:=ht.words.cell jhh (jil k (by omega));rw[decide_eq_true h1.1,decide_eq_true h1.2]at hi;have HI:=zh hi;have a1:=h1.1;have a2:=h1.2;clear hi ht h1;generalize Ph.word (k:Nat)=u at*;go_enter Tryz.func215,Tryz.ntmps215;go_wp2_with(go_at_call 258;(with_reducible refine(HI.out _).mono ?_);rintro x w1 ⟨rfl,rfl⟩);go_ret;exact⟨rfl,B.out⟩
 ·rw[Ph.word_none (by omega)]
  have hz:(decide (0≤p)&&decide (p<9))=false:=by rw[Bool.and_eq_false_iff,decide_eq_false_iff_not,decide_eq_false_iff_not];omega
  rw[hz]at hi;have HI:=zh hi;clear hi ht h1 hz;go_enter Tryz.func215,Tryz.ntmps215;go_wp2_with(go_at_call 258;(with_reducible refine(HI.out _).mono ?_);rintro x w1 ⟨rfl,rfl⟩);go_ret;exact⟨rfl,B.out⟩
theorem pof_any(t:ByteArray)(w:World)(ht:PT w):Calls Tryz.prog 213 #[.string t] w (je2 w (.int .i64 (Ph.of t)) (.bool (Ph.isWord t))):=by
 have HW:=zh (fun j (hj:j<9)=>ht.words.cell jhh (jil j hj));have B:=zh (Below.refl w.heap.size w);clear ht;go_enter Tryz.func213,Tryz.ntmps213;go_wp2_with fail;go_loopw [5] (fun i wr=>∃k:Nat,k≤9∧i= .int .i64 k∧(∀j,j<k→Ph.word (j:Nat)≠t)∧wr=w) (fun i _=>9 -(intOf i).toNat)
 case atStart=>exact⟨0,by omega,rfl,fun j hj=>by omega,rfl⟩
 case round=>
  obtain⟨k,hk,rfl,hj,rfl⟩:=hrel;have HJ:=zh hj;clear hj;by_cases hlt:k<9
  ·have hi:(k:Int)<9:=by omega
   have hc:=HW.out k hlt;by_cases he:Ph.word (k:Nat)=t
   ·have hts:((Ph.word (k:Nat)).toList==t.toList)=true:=by rw[jbx];exact decide_eq_true he
    have EP:Hid (Ph.place t=k):=Ph.place_is t hlt he HJ.out;clear he;generalize Ph.word (k:Nat)=u at*;go_wp2_with fail;go_ret2;refine⟨?_,B.out⟩;have h1:Ph.of t=(k:Nat):=by unfold Ph.of;rw[EP.out,if_pos hlt]
    have h2:Ph.isWord t=true:=by unfold Ph.isWord;rw[EP.out];exact decide_eq_true hlt
    rw[h1,h2];rfl
   ·have hts:((Ph.word (k:Nat)).toList==t.toList)=false:=by rw[jbx];exact decide_eq_false he
    have HE:=zh he;clear he;generalize hu:Ph.word (k:Nat)=u at*;have HU:=zh hu;clear hu;go_wp2_with fail;refine⟨⟨k+1,by omega,by go_num,fun j hj=> ?_,trivial⟩,by simp[intOf];omega⟩;by_cases e:j=k
    ·subst e;rw[HU.out];exact HE.out
    ·exact HJ.out j (by omega)
  ·obtain rfl:k=9:=by omega
   have EP:Hid (Ph.place t=9):=Ph.place_none t HJ.out;go_wp2_with fail;go_ret2;refine⟨?_,B.out⟩;have h1:Ph.of t=0:=by unfold Ph.of;rw[EP.out,if_neg (by omega)]
   have h2:Ph.isWord t=false:=by unfold Ph.isWord;rw[EP.out];exact decide_eq_false (by omega)
   rw[h1,h2];rfl
theorem jo0(p:Int)(w:World):Calls Tryz.prog 211 #[.int .i64 p] w (ja7 w (.bool (Ph.open_ p))):=by
 have B:=zh (Below.refl w.heap.size w);by_cases h:p=1∨p=2∨p=4
 ·rcases h with rfl|rfl|rfl
  all_goals
   go_enter Tryz.func211,Tryz.ntmps211;go_wp2_with fail;go_ret;exact⟨rfl,B.out⟩
 ·rw[show Ph.open_ p=false from by unfold Ph.open_;simp;omega]
  have q1:(p==1)=false:=by rw[beq_eq_false_iff_ne];omega
  have q2:(p==2)=false:=by rw[beq_eq_false_iff_ne];omega
  have q4:(p==4)=false:=by rw[beq_eq_false_iff_ne];omega
  clear h;go_enter Tryz.func211,Tryz.ntmps211;go_wp2_with fail;go_ret;exact⟨rfl,B.out⟩open Go.Maps
structure BT(w:World):Prop where
 pow:Tb w
 ph:PT w
theorem BT.on{w w':World}(h:BT w)(hb:Below w.heap.size w w'):BT w':=⟨h.pow.on hb,h.ph.on hb⟩
structure BdIs(w:World)(q:Nat)(s:Bk.St)(ru:Nat→Bk.Un)(rv:Int)(lo ko:Option Nat)(H:Value)(K:Kv.St):Prop where
 at_:BdAt w q s ru rv (.map lo) (.map ko) H
 ls:LM.Opt w lo (Ls.zOf (Bd.tab s).l) (Bd.tab s).l.length
 kv:MapO w ko K.l
 kg:Kv.Good K
 kr:K.rev=rv
 kb:rv≤s.vs.length
 dg:Bd.Digs K s.vs
 raw:Bd.Raw ru s.us
 h:OwF Bk.rcC 18 45 w 0 H s.h
 lk:∀m,lo=some m→ko≠some m
 lok:Bd.Lok s
section
variable{w w':World}{q:Nat}{s:Bk.St}{ru:Nat→Bk.Un}{rv:Int}{lo ko:Option Nat}{H:Value}{K:Kv.St}
theorem jms{H:Value}{e:TypeId}{w:World}{B:Nat}{l:List Rc.R}(h:OwF Bk.rcC 18 e w B H l):∀t,H≠ .string t:=by
 obtain⟨A,c,rfl⟩:=h.form;intro t e
 cases e
theorem BdIs.lsIs(h:BdIs w q s ru rv lo ko H K):LsIs w q (Bd.cells s ru rv (.map lo) (.map ko) H) 125 lo (Bd.tab s):=by
 refine⟨h.at_.row,rfl,rfl,h.ls,Bd.tab_good h.lok,fun e he=> ?_,?_⟩
 ·have:=h.lok.ok.ep
  unfold Bd.tab at he;by_cases h0:s.ep=0
  ·simp[h0]at he
  ·simp only[if_neg h0,List.mem_singleton]at he
   subst he;show s.ep≤_;omega
 ·unfold Bd.tab
  show(if s.ep=0 then[]else[_]).length≤_;split<;>simp
theorem BdIs.kvIs(h:BdIs w q s ru rv lo ko H K):KvIs w q 2 (Bd.cells s ru rv (.map lo) (.map ko) H) 125 ko K:=
 ⟨h.at_.row,by rw[h.kr];rfl,rfl,Bd.nostr (fun t e=>by cases e) (fun t e=>by cases e) (jms h.h),h.kv,h.kg⟩
theorem BdIs.qh(h:BdIs w q s ru rv lo ko H K):H.ownBlock≠some q:=by
 intro e;rcases h.h.2 with⟨rfl,_⟩|⟨g,cap,cur,rfl,hg,hh,r⟩
 ·cases e
 ·have e2:g=q:=by injection e
  subst e2;have:=h.at_.row;rw[hh]at this;injection this with this
  injection this with _ this
  exact absurd this (by decide)
theorem BdIs.ql(h:BdIs w q s ru rv lo ko H K):lo≠some q:=fun e=>(LsIs.ne (e▸h.lsIs)) rfl
theorem BdIs.qk(h:BdIs w q s ru rv lo ko H K):ko≠some q:=fun e=>(KvIs.ne (e▸h.kvIs)) rfl
theorem jmt{w:World}{m:Nat}{l:List Kv.En}(h:MapO w (some m) l):∃es clock,w.heap[m]? =some (.map es clock):=by
 obtain⟨D,⟨es,clock,hb,_⟩,_⟩:=show jbn Tryz.prog 9 w m l from h
 exact⟨es,clock,hb⟩
theorem BdIs.hl(h:BdIs w q s ru rv lo ko H K):∀m,lo=some m→H.ownBlock≠some m:=by
 intro m e e2;subst e;obtain⟨es,clock,hb⟩:=MapW.At.block (M:=LM) h.ls;rcases h.h.2 with⟨rfl,_⟩|⟨g,cap,cur,rfl,hg,hh,r⟩
 ·cases e2
 ·have e3:g=m:=by injection e2
  subst e3;rw[hh]at hb;injection hb with hb
  cases hb
theorem BdIs.hk(h:BdIs w q s ru rv lo ko H K):∀m,ko=some m→H.ownBlock≠some m:=by
 intro m e e2;subst e;obtain⟨es,clock,hb⟩:=jmt h.kv;rcases h.h.2 with⟨rfl,_⟩|⟨g,cap,cur,rfl,hg,hh,r⟩
 ·cases e2
 ·have e3:g=m:=by injection e2
  subst e3;rw[hh]at hb;injection hb with hb
  cases hb
theorem BdIs.keep(h:BdIs w q s ru rv lo ko H K)(h1:w'.heap[q]? =w.heap[q]?)(h2:∀m,lo=some m→w'.heap[m]? =w.heap[m]?)(h3:∀m,ko=some m→w'.heap[m]? =w.heap[m]?)(h4:∀m,H.ownBlock=some m→w'.heap[m]? =w.heap[m]?):BdIs w' q s ru rv lo ko H K:=
 {h with at_:=h.at_.keep h1,ls:=h.ls.keep h2,kv:=h.kv.keep h3,h:=h.h.keep h4}
theorem BdIs.lt(h:BdIs w q s ru rv lo ko H K):q<w.heap.size∧(∀m,lo=some m→m<w.heap.size)∧(∀m,ko=some m→m<w.heap.size)∧∀m,H.ownBlock=some m→m<w.heap.size:=
 ⟨h.at_.lt,fun m e=>by subst e;exact MapW.Opt.lt h.ls,fun m e=>by subst e;exact MapO.lt h.kv,fun m e=>(h.h.lt m e).2⟩
theorem BdIs.on(h:BdIs w q s ru rv lo ko H K)(hb:Below w.heap.size w w'):BdIs w' q s ru rv lo ko H K:=
 h.keep (hb.block q h.lt.1) (fun m e=>hb.block m (h.lt.2.1 m e)) (fun m e=>hb.block m (h.lt.2.2.1 m e)) (fun m e=>hb.block m (h.lt.2.2.2 m e))
def BdF(q:Nat)(lo ko:Option Nat)(H:Value)(i:Nat):Prop:=i=q∨lo=some i∨ko=some i∨H.ownBlock=some i
theorem BdIs.ltF(h:BdIs w q s ru rv lo ko H K):∀i,BdF q lo ko H i→i<w.heap.size:=by
 rintro i (rfl|e|e|e)
 ·exact h.lt.1
 ·exact h.lt.2.1 i e
 ·exact h.lt.2.2.1 i e
 ·exact h.lt.2.2.2 i e
end
def BdP:jof:=fun w X q s=>∃ru rv lo ko H K,BdIs w q s ru rv lo ko H K∧(∀i,BdF q lo ko H i→X i)∧∀i,X i→i<w.heap.size
def jaw(q:Nat)(lo ko:Option Nat)(H:Value)(s':Bk.St)(v:Value)(W:World)(e:Ending)(w':World):Prop:=
 ∃ru' rv' lo' ko' H' K',e= .returned v∧BdIs w' q s' ru' rv' lo' ko' H' K'∧Kept (BdF q lo ko H) W w'∧∀i,BdF q lo' ko' H' i→BdF q lo ko H i∨W.heap.size≤i
section
variable{W W1 w':World}{X:Nat→Prop}{q:Nat}{s s':Bk.St}{ru:Nat→Bk.Un}{rv:Int}{lo ko:Option Nat}{H:Value}{K:Kv.St}{v:Value}{e:Ending}
theorem jaw.turn(hX:∀i,BdF q lo ko H i→X i)(hl:∀i,X i→i<W.heap.size)(h:jaw q lo ko H s' v W e w'):BTurn BdP X q s' v W e w':=by
 obtain⟨ru',rv',lo',ko',H',K',h1,h2,h3,h4⟩:=h;refine⟨fun i=>X i∨BdF q lo' ko' H' i,h1,⟨ru',rv',lo',ko',H',K',h2,fun i hi=> .inr hi,fun i hi=> ?_⟩,fun i hi=> ?_,h3.more fun i _ hi=>hX i hi⟩
 ·rcases hi with hi|hi
  ·exact Nat.lt_of_lt_of_le (hl i hi) h3.size
  ·exact h2.ltF i hi
 ·rcases hi with hi|hi
  ·exact .inl hi
  ·rcases h4 i hi with h5|h5
   ·exact .inl (hX i h5)
   ·exact .inr h5
theorem jaw.stay(h:BdIs W q s ru rv lo ko H K)(hb:Below W.heap.size W w')(v:Value):jaw q lo ko H s v W (.returned v) w':=
 ⟨ru,rv,lo,ko,H,K,rfl,h.on hb,Kept.of_below hb,fun _ hi=> .inl hi⟩
theorem jaw.ahead(hb:Below W.heap.size W W1)(h:jaw q lo ko H s' v W1 e w')(hl:∀i,BdF q lo ko H i→i<W.heap.size):jaw q lo ko H s' v W e w':=by
 obtain⟨ru',rv',lo',ko',H',K',h1,h2,h3,h4⟩:=h;exact⟨ru',rv',lo',ko',H',K',h1,h2,(Kept.of_below (F:=BdF q lo ko H) hb).trans h3 fun _ _ h=>h,fun i hi=>(h4 i hi).imp id (Nat.le_trans hb.size)⟩
theorem jaw.ret(h:jaw q lo ko H s' v W e w')(u:Value):jaw q lo ko H s' u W (.returned u) w':=by
 obtain⟨ru',rv',lo',ko',H',K',h1,h2,h3,h4⟩:=h;exact⟨ru',rv',lo',ko',H',K',rfl,h2,h3,h4⟩
end
open Go.Deep
theorem jmu(W:World)(p:Value)(k:ByteArray)(a b c:Int)(f:Bool)(CG:Calls Tryz.prog 207 #[p,.string k] W (fun e w'=>e= .returned (.tuple #[leV a b c,.bool f])∧Below W.heap.size W w'))(ho ep now:Int){z:Bool}(hz:z=true↔(a=ho∧b=ep)∧(c≠0∧now<c)):
  Calls Tryz.prog 203 #[p,.string k,.int .i64 ho,.int .i64 ep,.int .i64 now] W (fun e w'=>e= .returned (.bool z)∧Below W.heap.size W w'):=by
 have CG:=zh CG;by_cases h1:a=ho∧b=ep
 ·have C1:=zh (fun W=>jhf W a b c ho ep (x:=true) (by simp[h1]))
  have C2:=zh (fun W=>jet W a b c now (x:=z) (by rw[hz];simp[h1]));clear hz h1;unfold leV at*;go_enter Tryz.func203,Tryz.ntmps203;go_upto_region 2 with(go_at_call 207;(with_reducible refine CG.out.mono ?_);rintro e w1 ⟨rfl,hb⟩;have B1:=zh hb;clear hb)
  have B2:=zh (B1.out.alloc (by have:=B1.out.size;omega) (.cells #[.int .i64 a,.int .i64 b,.int .i64 c] 260));have R2:=zh (heap_alloc_new w1 (.cells #[.int .i64 a,.int .i64 b,.int .i64 c] 260));obtain⟨g,hg⟩:∃g,g=w1.heap.size:=⟨_,rfl⟩;rw[←hg]at R2⊢;generalize w1.alloc (.cells #[.int .i64 a,.int .i64 b,.int .i64 c] 260)=w2 at*;have d0:=LsCells.c0 R2.out;have d1:=LsCells.c1 R2.out;have d2:=LsCells.c2 R2.out;have HG:=zh hg;clear hg
  go_wp2_with(first
   |(go_at_call 246;(with_reducible refine(C1.out _).mono ?_);rintro e w3 ⟨rfl,hb⟩;have B3:=zh (B2.out.trans (hb.mono B2.out.size));have R3:=jae R2.out hb;have e0:=LsCells.c0 R3;have e1:=LsCells.c1 R3;have e2:=LsCells.c2 R3;clear hb R3)
   |(go_at_call 247;(with_reducible refine(C2.out _).mono ?_);rintro e w4 ⟨rfl,hb⟩;have B4:=zh (B3.out.trans (hb.mono B3.out.size));clear hb))
  go_ret;exact⟨rfl,B4.out⟩
 ·have C1:=zh (fun W=>jhf W a b c ho ep (x:=false) (by simpa using h1))
  obtain rfl:z=false:=by rw[Bool.eq_false_iff];intro h;exact h1 (hz.1 h).1
  clear hz h1;unfold leV at*;go_enter Tryz.func203,Tryz.ntmps203;go_upto_region 2 with(go_at_call 207;(with_reducible refine CG.out.mono ?_);rintro e w1 ⟨rfl,hb⟩;have B1:=zh hb;clear hb)
  have B2:=zh (B1.out.alloc (by have:=B1.out.size;omega) (.cells #[.int .i64 a,.int .i64 b,.int .i64 c] 260));have R2:=zh (heap_alloc_new w1 (.cells #[.int .i64 a,.int .i64 b,.int .i64 c] 260));obtain⟨g,hg⟩:∃g,g=w1.heap.size:=⟨_,rfl⟩;rw[←hg]at R2⊢;generalize w1.alloc (.cells #[.int .i64 a,.int .i64 b,.int .i64 c] 260)=w2 at*;have d0:=LsCells.c0 R2.out;have d1:=LsCells.c1 R2.out;have d2:=LsCells.c2 R2.out;have HG:=zh hg;clear hg;go_wp2_with(go_at_call 246;(with_reducible refine(C1.out _).mono ?_);rintro e w3 ⟨rfl,hb⟩;have B3:=zh (B2.out.trans (hb.mono B2.out.size));clear hb);go_ret;exact⟨rfl,B3.out⟩
theorem jim(W:World)(q:Nat)(cs:Array Value)(ty:TypeId)(mo:Option Nat)(s:Ls.St)(h:LsIs W q cs ty mo s)(k:ByteArray)(hk:k.size≤maxLen)(ho ep now:Int){z:Bool}(hz:z=true↔Ls.Holds s k ho ep now):
  Calls Tryz.prog 203 #[.pointer (some ⟨q,0,none⟩),.string k,.int .i64 ho,.int .i64 ep,.int .i64 now] W (fun e w'=>e= .returned (.bool z)∧Below W.heap.size W w'):=
 jmu W _ k _ _ _ _ (jdd W q cs ty mo s h k hk) ho ep now (hz.trans (Ls.holds_is h.good k ho ep now))
open Classical in
noncomputable def Ls.notE(s:Ls.St)(k:ByteArray)(h ep:Int):Nat:=match Ls.find s.l k with
 |none=>5
 |some e=>if Ls.Other e h ep then 8 else 0
open Classical in
theorem Ls.notE_is{s:Ls.St}{k:ByteArray}{h ep:Int}{f x:Bool}(hf:(Ls.find s.l k).isSome=f)(hx:x=true↔Ls.holderOf s.l k=h∧Ls.epochOf s.l k=ep):Ls.notE s k h ep=if f then(if x then 0 else 8)else 5:=by
 unfold Ls.notE Ls.holderOf Ls.epochOf at*
 cases he:Ls.find s.l k with
 |none=>rw[he]at hf;subst hf;rfl
 |some e=>
  rw[he]at hf hx;subst hf;show(if Ls.Other e h ep then 8 else 0)=if x then 0 else 8
  unfold Ls.Other;by_cases h1:e.holder=h∧e.epoch=ep
  ·rw[if_neg (by omega),if_pos (hx.2 h1)]
  ·rw[if_pos (by omega),if_neg (fun h=>h1 (hx.1 h))]
theorem jo1(W:World)(q:Nat)(cs:Array Value)(ty:TypeId)(mo:Option Nat)(s:Ls.St)(h:LsIs W q cs ty mo s)(k:ByteArray)(hk:k.size≤maxLen)(ho ep:Int):
  Calls Tryz.prog 250 #[.pointer (some ⟨q,0,none⟩),.string k,.int .i64 ho,.int .i64 ep] W (fun e w'=>e= .returned (.int .i64 (Ls.notE s k ho ep:Nat))∧Below W.heap.size W w'):=by
 have CG:=zh (jdd W q cs ty mo s h k hk);obtain⟨x,hx⟩:∃x:Bool,x=true↔Ls.holderOf s.l k=ho∧Ls.epochOf s.l k=ep:=⟨decide _,decide_eq_true_iff⟩;have EN:=zh (Ls.notE_is (f:=(Ls.find s.l k).isSome) rfl hx);unfold LGet lval at CG;rw[EN.out];clear EN;generalize(Ls.find s.l k).isSome=f at*;generalize Ls.holderOf s.l k=a at*;generalize Ls.epochOf s.l k=b at*;generalize Ls.tillOf s.l k=c at*;have C1:=zh (fun W=>jhf W a b c ho ep hx);clear h hk hx;unfold leV at*
 cases f with
 |false=>
  go_enter Tryz.func250,Tryz.ntmps250;go_upto_region 2 with(go_at_call 207;(with_reducible refine CG.out.mono ?_);rintro e w1 ⟨rfl,hb⟩;have B1:=zh hb;clear hb)
  have B2:=zh (B1.out.alloc (by have:=B1.out.size;omega) (.cells #[.int .i64 a,.int .i64 b,.int .i64 c] 260));go_wp2_with fail;go_ret;exact⟨rfl,B2.out⟩
 |true=>
  cases x with
  |false=>
   go_enter Tryz.func250,Tryz.ntmps250;go_upto_region 2 with(go_at_call 207;(with_reducible refine CG.out.mono ?_);rintro e w1 ⟨rfl,hb⟩;have B1:=zh hb;clear hb)
   have B2:=zh (B1.out.alloc (by have:=B1.out.size;omega) (.cells #[.int .i64 a,.int .i64 b,.int .i64 c] 260));go_wp2_with(go_at_call 246;(with_reducible refine(C1.out _).mono ?_);rintro e w3 ⟨rfl,hb⟩;have B3:=zh (B2.out.trans (hb.mono B2.out.size));clear hb);go_ret;exact⟨rfl,B3.out⟩
  |true=>
   go_enter Tryz.func250,Tryz.ntmps250;go_upto_region 2 with(go_at_call 207;(with_reducible refine CG.out.mono ?_);rintro e w1 ⟨rfl,hb⟩;have B1:=zh hb;clear hb)
   have B2:=zh (B1.out.alloc (by have:=B1.out.size;omega) (.cells #[.int .i64 a,.int .i64 b,.int .i64 c] 260));go_wp2_with(go_at_call 246;(with_reducible refine(C1.out _).mono ?_);rintro e w3 ⟨rfl,hb⟩;have B3:=zh (B2.out.trans (hb.mono B2.out.size));clear hb);go_ret;exact⟨rfl,B3.out⟩
structure LsX(W:World)(X:Nat→Prop)(q:Nat)(mo:Option Nat):Prop where
 q:X q
 m:∀m,mo=some m→X m
 lt:∀i,X i→i<W.heap.size
def jk8(q:Nat)(cs:Array Value)(ty:TypeId)(mo:Option Nat)(s':Ls.St)(v:Value)(W:World)(e:Ending)(w':World):Prop:=
 ∃mo',e= .returned v∧LsIs w' q (cs.setIfInBounds 1 (.map mo')) ty mo' s'∧Kept (fun i=>i=q∨mo=some i) W w'∧∀m,mo'=some m→mo=some m∨W.heap.size≤m
theorem jfz{W w':World}{X:Nat→Prop}{q:Nat}{cs:Array Value}{ty:TypeId}{mo:Option Nat}{s:Ls.St}(_:LsX W X q mo)(h:LsIs W q cs ty mo s)(hb:Below W.heap.size W w')(v:Value):jk8 q cs ty mo s v W (.returned v) w':=
 ⟨mo,rfl,by rw[set_same h.k1];exact h.on hb,Kept.of_below hb,fun _ hi=> .inl hi⟩
theorem jj9{W W1 w':World}{X:Nat→Prop}{q:Nat}{cs:Array Value}{ty:TypeId}{mo mo':Option Nat}{s':Ls.St}(_:LsX W X q mo)(hb:Below W.heap.size W W1)(h:LsIs w' q (cs.setIfInBounds 1 (.map mo')) ty mo' s')(hk:Kept (fun i=>i=q∨mo=some i) W1 w')(hm:∀m,mo'=some m→mo=some m∨W1.heap.size≤m)(v:Value):jk8 q cs ty mo s' v W (.returned v) w':=
 ⟨mo',rfl,h,(Kept.of_below (F:=fun i=>i=q∨mo=some i) hb).trans hk fun _ _ h=>h,fun m e=>(hm m e).imp id (Nat.le_trans hb.size)⟩
structure RdW(w0:World)(q:Nat)(s:Bk.St)(ru:Nat→Bk.Un)(rv:Int)(lo ko:Option Nat)(H:Value)(K:Kv.St)(W:World):Prop where
 bd:BdIs W q s ru rv lo ko H K
 b:Below w0.heap.size w0 W
theorem RdW.on{w0 W W':World}{q:Nat}{s:Bk.St}{ru:Nat→Bk.Un}{rv:Int}{lo ko:Option Nat}{H:Value}{K:Kv.St}(h:RdW w0 q s ru rv lo ko H K W)(hb:Below W.heap.size W W'):RdW w0 q s ru rv lo ko H K W':=
 ⟨h.bd.on hb,h.b.trans (hb.mono h.b.size)⟩
theorem jk9(n:Int)(hn:Spc.i64 n)(w:World)(ht:BT w):Calls Tryz.prog 155 #[.int .i64 n] w (BRet (.string (Bd.key n)) w):=by
 have C:=zh (jr9 n hn w ht.pow);unfold Bd.key;generalize txt (Spc.digs n)=k at*;clear ht hn;go_enter Tryz.func155,Tryz.ntmps155;go_wp2_with(go_at_call 223;(with_reducible refine C.out.mono ?_);rintro e w1 ⟨rfl,hb⟩;have B:=zh hb;clear hb);go_ret;exact⟨rfl,B.out⟩
theorem jka(q:Nat)(s:Bk.St)(ru:Nat→Bk.Un)(rv:Int)(lo ko:Option Nat)(H:Value)(K:Kv.St)(w:World)(h:BdIs w q s ru rv lo ko H K)(ht:BT w)(n:Int)(hn:Spc.i64 n):Calls Tryz.prog 87 #[.pointer (some ⟨q,0,none⟩),.int .i64 n] w (BRet (.tuple #[.string (Bk.text s.vs n),.bool (Bk.has s.vs n)]) w):=by
 have HT:=zh ht;have CK:Hid (∀W,BT W→Calls Tryz.prog 155 #[.int .i64 n] W (BRet (.string (Bd.key n)) W)):=fun W h=>jk9 n hn W h;obtain⟨hv,hr⟩:=h.dg.val h.kg h.lok.ok.rise n;have KS:Hid ((Bd.key n).size≤maxLen):=by
  have:=Bd.digs_len hn;show(Bd.key n).size≤maxLen;unfold Bd.key maxLen;rw[jbj];omega
 have CG:Hid (∀W,RdW w q s ru rv lo ko H K W→Calls Tryz.prog 154 #[.pointer (some ⟨q,2,none⟩),.string (Bd.key n)] W (KGet K (Bd.key n) W)):=fun W h=>jih W _ ko K h.bd.kvIs.ask _ KS.out;unfold KGet at CG;rw[hv]at CG;have hne:(Kv.revOf K.l (Bd.key n) !=0)=Bk.has s.vs n:=by rw[Bool.eq_iff_iff,bne_iff_ne];exact hr
 have HNE:=zh hne;rw[←HNE.out];have R0:=zh (RdW.mk h (Below.refl w.heap.size w));generalize Bk.text s.vs n=tx at*;generalize Kv.revOf K.l (Bd.key n)=rr at*;generalize Bd.key n=kk at*;clear hv hr hne HNE ht hn h KS;go_enter Tryz.func87,Tryz.ntmps87;go_upto_region 3 with fail
 refine wp_region_held_drew (S:=RdW w q s ru rv lo ko H K) (by kernel_rfl) (R0.out.on (Below.refl w.heap.size w).drew) (fun hS=> ?_);refine tY 0 hS ?_;refine tY 1 hS ?_;refine tY 2 hS ?_;refine tY 3 hS ?_;simp only[Act.put,zT,zO,zS];refine rO 4 (fun K hK=> ?_);go_simp
 with_reducible refine(CK.out _ (HT.out.on hS.b)).mono ?_
 rintro e w7 ⟨rfl,hb⟩;replace hS:=hS.on hb;clear hb;refine hK.out _ _ hS (fun _=> ?_);clear hK K;try simp only[Act.put,zT,zO,zS]
 refine rO 5 (fun K hK=> ?_);go_simp
 with_reducible refine(CG.out _ hS).mono ?_
 rintro e w8 ⟨rfl,hb⟩;replace hS:=hS.on hb;clear hb;refine hK.out _ _ hS (fun _=> ?_);clear hK K;refine tY 6 hS ?_;refine tY 7 hS ?_;refine tY 8 hS ?_;refine tY 9 hS ?_;refine tY 10 hS ?_;simp only[Act.put,zT,zO,zS];refine wpAnyH_done (by kernel_rfl) ?_ _;have B:=zh hS.b;clear hS;go_wp2_with fail;go_ret2;exact⟨rfl,B.out⟩
theorem jla(q:Nat)(s:Bk.St)(ru:Nat→Bk.Un)(rv:Int)(lo ko:Option Nat)(H:Value)(K:Kv.St)(w:World)(h:BdIs w q s ru rv lo ko H K)(ht:BT w)(n:Int)(hn:Spc.i64 n):Calls Tryz.prog 208 #[.pointer (some ⟨q,0,none⟩),.int .i64 n] w (BRet (.bool (Bk.has s.vs n)) w):=by
 have C:=zh (jka q s ru rv lo ko H K w h ht n hn);generalize Bk.text s.vs n=tx at*;generalize Bk.has s.vs n=hx at*;clear h ht hn;go_enter Tryz.func208,Tryz.ntmps208;go_wp2_with(go_at_call 87;(with_reducible refine C.out.mono ?_);rintro e w1 ⟨rfl,hb⟩;have B:=zh hb;clear hb);go_ret;exact⟨rfl,B.out⟩
theorem jin(g o j:Nat):((⟨g,o,none⟩:Addr).add j)=⟨g,o+j,none⟩:=by unfold Addr.add;split<;>simp_all
theorem jee(b:Nat)(t:TypeId):∀(vs:List Value) (o:Nat) (w:World) (cs:Array Value),w.heap[b]? =some (.cells cs t (0,0))→∃cs',(w.setCells b o vs).heap[b]? =some (.cells cs' t (0,0))∧cs'.size=cs.size∧∀i,i<o→cs'[i]? =cs[i]?
 |[],_,_,cs,h=>⟨cs,h,rfl,fun _ _=>rfl⟩
 |v::vs,o,w,cs,h=>by
  obtain⟨cs',h1,h2,h3⟩:=jee b t vs (o+1) (w.setCell ⟨b,o,none⟩ v) (cs.setIfInBounds o v) (heap_setCell_same w b o _ _ v h);refine⟨cs',h1,by rw[h2,Array.size_setIfInBounds],fun i hi=> ?_⟩;rw[h3 i (by omega),Array.getElem?_setIfInBounds_ne (by omega)]
theorem jbd(b:Nat):∀(vs:List Value) (o:Nat) (w:World),w.grownBy (w.setCells b o vs) (some b)
 |[],_,w=>⟨rfl,rfl,rfl,Nat.le_refl _,fun _ _ _=>rfl⟩
 |v::vs,o,w=>jaf (jab w b o v) (jbd b vs (o+1) (w.setCell ⟨b,o,none⟩ v))
theorem rc_zero:∀w,(zeroValue 45).run Tryz.prog w= .ok (.agg (Rc.cells Rc.none_)) w:=(zero_of_info (n:=18) (by kernel_rfl)).1
theorem jo2(w:World)(ty:TypeId)(b o c:Nat)(hc:∀j,j<18→(w.cell? ⟨b,o+j,none⟩).isSome=true)(hf:∀j,j<18→w.frozen? ⟨b,o+j,none⟩=false):
  (Builtin.clear_ #[28] ty #[.slice (some ⟨b,o,none⟩) 1 c]).run Tryz.prog w= .ok (.tuple #[]) (w.setCells b o (Rc.cells Rc.none_).toList):=by
 have hzc:(Builtin.zeroCells (Value.agg (#[.int .i64 0,.int .i64 0,.int .i64 0,.int .i64 0,.int .i64 0,.string ⟨#[]⟩,.int .i64 0,.int .i64 0,.int .i64 0,.int .i64 0,.int .i64 0,.int .i64 0,.int .i64 0,.int .i64 0,.int .i64 0,.int .i64 0,.int .i64 0,.int .i64 0])).cells 1).toList=(Rc.cells Rc.none_).toList:=by kernel_rfl
 have hst:=run_storeCells_cells (P:=Tryz.prog) b o (Rc.cells Rc.none_).toList 0 w (by simpa[Rc.cells]using hc) (by simpa[Rc.cells]using hf) (fun v hv=>Bk.rcC_one Rc.none_ v hv);simp only[Nat.add_zero]at hst;simp[Builtin.clear_,run_underlying Tryz.underlying28,rc_zero,hzc,hst]
theorem jse(W:World)(B g c:Nat)(l:List Rc.R)(hown:OwF Bk.rcC 18 45 W B (.slice (some ⟨g,0,none⟩) 24 c) l):Calls Tryz.prog 256 #[.slice (some ⟨g,0,none⟩) 24 c,.int .i64 0,.int .i64 1] W (fun e w'=>e= .returned (.slice (some ⟨g,0,none⟩) 23 c)∧OwF Bk.rcC 18 45 w' B (.slice (some ⟨g,0,none⟩) 23 c) l.tail∧W.grownBy w' (some g)):=by
 obtain⟨hl1,hl2,hl3⟩:=hown.len;obtain⟨i0,hi0,hz0,hz1,hz2⟩:=info_parts jbr;obtain⟨x,hx⟩:∃x,l=x::l.tail:=by
  cases l with
  |nil=>rw[List.length_nil]at hl1;omega
  |cons x l=>exact⟨x,rfl⟩
 have htl:l.tail.length=23:=by rw[List.length_tail];omega
 have hsl:=hown.sl;have TL:Hid ((l.tail.flatMap Bk.rcC).length=23*18):=by show _=_;rw[jk1 Bk.rcC_len,htl]
 have RD:Hid (∀j u,(l.tail.flatMap Bk.rcC)[j]? =some u→W.drew.cell? ((⟨g,18,none⟩:Addr).add j)=some u):=fun j u hu=>by
  obtain⟨b,o,e,hb,hr⟩:=hsl.rd (by omega);injection e with e
  injection e with e1 e2
  subst e1 e2;have h1:=hr (18+j) u (by
   rw[hx,List.flatMap_cons,List.getElem?_append_right (by rw[Bk.rcC_len];omega),Bk.rcC_len,show 18+j -18=j by omega];exact hu)
  have h2:((⟨g,18,none⟩:Addr).add j)=⟨g,18+j,none⟩:=jin g 18 j;rw[h2];rw[Nat.zero_add]at h1;exact h1
 have ON:Hid (∀u∈l.tail.flatMap Bk.rcC,u.oneCell'=true):=fun u hu=>by
  obtain⟨r,_,hr⟩:=List.mem_flatMap.1 hu;exact Bk.rcC_one r u hr
 have OE:Hid (W.drew.ownsRow B 45 18 (.slice (some ⟨g,0,none⟩) 0 c) 0 []):=by
  rcases hown.2 with⟨h,_⟩|⟨g',c',cur,h,hbg,hh,h1,h2,h3,h4⟩
  ·cases h
  ·injection h with e1 e2 e3
   injection e1 with e1
   injection e1 with e1 _
   subst e1 e3;exact⟨rfl,.inr ⟨g,c,cur,rfl,hbg,hh,Nat.zero_le _,h2,h3,by simp⟩⟩
 have hcm:(c:Int)≤9223372036854775807:=by unfold maxLen at hl3;omega
 have hc24:(24:Int)≤(c:Int):=by omega
 have hc1:24≤c:=hl2;have hcn1:¬(c=1):=by omega
 have hcn2:¬(c=23):=by omega
 have hcn3:¬(c≤23):=by omega
 have HTL:=zh htl;clear hl1 hl2 hl3 hx hsl hown htl hz0 hz2;go_enter Tryz.func256,Tryz.ntmps256;go_upto_region 5 with fail
 refine wp_region_held_drew (S:=fun _=>True) (by kernel_rfl) trivial (fun hS=> ?_);refine tY 0 hS ?_;refine tY 1 hS ?_;refine tY 2 hS ?_;refine tY 3 hS ?_;refine tY 4 hS ?_;refine tY 5 hS ?_;simp only[Act.put,zT,zO,zS];refine rO 6 (fun K hK=> ?_);refine wp_append_own_spare _ (.tmp 22) (.tmp 25) 28 rfl B 45 i0 18 Tryz.underlying28 hi0 hz1 g 0 c [] rfl OE.out ⟨g,18,none⟩ 23 (c -1) (l.tail.flatMap Bk.rcC) rfl TL.out RD.out ON.out (by omega) ?_;intro w2 ho2 hg2;have O2:=zh ho2;have G2:=zh (jaf (show W.grownBy W.drew (some g)from⟨rfl,rfl,rfl,Nat.le_refl _,fun _ _ _=>rfl⟩) hg2);have hS2:True:=trivial;clear hS ho2 hg2;have hS:=hS2;clear hS2;refine hK.out _ _ hS (fun _=> ?_);clear hK K;refine tY 7 hS ?_;simp only[Act.put,zT,zO,zS];refine wpAnyH_done (by kernel_rfl) ?_ _;clear hS;have hsz:∃cur,w2.heap[g]? =some (.cells cur 45 (0,0))∧cur.size=c*18∧B≤g∧c≤maxLen∧cur.toList.take (23*18)=l.tail.flatMap Bk.rcC:=by
  rcases O2.out.2 with⟨h,_⟩|⟨g',c',cur,h,hbg,hh,h1,h2,h3,h4⟩
  ·cases h
  ·injection h with e1 e2 e3
   injection e1 with e1
   injection e1 with e1 _
   subst e1 e3;exact⟨cur,hh,h3,hbg,h2,by simpa using h4⟩
 obtain⟨cur,k1,k2,k3,k4,k5⟩:=hsz;have hclr:=fun ty=>jo2 w2 ty g 414 (c -23) (fun j hj=>by rw[cell_of_row w2 g _ _ _ _ k1,Array.getElem?_eq_getElem (by omega)];rfl) (fun j _=>frozen_of_row w2 g _ _ _ k1);have G3:=zh (jaf G2.out (jbd g (Rc.cells Rc.none_).toList 414 w2));have O3:Hid (OwF Bk.rcC 18 45 (w2.setCells g 414 (Rc.cells Rc.none_).toList) B (.slice (some ⟨g,0,none⟩) 23 c) l.tail):=by
  obtain⟨cur',m1,m2,m3⟩:=jee g 45 (Rc.cells Rc.none_).toList 414 w2 cur k1;have e:l.tail.length=23:=HTL.out;show World.ownsRow _ _ _ _ _ _ _;rw[e];refine⟨TL.out,.inr ⟨g,c,cur',rfl,k3,m1,by omega,k4,by rw[m2,k2],?_⟩⟩;rw[←k5];refine List.ext_getElem? fun i=> ?_;rw[List.getElem?_take,List.getElem?_take];split
  ·have:=m3 i (by omega)
   simpa using this
  ·rfl
 clear O2 G2 k1 k2 k3 k4 k5;go_wp2_with fail;go_ret;exact⟨rfl,O3.out,G3.out⟩
end Go.Proofs.YtabandbigckfkaaGreatDoor
namespace Go.Proofs.YtabandbigckfkaaGreatDoor
open Go.RowKit
def vals(l:List Nat):List Value:=l.map fun x=> .int .u8 ((x:Nat):Int)
theorem jav(l:List Nat):(vals l).length=l.length:=by simp[vals]
theorem jbb(a b:List Nat):vals (a++b)=vals a++vals b:=by simp[vals]
theorem jf0{l:List Nat}{j:Nat}(h:j<l.length):(vals l)[j]? =some (.int .u8 ((l.getD j 0:Nat):Int)):=by
 rw[jag h];simp[vals,h]
theorem jlb(l:List Nat):∀u∈vals l,u.oneCell'=true:=by
 intro u hu;simp only[vals,List.mem_map]at hu;obtain⟨x,_,rfl⟩:=hu;rfl
theorem Rd.cells{w:World}{B b o:Nat}{l:List Nat}(h:Rd w B (some ⟨b,o,none⟩) l):∀j u,(vals l)[j]? =some u→w.cell? ((⟨b,o,none⟩:Addr).add j)=some u:=by
 intro j u hu;have hj:j<l.length:=by
  rcases Nat.lt_or_ge j l.length with h|h
  ·exact h
  ·rw[List.getElem?_eq_none (by rw[jav];omega)]at hu;cases hu
 obtain⟨b',o',e,_,hc⟩:=h.2 (by omega);injection e with e
 injection e with e1 e2
 subst e1 e2;rw[jf0 hj]at hu;rw[←hu,←hc j hj]
 congr 1
 unfold Addr.add;split<;>simp_all
theorem Rd.of_own{w:World}{base n c g:Nat}{e:TypeId}{l:List Nat}(h:w.ownsRow base e 1 (.slice (some ⟨g,0,none⟩) n c) n (vals l))(hl:∀x∈l,x<256):Rd w w.heap.size (some ⟨g,0,none⟩) l:=by
 have hn:n=l.length:=by have:=h.1;rw[jav]at this;omega
 refine⟨hl,fun h0=>⟨g,0,rfl,?_,fun j hj=> ?_⟩⟩
 ·have hc:=h.cellAt 0 (by omega)
  rw[jf0 h0]at hc;exact block_lt_of_cell hc
 ·rw[Nat.zero_add,h.cellAt j (by omega),jf0 hj]
theorem jam{P:Program}{w:World}{ops:Array Oper}{rest:List Oper}{op:Oper}{a:Act}{Q:Exit→Act→World→Prop}(hgd:op.guard=none)(s x:Operand)(t:TypeId)
  (ho:op.op= .call {callee:= .builtin .append,args:=#[s,x],argTypes:=#[t,t]})
  (base:Nat) (e:TypeId) (i:TypeInfo) (z:Value) (ht:P.underlying t=some (.slice e)) (hi:P.info? e=some i) (hz:i.zero=some z)
  (hsize:i.size=1) (hby:i.bytes=1) (hzs:z.cells.size=1)
  (v:Value) (n:Nat) (xs:List Value) (hs:a.eval s=v) (hown:w.ownsRow base e 1 v n xs)
  (B m c:Nat) (A:Option Addr) (l:List Nat) (hx:a.eval x= .slice A m c) (hr:Rd w B A l) (hm:m=l.length) (hA:A=none→c=0)
  (hnm:n+m≤140737488355328) (hbase:base≤w.heap.size)
  (h:∀v' w',w'.ownsRow base e 1 v' (n+m) (xs++vals l)→w.grownBy w' v.ownBlock→wpList P ops Q rest (a.put op.dst v') w'):wpList P ops Q (op::rest) a w:=by
 rcases A with _|ad
 ·obtain rfl:=hA rfl
  have hl:l=[]:=by
   rcases l with _|⟨x,l⟩
   ·rfl
   ·obtain⟨_,_,h0,_⟩:=hr.2 (by simp);cases h0
  subst hl;subst hm;refine wpList_append_own_none hgd s x t ho base e i 1 ht hi v n xs hs hown hx ?_;exact h v w (by simpa[vals]using hown) (World.grownBy.refl w _)
 ·have hcells:∀j u,(vals l)[j]? =some u→w.cell? (ad.add j)=some u:=by
   rcases l with _|⟨y,l⟩
   ·intro j u hu;simp[vals]at hu
   ·obtain⟨b,o,h0,_⟩:=hr.2 (by simp)
    injection h0 with h0
    subst h0;exact hr.cells
  exact wpList_append_own w hgd s x t ho base e i z 1 1 ht hi hz hsize hby hzs (by omega) v n xs hs hown ad m c (vals l) hx (by rw[jav];omega) hcells (jlb l) (by unfold maxLen;omega) (by omega) hbase
   fun v' w' h2 h3 _=>h v' w' h2 h3
theorem jbu:(Tryz.prog.info? 5).map (fun i=>(i.zero,i.size,i.bytes))=some (some (.int .u8 0),1,1):=by kernel_rfl
structure Sl(w:World)(A:Option Addr)(n c:Nat)(l:List Nat):Prop where
 rd:Rd w w.heap.size A l
 len:n=l.length
 cap:n≤c
 max:c≤maxLen
 nil:A=none→c=0
theorem sl_of{w:World}{a:Option Addr}{len cap:Nat}{zs:List Int}
  (h:(a=none∧len=0∧cap=0∧zs=[])∨
   ∃x,a=some x∧len≤cap∧cap≤maxLen∧zs.length=cap∧(∀i,i<zs.length→w.cell? (x.add i)=some (.int .u8 (zs.getD i 0)))∧∀n∈zs,(Lit.int .u8 n).wf=true):
  ∃l,Sl w a len cap l:=by
 rcases h with⟨rfl,rfl,rfl,rfl⟩|⟨x,rfl,hl,hm,hz,hcell,hwz⟩
 ·exact⟨[],Rd.empty _ _ _,rfl,Nat.le_refl _,Nat.zero_le _,fun _=>rfl⟩
 ·have hb:∀n∈zs,0≤n∧n<256:=by
   intro n hn;have:=hwz n hn;simp[Lit.wf,IntKind.min,IntKind.max,IntKind.signed,IntKind.bits]at this;omega
  refine⟨(zs.take len).map Int.toNat,⟨?_,?_⟩,by simp;omega,hl,hm,fun h=>by cases h⟩
  ·intro y hy
   simp only[List.mem_map]at hy;obtain⟨n,hn,rfl⟩:=hy;have:=hb n (List.mem_of_mem_take hn);omega
  ·intro h0
   simp only[List.length_map,List.length_take]at h0;obtain⟨b,off,spot⟩:=x;have hc:=hcell 0 (by omega);have hspot:spot=none:=by simpa[Addr.add]using World.cell?_spot hc
   subst hspot;refine⟨b,off,rfl,?_,fun j hj=> ?_⟩
   ·have:=block_lt_of_cell hc
    simpa[Addr.add]using this
   ·simp only[List.length_map,List.length_take]at hj
    have hcj:=hcell j (by omega);have hadd:(⟨b,off,none⟩:Addr).add j=⟨b,off+j,none⟩:=by unfold Addr.add;split<;>simp_all
    rw[hadd]at hcj;rw[hcj];have hjz:j<zs.length:=by omega
    rw[jag hjz,jag (by simp;omega)];have:=hb zs[j] (List.getElem_mem hjz)
    congr 2
    simp;omega
section
variable{w:World}{A:Option Addr}{n c:Nat}{l:List Nat}
theorem Sl.few(h:Sl w A n c l)(k:Nat):Sl w A (min n k) c (l.take k):=
 ⟨h.rd.take _,by rw[List.length_take,←h.len];omega,by have:=h.cap;omega,h.max,h.nil⟩
theorem Sl.on{w':World}(h:Sl w A n c l)(hb:Below w.heap.size w w'):Sl w' A n c l:=⟨h.rd.on hb,h.len,h.cap,h.max,h.nil⟩
theorem Sl.take(h:Sl w A n c l){k:Nat}(hk:k≤n):Sl w A k c (l.take k):=
 ⟨h.rd.take _,by rw[List.length_take,←h.len];omega,by have:=h.cap;omega,h.max,h.nil⟩
theorem Sl.drop(h:Sl w A n c l){k:Nat}(hk:k≤n)(hc:¬c=k):Sl w (A.map (fun x=>x.add k)) (n -k) (c -k) (l.drop k):=by
 refine⟨?_,by rw[List.length_drop,←h.len],by have:=h.cap;omega,by have:=h.max;omega,fun e=> ?_⟩
 ·have:=h.rd.drop (k:=k) (c:=c) (by rw[←h.len];exact h.cap) (fun x=>x.add k) (fun b o=>by unfold Addr.add;split<;>simp_all)
  rwa [if_neg hc]at this
 ·rw[Option.map_eq_none_iff]at e;have:=h.nil e;omega
theorem Sl.dropAll(h:Sl w A n c l){k:Nat}(hk:k≤n)(hc:c=k):Sl w A (n -k) (c -k) (l.drop k):=by
 have hcap:=h.cap;refine⟨?_,by rw[List.length_drop,←h.len],by omega,by have:=h.max;omega,fun e=>by have:=h.nil e;omega⟩;rw[List.drop_of_length_le (by rw[←h.len];omega)];exact Rd.empty _ _ _
theorem Sl.none_(w:World):Sl w none 0 0 []:=⟨Rd.empty _ _ _,rfl,Nat.le_refl _,Nat.zero_le _,fun _=>rfl⟩
end
theorem Sl.off{w w':World}{A:Option Addr}{n c:Nat}{row:Option Nat}{l:List Nat}(h:Sl w A n c l)(hg:w.grownBy w' row)(hr:0<l.length→∀a,A=some a→row≠some a.block):Sl w' A n c l:=
 ⟨⟨h.rd.1,fun hl=>by
  obtain⟨b,o,e,hb,hc⟩:=h.rd.2 hl;exact⟨b,o,e,Nat.lt_of_lt_of_le hb hg.size,fun j hj=>hg.cell (hc j hj) (fun e2=>hr hl _ e e2.symm)⟩⟩,h.len,h.cap,h.max,h.nil⟩
theorem Sl.block{w:World}{A:Option Addr}{n c:Nat}{l:List Nat}(h:Sl w A n c l)(hl:0<l.length):∀a,A=some a→a.block<w.heap.size:=by
 intro a ha;obtain⟨b,o,e,hb,_⟩:=h.rd.2 hl;rw[ha]at e;injection e with e;subst e;exact hb
theorem Rd.made{w:World}{t:TypeId}{cs:Array Value}{fr:Nat×Nat}(l:List Nat)(hcs:cs=(vals l).toArray)(hl:∀x∈l,x<256):Rd (w.alloc (.cells cs t fr)) (w.alloc (.cells cs t fr)).heap.size (some ⟨w.heap.size,0,none⟩) l:=by
 subst hcs;exact⟨hl,fun _=>⟨_,0,rfl,by simp,fun j hj=>by rw[cell_of_row _ _ _ _ t fr (heap_alloc_new w _),Nat.zero_add,List.getElem?_toArray,jf0 hj]⟩⟩
theorem ja8{w:World}{B n c:Nat}{A:Option Addr}{l:List Nat}(h:Rd w B A l)(hn:n=l.length):
  (convert 58 9 (.slice A n c)).run Tryz.prog w= .ok (.string (txt l)) w:=by
 by_cases h0:l=[]
 ·subst h0
  subst hn;rcases A with _|ad
  ·rw[run_convert_bytes_nil w 58 5 Tryz.underlying58 Tryz.underlying5 _ _ _ Tryz.underlying9];rfl
  ·rw[run_convert_bytes_string w 58 9 5 _ _ _ Tryz.underlying58 Tryz.underlying5 Tryz.underlying9,run_bytesToString w ad _ c [] (by simp[loadCells,loadCellsFrom])];rfl
 ·obtain⟨b,o,rfl,_,hc⟩:=h.2 (List.length_pos_iff.2 h0)
  refine run_convert_bytes_arg w 58 5 Tryz.underlying58 Tryz.underlying5 b o n c _ (by simp[hn]) (fun i hi=> ?_) _ Tryz.underlying9;rw[hc i (by omega),jag (by omega),jag (by simp;omega)];simp
def OwnB(w:World)(B:Nat)(v:Value)(l:List Nat):Prop:=w.ownsRow B 5 1 v l.length (vals l)∧∀x∈l,x<256
theorem OwnB.sl{w:World}{B:Nat}{v:Value}{l:List Nat}(h:OwnB w B v l):∃A c,v= .slice A l.length c∧Sl w A l.length c l:=by
 rcases h.1.2 with⟨rfl,h0⟩|⟨g,cap,cur,rfl,_,_,h1,h2,_⟩
 ·have hl:l=[]:=by simpa using h0
  subst hl;exact⟨none,0,rfl,Sl.none_ w⟩
 ·exact⟨_,cap,rfl,Rd.of_own h.1 h.2,rfl,h1,h2,fun h=>by cases h⟩
theorem OwnB.sls{w:World}{B n c:Nat}{A:Option Addr}{l:List Nat}(h:OwnB w B (.slice A n c) l):Sl w A n c l:=by
 obtain⟨A',c',e,hs⟩:=h.sl;injection e with e1 e2 e3
 subst e1 e2 e3;exact hs
theorem OwnB.far{w:World}{B n c:Nat}{A:Option Addr}{v:Value}{l:List Nat}(h:OwnB w B v l)(hv:v= .slice A n c):∀a,A=some a→B≤a.block:=by
 intro a ha;subst ha;subst hv;rcases h.1.2 with⟨h0,_⟩|⟨g,cap,cur,h0,hb,_⟩
 ·cases h0
 ·injection h0 with h0;injection h0 with h0;subst h0;exact hb
theorem OwnB.from_{w:World}{B n c:Nat}{A:Option Addr}{l:List Nat}(h:OwnB w B (.slice A n c) l):∀a,A=some a→B≤a.block:=by
 intro a ha;subst ha;rcases h.1.2 with⟨h0,_⟩|⟨g,cap,cur,h0,hb,_⟩
 ·cases h0
 ·injection h0 with h0;injection h0 with h0;subst h0;exact hb
theorem OwnB.below{w w':World}{B:Nat}{v:Value}{l:List Nat}(h:OwnB w B v l)(hb:Below w.heap.size w w'):OwnB w' B v l:=⟨jb6 h.1 hb,h.2⟩
theorem OwnB.lower{w:World}{B B':Nat}{v:Value}{l:List Nat}(h:OwnB w B v l)(hB:B'≤B):OwnB w B' v l:=⟨jb7 h.1 hB,h.2⟩
theorem OwnB.none_(w:World)(B:Nat):OwnB w B (.slice none 0 0) []:=⟨World.ownsRow_nil _ _ _ _,by simp⟩
theorem OwnB.snoc{w:World}{B:Nat}{v:Value}{l:List Nat}{x:Nat}(h:w.ownsRow B 5 1 v (l.length+1) (vals l++[.int .u8 ((x:Nat):Int)]))(hl:∀y∈l,y<256)(hx:x<256):OwnB w B v (l++[x]):=by
 refine⟨?_,?_⟩
 ·rw[jbb,List.length_append];exact h
 ·intro y hy
  rcases List.mem_append.1 hy with hy|hy
  ·exact hl y hy
  ·simp at hy;omega
theorem ja9{w:World}{ops:Array Oper}{rest:List Oper}{op:Oper}{a:Act}{Q:Exit→Act→World→Prop}(hgd:op.guard=none)(s x:Operand)
  (ho:op.op= .call {callee:= .builtin .append,args:=#[s,x],argTypes:=#[58,58]})
  (base:Nat) (v:Value) (l:List Nat) (hs:a.eval s=v) (hown:OwnB w base v l) (X:Int) (y:Nat) (hX:X=(y:Int)) (hy:y<256) (hx:a.eval x= .slice (some ⟨w.heap.size,0,none⟩) 1 1)
  (hl:l.length≤3000000) (hB:base≤w.heap.size)
  (h:∀v' w',OwnB w' base v' (l++[y])→Below base w w'→wpList Tryz.prog ops Q rest (a.put op.dst v') w'):wpList Tryz.prog ops Q (op::rest) a (w.alloc (.cells #[.int .u8 X] 5)):=by
 obtain⟨i0,hi0,hz0,hz1,hz2⟩:=info_parts jbu;subst hX;refine wpList_append_own _ hgd s x 58 ho base 5 i0 (.int .u8 0) 1 1 Tryz.underlying58 hi0 hz0 hz1 hz2 rfl (by decide) v l.length (vals l) hs (hown.1.alloc _) ⟨w.heap.size,0,none⟩ 1 1 [.int .u8 (y:Int)] hx rfl ?_ ?_ (by unfold maxLen;omega) (by omega) (by simp;omega) ?_
 ·intro j u hu
  rcases j with _|j
  ·simp at hu;subst hu
   have:((⟨w.heap.size,0,none⟩:Addr).add 0)=⟨w.heap.size,0,none⟩:=by unfold Addr.add;split<;>simp_all
   rw[this,World.cell?_alloc_at _ _ _ _ rfl];rfl
  ·simp at hu
 ·intro u hu;simp at hu;subst hu;rfl
 ·intro v' w' h1 h2 _
  exact h v' w' (OwnB.snoc h1 hown.2 hy) (((Below.refl base w).alloc hB _).grown h2 (by simp;omega) (jap hown.1))
def jef(l:List Nat)(w:World)(e:Ending)(w':World):Prop:=
 ∃A c,e= .returned (.slice A l.length c)∧OwnB w' w.heap.size (.slice A l.length c) l∧Below w.heap.size w w'
theorem jef.mk{l:List Nat}{w w':World}{v:Value}(h:OwnB w' w.heap.size v l)(hb:Below w.heap.size w w'):jef l w (.returned v) w':=by
 obtain⟨A,c,rfl,_⟩:=h.sl;exact⟨A,c,rfl,h,hb⟩
theorem jak{w:World}{ops:Array Oper}{rest:List Oper}{op:Oper}{a:Act}{Q:Exit→Act→World→Prop}(hgd:op.guard=none)(s x:Operand)
  (ho:op.op= .call {callee:= .builtin .append,args:=#[s,x],argTypes:=#[58,58]})
  (base:Nat) (v:Value) (l1:List Nat) (hs:a.eval s=v) (hown:OwnB w base v l1) (m c:Nat) (A:Option Addr) (l:List Nat) (hx:a.eval x= .slice A m c) (hr:Sl w A m c l)
  (hlen:l1.length+l.length≤140737488355328) (hbase:base≤w.heap.size)
  (h:∀v' w',OwnB w' base v' (l1++l)→Below base w w'→wpList Tryz.prog ops Q rest (a.put op.dst v') w'):wpList Tryz.prog ops Q (op::rest) a w:=by
 obtain⟨i0,hi0,hz0,hz1,hz2⟩:=info_parts jbu;refine jam hgd s x 58 ho base 5 i0 _ Tryz.underlying58 hi0 hz0 hz1 hz2 rfl v l1.length (vals l1) hs hown.1 w.heap.size m c A l hx hr.rd hr.len hr.nil (by rw[hr.len];exact hlen) hbase ?_;intro v' w' h1 h2;refine h v' w' ⟨?_,?_⟩ ((Below.refl base w).grown h2 hbase (jap hown.1))
 ·rw[jbb,List.length_append,←hr.len];exact h1
 ·intro y hy
  rcases List.mem_append.1 hy with hy|hy
  ·exact hown.2 y hy
  ·exact hr.rd.1 y hy
theorem sl_two(w:World)(x y:Nat)(hx:x<256)(hy:y<256)(X Y:Int)(e1:X=(x:Int))(e2:Y=(y:Int)):Sl (w.alloc (.cells #[.int .u8 X,.int .u8 Y] 5)) (some ⟨w.heap.size,0,none⟩) 2 2 [x,y]:=by
 subst e1 e2;exact⟨Rd.made [x,y] rfl (by intro z hz;simp at hz;omega),rfl,Nat.le_refl _,by unfold maxLen;omega,fun h=>by cases h⟩
theorem jcz(n c:Nat)(A:Option Addr)(l:List Nat)(w:World)(h:Sl w A n c l)(hl:n≤1000000000):
  Calls Tryz.prog 111 #[.slice A n c] w (jef l w):=by
 have H:=zh h;have hnil:=fun(w:World) (a:Option Addr) (n c:Nat)=>Lib.run_eql_slice_nil (P:=Tryz.prog) w 58 5 a n c 0 0 Tryz.underlying58;rcases A with _|ad
 ·obtain rfl:=h.nil rfl
  have hn:n=0:=by have:=h.cap;omega
  subst hn;have hl0:l=[]:=by have:=h.len;exact List.eq_nil_of_length_eq_zero this.symm
  subst hl0;clear h;go_enter Tryz.func111,Tryz.ntmps111;go_wp2_with fail;go_ret;exact jef.mk (OwnB.none_ _ _) (Below.refl _ _)
 ·have O1:Hid (OwnB (w.alloc (.cells #[] 5)) w.heap.size (.slice (some ⟨w.heap.size,0,none⟩) 0 0) []):=⟨World.ownsRow_made w #[] 0 (Nat.le_refl _) (Nat.zero_le _) rfl,by simp⟩
  have HB:=zh ((Below.refl w.heap.size w).alloc (Nat.le_refl _) (.cells #[] 5));have HL:Hid (([]:List Nat).length+l.length≤140737488355328):=by show _≤_;rw[←h.len];simp;omega
  have hs0:(w.alloc (.cells #[] 5)).heap.size=w.heap.size+1:=by simp
  have HS:=zh hs0;clear h hs0 hl;go_enter Tryz.func111,Tryz.ntmps111;go_wp2_with(at_builtin;refine jak rfl (.tmp 5) (.tmp 6) rfl w.heap.size _ [] rfl O1.out n c _ l rfl (H.out.on HB.out) HL.out (by rw[HS.out];omega) ?_;intro v2 w2 hown2 hb2;have O2:=zh hown2;have B2:=zh hb2;clear hown2 hb2);go_ret;exact jef.mk O2.out (HB.out.trans B2.out)
def OwnC(w:World)(v:Value)(l:List Nat):Prop:=
 (∀x∈l,x<256)∧((v= .slice none 0 0∧l=[])∨
  ∃g cap cur,v= .slice (some ⟨g,0,none⟩) l.length cap∧w.heap[g]? =some (.cells cur 5 (0,0))∧l.length≤cap∧cap≤maxLen∧cap≤cur.size∧cur.toList.take l.length=vals l)
theorem OwnC.none_(w:World):OwnC w (.slice none 0 0) []:=⟨by simp,.inl ⟨rfl,rfl⟩⟩
theorem OwnC.of_own{w:World}{B:Nat}{v:Value}{l:List Nat}(h:OwnB w B v l):OwnC w v l:=by
 refine⟨h.2,?_⟩;rcases h.1.2 with⟨h1,h2⟩|⟨g,cap,cur,h1,_,h2,h3,h4,h5,h6⟩
 ·exact .inl ⟨h1,List.eq_nil_of_length_eq_zero h2⟩
 ·rw[Nat.mul_one]at h5 h6
  exact .inr ⟨g,cap,cur,h1,h2,h3,h4,by omega,h6⟩
theorem OwnC.lt{w:World}{v:Value}{l:List Nat}(h:OwnC w v l):∀k,v.ownBlock=some k→k<w.heap.size:=by
 intro k hk;rcases h.2 with⟨rfl,_⟩|⟨g,cap,cur,rfl,h2,_⟩
 ·cases hk
 ·injection hk with hk;subst hk;exact(Array.getElem?_eq_some_iff.1 h2).1
theorem OwnC.keep{w w':World}{v:Value}{l:List Nat}(h:OwnC w v l)(hk:∀k,v.ownBlock=some k→w'.heap[k]? =w.heap[k]?):OwnC w' v l:=by
 refine⟨h.1,?_⟩;rcases h.2 with h2|⟨g,cap,cur,rfl,h2,h3⟩
 ·exact .inl h2
 ·exact .inr ⟨g,cap,cur,rfl,(hk g rfl).trans h2,h3⟩
theorem OwnC.sl{w:World}{v:Value}{l:List Nat}(h:OwnC w v l):∃A c,v= .slice A l.length c∧Sl w A l.length c l:=by
 rcases h.2 with⟨rfl,rfl⟩|⟨g,cap,cur,rfl,h2,h3,h4,h5,h6⟩
 ·exact⟨none,0,rfl,Sl.none_ w⟩
 ·refine⟨_,cap,rfl,⟨⟨h.1,fun h0=>⟨g,0,rfl,(Array.getElem?_eq_some_iff.1 h2).1,fun j hj=> ?_⟩⟩,rfl,h3,h4,fun h=>by cases h⟩⟩
  rw[cell_of_row w g (0+j) _ _ _ h2,Nat.zero_add,←jf0 hj,←h6,List.getElem?_take,if_pos hj];simp
theorem OwnC.cut{w:World}{A:Option Addr}{n c:Nat}{l:List Nat}(h:OwnC w (.slice A n c) l)(k:Nat)(hk:k≤n):OwnC w (.slice A k k) (l.take k):=by
 refine⟨fun x hx=>h.1 x (List.mem_of_mem_take hx),?_⟩;rcases h.2 with⟨h1,rfl⟩|⟨g,cap,cur,h1,h2,h3,h4,h5,h6⟩
 ·injection h1 with h1 h2 h3
  obtain rfl:k=0:=by omega
  exact .inl ⟨by rw[h1],rfl⟩
 ·injection h1 with h1 h7 h8
  subst h1 h7 h8;have e:(l.take k).length=k:=by rw[List.length_take];omega
  refine .inr ⟨g,k,cur,by rw[e],h2,by omega,by omega,by omega,?_⟩;rw[e];have:=congrArg (List.take k) h6;rw[List.take_take,Nat.min_eq_left hk]at this;rw[this];simp[vals,List.map_take]
theorem jeu{w:World}{ops:Array Oper}{rest:List Oper}{op:Oper}{a:Act}{Q:Exit→Act→World→Prop}(hgd:op.guard=none)(s x:Operand)
  (ho:op.op= .call {callee:= .builtin .append,args:=#[s,x],argTypes:=#[58,58]})
  (v:Value) (l1:List Nat) (hs:a.eval s=v) (hown:OwnC w v l1) (m c:Nat) (A:Option Addr) (l:List Nat) (hx:a.eval x= .slice A m c) (hr:Sl w A m c l)
  (hlen:l1.length+l.length≤140737488355328)
  (h:∀v' w',OwnC w' v' (l1++l)→(v'.ownBlock=v.ownBlock∨∃k,v'.ownBlock=some k∧w.heap.size≤k)→w.grownBy w' v.ownBlock→wpList Tryz.prog ops Q rest (a.put op.dst v') w'):wpList Tryz.prog ops Q (op::rest) a w:=by
 obtain⟨i0,hi0,hz0,hz1,hz2⟩:=info_parts jbu;have hby:∀y∈l1++l,y<256:=by
  intro y hy;rcases List.mem_append.1 hy with hy|hy
  ·exact hown.1 y hy
  ·exact hr.rd.1 y hy
 rcases hown.2 with⟨rfl,rfl⟩|⟨g,cap,cur,rfl,h2,h3,h4,h5,h6⟩
 ·refine jak hgd s x ho w.heap.size _ [] hs (OwnB.none_ _ _) m c A l hx hr hlen (Nat.le_refl _) ?_
  intro v' w' h1 h2;refine h v' w' (OwnC.of_own h1) ?_ (jbf _ h2);rcases h1.1.2 with⟨rfl,_⟩|⟨g,cap,cur,rfl,hg,_⟩
  ·exact .inl rfl
  ·exact .inr ⟨g,rfl,hg⟩
 ·obtain rfl:=hr.len
  rcases A with _|ad
  ·obtain rfl:=hr.nil rfl
   have hl:l=[]:=List.eq_nil_of_length_eq_zero (by have:=hr.cap;omega);subst hl;refine wpList_plain hgd fun K hK=> ?_;have hrun:(Builtin.append_ #[58,58] op.type #[.slice (some ⟨g,0,none⟩) l1.length cap,.slice none 0 0]).run Tryz.prog w= .ok (.slice (some ⟨g,0,none⟩) l1.length cap) w:=by
    simp[Builtin.append_,run_underlying Tryz.underlying58,sizeOf,typeInfo,hi0,Builtin.lenOf,Builtin.firstCells,h3,storeCells]
   unfold Oper.wp;simp only[List.length_nil]at hx;simp[execOp,ho,resolve,invoke,builtin,hs,hx,hrun,Result.andThen];exact hK _ _ (h _ w (by rw[List.append_nil];exact hown) (.inl rfl) (World.grownBy.refl _ _))
  ·have hcells:∀j u,(vals l)[j]? =some u→w.cell? (ad.add j)=some u:=by
    rcases l with _|⟨y,l⟩
    ·intro j u hu;simp[vals]at hu
    ·obtain⟨b,o,h0,_⟩:=hr.rd.2 (by simp)
     injection h0 with h0
     subst h0;exact hr.rd.cells
   by_cases hroom:l1.length+l.length≤cap
   ·refine wpList_plain hgd fun K hK=> ?_
    have hrun:=run_append_room (P:=Tryz.prog) w 58 op.type 5 i0 Tryz.underlying58 hi0 g l1.length cap cur h2 ad l.length c (vals l) (by rw[jav,hz1,Nat.mul_one]) hcells (jlb l) hroom (by rw[hz1,jav];omega);unfold Oper.wp;simp[execOp,ho,resolve,invoke,builtin,hs,hx,hrun,Result.andThen];refine hK _ _ (h _ _ ⟨hby,.inr ⟨g,cap,_,by rw[List.length_append],setRow_heap w g cur _ _ _ h2,by rw[List.length_append];omega,h4,?_,?_⟩⟩ (.inl rfl) ⟨rfl,rfl,rfl,by simp[World.setRow],fun k _ hk=>setRow_other w g k _ (fun e=>hk (by simp[e,Value.ownBlock]))⟩)
    ·simp only[List.size_toArray,List.length_append,List.length_take,List.length_drop,Array.length_toList,hz1,Nat.mul_one,jav]
     omega
    ·rw[hz1,Nat.mul_one,h6,List.length_append,show l1.length+l.length=(vals l1++vals l).length from by rw[List.length_append,jav,jav],jbb]
     show List.take _ (vals l1++(vals l++_))=_;rw[←List.append_assoc];exact List.take_left
   ·refine wpList_plain hgd fun K hK=> ?_
    obtain⟨v',w',hrun,r1,r2⟩:=run_append_arg_grows (P:=Tryz.prog) w 58 op.type 5 i0 _ 1 1 Tryz.underlying58 hi0 hz0 hz1 hz2 rfl (by omega) ⟨g,0,none⟩ l1.length cap (vals l1) (by rw[jav];omega)
     (fun j u hj=>by
      have hjl:j<l1.length:=by
       rcases Nat.lt_or_ge j l1.length with h|h
       ·exact h
       ·rw[List.getElem?_eq_none (by rw[jav];omega)]at hj;cases hj
      rw[Addr.add_lit,cell_of_row w g (0+j) _ _ _ h2,Nat.zero_add,←hj,←h6,List.getElem?_take,if_pos hjl];simp)
     ad l.length c (vals l) (by rw[jav];omega) hcells (by omega) (by unfold maxLen;omega) (by omega)
    unfold Oper.wp;simp[execOp,ho,resolve,invoke,builtin,hs,hx,hrun,Result.andThen];have r3:OwnB w' w.heap.size v' (l1++l):=⟨by rw[jbb,List.length_append];exact r1,hby⟩;refine hK _ _ (h v' w' (OwnC.of_own r3) ?_ ⟨r2.os,r2.tape,r2.output,r2.size,fun k hk _=>r2.block k hk (by simp)⟩);rcases r1.2 with⟨rfl,h0⟩|⟨g',cap',cur',rfl,hg,_⟩
    ·omega
    ·exact .inr ⟨g',rfl,hg⟩
end Go.Proofs.YtabandbigckfkaaGreatDoor
