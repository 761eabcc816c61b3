import Derived.Test.YtabandbigckfkaaGreatDoorQa25
set_option maxHeartbeats 6400000
set_option maxRecDepth 100000
set_option linter.unusedSimpArgs false
set_option linter.unusedVariables false
namespace Go.Proofs.YtabandbigckfkaaGreatDoor
open Go.RowKit
namespace Bk
theorem dig_text3{vs:List Vn}{n:Int}{t:ByteArray}(h:dig vs n=some t):text vs n=t:=by
 unfold text;rw[h];rfl
def dif(a b:List Vn)(n:Int):Bool:= !((text a n).toList==(text b n).toList)
theorem dif_iff{a b:List Vn}{n:Int}:dif a b n=true↔text a n≠text b n:=by
 unfold dif;simp only[Bool.not_eq_true',beq_eq_false_iff_ne,ne_eq];exact not_congr ⟨fun h=>jcg.1 (beq_iff_eq.2 h),fun h=>by rw[h]⟩
theorem vs_same{a b:List Vn}(ha:a.Pairwise fun x y=>x.n<y.n)(hb:b.Pairwise fun x y=>x.n<y.n):a=b↔(a.map (·.n)=b.map (·.n)∧∀n∈a.map (·.n),text a n=text b n):=by
 constructor
 ·rintro rfl
  exact⟨rfl,fun _ _=>rfl⟩
 ·rintro⟨h1,h2⟩
  have hl:a.length=b.length:=by have:=congrArg List.length h1;simpa using this
  refine List.ext_getElem? fun k=> ?_;rcases Nat.lt_or_ge k a.length with hk|hk
  ·have hx:a[k]? =some a[k]:=List.getElem?_eq_getElem hk
   have hy:b[k]? =some (b[k]'(by omega)):=List.getElem?_eq_getElem _;have e:=congrArg (·[k]?) h1;simp only[List.getElem?_map,hx,hy,Option.map_some,Option.some.injEq]at e;have h3:=h2 _ (List.mem_map_of_mem (f:=(·.n)) (List.getElem_mem hk));have d1:=Bd.dig_mem ha (List.getElem_mem hk);have d2:=Bd.dig_mem hb (List.getElem_mem (show k<b.length by omega));rw[dig_text3 d1,e,dig_text3 d2]at h3;rw[hx,hy];generalize a[k]=x at*;generalize b[k]=y at*
   cases x;cases y
   simp only at e h3;rw[e,h3]
  ·rw[List.getElem?_eq_none hk,List.getElem?_eq_none (by omega)]
end Bk
theorem jnc(g1 g2:Nat)(qa qb:Nat)(s t:Bk.St)(x:Int)(W:World)(h1:W.heap[g1]? =some (.cells #[.pointer (some ⟨qa,0,none⟩)] 63))(h2:W.heap[g2]? =some (.cells #[.pointer (some ⟨qb,0,none⟩)] 63))
  (ca:∀X,Below W.heap.size W X→Calls Tryz.prog 87 #[.pointer (some ⟨qa,0,none⟩),.int .i64 x] X (BRet (.tuple #[.string (Bk.text s.vs x),.bool (Bk.has s.vs x)]) X)) (cb:∀X,Below W.heap.size W X→Calls Tryz.prog 87 #[.pointer (some ⟨qb,0,none⟩),.int .i64 x] X (BRet (.tuple #[.string (Bk.text t.vs x),.bool (Bk.has t.vs x)]) X)):
  Calls Tryz.prog 116 #[.int .i64 x,.pointer (some ⟨g1,0,none⟩),.pointer (some ⟨g2,0,none⟩)] W (fun e w'=>e= .returned (.bool (Bk.dif s.vs t.vs x))∧Below W.heap.size W w'):=by
 have CA:=zh ca;have CB:=zh cb;have P2:=zh h2;have e1:W.cell? ⟨g1,0,none⟩=some (.pointer (some ⟨qa,0,none⟩)):=by rw[cell_of_row _ g1 0 _ _ _ h1];rfl
 have l1:=(Array.getElem?_eq_some_iff.1 h1).1;clear ca cb h1 h2;generalize Bk.has s.vs x=ha at*;generalize Bk.has t.vs x=hb at*;unfold Bk.dif;obtain⟨ta,hta⟩:∃ta,ta=Bk.text s.vs x:=⟨_,rfl⟩;obtain⟨tb,htb⟩:∃tb,tb=Bk.text t.vs x:=⟨_,rfl⟩;rw[←hta]at CA⊢;rw[←htb]at CB⊢;clear hta htb;go_enter Tryz.func116,Tryz.ntmps116;go_upto_region 2 with(go_at_call 87;(with_reducible refine(CA.out _ (Below.refl _ _)).mono ?_);rintro e w1 ⟨rfl,hb1⟩;have B1:=zh hb1;clear hb1)
 clear e1 l1;have e2:w1.cell? ⟨g2,0,none⟩=some (.pointer (some ⟨qb,0,none⟩)):=by rw[cell_of_row _ g2 0 _ _ _ (jaf P2.out B1.out)];rfl
 have l2:=(Array.getElem?_eq_some_iff.1 (jaf P2.out B1.out)).1;go_upto_region 3 with(go_at_call 87;(with_reducible refine(CB.out _ B1.out).mono ?_);rintro e w2 ⟨rfl,hb2⟩;have B2:=zh (B1.out.trans (hb2.mono B1.out.size));clear hb2)
 clear e2 l2;go_wp2_with fail;go_ret;exact⟨rfl,B2.out⟩
def FnI(g1 g2:Nat)(p:Int→Bool)(w0:World)(l:List Int):Prop:=
 ∀W x,x∈l→Below w0.heap.size w0 W→Calls Tryz.prog 116 #[.int .i64 x,.pointer (some ⟨g1,0,none⟩),.pointer (some ⟨g2,0,none⟩)] W (fun e w'=>e= .returned (.bool (p x))∧Below W.heap.size W w')
theorem jj9(g1 g2:Nat)(p:Int→Bool)(l:List Int)(n c:Nat)(A:Option Addr)(w:World)(h:SlI w A n c l)(hp:FnI g1 g2 p w l):
  Calls Tryz.prog 185 #[.slice A n c,.func (.func 116) #[] #[.pointer (some ⟨g1,0,none⟩),.pointer (some ⟨g2,0,none⟩)]] w (fun e w'=>∃i:Int,e= .returned (.int .i64 i)∧(0≤i↔l.any p=true)∧Below w.heap.size w w'):=by
 have HN:=zh h.len;have hmx:=h.max;have hcp:=h.cap;unfold maxLen at hmx;have HA:=zh h;have HP:=zh hp;clear h hp;go_enter Tryz.func185,Tryz.ntmps185;go_wp2_with fail;go_loopw [5,8] (fun _ i wr=>∃j:Nat,j≤n∧i= .int .i64 j∧(∀x∈l.take j,p x=false)∧Below w.heap.size w wr) (fun _ i _=>n -(intOf i).toNat)
 case atStart=>exact⟨0,by omega,rfl,by simp,Below.refl _ _⟩
 case round=>
  obtain⟨j,hj,rfl,hok,hbr⟩:=hrel;have OK:=zh hok;have B:=zh hbr;clear hok hbr;by_cases hlt:j<n
  ·have hjl:j<l.length:=by have:=HN.out;omega
   obtain⟨b1,o1,rfl,_,_⟩:=HA.out.rd (by omega);obtain⟨b',o',e',hbb,hcc⟩:=(HA.out.on B.out).rd (by omega);injection e' with e';injection e' with x1 x2;subst x1 x2
   have f1:=hcc j hjl;have EA:Hid (l[j]? =some (l.getD j 0)):=by
    show _=_;rw[List.getD_eq_getElem?_getD,List.getElem?_eq_getElem hjl];rfl
   generalize l.getD j 0=x at*;have HM:Hid (x∈l):=List.mem_of_getElem? EA.out;have CC:=zh (HP.out _ x HM.out B.out);have i1:(0:Int)≤(j:Int):=by omega
   have i2:(j:Int)<(n:Int):=by omega
   clear hcc
   cases hq:p x with
   |true=>
    rw[hq]at CC;have HQ:=zh hq;clear hq;go_wp2_with(go_at_call 116;(with_reducible refine CC.out.mono ?_);rintro e w1 ⟨rfl,hb1⟩;have B1:=zh (B.out.trans (hb1.mono B.out.size));clear hb1);go_ret;refine⟨_,rfl,?_,B1.out⟩;rw[List.any_eq_true];exact⟨fun _=>⟨x,HM.out,HQ.out⟩,fun _=>by omega⟩
   |false=>
    rw[hq]at CC;have HQ:=zh hq;clear hq;go_wp2_with(go_at_call 116;(with_reducible refine CC.out.mono ?_);rintro e w1 ⟨rfl,hb1⟩;have B1:=zh (B.out.trans (hb1.mono B.out.size));clear hb1);refine⟨⟨j+1,by omega,by go_num,fun o ho=> ?_,B1.out⟩,by simp[intOf];omega⟩;rw[List.take_add_one,EA.out]at ho;rcases List.mem_append.1 ho with ho|ho
    ·exact OK.out o ho
    ·simp at ho;subst ho;exact HQ.out
  ·have E:Hid (l.take j=l):=List.take_of_length_le (by have:=HN.out;omega)
   rw[E.out]at OK;go_wp2_with fail;go_ret;refine⟨_,rfl,?_,B.out⟩;rw[List.any_eq_true];refine⟨fun h=>by omega,fun⟨o,ho,hp⟩=> ?_⟩;rw[OK.out o ho]at hp
   cases hp
theorem jnd(g1 g2:Nat)(p:Int→Bool)(l:List Int)(n c:Nat)(A:Option Addr)(w:World)(h:SlI w A n c l)(hp:FnI g1 g2 p w l):
  Calls Tryz.prog 118 #[.slice A n c,.func (.func 116) #[] #[.pointer (some ⟨g1,0,none⟩),.pointer (some ⟨g2,0,none⟩)]] w (fun e w'=>e= .returned (.bool (l.any p))∧Below w.heap.size w w'):=by
 have C:=zh (jj9 g1 g2 p l n c A w h hp);clear h hp;generalize l.any p=b at C⊢;go_enter Tryz.func118,Tryz.ntmps118;go_wp2_with(go_at_call 185;(with_reducible refine C.out.mono ?_);rintro e w1 ⟨i,rfl,hi,hb1⟩;have B1:=zh hb1;have HI:=zh hi;clear hb1 hi);go_ret;refine⟨?_,B1.out⟩
 cases b with
 |true=>
  have:0≤i:=HI.out.2 rfl;simp[this]
 |false=>
  have:¬0≤i:=fun h=>by have:=HI.out.1 h;cases this
  simp[this]
theorem jne{w0 w1 W:World}{F G:Nat→Prop}{qa qb:Nat}{s t:Bk.St}(ha:BP w0 F qa s W)(hb:BP w1 G qb t W)(ht:BT W):Calls Tryz.prog 68 #[.pointer (some ⟨qa,0,none⟩),.pointer (some ⟨qb,0,none⟩)] W (jb2 (s.vs=t.vs) W):=by
 have OKA:=zh (joo ha);have OKB:=zh (joo hb);have HVS:=zh (Bk.vs_same OKA.out.rise OKB.out.rise);have x1:Below W.heap.size W (W.alloc (.cells #[.pointer (some ⟨qa,0,none⟩)] 63)):=(Below.refl _ _).alloc (Nat.le_refl _) _;have p1:=heap_alloc_new W (.cells #[.pointer (some ⟨qa,0,none⟩)] 63);obtain⟨g1,hg1⟩:∃g,g=W.heap.size:=⟨_,rfl⟩;have hs1:(W.alloc (.cells #[.pointer (some ⟨qa,0,none⟩)] 63)).heap.size=g1+1:=by simp[hg1]
 obtain⟨W1,hW1⟩:∃W1,W1=W.alloc (.cells #[.pointer (some ⟨qa,0,none⟩)] 63):=⟨_,rfl⟩;rw[←hW1]at x1 p1 hs1;rw[←hg1]at p1;have x2:Below W1.heap.size W1 (W1.alloc (.cells #[.pointer (some ⟨qb,0,none⟩)] 63)):=(Below.refl _ _).alloc (Nat.le_refl _) _;have p2:=heap_alloc_new W1 (.cells #[.pointer (some ⟨qb,0,none⟩)] 63);have p1b:=jaf p1 x2;rw[hs1]at p2;have B2:=zh (x1.trans (x2.mono x1.size));obtain⟨W2,hW2⟩:∃W2,W2=W1.alloc (.cells #[.pointer (some ⟨qb,0,none⟩)] 63):=⟨_,rfl⟩;rw[←hW2]at B2 p1b p2;have P1:=zh p1b;have P2:=zh p2;have EW:Hid ((W.alloc (.cells #[.pointer (some ⟨qa,0,none⟩)] 63)).alloc (.cells #[.pointer (some ⟨qb,0,none⟩)] 63)=W2):=by show _=_;rw[hW2,hW1]
 have DA:=zh (jby ha B2.out);have DB:=zh (jby hb B2.out);have TT:=zh (ht.on B2.out);have EG:=zh hg1;clear ha hb ht x1 x2 p1 p1b p2 hs1 hW1 hW2 hg1;have e1:W2.cell? ⟨g1,0,none⟩=some (.pointer (some ⟨qa,0,none⟩)):=by rw[cell_of_row _ g1 0 _ _ _ P1.out];rfl
 have l1:=(Array.getElem?_eq_some_iff.1 P1.out).1;go_enter Tryz.func68,Tryz.ntmps68;go_upto_region 1 with fail
 rw[EW.out,←EG.out];clear EW EG;have LA:Hid ((s.vs.map (·.n)).length=s.vs.length):=List.length_map _;have LB:Hid ((t.vs.map (·.n)).length=t.vs.length):=List.length_map _;have la:s.vs.length≤64:=OKA.out.vl;have lb:t.vs.length≤64:=OKB.out.vl;go_upto_region 3 with(go_at_call 89;(with_reducible refine(jf4 DA.out).mono ?_);rintro e w3 ⟨A5,c5,rfl,h1,h2,h3⟩;rw[LA.out]at h1⊢;have VA:=zh (jg9 h1);have B3:=zh h2;have DB3:=zh (jby DB.out h2);clear h1 h2 h3)
 clear e1 l1;have e2:w3.cell? ⟨g1+1,0,none⟩=some (.pointer (some ⟨qb,0,none⟩)):=by rw[cell_of_row _ (g1+1) 0 _ _ _ (jaf P2.out B3.out)];rfl
 have l2:=(Array.getElem?_eq_some_iff.1 (jaf P2.out B3.out)).1;have HVS2:=zh (show(∀n∈s.vs.map (·.n),Bk.text s.vs n=Bk.text t.vs n)↔(s.vs.map (·.n)).any (Bk.dif s.vs t.vs)=false from by
  rw[Bool.eq_false_iff,ne_eq,List.any_eq_true];constructor
  ·rintro h ⟨n,hn,hd⟩
   exact Bk.dif_iff.1 hd (h n hn)
  ·intro h n hn
   exact Decidable.byContradiction fun hne=>h ⟨n,hn,Bk.dif_iff.2 hne⟩)
 have BN:Hid (∀n∈s.vs.map (·.n),jla n):=fun n hn=>by
  obtain⟨v,hv,rfl⟩:=List.mem_map.1 hn;exact⟨by have:=OKA.out.vs v hv;omega,by have:=OKA.out.vs v hv;omega⟩
 by_cases hv:s.vs.map (·.n)=t.vs.map (·.n)
 ·have HV:=zh hv
  clear hv;have FI:Hid (∀X,Below W2.heap.size W2 X→FnI g1 (g1+1) (Bk.dif s.vs t.vs) X (s.vs.map (·.n))):=fun X hX Y n hn hY=>by
   have hb:=hX.trans (hY.mono hX.size);exact jnc g1 (g1+1) qa qb s t n Y (jaf P1.out hb) (jaf P2.out hb) (fun Z hZ=>je5 (jby DA.out (hb.trans (hZ.mono hb.size))) (TT.out.on (hb.trans (hZ.mono hb.size))) n (BN.out n hn)) (fun Z hZ=>je5 (jby DB.out (hb.trans (hZ.mono hb.size))) (TT.out.on (hb.trans (hZ.mono hb.size))) n (BN.out n hn))
  have AN:Hid ((s.vs.map (·.n)).any (Bk.dif s.vs t.vs)=false↔s.vs=t.vs):=by
   show _↔_;rw[←HVS2.out];exact⟨fun h=>HVS.out.2 ⟨HV.out,h⟩,fun h=>(HVS.out.1 h).2⟩
  go_wp2_with(first
   |(go_at_call 89;(with_reducible refine(jf4 DB3.out).mono ?_);rintro e w4 ⟨A6,c6,rfl,h1,h2,h3⟩;rw[LB.out]at h1⊢;have VB:=zh (jg9 h1);have VA4:=zh (VA.out.on h2);have B4:=zh (B3.out.trans (h2.mono B3.out.size));clear h1 h2 h3 e2 l2)
   |(go_at_call 117;(with_reducible refine(jhc A5 A6 _ _ c5 c6 _ _ _ VA4.out VB.out (by omega) (by omega)).mono ?_);rintro e w5 ⟨⟨z,rfl,hz⟩,hb⟩;obtain rfl:z=true:=hz.2 HV.out;have VA5:=zh (VA4.out.on hb);have B5:=zh (B4.out.trans (hb.mono B4.out.size));clear hz hb)
   |(go_at_call 118;(with_reducible refine(jnd g1 (g1+1) _ _ _ c5 A5 _ VA5.out (FI.out _ B5.out)).mono ?_);rintro e w6 ⟨rfl,hb⟩;have B6:=zh (B2.out.trans ((B5.out.trans (hb.mono B5.out.size)).mono B2.out.size));clear hb))
  go_ret;refine⟨⟨_,rfl,?_⟩,B6.out⟩;rw[←AN.out];simp
 ·have HV:=zh hv
  clear hv
  go_wp2_with(first
   |(go_at_call 89;(with_reducible refine(jf4 DB3.out).mono ?_);rintro e w4 ⟨A6,c6,rfl,h1,h2,h3⟩;rw[LB.out]at h1⊢;have VB:=zh (jg9 h1);have VA4:=zh (VA.out.on h2);have B4:=zh (B3.out.trans (h2.mono B3.out.size));clear h1 h2 h3 e2 l2)
   |(go_at_call 117;(with_reducible refine(jhc A5 A6 _ _ c5 c6 _ _ _ VA4.out VB.out (by omega) (by omega)).mono ?_);rintro e w5 ⟨⟨z,rfl,hz⟩,hb⟩;obtain rfl:z=false:=Bool.eq_false_iff.2 (fun h=>HV.out (hz.1 h));have B5:=zh (B2.out.trans ((B4.out.trans (hb.mono B4.out.size)).mono B2.out.size));clear hz hb))
  go_ret;exact⟨⟨_,rfl,by simp only[Bool.false_eq_true,false_iff];exact fun h=>HV.out (HVS.out.1 h).1⟩,B5.out⟩
theorem je7(q:Nat)(W:World):Calls Tryz.prog 66 #[.pointer (some ⟨q,0,none⟩)] W (BRet (.pointer (some ⟨q,0,none⟩)) W):=by
 go_enter Tryz.func66,Tryz.ntmps66;go_wp2_with fail;go_ret;exact⟨rfl,Below.refl _ _⟩
theorem us_eq(u t:Nat→Bk.Un)(W:World):(binOp .eql 38 (.agg (Bk.uC u)) (.agg (Bk.uC t))).run Tryz.prog W= .ok (.bool (Bk.usSame u t)) W:=by
 have h:=jk3 u t 9996 W;rw[run_eql_struct,h];rfl
theorem jaz{a:Act}{oi:Oper}(ty:TypeId)(x:Operand)(ho:oi.op= .load ty x)(b o:Nat)(cs:Array Value)(d:TypeDesc)(hx:a.eval x= .pointer (some ⟨b,o,none⟩)){W:World}(h:W.rangeAt b o cs.toList)(hu:Tryz.prog.underlying ty=some d)(hd:d.isRow=true)(hi:(Tryz.prog.info? ty).map (·.size)=some cs.toList.length):(execOp a.eval oi).run Tryz.prog W= .ok (.value (.agg cs)) W:=by
 have:=run_loadVar_mid (P:=Tryz.prog) W b o ty cs.toList d h hu hd hi;rw[Array.toArray_toList]at this;unfold execOp;simp only[ho,hx,Instr.loadAt,Instr.sureAddr,Sem.run_bind,Sem.run_pure,Result.andThen_ok,this]
theorem jfo{w:World}{q:Nat}{s:Bk.St}{ru:Nat→Bk.Un}{rv:Int}{lm km H:Value}(h:BdAt w q s ru rv lm km H):w.rangeAt q 26 (Bk.uC ru).toList:=by
 intro j v hv;have hj:j<48:=(List.getElem?_eq_some_iff.1 hv).1;rw[cell_of_row w q _ _ _ _ h.row];rcases j with _|_|_|_|_|_|_|_|_|_|_|_|_|_|_|_|_|_|_|_|_|_|_|_|_|_|_|_|_|_|_|_|_|_|_|_|_|_|_|_|_|_|_|_|_|_|_|_|j
 all_goals first|exact hv|omega
theorem bd_hist{w:World}{q:Nat}{s:Bk.St}{ru:Nat→Bk.Un}{rv:Int}{lm km H:Value}(h:BdAt w q s ru rv lm km H):w.cell? ⟨q,74,none⟩=some H:=by
 rw[cell_of_row w q _ _ _ _ h.row];rfl
structure CmpB(W:World)(q:Nat)(s:Bk.St)(ru:Nat→Bk.Un)(A:Option Addr)(c:Nat):Prop where
 vw:W.rangeAt q 4 (Bk.viewC s).toList
 us:W.rangeAt q 26 (Bk.uC ru).toList
 hc:W.cell? ⟨q,74,none⟩=some (.slice A s.h.length c)
 hs:SlF Bk.rcC W A s.h.length c s.h
 raw:Bd.Raw ru s.us
 lt:q<W.heap.size
theorem jnf{w0 W:World}{F:Nat→Prop}{q:Nat}{s:Bk.St}(h:BP w0 F q s W):∃ru A c,CmpB W q s ru A c:=by
 obtain⟨X,⟨ru,rv,lo,ko,H,K,h1,_⟩,_⟩:=h;obtain⟨A,c,rfl⟩:=h1.h.form;exact⟨ru,A,c,jc4 h1.at_,jfo h1.at_,bd_hist h1.at_,h1.h.sl,h1.raw,h1.at_.lt⟩
theorem CmpB.on{W W':World}{q:Nat}{s:Bk.St}{ru:Nat→Bk.Un}{A:Option Addr}{c:Nat}(h:CmpB W q s ru A c)(hb:Below W.heap.size W W'):CmpB W' q s ru A c:=
 ⟨jbs h.vw (hb.block q h.lt),jbs h.us (hb.block q h.lt),(hb.cell (p:=⟨q,74,none⟩) h.lt).trans h.hc,h.hs.on hb,h.raw,Nat.lt_of_lt_of_le h.lt hb.size⟩
theorem jka{s t:Bk.St}:Bk.Like s t↔(Bk.vwSame s t=true∧(∀i,i<16→s.us i=t.us i)∧s.h=t.h∧s.vs=t.vs):=by
 rw[Bk.vwSame_iff];constructor
 ·intro h
  exact⟨⟨h.ep,h.who,h.till,h.stable,h.from_,h.ph,h.step,h.since,h.begun,h.seq,h.sp⟩,h.us,h.h,h.vs⟩
 ·rintro⟨⟨h1,h2,h3,h4,h5,h6,h7,h8,h9,h10,h11⟩,h12,h13,h14⟩
  exact⟨h1,h2,h3,h4,h5,h6,h7,h8,h9,h10,h11,h12,h14,h13⟩
theorem jng{w0 w1 W:World}{F G:Nat→Prop}{qa qb:Nat}{s t:Bk.St}(ha:BP w0 F qa s W)(hb:BP w1 G qb t W)(ht:BT W):Calls Tryz.prog 26 #[.pointer (some ⟨qa,0,none⟩),.pointer (some ⟨qb,0,none⟩)] W (jb2 (Bk.Like s t) W):=by
 obtain⟨ra,AA,ca,hca⟩:=jnf ha;obtain⟨rb,AB,cb,hcb⟩:=jnf hb;have KA:=zh (fun X (h:Below W.heap.size W X)=>hca.on h);have KB:=zh (fun X (h:Below W.heap.size W X)=>hcb.on h);have CS:=zh (fun X (h:Below W.heap.size W X)=>jne (jby ha h) (jby hb h) (ht.on h));have LA:Hid (s.h.length≤24):=(joo ha).hl;have US:=zh (hca.raw.same hcb.raw);have LP:=zh (jka (s:=s) (t:=t));rw[US.out,←Bk.usSame_iff]at LP;clear ha hb ht hca hcb US;go_enter Tryz.func26,Tryz.ntmps26;go_upto_region 2 with(first|(go_at_call 66;(with_reducible refine(je7 qb _).mono ?_);rintro e wb ⟨rfl,hb⟩;have B0:=zh (BA.out.trans (hb.mono BA.out.size));clear hb BA)|(go_at_call 66;(with_reducible refine(je7 qa _).mono ?_);rintro e wa ⟨rfl,hb⟩;have BA:=zh hb;clear hb))
 have hve:∀W,(binOp .eql 93 (.agg (Bk.viewC s)) (.agg (Bk.viewC t))).run Tryz.prog W= .ok (.bool (Bk.vwSame s t)) W:=fun W=>vw_eq s t W;have hue:∀W,(binOp .eql 38 (.agg (Bk.uC ra)) (.agg (Bk.uC rb))).run Tryz.prog W= .ok (.bool (Bk.usSame ra rb)) W:=fun W=>us_eq ra rb W;generalize Bk.vwSame s t=vz at*;generalize Bk.usSame ra rb=uz at*
 cases vz with
 |false=>
  have NO:Hid (¬Bk.Like s t):=fun h=>by have:=(LP.out.1 h).1;cases this
  clear LP CS;refine wp_region_held_drew (S:=fun X=>Below W.heap.size W X) (by kernel_rfl) B0.out.drew (fun hS=> ?_);refine tY 0 hS ?_;refine tY 1 hS ?_;refine tY 2 hS ?_;refine tZ 3 (v:= .agg (Bk.viewC s)) rfl (fun W hW=>jaz 93 (.tmp 11) rfl qa 4 (Bk.viewC s) _ rfl (KA.out W hW).vw jaq rfl (jba s)) hS ?_;refine tY 4 hS ?_;refine tY 5 hS ?_;simp only[Act.put,zT,zO,zS];refine tY 6 hS ?_;refine tZ 7 (v:= .agg (Bk.viewC t)) rfl (fun W hW=>jaz 93 (.tmp 15) rfl qb 4 (Bk.viewC t) _ rfl (KB.out W hW).vw jaq rfl (jba t)) hS ?_;refine tY 8 hS ?_;refine tY 9 hS ?_;refine tN 10 hS ?_;refine tN 11 hS ?_;simp only[Act.put,zT,zO,zS];refine tN 12 hS ?_;refine tN 13 hS ?_;refine tN 14 hS ?_;refine tN 15 hS ?_;refine tN 16 hS ?_;refine tN 17 hS ?_;simp only[Act.put,zT,zO,zS];refine tN 18 hS ?_;refine tY 19 hS ?_;refine tY 20 hS ?_;refine tN 21 hS ?_;refine tN 22 hS ?_;refine tN 23 hS ?_;simp only[Act.put,zT,zO,zS];refine tN 24 hS ?_;refine tN 25 hS ?_;refine tN 26 hS ?_;refine tN 27 hS ?_;refine tN 28 hS ?_;refine tN 29 hS ?_;simp only[Act.put,zT,zO,zS];refine tY 30 hS ?_;refine tY 31 hS ?_;refine tN 32 hS ?_;refine tN 33 hS ?_;refine tN 34 hS ?_;refine tY 35 hS ?_;simp only[Act.put,zT,zO,zS];refine tY 36 hS ?_;simp only[Act.put,zT,zO,zS];refine wpAnyH_done (by kernel_rfl) ?_ _;have D5:=zh hS;clear hS;go_wp2_with fail;go_ret;exact⟨⟨false,rfl,by simp only[Bool.false_eq_true,false_iff];exact NO.out⟩,D5.out⟩
 |true=>
  cases uz with
  |false=>
   have NO:Hid (¬Bk.Like s t):=fun h=>by have:=(LP.out.1 h).2.1;cases this
   clear LP CS;refine wp_region_held_drew (S:=fun X=>Below W.heap.size W X) (by kernel_rfl) B0.out.drew (fun hS=> ?_);refine tY 0 hS ?_;refine tY 1 hS ?_;refine tY 2 hS ?_;refine tZ 3 (v:= .agg (Bk.viewC s)) rfl (fun W hW=>jaz 93 (.tmp 11) rfl qa 4 (Bk.viewC s) _ rfl (KA.out W hW).vw jaq rfl (jba s)) hS ?_;refine tY 4 hS ?_;refine tY 5 hS ?_;simp only[Act.put,zT,zO,zS];refine tY 6 hS ?_;refine tZ 7 (v:= .agg (Bk.viewC t)) rfl (fun W hW=>jaz 93 (.tmp 15) rfl qb 4 (Bk.viewC t) _ rfl (KB.out W hW).vw jaq rfl (jba t)) hS ?_;refine tY 8 hS ?_;refine tY 9 hS ?_;refine tY 10 hS ?_;refine tY 11 hS ?_;simp only[Act.put,zT,zO,zS];refine tY 12 hS ?_;refine tZ 13 (v:= .agg (Bk.uC ra)) rfl (fun W hW=>jaz 38 (.tmp 21) rfl qa 26 (Bk.uC ra) _ rfl (KA.out W hW).us jck rfl (jb3 ra)) hS ?_;refine tY 14 hS ?_;refine tY 15 hS ?_;refine tY 16 hS ?_;refine tZ 17 (v:= .agg (Bk.uC rb)) rfl (fun W hW=>jaz 38 (.tmp 25) rfl qb 26 (Bk.uC rb) _ rfl (KB.out W hW).us jck rfl (jb3 rb)) hS ?_;simp only[Act.put,zT,zO,zS];refine tY 18 hS ?_;refine tY 19 hS ?_;refine tY 20 hS ?_;refine tN 21 hS ?_;refine tN 22 hS ?_;refine tN 23 hS ?_;simp only[Act.put,zT,zO,zS];refine tN 24 hS ?_;refine tN 25 hS ?_;refine tN 26 hS ?_;refine tN 27 hS ?_;refine tN 28 hS ?_;refine tN 29 hS ?_;simp only[Act.put,zT,zO,zS];refine tY 30 hS ?_;refine tY 31 hS ?_;refine tN 32 hS ?_;refine tN 33 hS ?_;refine tN 34 hS ?_;refine tY 35 hS ?_;simp only[Act.put,zT,zO,zS];refine tY 36 hS ?_;simp only[Act.put,zT,zO,zS];refine wpAnyH_done (by kernel_rfl) ?_ _;have D5:=zh hS;clear hS;go_wp2_with fail;go_ret;exact⟨⟨false,rfl,by simp only[Bool.false_eq_true,false_iff];exact NO.out⟩,D5.out⟩
  |true=>
   by_cases hh:s.h=t.h
   ·have HH:=zh hh
    have LP2:Hid (Bk.Like s t↔s.vs=t.vs):=⟨fun h=>(LP.out.1 h).2.2.2,fun h=>LP.out.2 ⟨rfl,rfl,HH.out,h⟩⟩;clear hh LP;refine wp_region_held_drew (S:=fun X=>Below W.heap.size W X) (by kernel_rfl) B0.out.drew (fun hS=> ?_);refine tY 0 hS ?_;refine tY 1 hS ?_;refine tY 2 hS ?_;refine tZ 3 (v:= .agg (Bk.viewC s)) rfl (fun W hW=>jaz 93 (.tmp 11) rfl qa 4 (Bk.viewC s) _ rfl (KA.out W hW).vw jaq rfl (jba s)) hS ?_;refine tY 4 hS ?_;refine tY 5 hS ?_;simp only[Act.put,zT,zO,zS];refine tY 6 hS ?_;refine tZ 7 (v:= .agg (Bk.viewC t)) rfl (fun W hW=>jaz 93 (.tmp 15) rfl qb 4 (Bk.viewC t) _ rfl (KB.out W hW).vw jaq rfl (jba t)) hS ?_;refine tY 8 hS ?_;refine tY 9 hS ?_;refine tY 10 hS ?_;refine tY 11 hS ?_;simp only[Act.put,zT,zO,zS];refine tY 12 hS ?_;refine tZ 13 (v:= .agg (Bk.uC ra)) rfl (fun W hW=>jaz 38 (.tmp 21) rfl qa 26 (Bk.uC ra) _ rfl (KA.out W hW).us jck rfl (jb3 ra)) hS ?_;refine tY 14 hS ?_;refine tY 15 hS ?_;refine tY 16 hS ?_;refine tZ 17 (v:= .agg (Bk.uC rb)) rfl (fun W hW=>jaz 38 (.tmp 25) rfl qb 26 (Bk.uC rb) _ rfl (KB.out W hW).us jck rfl (jb3 rb)) hS ?_;simp only[Act.put,zT,zO,zS];refine tY 18 hS ?_;refine tY 19 hS ?_;refine tY 20 hS ?_;refine tY 21 hS ?_;refine tY 22 hS ?_;refine tY 23 hS ?_;simp only[Act.put,zT,zO,zS];refine tZ 24 rfl (by intro W hW;have e0:=(KA.out W hW).hc;have lg:=(KA.out W hW).lt;go_simp;(try with_reducible rfl)) hS ?_;refine tY 25 hS ?_;refine tY 26 hS ?_;refine tY 27 hS ?_;refine tZ 28 rfl (by intro W hW;have e0:=(KB.out W hW).hc;have lg:=(KB.out W hW).lt;go_simp;(try with_reducible rfl)) hS ?_;simp only[Act.put,zT,zO,zS];refine rO 29 (fun K hK=> ?_);go_simp
    with_reducible refine(jhb AA AB s.h.length t.h.length ca cb s.h t.h _ (KA.out _ hS).hs (KB.out _ hS).hs (by have:=LA.out;omega)).mono ?_
    rintro e wv ⟨⟨zz,rfl,hzz⟩,hb⟩;obtain rfl:zz=true:=hzz.2 HH.out;clear hzz;replace hS:=hS.trans (hb.mono hS.size);clear hb;refine hK.out _ _ hS (fun _=> ?_);clear hK K;refine tY 30 hS ?_;refine tY 31 hS ?_;refine tY 32 hS ?_;refine tY 33 hS ?_;simp only[Act.put,zT,zO,zS];refine rO 34 (fun K hK=> ?_);go_simp
    with_reducible refine(CS.out _ hS).mono ?_
    rintro e wv ⟨⟨zz,rfl,hzz⟩,hb⟩;have HZ:=zh hzz;clear hzz;replace hS:=hS.trans (hb.mono hS.size);clear hb;refine hK.out _ _ hS (fun _=> ?_);clear hK K;refine tY 35 hS ?_;refine tY 36 hS ?_;simp only[Act.put,zT,zO,zS];refine wpAnyH_done (by kernel_rfl) ?_ _;have D5:=zh hS;clear hS;go_wp2_with fail;go_ret;exact⟨⟨_,rfl,by first|exact HZ.out.trans LP2.out.symm|(rw[LP2.out,←HZ.out];simp)⟩,D5.out⟩
   ·have HH:=zh hh
    have NO:Hid (¬Bk.Like s t):=fun h=>HH.out (LP.out.1 h).2.2.1;clear hh LP CS;refine wp_region_held_drew (S:=fun X=>Below W.heap.size W X) (by kernel_rfl) B0.out.drew (fun hS=> ?_);refine tY 0 hS ?_;refine tY 1 hS ?_;refine tY 2 hS ?_;refine tZ 3 (v:= .agg (Bk.viewC s)) rfl (fun W hW=>jaz 93 (.tmp 11) rfl qa 4 (Bk.viewC s) _ rfl (KA.out W hW).vw jaq rfl (jba s)) hS ?_;refine tY 4 hS ?_;refine tY 5 hS ?_;simp only[Act.put,zT,zO,zS];refine tY 6 hS ?_;refine tZ 7 (v:= .agg (Bk.viewC t)) rfl (fun W hW=>jaz 93 (.tmp 15) rfl qb 4 (Bk.viewC t) _ rfl (KB.out W hW).vw jaq rfl (jba t)) hS ?_;refine tY 8 hS ?_;refine tY 9 hS ?_;refine tY 10 hS ?_;refine tY 11 hS ?_;simp only[Act.put,zT,zO,zS];refine tY 12 hS ?_;refine tZ 13 (v:= .agg (Bk.uC ra)) rfl (fun W hW=>jaz 38 (.tmp 21) rfl qa 26 (Bk.uC ra) _ rfl (KA.out W hW).us jck rfl (jb3 ra)) hS ?_;refine tY 14 hS ?_;refine tY 15 hS ?_;refine tY 16 hS ?_;refine tZ 17 (v:= .agg (Bk.uC rb)) rfl (fun W hW=>jaz 38 (.tmp 25) rfl qb 26 (Bk.uC rb) _ rfl (KB.out W hW).us jck rfl (jb3 rb)) hS ?_;simp only[Act.put,zT,zO,zS];refine tY 18 hS ?_;refine tY 19 hS ?_;refine tY 20 hS ?_;refine tY 21 hS ?_;refine tY 22 hS ?_;refine tY 23 hS ?_;simp only[Act.put,zT,zO,zS];refine tZ 24 rfl (by intro W hW;have e0:=(KA.out W hW).hc;have lg:=(KA.out W hW).lt;go_simp;(try with_reducible rfl)) hS ?_;refine tY 25 hS ?_;refine tY 26 hS ?_;refine tY 27 hS ?_;refine tZ 28 rfl (by intro W hW;have e0:=(KB.out W hW).hc;have lg:=(KB.out W hW).lt;go_simp;(try with_reducible rfl)) hS ?_;simp only[Act.put,zT,zO,zS];refine rO 29 (fun K hK=> ?_);go_simp
    with_reducible refine(jhb AA AB s.h.length t.h.length ca cb s.h t.h _ (KA.out _ hS).hs (KB.out _ hS).hs (by have:=LA.out;omega)).mono ?_
    rintro e wv ⟨⟨zz,rfl,hzz⟩,hb⟩;obtain rfl:zz=false:=Bool.eq_false_iff.2 (fun h=>HH.out (hzz.1 h));clear hzz;replace hS:=hS.trans (hb.mono hS.size);clear hb;refine hK.out _ _ hS (fun _=> ?_);clear hK K;refine tY 30 hS ?_;refine tY 31 hS ?_;refine tN 32 hS ?_;refine tN 33 hS ?_;refine tN 34 hS ?_;refine tY 35 hS ?_;simp only[Act.put,zT,zO,zS];refine tY 36 hS ?_;simp only[Act.put,zT,zO,zS];refine wpAnyH_done (by kernel_rfl) ?_ _;have D5:=zh hS;clear hS;go_wp2_with fail;go_ret;exact⟨⟨false,rfl,by simp only[Bool.false_eq_true,false_iff];exact NO.out⟩,D5.out⟩
open Go.Deep Go.Maps
def TwOwn(l:List Rc.R)(w:World)(e:Ending)(w':World):Prop:=∃A c,e= .returned (.slice A l.length c)∧OwF Bk.rcC 18 45 w' w.heap.size (.slice A l.length c) l∧Below w.heap.size w w'
theorem jkb(w:World)(A:Option Addr)(n c:Nat)(l:List Rc.R)(hs:SlF Bk.rcC w A n c l)(hn:n≤1000):Calls Tryz.prog 152 #[.slice A n c] w (TwOwn l w):=by
 have hl:=hs.len;have hcap:=hs.cap;have hmax:=hs.max;have hc63:(c:Int)≤9223372036854775807:=by unfold maxLen at hmax;omega
 have hnil:=fun W a n c=>Lib.run_eql_slice_nil (P:=Tryz.prog) W 28 45 a n c 0 0 Tryz.underlying28
 cases A with
 |none=>
  obtain⟨rfl,rfl,rfl⟩:=slnil hs;clear hl hcap hmax hc63 hs hn;go_enter Tryz.func152,Tryz.ntmps152;go_wp2_with fail;go_ret;exact⟨none,0,rfl,OwF.none_ _ _ _,Below.refl _ _⟩
 |some ad=>
  have O0:=zh (jf2 (enc:=Bk.rcC) (k:=18) (e:=45) w);have hb1:Below w.heap.size w (w.alloc (.cells #[] 45)):=(Below.refl _ _).alloc (Nat.le_refl _) _;have S1:=zh (hs.on hb1);have B1:=zh hb1;have HN:=zh hn;have HL:=zh hl;clear hs hn hl hb1 hmax;go_enter Tryz.func152,Tryz.ntmps152;go_upto_region 3 with fail
  go_wp2_with(at_builtin;refine jao Bk.rcC_len Bk.rcC_one Tryz.underlying28 jak rfl (by omega) rfl (.tmp 5) (.tmp 6) rfl w.heap.size _ [] l rfl O0.out rfl S1.out (by have:=HN.out;have:=HL.out;simp;unfold maxLen;omega) (by have:=HN.out;have:=HL.out;simp;omega) (by have:=B1.out.size;omega) ?_;intro v1 w1 ho1 hb1 _ _;have O1:=zh ho1;have B2:=zh hb1;clear ho1 hb1);go_ret;obtain⟨A9,c9,hf⟩:=O1.out.form;have ho:=O1.out;rw[hf]at ho⊢;rw[List.nil_append]at ho⊢;exact⟨A9,c9,rfl,ho,B1.out.trans B2.out⟩
theorem jnh(q:Nat)(s:Bk.St)(ru:Nat→Bk.Un)(rv:Int)(lo ko:Option Nat)(H:Value)(K:Kv.St)(w:World)(h:BdIs w q s ru rv lo ko H K):Calls Tryz.prog 85 #[.pointer (some ⟨q,0,none⟩)] w (TwOwn s.h w):=by
 have A0:=zh h.at_;obtain⟨A,c,hH⟩:=h.form;have b74:=A0.out.cs.c74;rw[hH]at b74;have lq:=A0.out.lt;have hs:=h.h;rw[hH]at hs;have CC:=zh (jkb w A s.h.length c s.h hs.sl (by have:=h.lok.ok.hl;omega));clear h hH hs;obtain⟨l,hl⟩:∃l,l=s.h:=⟨_,rfl⟩;rw[←hl]at CC b74⊢;clear hl;generalize hn:l.length=n at b74;have HN:=zh hn;rw[HN.out]at CC;clear hn;go_enter Tryz.func85,Tryz.ntmps85;go_wp2_with(go_at_call 152;(with_reducible refine CC.out.mono ?_);rintro e w1 hp;obtain⟨A9,c9,rfl,p1,p2⟩:=hp;have P1:=zh p1;have P2:=zh p2;clear p1 p2);go_ret;exact⟨A9,c9,rfl,P1.out,P2.out⟩
theorem jkc{a:Act}{oi:Oper}(t:TypeId)(parts:Array (Nat×Operand))(ho:oi.op= .build t parts)(cells:Array Value)(hf:Tryz.prog.built t (parts.map fun(i,x)=>(i,a.eval x)).toList=some cells){W:World}:(execOp a.eval oi).run Tryz.prog W= .ok (.value (.agg cells)) W:=by
 unfold execOp;simp only[ho,Sem.run_bind,run_build W t _ cells hf,Result.andThen_ok];rfl
theorem jf6{w w':World}{mo:Option Nat}{n:Nat}{f:ByteArray→Option (Int×Int×Int)}(h:LM.Opt w mo f n)(hb:Below w.heap.size w w'):LM.Opt w' mo f n:=
 h.keep fun b e=>hb.block b (by subst e;exact MapW.Opt.lt h)
theorem jkd{s:Bk.St}(h:Bd.Lok s)(m:Int):Bd.Lok {s with m:=min (max m 0) 1048576}:=
 ⟨{h.ok with m:=⟨by show 0≤min (max m 0) 1048576;omega,by show min (max m 0) 1048576≤1048576;omega⟩},h.t1⟩
theorem jou{w0 W:World}{F:Nat→Prop}{q:Nat}{s:Bk.St}(h:BP w0 F q s W)(m:Int):Calls Tryz.prog 159 #[.pointer (some ⟨q,0,none⟩),.int .i64 m] W (fun e w'=>∃q2,e= .returned (.pointer (some ⟨q2,0,none⟩))∧BP W (fun _=>False) q2 {s with m:=min (max m 0) 1048576} w'):=by
 obtain⟨X,⟨ru,rv,lo0,ko0,H,K,h1,_⟩,_⟩:=h;have LK:=zh (jkd h1.lok m);have RW:=zh h1.raw;have CL:=zh (fun X=>twl_any s h1.lok m X);have CD:=zh (fun X (h:Below W.heap.size W X)=>twd_any q s ru rv lo0 ko0 H K X (h1.on h));have CH:=zh (fun X (h:Below W.heap.size W X)=>jnh q s ru rv lo0 ko0 H K X (h1.on h));have VR:=zh (fun X (h:Below W.heap.size W X)=>jc4 (h1.on h).at_);have UR:=zh (fun X (h:Below W.heap.size W X)=>jfo (h1.on h).at_);have LT:=zh (fun X (h:Below W.heap.size W X)=>(h1.on h).lt.1);clear h1;unfold jig at CL;unfold jm9 at CD;unfold TwOwn at CH;obtain⟨M,hM⟩:∃M,M=min (max m 0) 1048576:=⟨_,rfl⟩;rw[←hM]at LK CL⊢;clear hM;go_enter Tryz.func159,Tryz.ntmps159;go_upto_region 1 with fail
 refine wp_region_held_drew (S:=fun X=>Below W.heap.size W X) (by kernel_rfl) (Below.refl _ _).drew (fun hS=> ?_);refine tY 0 hS ?_;refine tZ 1 rfl (by intro W hW;have lq:=LT.out W hW;go_simp;(try with_reducible rfl)) hS ?_;refine tZ 2 rfl (by intro W hW;have lq:=LT.out W hW;go_simp;(try with_reducible rfl)) hS ?_;refine tZ 3 (v:= .agg (Bk.viewC s)) rfl (fun W hW=>jaz 93 (.tmp 7) rfl q 4 (Bk.viewC s) _ rfl (VR.out W hW) jaq rfl (jba s)) hS ?_;refine tY 4 hS ?_;refine tY 6 hS ?_;simp only[Act.put,zT,zO,zS];refine tY 8 hS ?_;refine tZ 9 rfl (by intro W hW;have lq:=LT.out W hW;go_simp;(try with_reducible rfl)) hS ?_;refine tZ 10 rfl (by intro W hW;have lq:=LT.out W hW;go_simp;(try with_reducible rfl)) hS ?_;refine tZ 11 (v:= .agg (Bk.viewC s)) rfl (fun W hW=>jaz 93 (.tmp 15) rfl q 4 (Bk.viewC s) _ rfl (VR.out W hW) jaq rfl (jba s)) hS ?_;refine tY 12 hS ?_;refine tZ 13 rfl (by intro W hW;have lq:=LT.out W hW;go_simp;(try with_reducible rfl)) hS ?_;simp only[Act.put,zT,zO,zS];refine tZ 14 rfl (by intro W hW;have lq:=LT.out W hW;go_simp;(try with_reducible rfl)) hS ?_;refine tZ 15 (v:= .agg (Bk.uC ru)) rfl (fun W hW=>jaz 38 (.tmp 19) rfl q 26 (Bk.uC ru) _ rfl (UR.out W hW) jck rfl (jb3 ru)) hS ?_;refine tY 16 hS ?_;simp only[Act.put,zT,zO,zS];refine rO 5 (fun K hK=> ?_);go_simp
 with_reducible refine(CL.out _).mono ?_
 rintro e w1 ⟨lo,rfl,p1,p2,hb⟩;have L1:=zh p1;have L2:=zh p2;clear p1 p2;have SZ1:Hid (W.heap.size≤_):=hS.size;have hS2:=hS.trans (hb.mono hS.size);have HB1:=zh hb;have HS1:=zh hS2;clear hS hb;have hS:=hS2;clear hS2;refine hK.out _ _ hS (fun _=> ?_);clear hK K;try simp only[Act.put,zT,zO,zS]
 refine rO 7 (fun K hK=> ?_);go_simp
 with_reducible refine(CD.out _ hS).mono ?_
 rintro e w2 ⟨ko,K2,rfl,p1,p2,p3,p4,p5,hb⟩;have K1:=zh p1;have K5:=zh p5;have KK:=zh (And.intro p2 (And.intro p3 p4));clear p1 p2 p3 p4 p5;have hS2:=hS.trans (hb.mono hS.size);have HB2:=zh hb;have HS2:=zh hS2;clear hS hb;have hS:=hS2;clear hS2;refine hK.out _ _ hS (fun _=> ?_);clear hK K;try simp only[Act.put,zT,zO,zS]
 refine rO 17 (fun K hK=> ?_);go_simp
 with_reducible refine(CH.out _ hS).mono ?_
 rintro e w3 ⟨A9,c9,rfl,p1,hb⟩;have O1:=zh p1;clear p1;have hS2:=hS.trans (hb.mono hS.size);have HB3:=zh hb;have HS3:=zh hS2;clear hS hb;have hS:=hS2;clear hS2;refine hK.out _ _ hS (fun _=> ?_);clear hK K;refine tZ 18 (v:= .agg (Bd.cells {s with m:=M} ru K2.rev (.map lo) (.map ko) (.slice A9 s.h.length c9))) rfl (fun W hW=>jkc 125 _ rfl _ (by kernel_rfl)) hS ?_
 simp only[Act.put,zT,zO,zS];refine rO 19 (fun K hK=> ?_);go_simp;have hb:Below w3.heap.size w3 (w3.alloc (.cells (Bd.cells {s with m:=M} ru K2.rev (.map lo) (.map ko) (.slice A9 s.h.length c9)) 125)):=(Below.refl _ _).alloc (Nat.le_refl _) _
 have R4:=zh (heap_alloc_new w3 (.cells (Bd.cells {s with m:=M} ru K2.rev (.map lo) (.map ko) (.slice A9 s.h.length c9)) 125))
 generalize w3.alloc (.cells (Bd.cells {s with m:=M} ru K2.rev (.map lo) (.map ko) (.slice A9 s.h.length c9)) 125)=w4 at*
 obtain⟨q2,hq2⟩:∃q2,q2=w3.heap.size:=⟨_,rfl⟩;rw[←hq2]at R4⊢;have HQ2:=zh hq2;clear hq2;have hS2:=hS.trans (hb.mono hS.size);have HB4:=zh hb;have HS4:=zh hS2;clear hS hb;have hS:=hS2;clear hS2;refine hK.out _ _ hS (fun _=> ?_);clear hK K;refine tY 20 hS ?_;simp only[Act.put,zT,zO,zS];refine wpAnyH_done (by kernel_rfl) ?_ _;clear hS;go_wp2_with fail;go_ret;have s1:=HS1.out.size;have s2:=HS2.out.size;have s3:=HS3.out.size;have l1:=jf6 L1.out HB2.out;have l2:=jf6 (jf6 l1 HB3.out) HB4.out;have BI:BdIs w4 q2 {s with m:=M} ru K2.rev lo ko (.slice A9 s.h.length c9) K2:=⟨⟨R4.out⟩,l2,(K1.out.on HB3.out).on HB4.out,KK.out.1,rfl,KK.out.2.1,KK.out.2.2,RW.out,(O1.out.below HB4.out).lower (Nat.zero_le _),fun b e e2=>by
  have h1:=K5.out b e2;subst e;have h2:=MapW.Opt.lt L1.out;omega,LK.out⟩
 refine⟨q2,rfl,BdF q2 lo ko (.slice A9 s.h.length c9),⟨ru,K2.rev,lo,ko,.slice A9 s.h.length c9,K2,BI,fun _ h=>h,BI.ltF⟩,fun i hi=> ?_,fun b hb=>hb.elim,HS4.out⟩;rcases hi with rfl|e|e|e
 ·rw[HQ2.out];exact s3
 ·have:=L2.out i e;have:=SZ1.out;omega
 ·have:=K5.out i e;omega
 ·have:=(O1.out.lt i e).1;omega
end Go.Proofs.YtabandbigckfkaaGreatDoor
