import Derived.Test.YtabandbigckfkaaGreatDoorQx25
set_option maxHeartbeats 6400000
set_option maxRecDepth 100000
set_option linter.unusedSimpArgs false
set_option linter.unusedVariables false
namespace Go.Proofs.YtabandbigckfkaaGreatDoor
open Go.RowKit Cdc
theorem jjc{s:St}(he:(num s).e≠0):numV s=0:=by
 unfold num at he;by_cases hs:s.e=0
 ·rw[if_pos hs]at he
  by_cases hk:dk s.l=0
  ·unfold numV;rw[if_pos hs,dn_none hk]
  ·rw[if_neg hk]at he;exact absurd rfl he
 ·exact numV_err hs
theorem jtv{s:St}(h:(num s).e≠0∨64<numV s):list s=badS (num s)∧listV s=[]:=by
 by_cases he:(num s).e=0
 ·have hm:¬numV s≤64:=by rcases h with h|h<;>omega
  have h1:list s=lost:=by unfold list cnt cntV;rw[if_neg hm,if_neg hm];rfl
  refine⟨by rw[h1];unfold badS;rw[if_pos he],?_⟩;unfold listV;rw[h1,if_neg (by decide)]
 ·have hv:=jjc he
  have h1:list s=num s:=by unfold list cnt cntV;rw[hv];simp only[Nat.zero_le,if_pos];rfl
  refine⟨by rw[h1];unfold badS;rw[if_neg he],?_⟩;unfold listV;rw[h1,if_neg he]
theorem jq9{s:St}(h:numV s≤64):list s=numsAt (num s) (numV s)∧listV s=if(numsAt (num s) (numV s)).e=0 then numsV (num s) (numV s)else[]:=by
 unfold listV list cnt cntV;simp only[if_pos h,and_self]
theorem OwnI.far{w:World}{B n c:Nat}{A:Option Addr}{v:Value}{l:List Int}(h:OwnI w B v l)(hv:v= .slice A n c):∀a,A=some a→B≤a.block:=by
 intro a ha;subst ha;subst hv;rcases h.2 with⟨h0,_⟩|⟨g,cap,cur,h0,hb,_⟩
 ·cases h0
 ·injection h0 with h0;injection h0 with h0;subst h0;exact hb
def jng(w0:World)(s:St)(w:World)(e:Ending)(w':World):Prop:=
 ∃A c D d,e= .returned (.tuple #[.agg #[.slice A (list s).l.length c,.int .i64 (list s).e],.slice D (listV s).length d])∧Sl w0 A (list s).l.length c (list s).l∧SlI w' D (listV s).length d (nI (listV s))∧Below w.heap.size w w'∧∀a,D=some a→w.heap.size≤a.block
def jau(w:World)(g:Nat)(A:Option Addr)(n c:Nat)(e:Int):Prop:=w.heap[g]? =some (.cells #[.slice A n c,.int .i64 e] 230 (0,0))
theorem jau.facts{w:World}{g n c:Nat}{A:Option Addr}{e:Int}(h:jau w g A n c e):w.cell? ⟨g,0,none⟩=some (.slice A n c)∧w.cell? ⟨g,1,none⟩=some (.int .i64 e)∧w.frozen? ⟨g,0,none⟩=false∧w.frozen? ⟨g,1,none⟩=false:=
 ⟨by rw[cell_of_row w g 0 _ _ _ h];rfl,by rw[cell_of_row w g 1 _ _ _ h];rfl,frozen_of_row w g 0 _ _ h,frozen_of_row w g 1 _ _ h⟩
theorem jau.lt{w:World}{g n c:Nat}{A:Option Addr}{e:Int}(h:jau w g A n c e):g<w.heap.size:=(Array.getElem?_eq_some_iff.1 h).1
theorem jau.set{w:World}{g n c n' c':Nat}{A A':Option Addr}{e e':Int}(h:jau w g A n c e):jau ((w.setCell ⟨g,0,none⟩ (.slice A' n' c')).setCell ⟨g,1,none⟩ (.int .i64 e')) g A' n' c' e':=by
 have h1:=heap_setCell_same w g 0 _ _ (.slice A' n' c') h;have h2:=heap_setCell_same (w.setCell ⟨g,0,none⟩ (.slice A' n' c')) g 1 _ _ (.int .i64 e') h1;unfold jau;rw[h2];rfl
theorem jau.kept{w w':World}{g n c:Nat}{A:Option Addr}{e:Int}{row:Option Nat}(h:jau w g A n c e)(hg:w.grownBy w' row)(hr:some g≠row):jau w' g A n c e:=by
 unfold jau;rw[hg.block g h.lt hr];exact h
theorem OwnI.alloc{w:World}{B:Nat}{v:Value}{l:List Int}(h:OwnI w B v l)(o:Obj):OwnI (w.alloc o) B v l:=World.ownsRow.alloc h o
theorem jl4{w:World}{B g:Nat}{v:Value}{l:List Int}(h:OwnI w B v l)(hg:g<B)(u1 u2:Value):OwnI ((w.setCell ⟨g,0,none⟩ u1).setCell ⟨g,1,none⟩ u2) B v l:=
 ownsRow_setCell_below (ownsRow_setCell_below h hg _) hg _
theorem jcg{w:World}{ops:Array Oper}{rest:List Oper}{op:Oper}{a:Act}{Q:Exit→Act→World→Prop}(hgd:op.guard=none)(s x:Operand)
  (ho:op.op= .call {callee:= .builtin .append,args:=#[s,x],argTypes:=#[137,137]})
  (base:Nat) (v:Value) (l:List Int) (hs:a.eval s=v) (hown:OwnI w base v l) (X:Int) (z:Nat) (hz:z=w.heap.size) (hx:a.eval x= .slice (some ⟨z,0,none⟩) 1 1)
  (hl:l.length≤3000000) (hB:base≤w.heap.size)
  (h:∀v' w',OwnI w' base v' (l++[X])→w.grownBy w' v.ownBlock→wpList Tryz.prog ops Q rest (a.put op.dst v') w'):wpList Tryz.prog ops Q (op::rest) a (w.alloc (.cells #[.int .i64 X] 3)):=by
 subst hz;exact jan hgd s x ho base v l hs hown X hx hl hB h
theorem jkv(w0:World)(A:Option Addr)(c:Nat)(s:St)(w:World)(h0:Sl w0 A s.l.length c s.l)(hb0:Below w0.heap.size w0 w)(ho:Okay s)(hl:s.l.length≤1000000):
  Calls Tryz.prog 171 #[.agg #[.slice A s.l.length c,.int .i64 s.e]] w (jng w0 s w):=by
 have NB:=zh (fun WX hb=>jdk w0 A c s WX h0 hb ho hl);have TB:=zh (jtv (s:=s));have TG:=zh (jq9 (s:=s));have OK:=zh ho.num;have HN:=zh (Nat.le_trans (jhq s) hl);have B0:=zh (((Below.refl w.heap.size w).alloc (Nat.le_refl _) (.cells #[.slice A s.l.length c,.int .i64 s.e] 230)).alloc (by simp) (.cells #[.slice none 0 0,.int .i64 0] 230));have HB:=zh hb0;have HNV:=zh (numV_lt s);have hv63:(numV s:Int)≤4611686018427387903:=by have:=HNV.out;omega
 clear h0 hb0 ho hl;generalize s.l.length=n0 at*;generalize s.e=e0 at*;generalize num s=N at*;generalize numV s=m at*;go_enter Tryz.func171,Tryz.ntmps171;go_wp2_with fail
 (with_reducible refine(NB.out _ (HB.out.trans (B0.out.mono HB.out.size))).mono ?_)
 rintro e w1 ⟨A1,c1,rfl,hs1,hb1⟩;have S1:=zh hs1;clear hs1;have Z1:Hid (w.heap.size+2≤w1.heap.size):=by show _≤_;have:=hb1.size;simp at this;omega
 obtain⟨hc,hf⟩:=jem hb1;have B1:=zh hb1;clear hb1;have z1:w.heap.size+1<w1.heap.size:=by have:=Z1.out;omega
 by_cases hbad:N.e≠0∨64<m
 ·have P:=zh (TB.out hbad)
  have BAD:=zh (fun WX=>jh0 w0 A1 N.l.length c1 N WX S1.out);have hcase:N.e≠0∨(N.e=0∧64<m):=by
   by_cases h1:N.e=0
   ·exact .inr ⟨h1,by rcases hbad with h|h<;>omega⟩
   ·exact .inl h1
  clear hbad TB TG NB;obtain⟨ee,hee⟩:∃ee,ee=N.e:=⟨_,rfl⟩;have EE:=zh hee;clear hee;rw[←EE.out]at BAD hcase⊢;obtain⟨nl,hnl⟩:∃nl,nl=N.l.length:=⟨_,rfl⟩;have NL:=zh hnl;clear hnl;rw[←NL.out]at BAD⊢;rcases hcase with hx|⟨hx,hy⟩
  ·have hne:(ee !=0)=true:=by rw[bne_iff_ne];exact hx
   clear hx;go_wp2_with fail
   (with_reducible refine(BAD.out _).mono ?_)
   rintro e w2 ⟨A2,c2,rfl,hs2,hb2⟩;have T2:=zh hs2;clear hs2;have B2:=zh (B1.out.trans ((((Below.refl w1.heap.size w1).alloc (Nat.le_refl _) _).trans (hb2.mono (by simp))).mono B1.out.size));clear hb2 hc hf;obtain⟨hc,hf⟩:=jem B2.out;have z2:w.heap.size+1<w2.heap.size:=by have:=B2.out.size;simp at this;omega
   go_wp2_with fail;exact bodyPost_ret (v:= .tuple #[.agg #[.slice A2 (badS N).l.length c2,.int .i64 (badS N).e],.slice none 0 0]) (by simp[results,Tryz.results171,go_sem,hc]) rfl (by
    unfold jng;rw[P.out.1,P.out.2];exact⟨A2,c2,none,0,rfl,T2.out,SlI.none_ _,((B0.out.trans (B2.out.mono (by simp;omega))).setCell (by simp) _).setCell (by simp) _,fun a h=>by cases h⟩)
  ·subst hx
   go_wp2_with fail
   (with_reducible refine(BAD.out _).mono ?_)
   rintro e w2 ⟨A2,c2,rfl,hs2,hb2⟩;have T2:=zh hs2;clear hs2;have B2:=zh (B1.out.trans ((((Below.refl w1.heap.size w1).alloc (Nat.le_refl _) _).trans (hb2.mono (by simp))).mono B1.out.size));clear hb2 hc hf;obtain⟨hc,hf⟩:=jem B2.out;have z2:w.heap.size+1<w2.heap.size:=by have:=B2.out.size;simp at this;omega
   go_wp2_with fail;exact bodyPost_ret (v:= .tuple #[.agg #[.slice A2 (badS N).l.length c2,.int .i64 (badS N).e],.slice none 0 0]) (by simp[results,Tryz.results171,go_sem,hc]) rfl (by
    unfold jng;rw[P.out.1,P.out.2];exact⟨A2,c2,none,0,rfl,T2.out,SlI.none_ _,((B0.out.trans (B2.out.mono (by simp;omega))).setCell (by simp) _).setCell (by simp) _,fun a h=>by cases h⟩)
 ·have hE:N.e=0:=by
   by_cases h:N.e=0
   ·exact h
   ·exact absurd (.inl h) hbad
  have hm:m≤64:=by omega
  have P:=zh (TG.out hm);rw[hE];have HE:=zh hE;clear hbad TB TG NB hE;have X0:Hid (jau (w1.alloc (.cells #[.slice A1 N.l.length c1,.int .i64 0] 230)) w1.heap.size A1 N.l.length c1 0):=heap_alloc_new w1 _;have BX:Hid (Below w.heap.size w (w1.alloc (.cells #[.slice A1 N.l.length c1,.int .i64 0] 230))):=by
   have hx:=B0.out.trans (B1.out.mono (by simp;omega));exact hx.alloc hx.size _
  have RX0:jau (w1.alloc (.cells #[.slice A1 N.l.length c1,.int .i64 0] 230)) (w.heap.size+1) none 0 0 0:=by
   unfold jau;rw[Below.heap_alloc _ _ _ z1,B1.out.block _ (by simp)];have:=heap_alloc_new (w.alloc (.cells #[.slice A n0 c,.int .i64 e0] 230)) (.cells #[.slice none 0 0,.int .i64 0] 230);rw[show(w.alloc (.cells #[.slice A n0 c,.int .i64 e0] 230)).heap.size=w.heap.size+1 from by simp]at this;exact this
  have RX:=zh RX0;clear RX0;have SX0:(w1.alloc (.cells #[.slice A1 N.l.length c1,.int .i64 0] 230)).heap.size=w1.heap.size+1:=by simp
  have SX:=zh SX0;clear SX0;go_wp2_with fail;clear hc hf;generalize w1.alloc (.cells #[.slice A1 N.l.length c1,.int .i64 0] 230)=X at*;obtain⟨g,hg⟩:∃g,g=w1.heap.size:=⟨_,rfl⟩;rw[←hg]at X0 SX z1⊢;clear hg;have gB:Hid (w.heap.size+1<g):=z1;go_loopw [6,7] (fun v i wr=>∃(k:Nat) (A2:Option Addr) (c2:Nat),i= .int .i64 k∧k≤m∧(numsAt N k).e=0∧OwnI wr (g+1) v (nI (numsV N k))∧jau wr g A2 (numsAt N k).l.length c2 0∧Sl w0 A2 (numsAt N k).l.length c2 (numsAt N k).l∧X.grownBy wr (some g)) (fun _ i _=>m -(intOf i).toNat)
  case atStart=>exact⟨0,A1,c1,rfl,by omega,HE.out,World.ownsRow_nil _ _ _ _,X0.out,S1.out,World.grownBy.refl _ _⟩
  case round=>
   obtain⟨k,A2,c2,rfl,hk,he,ho,hnx,hs2,hgr⟩:=hrel;have E:=zh he;clear he;have O:=zh ho;clear ho;have NX:=zh hnx;clear hnx;have S2:=zh hs2;clear hs2;have GG:=zh hgr;clear hgr;clear S1 X0;have RW:=zh (RX.out.kept GG.out (by have:=gB.out;intro e2;injection e2 with e2;omega))
   have BW:=zh (BX.out.grown GG.out BX.out.size (fun i hi=>by injection hi with hi;have:=gB.out;omega))
   have HS:Hid (g+1≤wr.heap.size):=by show _≤_;have:=GG.out.size;rw[SX.out]at this;exact this
   obtain⟨f1,f2,f3,f4⟩:=NX.out.facts;by_cases hlt:k<m
   ·have NB:=zh (jdk w0 A2 c2 (numsAt N k) wr S2.out (HB.out.trans (BW.out.mono HB.out.size)) (OK.out.numsAt k) (Nat.le_trans (jdg N k) HN.out))
    rw[E.out]at NB;have HX:Hid (nI (numsV N (k+1))=nI (numsV N k)++[((numV (numsAt N k):Nat):Int)]):=jhr _ _;have HLN:Hid ((nI (numsV N k)).length=k):=by show _=_;rw[ja6,numsV_length]
    have HT:Hid (num (numsAt N k)=numsAt N (k+1)):=rfl;rw[HT.out]at NB;generalize numV (numsAt N k)=x at*;go_wp2_with fail
    (with_reducible refine NB.out.mono ?_)
    rintro e w2 ⟨A3,c3,rfl,hs3,hb3⟩;have S3:=zh hs3;clear hs3;have NX2:=zh (NX.out.kept (jbf none hb3) (by simp));have RW2:=zh (RW.out.kept (jbf none hb3) (by simp));have O2:=zh (OwnI.below O.out hb3);have BW2:=zh (BW.out.trans (hb3.mono BW.out.size));have GG2:=zh (jaf GG.out (jbf (some g) hb3));have HS2:=zh (Nat.le_trans HS.out hb3.size);clear hb3 f1 f2 f3 f4;obtain⟨f1,f2,f3,f4⟩:=NX2.out.facts;obtain⟨r1,r2,r3,r4⟩:=RW2.out.facts;have gz:g<w2.heap.size:=by have:=HS2.out;omega
    have rz:w.heap.size+1<w2.heap.size:=by have:=gB.out;omega
    have gr:w.heap.size+1≠g:=by have:=gB.out;omega
    by_cases h3:(numsAt N (k+1)).e=0
    ·have E3:=zh h3
     rw[h3];clear h3;obtain⟨y,hy⟩:∃y,y=(w2.setCell ⟨g,0,none⟩ (.slice A3 (numsAt N (k+1)).l.length c3)).setCell ⟨g,1,none⟩ (.int .i64 0):=⟨_,rfl⟩;have NY:Hid (jau y g A3 (numsAt N (k+1)).l.length c3 0):=by rw[hy];exact NX2.out.set
     have GY:Hid (X.grownBy y (some g)):=by rw[hy];exact jaf GG2.out (jaf (jab _ _ _ _) (jab _ _ _ _))
     have OY:=zh (jl4 (g:=g) O2.out (by omega) (.slice A3 (numsAt N (k+1)).l.length c3) (.int .i64 0));rw[←hy]at OY;have SY0:y.heap.size=w2.heap.size:=by rw[hy];simp[World.setCell]
     have SY:=zh SY0;clear SY0;have HY:=zh hy;clear hy;go_wp2_with(at_builtin;rw[←HY.out];refine jcg rfl (.tmp 39) (.tmp 41) rfl (g+1) _ _ rfl (OwnI.alloc OY.out _) _ (w2.heap.size+1) (by rw[←SY.out];simp) rfl (by rw[HLN.out];omega) (by have:=HS2.out;have:=SY.out;simp;omega) ?_;intro v5 w5 ho5 hg5;have O5:=zh ho5;have G5:=zh hg5;clear ho5 hg5);have G6:=zh (jaf (World.grownBy_alloc y _ _) G5.out);go_roundw
     case rel=>
      refine⟨k+1,A3,c3,by go_num,by omega,E3.out,by rw[HX.out];exact O5.out,?_,S3.out,?_⟩
      ·exact NY.out.kept G6.out (fun e2=>by have:=jap OY.out g e2.symm;omega)
      ·exact jcs GY.out G6.out (fun i hi=>by have:=jap OY.out i hi;rw[SX.out];exact this)
     case measure=>simp[intOf];omega
    ·have hne:((numsAt N (k+1)).e !=0)=true:=by rw[bne_iff_ne];exact h3
     have Q:Hid (list s=numsAt N (k+1)∧listV s=[]):=by
      have h4:numsAt N m=numsAt N (k+1):=by
       have:=numsAt_err h3 (m -(k+1))
       rwa [show k+1+(m -(k+1))=m by omega]at this
      show _∧_;rw[P.out.1,P.out.2,h4,if_neg h3];exact⟨rfl,rfl⟩
     clear h3;go_wp2_with fail;exact bodyPost_ret (v:= .tuple #[.agg #[.slice A3 (numsAt N (k+1)).l.length c3,.int .i64 (numsAt N (k+1)).e],.slice none 0 0]) (by simp[results,Tryz.results171,go_sem,r1,r2,rz]) rfl (by
      unfold jng;rw[Q.out.1,Q.out.2];refine⟨A3,c3,none,0,rfl,S3.out,SlI.none_ _,?_,fun a h=>by cases h⟩;have hx:=(BW2.out.setCell (p:=⟨w.heap.size+1,0,none⟩) (by simp) (.slice A3 (numsAt N (k+1)).l.length c3)).setCell (p:=⟨w.heap.size+1,1,none⟩) (by simp) (.int .i64 (numsAt N (k+1)).e);exact hx.alloc hx.size _)
   ·obtain rfl:k=m:=by omega
    have Q:Hid (list s=numsAt N k∧listV s=numsV N k):=by
     show _∧_;rw[P.out.1,P.out.2,if_pos E.out];exact⟨rfl,rfl⟩
    obtain⟨r1,r2,r3,r4⟩:=RW.out.facts;obtain⟨AL,cL,hv,hsl⟩:=OwnI.sl O.out;have FA:=zh (OwnI.far O.out hv);subst hv;have SL:=zh hsl;clear hsl;go_wp2_with fail;exact bodyPost_ret (v:= .tuple #[.agg #[.slice A2 (numsAt N k).l.length c2,.int .i64 0],.slice AL (nI (numsV N k)).length cL]) (by simp[results,Tryz.results171,go_sem,r1,r2]) rfl (by
     unfold jng;rw[Q.out.1,Q.out.2];refine⟨A2,c2,AL,cL,?_,S2.out,?_,(BW.out.setCell (by simp) _).setCell (by simp) _,fun a ha=>by have:=FA.out a ha;have:=gB.out;omega⟩
     ·rw[E.out,ja6]
     ·have hll:=ja6 (numsV N k)
      rw[hll]at SL;exact(SL.out.apart (r:=w.heap.size+1) (jab _ _ _ _) (fun a ha=>by have:=FA.out a ha;have:=gB.out;omega)).apart (r:=w.heap.size+1) (jab _ _ _ _) (fun a ha=>by have:=FA.out a ha;have:=gB.out;omega))
theorem jbt{fn:Func}{p u:Tmp}(h:fn.results= #[.cell p 45,.tmp u])(tmps:Array Value)(w:World)(g:Nat)(r:Rc.R)(hp:tmps.getD p undef= .pointer (some ⟨g,0,none⟩))(hg:RcAt w g r):
  (results fn tmps).run Tryz.prog w= .ok (.tuple #[.agg (Rc.cells r),tmps.getD u undef]) w:=by
 rw[results_cell_tmp h,hp];have:=run_loadVar_row (P:=Tryz.prog) w g 45 45 (Rc.cells r) (0,0) _ hg.row jad rfl (jaj r);simp[asAddr,this,Result.andThen]
theorem ja1{w:World}{g:Nat}{o:Rc.R}(h:RcAt w g o)(o':Rc.R)(k:Nat)(v:Value)(he:(Rc.cells o).setIfInBounds k v=Rc.cells o'):RcAt (w.setCell ⟨g,k,none⟩ v) g o':=⟨by rw[←he];exact heap_setCell_same w g k _ _ _ h.row⟩
theorem ja2{w:World}{a g:Nat}{o:Rc.R}(h:RcAt w a o)(hne:a≠g)(k:Nat)(v:Value):RcAt (w.setCell ⟨g,k,none⟩ v) a o:=⟨((jab w g k v).block a h.cs.lt (by simp;exact hne)).trans h.row⟩
theorem jbe{w:World}{a g n c:Nat}{A:Option Addr}{e:Int}(h:jau w a A n c e)(hne:a≠g)(k:Nat)(v:Value):jau (w.setCell ⟨g,k,none⟩ v) a A n c e:=h.kept (jab w g k v) (by simp;exact hne)
theorem jnh:RcDR:=by
 intro W A n c l h hn;obtain rfl:n=l.length:=h.len;have HL:Hid (l.length≤1000):=hn;have SL:=zh h;have OK0:Hid (Okay ⟨l,0⟩):=⟨h.rd.1,fun h=>absurd rfl h⟩;obtain⟨g2,hg2⟩:∃g2,g2=W.heap.size:=⟨_,rfl⟩;obtain⟨g4,hg4⟩:∃g4,g4=g2+1:=⟨_,rfl⟩;have E1:(W.alloc (.cells #[.int .i64 0,.int .i64 0,.int .i64 0,.int .i64 0,.int .i64 0,.string ⟨#[]⟩,.int .i64 0,.int .i64 0,.int .i64 0,.int .i64 0,.int .i64 0,.int .i64 0,.int .i64 0,.int .i64 0,.int .i64 0,.int .i64 0,.int .i64 0,.int .i64 0] 45)).heap.size=g4:=by rw[hg4,hg2];simp
 have X0:jau ((W.alloc (.cells #[.int .i64 0,.int .i64 0,.int .i64 0,.int .i64 0,.int .i64 0,.string ⟨#[]⟩,.int .i64 0,.int .i64 0,.int .i64 0,.int .i64 0,.int .i64 0,.int .i64 0,.int .i64 0,.int .i64 0,.int .i64 0,.int .i64 0,.int .i64 0,.int .i64 0] 45)).alloc (.cells #[.slice A l.length c,.int .i64 0] 230)) g4 A l.length c 0:=by
  have:=heap_alloc_new (W.alloc (.cells #[.int .i64 0,.int .i64 0,.int .i64 0,.int .i64 0,.int .i64 0,.string ⟨#[]⟩,.int .i64 0,.int .i64 0,.int .i64 0,.int .i64 0,.int .i64 0,.int .i64 0,.int .i64 0,.int .i64 0,.int .i64 0,.int .i64 0,.int .i64 0,.int .i64 0] 45)) (.cells #[.slice A l.length c,.int .i64 0] 230);rw[E1]at this;exact this
 have BA:=(Below.refl W.heap.size W).alloc (Nat.le_refl _) (.cells #[.int .i64 0,.int .i64 0,.int .i64 0,.int .i64 0,.int .i64 0,.string ⟨#[]⟩,.int .i64 0,.int .i64 0,.int .i64 0,.int .i64 0,.int .i64 0,.int .i64 0,.int .i64 0,.int .i64 0,.int .i64 0,.int .i64 0,.int .i64 0,.int .i64 0] 45);have BB:=(Below.refl (W.alloc (.cells #[.int .i64 0,.int .i64 0,.int .i64 0,.int .i64 0,.int .i64 0,.string ⟨#[]⟩,.int .i64 0,.int .i64 0,.int .i64 0,.int .i64 0,.int .i64 0,.int .i64 0,.int .i64 0,.int .i64 0,.int .i64 0,.int .i64 0,.int .i64 0,.int .i64 0] 45)).heap.size (W.alloc (.cells #[.int .i64 0,.int .i64 0,.int .i64 0,.int .i64 0,.int .i64 0,.string ⟨#[]⟩,.int .i64 0,.int .i64 0,.int .i64 0,.int .i64 0,.int .i64 0,.int .i64 0,.int .i64 0,.int .i64 0,.int .i64 0,.int .i64 0,.int .i64 0,.int .i64 0] 45))).alloc (Nat.le_refl _) (.cells #[.slice A l.length c,.int .i64 0] 230);have R0:RcAt ((W.alloc (.cells #[.int .i64 0,.int .i64 0,.int .i64 0,.int .i64 0,.int .i64 0,.string ⟨#[]⟩,.int .i64 0,.int .i64 0,.int .i64 0,.int .i64 0,.int .i64 0,.int .i64 0,.int .i64 0,.int .i64 0,.int .i64 0,.int .i64 0,.int .i64 0,.int .i64 0] 45)).alloc (.cells #[.slice A l.length c,.int .i64 0] 230)) g2 Rc.none_:=by
  have h1:RcAt (W.alloc (.cells #[.int .i64 0,.int .i64 0,.int .i64 0,.int .i64 0,.int .i64 0,.string ⟨#[]⟩,.int .i64 0,.int .i64 0,.int .i64 0,.int .i64 0,.int .i64 0,.int .i64 0,.int .i64 0,.int .i64 0,.int .i64 0,.int .i64 0,.int .i64 0,.int .i64 0] 45)) W.heap.size Rc.none_:=⟨heap_alloc_new W _⟩;rw[hg2];exact h1.on BB
 have BX:=BA.trans (BB.mono BA.size);have SX:((W.alloc (.cells #[.int .i64 0,.int .i64 0,.int .i64 0,.int .i64 0,.int .i64 0,.string ⟨#[]⟩,.int .i64 0,.int .i64 0,.int .i64 0,.int .i64 0,.int .i64 0,.int .i64 0,.int .i64 0,.int .i64 0,.int .i64 0,.int .i64 0,.int .i64 0,.int .i64 0] 45)).alloc (.cells #[.slice A l.length c,.int .i64 0] 230)).heap.size=g4+1:=by simp;omega
 go_enter Tryz.func101,Tryz.ntmps101;go_upto_region 3 with fail
 have EN:(W.alloc (.cells #[.int .i64 0,.int .i64 0,.int .i64 0,.int .i64 0,.int .i64 0,.string ⟨#[]⟩,.int .i64 0,.int .i64 0,.int .i64 0,.int .i64 0,.int .i64 0,.int .i64 0,.int .i64 0,.int .i64 0,.int .i64 0,.int .i64 0,.int .i64 0,.int .i64 0] 45)).heap.size=g4:=E1;simp only[World.size_alloc,←hg2,←hg4]at⊢;clear EN E1 BA BB;generalize(W.alloc (.cells #[.int .i64 0,.int .i64 0,.int .i64 0,.int .i64 0,.int .i64 0,.string ⟨#[]⟩,.int .i64 0,.int .i64 0,.int .i64 0,.int .i64 0,.int .i64 0,.int .i64 0,.int .i64 0,.int .i64 0,.int .i64 0,.int .i64 0,.int .i64 0,.int .i64 0] 45)).alloc (.cells #[.slice A l.length c,.int .i64 0] 230)=X at*;have HG2:Hid (W.heap.size≤g2∧W.heap.size≤g4∧g2≠g4∧g2<X.heap.size):=⟨by omega,by omega,by omega,by omega⟩;clear hg2 hg4 h hn;have X1:=zh X0;have R1:=zh R0;have BW0:=zh BX;have SX1:=zh SX;clear X0 R0 BX SX;go_wp2_with fail;go_loopw [5,6] (fun v i wr=>∃(k:Nat) (A2:Option Addr) (c2:Nat),i= .int .i64 k∧k≤5∧OwnI wr (g4+1) v (nI (numsV ⟨l,0⟩ k))∧jau wr g4 A2 (numsAt ⟨l,0⟩ k).l.length c2 (numsAt ⟨l,0⟩ k).e∧Sl W A2 (numsAt ⟨l,0⟩ k).l.length c2 (numsAt ⟨l,0⟩ k).l∧X.grownBy wr (some g4)) (fun _ i _=>5 -(intOf i).toNat)
 case atStart=>exact⟨0,A,c,rfl,by omega,World.ownsRow_nil _ _ _ _,X1.out,SL.out,World.grownBy.refl _ _⟩
 case round=>
  obtain⟨k,A2,c2,rfl,hk,ho,hnx,hs2,hgr⟩:=hrel;have O:=zh ho;clear ho;have NX:=zh hnx;clear hnx;have S2:=zh hs2;clear hs2;have GG:=zh hgr;clear hgr;clear X1;have BW:=zh (BW0.out.grown GG.out BW0.out.size (fun i hi=>by injection hi with hi;have:=HG2.out;omega))
  have HS:Hid (g4+1≤wr.heap.size):=by show _≤_;have:=GG.out.size;rw[SX1.out]at this;exact this
  obtain⟨f1,f2,f3,f4⟩:=NX.out.facts;by_cases hlt:k<5
  ·have NB:=zh (jdk W A2 c2 (numsAt ⟨l,0⟩ k) wr S2.out BW.out (OK0.out.numsAt k) (Nat.le_trans (jdg ⟨l,0⟩ k) (Nat.le_trans HL.out (by omega))))
   have HX:Hid (nI (numsV ⟨l,0⟩ (k+1))=nI (numsV ⟨l,0⟩ k)++[((numV (numsAt ⟨l,0⟩ k):Nat):Int)]):=jhr _ _;have HLN:Hid ((nI (numsV ⟨l,0⟩ k)).length=k):=by show _=_;rw[ja6,numsV_length]
   have HT:Hid (num (numsAt ⟨l,0⟩ k)=numsAt ⟨l,0⟩ (k+1)):=rfl;rw[HT.out]at NB;generalize numV (numsAt ⟨l,0⟩ k)=x at*;generalize(numsAt ⟨l,0⟩ k).e=e2 at*;go_wp2_with fail
   (with_reducible refine NB.out.mono ?_)
   rintro e w2 ⟨A3,c3,rfl,hs3,hb3⟩;have S3:=zh hs3;clear hs3;have NX2:=zh (NX.out.kept (jbf none hb3) (by simp));have O2:=zh (OwnI.below O.out hb3);have GG2:=zh (jaf GG.out (jbf (some g4) hb3));have HS2:=zh (Nat.le_trans HS.out hb3.size);clear hb3 f1 f2 f3 f4;obtain⟨f1,f2,f3,f4⟩:=NX2.out.facts;have gz:g4<w2.heap.size:=by have:=HS2.out;omega
   obtain⟨e3,he3⟩:∃e3,e3=(numsAt ⟨l,0⟩ (k+1)).e:=⟨_,rfl⟩;rw[←he3];obtain⟨y,hy⟩:∃y,y=(w2.setCell ⟨g4,0,none⟩ (.slice A3 (numsAt ⟨l,0⟩ (k+1)).l.length c3)).setCell ⟨g4,1,none⟩ (.int .i64 e3):=⟨_,rfl⟩;have NY:Hid (jau y g4 A3 (numsAt ⟨l,0⟩ (k+1)).l.length c3 e3):=by rw[hy];exact NX2.out.set
   have GY:Hid (X.grownBy y (some g4)):=by rw[hy];exact jaf GG2.out (jaf (jab _ _ _ _) (jab _ _ _ _))
   have OY0:=jl4 (g:=g4) O2.out (by omega) (.slice A3 (numsAt ⟨l,0⟩ (k+1)).l.length c3) (.int .i64 e3);rw[←hy]at OY0;have OY:=zh OY0;clear OY0;have SY0:y.heap.size=w2.heap.size:=by rw[hy];simp[World.setCell]
   have SY:=zh SY0;clear SY0;have HY:=zh hy;clear hy;have HE3:=zh he3;clear he3;go_wp2_with(at_builtin;rw[←HY.out];refine jcg rfl (.tmp 28) (.tmp 30) rfl (g4+1) _ _ rfl (OwnI.alloc OY.out _) _ (w2.heap.size+1) (by rw[←SY.out];simp) rfl (by rw[HLN.out];omega) (by have:=HS2.out;have:=SY.out;simp;omega) ?_;intro v5 w5 ho5 hg5;have O5:=zh ho5;have G5:=zh hg5;clear ho5 hg5);have G6:=zh (jaf (World.grownBy_alloc y _ _) G5.out);refine⟨⟨k+1,A3,c3,by go_num,by omega,by rw[HX.out];exact O5.out,?_,S3.out,?_⟩,by simp[intOf];omega⟩
   ·rw[←HE3.out]
    exact NY.out.kept G6.out (fun e2=>by have:=jap OY.out g4 e2.symm;omega)
   ·exact jcs GY.out G6.out (fun i hi=>by have:=jap OY.out i hi;rw[SX1.out];exact this)
  ·obtain rfl:k=5:=by omega
   have RX:RcAt wr g2 Rc.none_:=⟨(GG.out.block g2 HG2.out.2.2.2 (by simp;have:=HG2.out.2.2.1;omega)).trans R1.out.row⟩;have OKK:=zh (OK0.out.numsAt 5);have LK:Hid ((numsAt ⟨l,0⟩ 5).l.length≤1000):=Nat.le_trans (jdg ⟨l,0⟩ 5) HL.out;have VL:Hid ((nI (numsV ⟨l,0⟩ 5)).length=5):=by show _=_;rw[ja6,numsV_length]
   have EK1:Hid (numsAt ⟨l,0⟩ 5=Rc.k1 l):=rfl;have EV1:Hid (nI (numsV ⟨l,0⟩ 5)=Rc.v1 l):=rfl;rw[EK1.out]at NX S2 OKK LK;rw[EV1.out]at O VL;obtain⟨AL,cL,hv,hsl⟩:=OwnI.sl O.out;subst hv;rw[VL.out]at hsl;have SI:=zh hsl;have CT:=zh (jku W A2 c2 (Rc.k1 l) wr S2.out BW.out OKK.out (Nat.le_trans LK.out (by omega)));have ET:Hid (text (Rc.k1 l)=Rc.k2 l):=rfl;have ETV:Hid (txt (textV (Rc.k1 l))=Rc.t2 l):=rfl;have OK2:Hid (Okay (Rc.k2 l)):=ji7 OKK.out;have LK2:Hid ((Rc.k2 l).l.length≤1000):=Nat.le_trans (ji9 _) LK.out;rw[ET.out,ETV.out]at CT;have RX1:=zh RX;clear hsl RX O hlt hk;rw[EK1.out]at f1 f2;go_upto_region 10 with((with_reducible refine CT.out.mono ?_);rintro e w3 ⟨A3,c3,rfl,hs3,hb3⟩;have S3:=zh hs3;have SI3:=zh (SI.out.on hb3);have RX3:=zh (RX1.out.on hb3);have B3:=zh (BW.out.trans (hb3.mono BW.out.size));clear hs3 hb3)
   have N9:Hid (jau (w3.alloc (.cells #[.slice A3 (Rc.k2 l).l.length c3,.int .i64 (Rc.k2 l).e] 230)) w3.heap.size A3 (Rc.k2 l).l.length c3 (Rc.k2 l).e):=heap_alloc_new w3 _;have BN:=(Below.refl w3.heap.size w3).alloc (Nat.le_refl _) (.cells #[.slice A3 (Rc.k2 l).l.length c3,.int .i64 (Rc.k2 l).e] 230);have SI4:=zh (SI3.out.on BN);have RX4:=zh (RX3.out.on BN);have B4:=zh (B3.out.trans (BN.mono B3.out.size));have Z4:Hid (w3.heap.size<(w3.alloc (.cells #[.slice A3 (Rc.k2 l).l.length c3,.int .i64 (Rc.k2 l).e] 230)).heap.size):=N9.out.lt;obtain⟨g9,hg9⟩:∃g9,g9=w3.heap.size:=⟨_,rfl⟩;rw[←hg9]at N9 Z4⊢;have G9:Hid (W.heap.size≤g9):=by show _≤_;have:=B3.out.size;omega
   have G29:Hid (g2<g9):=by show _<_;have:=HG2.out;have:=RX3.out.cs.lt;rw[hg9];exact this
   clear BN hg9 f1 f2 f3 f4 SI SI3 RX1 RX3 B3 NX S2 GG HS;generalize w3.alloc (.cells #[.slice A3 (Rc.k2 l).l.length c3,.int .i64 (Rc.k2 l).e] 230)=w4 at*;obtain⟨b,o,hA,hb,hc⟩:=SI4.out.rd (by have:=SI4.out.len;omega);subst hA;have HB:=zh hb;have HC:=zh hc;clear hb hc;have hcap:=SI4.out.cap;have VL5:Hid ((Rc.v1 l).length=5):=VL.out;have HD:Hid (∀Wx,Below w4.heap.size w4 Wx→Wx.cell? ⟨b,o,none⟩=some (.int .i64 ((Rc.v1 l).getD 0 0))∧Wx.cell? ⟨b,o+1,none⟩=some (.int .i64 ((Rc.v1 l).getD 1 0))∧Wx.cell? ⟨b,o+2,none⟩=some (.int .i64 ((Rc.v1 l).getD 2 0))∧Wx.cell? ⟨b,o+3,none⟩=some (.int .i64 ((Rc.v1 l).getD 3 0))∧Wx.cell? ⟨b,o+4,none⟩=some (.int .i64 ((Rc.v1 l).getD 4 0))):=fun Wx hx=>by
    have hl5:=VL5.out;exact⟨(hx.cell (p:=⟨b,o,none⟩) HB.out).trans (HC.out 0 (by omega)),(hx.cell (p:=⟨b,o+1,none⟩) HB.out).trans (HC.out 1 (by omega)),(hx.cell (p:=⟨b,o+2,none⟩) HB.out).trans (HC.out 2 (by omega)),(hx.cell (p:=⟨b,o+3,none⟩) HB.out).trans (HC.out 3 (by omega)),(hx.cell (p:=⟨b,o+4,none⟩) HB.out).trans (HC.out 4 (by omega))⟩
   clear HC HB;rw[VL5.out];go_cut [11] (fun s11 wx=>∃g11,s11= .pointer (some ⟨g11,0,none⟩)∧RcAt wx g11 ⟨(Rc.v1 l).getD 0 0,(Rc.v1 l).getD 1 0,(Rc.v1 l).getD 2 0,(Rc.v1 l).getD 3 0,(Rc.v1 l).getD 4 0,Rc.t2 l,Spc.zero⟩∧w4.heap.size≤g11∧Below w4.heap.size w4 wx)
   case first=>
    refine wp_region_held_drew (S:=fun W=>Below w4.heap.size w4 W) (by kernel_rfl) (Below.refl w4.heap.size w4).drew (fun hS=> ?_);refine tY 0 hS ?_;refine tY 1 hS ?_;refine tZ 2 rfl (by intro W hW;obtain⟨e0,e1,e2,e3,e4⟩:=HD.out W hW;go_simp;(try with_reducible rfl)) hS ?_;refine tY 3 hS ?_;refine tY 4 hS ?_;refine tZ 5 rfl (by intro W hW;obtain⟨e0,e1,e2,e3,e4⟩:=HD.out W hW;go_simp;(try with_reducible rfl)) hS ?_;simp only[Act.put,zT,zO,zS];refine tY 6 hS ?_;refine tY 7 hS ?_;refine tZ 8 rfl (by intro W hW;obtain⟨e0,e1,e2,e3,e4⟩:=HD.out W hW;go_simp;(try with_reducible rfl)) hS ?_;refine tY 9 hS ?_;refine tY 10 hS ?_;refine tZ 11 rfl (by intro W hW;obtain⟨e0,e1,e2,e3,e4⟩:=HD.out W hW;go_simp;(try with_reducible rfl)) hS ?_;simp only[Act.put,zT,zO,zS];refine tY 12 hS ?_;refine tY 13 hS ?_;refine tZ 14 rfl (by intro W hW;obtain⟨e0,e1,e2,e3,e4⟩:=HD.out W hW;go_simp;(try with_reducible rfl)) hS ?_;refine tY 15 hS ?_;refine tZ 16 (v:= .agg (Rc.cells ⟨(Rc.v1 l).getD 0 0,(Rc.v1 l).getD 1 0,(Rc.v1 l).getD 2 0,(Rc.v1 l).getD 3 0,(Rc.v1 l).getD 4 0,Rc.t2 l,Spc.zero⟩)) rfl ?_ hS ?_
    ·intro W hW;go_simp;rfl
    simp only[Act.put,zT,zO,zS];refine rO 17 (fun K hK=> ?_);go_simp;have hZ:RcAt (w4.alloc (.cells #[.int .i64 0,.int .i64 0,.int .i64 0,.int .i64 0,.int .i64 0,.string ⟨#[]⟩,.int .i64 0,.int .i64 0,.int .i64 0,.int .i64 0,.int .i64 0,.int .i64 0,.int .i64 0,.int .i64 0,.int .i64 0,.int .i64 0,.int .i64 0,.int .i64 0] 45)).drew w4.heap.size Rc.none_:=⟨heap_alloc_new w4 _⟩;have hS2:Below w4.heap.size w4 (w4.alloc (.cells #[.int .i64 0,.int .i64 0,.int .i64 0,.int .i64 0,.int .i64 0,.string ⟨#[]⟩,.int .i64 0,.int .i64 0,.int .i64 0,.int .i64 0,.int .i64 0,.int .i64 0,.int .i64 0,.int .i64 0,.int .i64 0,.int .i64 0,.int .i64 0,.int .i64 0] 45)).drew:=((Below.refl w4.heap.size w4).alloc (Nat.le_refl _) _).drew;obtain⟨go,hgo⟩:∃go,go=w4.heap.size:=⟨_,rfl⟩;rw[←hgo]at hZ;rw[←hgo];generalize(w4.alloc (.cells #[.int .i64 0,.int .i64 0,.int .i64 0,.int .i64 0,.int .i64 0,.string ⟨#[]⟩,.int .i64 0,.int .i64 0,.int .i64 0,.int .i64 0,.int .i64 0,.int .i64 0,.int .i64 0,.int .i64 0,.int .i64 0,.int .i64 0,.int .i64 0,.int .i64 0] 45)).drew=W3 at hZ hS2⊢;have HZ:=zh hZ;have HGO:=zh hgo;clear hS hZ hgo;have hS:=hS2;clear hS2;refine hK.out _ _ hS (fun _=> ?_);clear hK K;try simp only[Act.put,zT,zO,zS]
    refine rO 18 (fun K hK=> ?_);refine wp_store_row 45 (.tmp 11) (.tmp 53) rfl go (Rc.cells ⟨(Rc.v1 l).getD 0 0,(Rc.v1 l).getD 1 0,(Rc.v1 l).getD 2 0,(Rc.v1 l).getD 3 0,(Rc.v1 l).getD 4 0,Rc.t2 l,Spc.zero⟩) rfl rfl 45 _ HZ.out.row (jaj _) rfl (Rc.one_cell _) ?_;have hR:RcAt (W3.setRow go (Rc.cells ⟨(Rc.v1 l).getD 0 0,(Rc.v1 l).getD 1 0,(Rc.v1 l).getD 2 0,(Rc.v1 l).getD 3 0,(Rc.v1 l).getD 4 0,Rc.t2 l,Spc.zero⟩)) go ⟨(Rc.v1 l).getD 0 0,(Rc.v1 l).getD 1 0,(Rc.v1 l).getD 2 0,(Rc.v1 l).getD 3 0,(Rc.v1 l).getD 4 0,Rc.t2 l,Spc.zero⟩:=⟨setRow_heap W3 go _ _ _ _ HZ.out.row⟩;have hS2:Below w4.heap.size w4 (W3.setRow go (Rc.cells ⟨(Rc.v1 l).getD 0 0,(Rc.v1 l).getD 1 0,(Rc.v1 l).getD 2 0,(Rc.v1 l).getD 3 0,(Rc.v1 l).getD 4 0,Rc.t2 l,Spc.zero⟩)):=below_setRow hS (Nat.le_of_eq HGO.out.symm) _;have HR:=zh hR;clear hS hR;have hS:=hS2;clear hS2;generalize W3.setRow go (Rc.cells ⟨(Rc.v1 l).getD 0 0,(Rc.v1 l).getD 1 0,(Rc.v1 l).getD 2 0,(Rc.v1 l).getD 3 0,(Rc.v1 l).getD 4 0,Rc.t2 l,Spc.zero⟩)=W4 at*;refine hK.out _ _ hS (fun _=> ?_);clear hK K;try simp only[Act.put,zT,zO,zS]
    refine wpAnyH_done (by kernel_rfl) ?_ _;go_wp2_with fail;go_meet
    case rel=>exact⟨go,rfl,HR.out,Nat.le_of_eq HGO.out.symm,hS⟩
   case rest=>
    obtain⟨g11,rfl,hr11,hge,hb11⟩:=hcut;obtain⟨kd,hkd⟩:∃kd,kd=(Rc.v1 l).getD 0 0:=⟨_,rfl⟩;obtain⟨x1,hx1⟩:∃x,x=(Rc.v1 l).getD 1 0:=⟨_,rfl⟩;obtain⟨x2,hx2⟩:∃x,x=(Rc.v1 l).getD 2 0:=⟨_,rfl⟩;obtain⟨x3,hx3⟩:∃x,x=(Rc.v1 l).getD 3 0:=⟨_,rfl⟩;obtain⟨x4,hx4⟩:∃x,x=(Rc.v1 l).getD 4 0:=⟨_,rfl⟩;have EDEC:Hid (Rc.dec l=⟨kd,x1,x2,x3,x4,Rc.t2 l,Rc.s3 l⟩):=by rw[hkd,hx1,hx2,hx3,hx4];rfl
    have EK3:Hid (Rc.k3 l=if kd=3 then list (Rc.k2 l)else Rc.k2 l):=by rw[hkd];rfl
    have ES3:Hid (Rc.s3 l=if kd=3 then(if(listV (Rc.k2 l)).length=12 then Spc.of (nI (listV (Rc.k2 l)))else Spc.zero)else Spc.zero):=by rw[hkd];rfl
    rw[←hkd,←hx1,←hx2,←hx3,←hx4]at hr11;clear hkd hx1 hx2 hx3 hx4 HD;have R11:=zh hr11;have N9c:Hid (jau wc g9 A3 (Rc.k2 l).l.length c3 (Rc.k2 l).e):=jbg N9.out hb11;have RXc:=zh (RX4.out.on hb11);have Bc:=zh (B4.out.trans (hb11.mono B4.out.size));have GE:Hid (g9<g11∧g11<wc.heap.size∧g2≠g9∧g2≠g11∧W.heap.size≤g11∧g2<w4.heap.size):=by
     have h1:=Z4.out;have h2:=hr11.cs.lt;have h3:=RX4.out.cs.lt;have h4:=BW.out.size;have h5:=G9.out;have h6:=B4.out.size;have h7:g2<g9:=G29.out;exact⟨by omega,h2,by omega,by omega,by omega,h3⟩
    clear hr11 hge hb11 N9 RX4 B4 Z4 SI4;obtain⟨q0,_,_,_,_,_,_,_,_,_,_,_,_,_,_,_,_,_,_⟩:=R11.out.cs;simp only at q0;go_upto_if 56 with fail
    clear q0;go_cut []from 12 to 68 (fun wx=>∃A9 c9,jau wx g9 A9 (Rc.k3 l).l.length c9 (Rc.k3 l).e∧Sl W A9 (Rc.k3 l).l.length c9 (Rc.k3 l).l∧RcAt wx g11 (Rc.dec l)∧RcAt wx g2 Rc.none_∧Below W.heap.size W wx)
    case first=>
     obtain⟨q0,q1,q2,q3,q4,q5,q6,q7,q8,q9,q10,q11,q12,q13,q14,q15,q16,q17,qlt⟩:=R11.out.cs;simp only at q0;by_cases hk:kd=3
     ·have hke:(kd==3)=true:=by rw[beq_iff_eq];exact hk
      rw[if_pos hk]at EK3 ES3;have CLS:=zh (jkv W A3 c3 (Rc.k2 l) wc S3.out Bc.out OK2.out (Nat.le_trans LK2.out (by omega)));unfold jng at CLS;rw[←EK3.out]at CLS;obtain⟨f1,f2,f3,f4⟩:=N9c.out.facts;clear hk;go_upto_region 13 with((with_reducible refine CLS.out.mono ?_);rintro e w5 ⟨A5,k5,D,d,rfl,hs5,hd5,hb5,hfar⟩;have S5:=zh hs5;have SD5:=zh hd5;have FAR:=zh hfar;have N95:=zh (jbg N9c.out hb5);have R115:=zh (R11.out.on hb5);have RX5:=zh (RXc.out.on hb5);have B5:=zh (Bc.out.trans (hb5.mono Bc.out.size));have Z5:=zh hb5.size;clear hs5 hd5 hb5 hfar)
      have N12:jau (w5.alloc (.cells #[.slice A5 (Rc.k3 l).l.length k5,.int .i64 (Rc.k3 l).e] 230)) w5.heap.size A5 (Rc.k3 l).l.length k5 (Rc.k3 l).e:=heap_alloc_new w5 _;have BN:=(Below.refl w5.heap.size w5).alloc (Nat.le_refl _) (.cells #[.slice A5 (Rc.k3 l).l.length k5,.int .i64 (Rc.k3 l).e] 230);have N96:Hid (jau (w5.alloc (.cells #[.slice A5 (Rc.k3 l).l.length k5,.int .i64 (Rc.k3 l).e] 230)) g9 A3 (Rc.k2 l).l.length c3 (Rc.k2 l).e):=jbg N95.out BN;have R116:=zh (R115.out.on BN);have RX6:=zh (RX5.out.on BN);have SD6:=zh (SD5.out.on BN);have B6:=zh (B5.out.trans (BN.mono B5.out.size));obtain⟨g12,hg12⟩:∃g12,g12=w5.heap.size:=⟨_,rfl⟩;rw[←hg12]at N12⊢;clear f1 f2 f3 f4 BN hg12 N95 R115 RX5 SD5 B5;generalize w5.alloc (.cells #[.slice A5 (Rc.k3 l).l.length k5,.int .i64 (Rc.k3 l).e] 230)=w6 at*;obtain⟨f1,f2,f3,f4⟩:=N96.out.facts;obtain⟨j1,j2,j3,j4⟩:=N12.facts;obtain⟨y,hy⟩:∃y,y=(w6.setCell ⟨g9,0,none⟩ (.slice A5 (Rc.k3 l).l.length k5)).setCell ⟨g9,1,none⟩ (.int .i64 (Rc.k3 l).e):=⟨_,rfl⟩;have GYS:=jaf (jab w6 g9 0 (.slice A5 (Rc.k3 l).l.length k5)) (jab _ g9 1 (.int .i64 (Rc.k3 l).e));have NY:Hid (jau y g9 A5 (Rc.k3 l).l.length k5 (Rc.k3 l).e):=by rw[hy];exact N96.out.set
      have R11y:Hid (RcAt y g11 ⟨kd,x1,x2,x3,x4,Rc.t2 l,Spc.zero⟩):=⟨by rw[hy];exact(GYS.block g11 R116.out.cs.lt (by simp;have:=GE.out;omega)).trans R116.out.row⟩;have RXy:Hid (RcAt y g2 Rc.none_):=⟨by rw[hy];exact(GYS.block g2 RX6.out.cs.lt (by simp;have:=GE.out;omega)).trans RX6.out.row⟩;have SDy:Hid (SlI y D (listV (Rc.k2 l)).length d (nI (listV (Rc.k2 l)))):=by rw[hy];exact SD6.out.apart GYS (fun a ha=>by have:=FAR.out a ha;have:=GE.out;omega)
      have By:Hid (Below W.heap.size W y):=by rw[hy];exact B6.out.grown GYS B6.out.size (fun i hi=>by injection hi with hi;have:=G9.out;omega)
      go_upto_region 14 with fail
      rw[←hy];clear f1 f2 f3 f4 j1 j2 j3 j4 GYS hy N12 N96 R116 RX6 SD6 B6;by_cases hl:(listV (Rc.k2 l)).length=12
      ·rw[if_pos hl]at ES3
       rw[hl]at SDy⊢;have CO:=zh (rof_any d D _ y SDy.out);obtain⟨gsp,hgsp⟩:∃gsp,gsp=Spc.of (nI (listV (Rc.k2 l))):=⟨_,rfl⟩;rw[←hgsp]at CO ES3;clear hgsp hl;obtain⟨pv,pd,pu,pn,pg,pa,pb,pc,pe,pw,px,pk⟩:=gsp;unfold APos Spc.val Spc.cells at CO;simp only at CO;go_wp2_with((with_reducible refine CO.out.mono ?_);rintro e w7 ⟨rfl,hb7⟩;have N7:=zh (jbg NY.out hb7);have R7:=zh (R11y.out.on hb7);have RX7:=zh (RXy.out.on hb7);have B7:=zh (By.out.trans (hb7.mono By.out.size));have Z7:=zh hb7.size;clear hb7;have hz:=fun i=>frozen_of_row w7 g11 i _ _ R7.out.row;obtain⟨q0,q1,q2,q3,q4,q5,q6,q7,q8,q9,q10,q11,q12,q13,q14,q15,q16,q17,qlt⟩:=R7.out.cs);have R7:=zh (ja1 R7.out ⟨kd,x1,x2,x3,x4,Rc.t2 l,⟨pv,0,0,0,0,0,0,0,0,0,0,0⟩⟩ 6 (.int .i64 pv) rfl);have RX7:=zh (ja2 RX7.out (g:=g11) (by have:=GE.out;omega) 6 (.int .i64 pv));have N7:=zh (jbe N7.out (g:=g11) (by have:=GE.out;omega) 6 (.int .i64 pv));have B7:=zh (B7.out.setCell (p:=⟨g11,6,none⟩) GE.out.2.2.2.2.1 (.int .i64 pv));have R7:=zh (ja1 R7.out ⟨kd,x1,x2,x3,x4,Rc.t2 l,⟨pv,pd,0,0,0,0,0,0,0,0,0,0⟩⟩ 7 (.int .i64 pd) rfl);have RX7:=zh (ja2 RX7.out (g:=g11) (by have:=GE.out;omega) 7 (.int .i64 pd));have N7:=zh (jbe N7.out (g:=g11) (by have:=GE.out;omega) 7 (.int .i64 pd));have B7:=zh (B7.out.setCell (p:=⟨g11,7,none⟩) GE.out.2.2.2.2.1 (.int .i64 pd));have R7:=zh (ja1 R7.out ⟨kd,x1,x2,x3,x4,Rc.t2 l,⟨pv,pd,pu,0,0,0,0,0,0,0,0,0⟩⟩ 8 (.int .i64 pu) rfl);have RX7:=zh (ja2 RX7.out (g:=g11) (by have:=GE.out;omega) 8 (.int .i64 pu));have N7:=zh (jbe N7.out (g:=g11) (by have:=GE.out;omega) 8 (.int .i64 pu));have B7:=zh (B7.out.setCell (p:=⟨g11,8,none⟩) GE.out.2.2.2.2.1 (.int .i64 pu));have R7:=zh (ja1 R7.out ⟨kd,x1,x2,x3,x4,Rc.t2 l,⟨pv,pd,pu,pn,0,0,0,0,0,0,0,0⟩⟩ 9 (.int .i64 pn) rfl);have RX7:=zh (ja2 RX7.out (g:=g11) (by have:=GE.out;omega) 9 (.int .i64 pn));have N7:=zh (jbe N7.out (g:=g11) (by have:=GE.out;omega) 9 (.int .i64 pn));have B7:=zh (B7.out.setCell (p:=⟨g11,9,none⟩) GE.out.2.2.2.2.1 (.int .i64 pn));have R7:=zh (ja1 R7.out ⟨kd,x1,x2,x3,x4,Rc.t2 l,⟨pv,pd,pu,pn,pg,0,0,0,0,0,0,0⟩⟩ 10 (.int .i64 pg) rfl);have RX7:=zh (ja2 RX7.out (g:=g11) (by have:=GE.out;omega) 10 (.int .i64 pg));have N7:=zh (jbe N7.out (g:=g11) (by have:=GE.out;omega) 10 (.int .i64 pg));have B7:=zh (B7.out.setCell (p:=⟨g11,10,none⟩) GE.out.2.2.2.2.1 (.int .i64 pg));have R7:=zh (ja1 R7.out ⟨kd,x1,x2,x3,x4,Rc.t2 l,⟨pv,pd,pu,pn,pg,pa,0,0,0,0,0,0⟩⟩ 11 (.int .i64 pa) rfl);have RX7:=zh (ja2 RX7.out (g:=g11) (by have:=GE.out;omega) 11 (.int .i64 pa));have N7:=zh (jbe N7.out (g:=g11) (by have:=GE.out;omega) 11 (.int .i64 pa));have B7:=zh (B7.out.setCell (p:=⟨g11,11,none⟩) GE.out.2.2.2.2.1 (.int .i64 pa));have R7:=zh (ja1 R7.out ⟨kd,x1,x2,x3,x4,Rc.t2 l,⟨pv,pd,pu,pn,pg,pa,pb,0,0,0,0,0⟩⟩ 12 (.int .i64 pb) rfl);have RX7:=zh (ja2 RX7.out (g:=g11) (by have:=GE.out;omega) 12 (.int .i64 pb));have N7:=zh (jbe N7.out (g:=g11) (by have:=GE.out;omega) 12 (.int .i64 pb));have B7:=zh (B7.out.setCell (p:=⟨g11,12,none⟩) GE.out.2.2.2.2.1 (.int .i64 pb));have R7:=zh (ja1 R7.out ⟨kd,x1,x2,x3,x4,Rc.t2 l,⟨pv,pd,pu,pn,pg,pa,pb,pc,0,0,0,0⟩⟩ 13 (.int .i64 pc) rfl);have RX7:=zh (ja2 RX7.out (g:=g11) (by have:=GE.out;omega) 13 (.int .i64 pc));have N7:=zh (jbe N7.out (g:=g11) (by have:=GE.out;omega) 13 (.int .i64 pc));have B7:=zh (B7.out.setCell (p:=⟨g11,13,none⟩) GE.out.2.2.2.2.1 (.int .i64 pc));have R7:=zh (ja1 R7.out ⟨kd,x1,x2,x3,x4,Rc.t2 l,⟨pv,pd,pu,pn,pg,pa,pb,pc,pe,0,0,0⟩⟩ 14 (.int .i64 pe) rfl);have RX7:=zh (ja2 RX7.out (g:=g11) (by have:=GE.out;omega) 14 (.int .i64 pe));have N7:=zh (jbe N7.out (g:=g11) (by have:=GE.out;omega) 14 (.int .i64 pe));have B7:=zh (B7.out.setCell (p:=⟨g11,14,none⟩) GE.out.2.2.2.2.1 (.int .i64 pe));have R7:=zh (ja1 R7.out ⟨kd,x1,x2,x3,x4,Rc.t2 l,⟨pv,pd,pu,pn,pg,pa,pb,pc,pe,pw,0,0⟩⟩ 15 (.int .i64 pw) rfl);have RX7:=zh (ja2 RX7.out (g:=g11) (by have:=GE.out;omega) 15 (.int .i64 pw));have N7:=zh (jbe N7.out (g:=g11) (by have:=GE.out;omega) 15 (.int .i64 pw));have B7:=zh (B7.out.setCell (p:=⟨g11,15,none⟩) GE.out.2.2.2.2.1 (.int .i64 pw));have R7:=zh (ja1 R7.out ⟨kd,x1,x2,x3,x4,Rc.t2 l,⟨pv,pd,pu,pn,pg,pa,pb,pc,pe,pw,px,0⟩⟩ 16 (.int .i64 px) rfl);have RX7:=zh (ja2 RX7.out (g:=g11) (by have:=GE.out;omega) 16 (.int .i64 px));have N7:=zh (jbe N7.out (g:=g11) (by have:=GE.out;omega) 16 (.int .i64 px));have B7:=zh (B7.out.setCell (p:=⟨g11,16,none⟩) GE.out.2.2.2.2.1 (.int .i64 px));have R7:=zh (ja1 R7.out ⟨kd,x1,x2,x3,x4,Rc.t2 l,⟨pv,pd,pu,pn,pg,pa,pb,pc,pe,pw,px,pk⟩⟩ 17 (.int .i64 pk) rfl);have RX7:=zh (ja2 RX7.out (g:=g11) (by have:=GE.out;omega) 17 (.int .i64 pk));have N7:=zh (jbe N7.out (g:=g11) (by have:=GE.out;omega) 17 (.int .i64 pk));have B7:=zh (B7.out.setCell (p:=⟨g11,17,none⟩) GE.out.2.2.2.2.1 (.int .i64 pk));go_meet
       case rel=>exact⟨A5,k5,N7.out,S5.out,by rw[EDEC.out,ES3.out];exact R7.out,RX7.out,B7.out⟩
      ·rw[if_neg hl]at ES3
       have hlf:(((listV (Rc.k2 l)).length:Int)==12)=false:=by rw[beq_eq_false_iff_ne];omega
       clear hl;go_wp2_with fail;go_meet
       case rel=>exact⟨A5,k5,NY.out,S5.out,by rw[EDEC.out,ES3.out];exact R11y.out,RXy.out,By.out⟩
     ·have hke:(kd==3)=false:=by rw[beq_eq_false_iff_ne];exact hk
      rw[if_neg hk]at EK3 ES3;clear hk;go_wp2_with fail;go_meet
      case rel=>exact⟨A3,c3,by rw[EK3.out];exact N9c.out,by rw[EK3.out];exact S3.out,by rw[EDEC.out,ES3.out];exact R11.out,RXc.out,Bc.out⟩
    case rest=>
     obtain⟨A9,k9,hn9,hs9,hr,hrx,hb⟩:=hcut;have N9:=zh hn9;have S9:=zh hs9;have R9:=zh hr;have RX:=zh hrx;have B9:=zh hb;clear hn9 hs9 hr hrx hb R11 N9c RXc Bc ES3 EDEC G29 GE S3;have OK3:Hid (Okay (Rc.k3 l)):=by
      show Okay _;rw[EK3.out];split
      ·exact ji8 OK2.out
      ·exact OK2.out
     have CB:=zh (fun Wx=>jkr (Rc.dec l) (Rc.dec_in l) Wx);unfold Rc.val at CB;clear EK3 OK2 LK2 OKK LK;by_cases hw:Rc.whole l
     ·have HE:Hid (endE (Rc.k3 l)=0):=Rc.whole_end hw
      have RDV:Hid (Rc.rdV l=Rc.dec l∧Rc.rdE l=0):=Rc.rd_yes hw;rw[(Rc.bytes_yes hw.1).1,(Rc.bytes_yes hw.1).2,hw.2]at CB;have hts:=jrm l;clear hw;go_upto_region 17 with(first
       |((with_reducible show zL 70);refine wpList_load_row rfl 45 (.tmp 11) rfl g11 rfl 45 _ (0,0) _ R9.out.row jad rfl (jaj (Rc.dec l)) ?_)
       |(go_at_call 47;(with_reducible refine(CB.out _).mono ?_);rintro e w8 ⟨A8,k8,rfl,hs8,hb8⟩;have S8:=zh hs8;have N8:Hid (jau w8 g9 A9 (Rc.k3 l).l.length k9 (Rc.k3 l).e):=jbg N9.out hb8;have R8:=zh (R9.out.on hb8);have RX8:=zh (RX.out.on hb8);have B8:=zh (B9.out.trans (hb8.mono B9.out.size));clear hs8 hb8))
      have CE:=zh (jdj A9 k9 (Rc.k3 l) w8 OK3.out);obtain⟨f1,f2,f3,f4⟩:=N8.out.facts;rw[HE.out]at CE
      go_wp2_with(first
       |(go_at_call 173;(with_reducible refine CE.out.mono ?_);rintro e w9 ⟨rfl,hb9⟩;have S9b:=zh (S8.out.on hb9);have S09:=zh (SL.out.on (B8.out.trans (hb9.mono B8.out.size)));have hc1:=ja8 (c:=k8) S9b.out.rd (n:=_) rfl;have hc2:=ja8 (c:=c) S09.out.rd (n:=l.length) rfl;have R89:=zh (R8.out.on hb9);have RX9:=zh (RX8.out.on hb9);have B99:=zh (B8.out.trans (hb9.mono B8.out.size));clear hb9)
       |((with_reducible show zL 89);refine wpList_load_row rfl 45 (.tmp 11) rfl g11 rfl 45 _ (0,0) _ R89.out.row jad rfl (jaj (Rc.dec l)) ?_)
       |((with_reducible show zW);refine jah rfl (.tmp 2) (.tmp 89) rfl g2 ((Rc.dec l)) _ rfl rfl RX9.out ?_))
      exact bodyPost_ret (jbt Tryz.results101 _ _ g2 (Rc.dec l) rfl ⟨setRow_heap _ g2 _ _ _ _ RX9.out.row⟩) rfl ⟨by rw[RDV.out.1,RDV.out.2];rfl,below_setRow B99.out HG2.out.1 _⟩
     ·have RDV:Hid (Rc.rdV l=Rc.none_∧Rc.rdE l=2):=Rc.rd_no hw
      by_cases hee:endE (Rc.k3 l)=0
      ·cases hr:Rc.right (Rc.dec l)with
       |false=>
        rw[(Rc.bytes_no hr).1,(Rc.bytes_no hr).2]at CB;have HE:=zh hee;clear hw hee hr;go_upto_region 17 with(first
         |((with_reducible show zL 70);refine wpList_load_row rfl 45 (.tmp 11) rfl g11 rfl 45 _ (0,0) _ R9.out.row jad rfl (jaj (Rc.dec l)) ?_)
         |(go_at_call 47;(with_reducible refine(CB.out _).mono ?_);rintro e w8 ⟨A8,k8,rfl,hs8,hb8⟩;have S8:=zh hs8;have N8:Hid (jau w8 g9 A9 (Rc.k3 l).l.length k9 (Rc.k3 l).e):=jbg N9.out hb8;have R8:=zh (R9.out.on hb8);have RX8:=zh (RX.out.on hb8);have B8:=zh (B9.out.trans (hb8.mono B9.out.size));clear hs8 hb8))
        have CE:=zh (jdj A9 k9 (Rc.k3 l) w8 OK3.out);obtain⟨f1,f2,f3,f4⟩:=N8.out.facts;rw[HE.out]at CE
        go_wp2_with(first
         |(go_at_call 173;(with_reducible refine CE.out.mono ?_);rintro e w9 ⟨rfl,hb9⟩;have S9b:=zh (S8.out.on hb9);have S09:=zh (SL.out.on (B8.out.trans (hb9.mono B8.out.size)));have hc1:=ja8 (c:=k8) S9b.out.rd (n:=_) rfl;have hc2:=ja8 (c:=c) S09.out.rd (n:=l.length) rfl;have R89:=zh (R8.out.on hb9);have RX9:=zh (RX8.out.on hb9);have B99:=zh (B8.out.trans (hb9.mono B8.out.size));clear hb9)
         |((with_reducible show zL 89);refine wpList_load_row rfl 45 (.tmp 11) rfl g11 rfl 45 _ (0,0) _ R89.out.row jad rfl (jaj (Rc.dec l)) ?_)
         |((with_reducible show zW);refine jah rfl (.tmp 2) (.tmp 88) rfl g2 (Rc.none_) _ rfl rfl RX9.out ?_))
        exact bodyPost_ret (jbt Tryz.results101 _ _ g2 Rc.none_ rfl ⟨setRow_heap _ g2 _ _ _ _ RX9.out.row⟩) rfl ⟨by rw[RDV.out.1,RDV.out.2];rfl,below_setRow B99.out HG2.out.1 _⟩
       |true=>
        have hnb:Rc.bytes (Rc.dec l)≠l:=fun h=>hw ⟨hr,h⟩;rw[(Rc.bytes_yes hr).1,(Rc.bytes_yes hr).2]at CB;have hts:((txt (Rc.bytes (Rc.dec l))).toList==(txt l).toList)=false:=by
         rw[jk0 (Rc.bytes_byte _) OK0.out.byte];exact decide_eq_false hnb
        have HE:=zh hee;clear hw hee hr hnb;generalize Rc.bytes (Rc.dec l)=bl at*;go_upto_region 17 with(first
         |((with_reducible show zL 70);refine wpList_load_row rfl 45 (.tmp 11) rfl g11 rfl 45 _ (0,0) _ R9.out.row jad rfl (jaj (Rc.dec l)) ?_)
         |(go_at_call 47;(with_reducible refine(CB.out _).mono ?_);rintro e w8 ⟨A8,k8,rfl,hs8,hb8⟩;have S8:=zh hs8;have N8:Hid (jau w8 g9 A9 (Rc.k3 l).l.length k9 (Rc.k3 l).e):=jbg N9.out hb8;have R8:=zh (R9.out.on hb8);have RX8:=zh (RX.out.on hb8);have B8:=zh (B9.out.trans (hb8.mono B9.out.size));clear hs8 hb8))
        have CE:=zh (jdj A9 k9 (Rc.k3 l) w8 OK3.out);obtain⟨f1,f2,f3,f4⟩:=N8.out.facts;rw[HE.out]at CE
        go_wp2_with(first
         |(go_at_call 173;(with_reducible refine CE.out.mono ?_);rintro e w9 ⟨rfl,hb9⟩;have S9b:=zh (S8.out.on hb9);have S09:=zh (SL.out.on (B8.out.trans (hb9.mono B8.out.size)));have hc1:=ja8 (c:=k8) S9b.out.rd (n:=_) rfl;have hc2:=ja8 (c:=c) S09.out.rd (n:=l.length) rfl;have R89:=zh (R8.out.on hb9);have RX9:=zh (RX8.out.on hb9);have B99:=zh (B8.out.trans (hb9.mono B8.out.size));clear hb9)
         |((with_reducible show zL 89);refine wpList_load_row rfl 45 (.tmp 11) rfl g11 rfl 45 _ (0,0) _ R89.out.row jad rfl (jaj (Rc.dec l)) ?_)
         |((with_reducible show zW);refine jah rfl (.tmp 2) (.tmp 88) rfl g2 (Rc.none_) _ rfl rfl RX9.out ?_))
        exact bodyPost_ret (jbt Tryz.results101 _ _ g2 Rc.none_ rfl ⟨setRow_heap _ g2 _ _ _ _ RX9.out.row⟩) rfl ⟨by rw[RDV.out.1,RDV.out.2];rfl,below_setRow B99.out HG2.out.1 _⟩
      ·have hne:(endE (Rc.k3 l) !=0)=true:=by rw[bne_iff_ne];exact hee
       clear hw hee;generalize Rc.bytesL (Rc.dec l)=bl at*;generalize Rc.bytesE (Rc.dec l)=be at*;obtain⟨ee,hee⟩:∃ee,ee=endE (Rc.k3 l):=⟨_,rfl⟩;rw[←hee]at hne;have HE:=zh hee;clear hee;go_upto_region 17 with(first
        |((with_reducible show zL 70);refine wpList_load_row rfl 45 (.tmp 11) rfl g11 rfl 45 _ (0,0) _ R9.out.row jad rfl (jaj (Rc.dec l)) ?_)
        |(go_at_call 47;(with_reducible refine(CB.out _).mono ?_);rintro e w8 ⟨A8,k8,rfl,hs8,hb8⟩;have S8:=zh hs8;have N8:Hid (jau w8 g9 A9 (Rc.k3 l).l.length k9 (Rc.k3 l).e):=jbg N9.out hb8;have R8:=zh (R9.out.on hb8);have RX8:=zh (RX.out.on hb8);have B8:=zh (B9.out.trans (hb8.mono B9.out.size));clear hs8 hb8))
       have CE:=zh (jdj A9 k9 (Rc.k3 l) w8 OK3.out);obtain⟨f1,f2,f3,f4⟩:=N8.out.facts;rw[←HE.out]at CE
       go_wp2_with(first
        |(go_at_call 173;(with_reducible refine CE.out.mono ?_);rintro e w9 ⟨rfl,hb9⟩;have S9b:=zh (S8.out.on hb9);have S09:=zh (SL.out.on (B8.out.trans (hb9.mono B8.out.size)));have hc1:=ja8 (c:=k8) S9b.out.rd (n:=_) rfl;have hc2:=ja8 (c:=c) S09.out.rd (n:=l.length) rfl;have R89:=zh (R8.out.on hb9);have RX9:=zh (RX8.out.on hb9);have B99:=zh (B8.out.trans (hb9.mono B8.out.size));clear hb9)
        |((with_reducible show zL 89);refine wpList_load_row rfl 45 (.tmp 11) rfl g11 rfl 45 _ (0,0) _ R89.out.row jad rfl (jaj (Rc.dec l)) ?_)
        |((with_reducible show zW);refine jah rfl (.tmp 2) (.tmp 88) rfl g2 (Rc.none_) _ rfl rfl RX9.out ?_))
       exact bodyPost_ret (jbt Tryz.results101 _ _ g2 Rc.none_ rfl ⟨setRow_heap _ g2 _ _ _ _ RX9.out.row⟩) rfl ⟨by rw[RDV.out.1,RDV.out.2];rfl,below_setRow B99.out HG2.out.1 _⟩
end Go.Proofs.YtabandbigckfkaaGreatDoor
