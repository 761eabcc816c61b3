import Derived.Test.YtpehidgjfcfjoaaGreatDoorQz14
import Derived.Lib.SliceRun
import Derived.WalkSpells
import Derived.ArgAppend
import Derived.Lib.ConvBytes
import Derived.Laws.BitsAllLaws
import Derived.Deep.OwnRows
set_option maxHeartbeats 6400000
set_option maxRecDepth 100000
set_option linter.unusedSimpArgs false
set_option linter.unusedVariables false
namespace Go.Proofs.YtpehidgjfcfjoaaGreatDoor
open Go.RowKit
def vals(l:List Nat):List Value:=l.map fun x=> .int .u8 ((x:Nat):Int)
theorem jaw(l:List Nat):(vals l).length=l.length:=by simp[vals]
theorem jbf(a b:List Nat):vals (a++b)=vals a++vals b:=by simp[vals]
theorem jgs{l:List Nat}{j:Nat}(h:j<l.length):(vals l)[j]? =some (.int .u8 ((l.getD j 0:Nat):Int)):=by
 rw[jal h];simp[vals,h]
theorem jlx(l:List Nat):∀u∈vals l,u.oneCell'=true:=by
 intro u hu;simp only[vals,List.mem_map]at hu;obtain⟨x,_,rfl⟩:=hu;rfl
theorem Rd.cells{w:World}{B b o:Nat}{l:List Nat}(h:Rd w B (some ⟨b,o,none⟩) l):∀j u,(vals l)[j]? =some u->w.cell? ((⟨b,o,none⟩:Addr).add j)=some u:=by
 intro j u hu;have hj:j<l.length:=by
  rcases Nat.lt_or_ge j l.length with h|h
  ·exact h
  ·rw[List.getElem?_eq_none (by rw[jaw];omega)]at hu;cases hu
 obtain⟨b',o',e,_,hc⟩:=h.2 zv;injection e with e
 injection e with e1 e2
 subst e1 e2;rw[jgs hj]at hu;rw[<-hu,<-hc j hj]
 congr 1
 unfold Addr.add;split<;>simp_all
theorem Rd.of_own{w:World}{base n c g:Nat}{e:TypeId}{l:List Nat}(h:w.ownsRow base e 1 (.slice (some ⟨g,0,none⟩) n c) n (vals l))(hl:∀x∈l,x<256):Rd w w.heap.size (some ⟨g,0,none⟩) l:=by
 have hn:n=l.length:=by have:=h.1;rw[jaw]at this;omega
 refine⟨hl,fun h0=>⟨g,0,rfl,?_,fun j hj=> ?_⟩⟩
 ·have hc:=h.cellAt 0 zv
  rw[jgs h0]at hc;exact block_lt_of_cell hc
 ·rw[Nat.zero_add,h.cellAt j zv,jgs hj]
theorem jao{P:Program}{w:World}{ops:Array Oper}{rest:List Oper}{op:Oper}{a:Act}{Q:Exit->Act->World->Prop}(hgd:op.guard=none)(s x:Operand)(t:TypeId)
  (ho:op.op= .call {callee:= .builtin .append,args:=#[s,x],argTypes:=#[t,t]})
  (base:Nat) (e:TypeId) (i:TypeInfo) (z:Value) (ht:P.underlying t=some (.slice e)) (hi:P.info? e=some i) (hz:i.zero=some z)
  (hsize:i.size=1) (hby:i.bytes=1) (hzs:z.cells.size=1)
  (v:Value) (n:Nat) (xs:List Value) (hs:a.eval s=v) (hown:w.ownsRow base e 1 v n xs)
  (B m c:Nat) (A:Option Addr) (l:List Nat) (hx:a.eval x= .slice A m c) (hr:Rd w B A l) (hm:m=l.length) (hA:A=none->c=0)
  (hnm:n+m<=140737488355328) (hbase:base<=w.heap.size)
  (h:∀v' w',w'.ownsRow base e 1 v' (n+m) (xs++vals l)->w.grownBy w' v.ownBlock->wpList P ops Q rest (a.put op.dst v') w'):wpList P ops Q (op::rest) a w:=by
 rcases A with _|ad
 ·obtain rfl:=hA rfl
  have hl:l=[]:=by
   rcases l with _|⟨x,l⟩
   ·rfl
   ·obtain⟨_,_,h0,_⟩:=hr.2 (by simp);cases h0
  subst hl;subst hm;refine wpList_append_own_none hgd s x t ho base e i 1 ht hi v n xs hs hown hx ?_;exact h v w (by simpa[vals]using hown) (World.grownBy.refl w _)
 ·have hcells:∀j u,(vals l)[j]? =some u->w.cell? (ad.add j)=some u:=by
   rcases l with _|⟨y,l⟩
   ·intro j u hu;simp[vals]at hu
   ·obtain⟨b,o,h0,_⟩:=hr.2 (by simp)
    injection h0 with h0
    subst h0;exact hr.cells
  exact wpList_append_own w hgd s x t ho base e i z 1 1 ht hi hz hsize hby hzs zv v n xs hs hown ad m c (vals l) hx (by rw[jaw];omega) hcells (jlx l) (by unfold maxLen;omega) zv hbase
   fun v' w' h2 h3 _=>h v' w' h2 h3
theorem jbz:(Tryz.prog.info? 5).map (fun i=>(i.zero,i.size,i.bytes))=some (some (.int .u8 0),1,1):=by kernel_rfl
structure Sl(w:World)(A:Option Addr)(n c:Nat)(l:List Nat):Prop where
 rd:Rd w w.heap.size A l
 len:n=l.length
 cap:n<=c
 max:c<=maxLen
 nil:A=none->c=0
section
variable{w:World}{A:Option Addr}{n c:Nat}{l:List Nat}
theorem Sl.on{w':World}(h:Sl w A n c l)(hb:Below w.heap.size w w'):Sl w' A n c l:=⟨h.rd.on hb,h.len,h.cap,h.max,h.nil⟩
theorem Sl.take(h:Sl w A n c l){k:Nat}(hk:k<=n):Sl w A k c (l.take k):=
 ⟨h.rd.take _,by rw[List.length_take,<-h.len];omega,by have:=h.cap;omega,h.max,h.nil⟩
theorem Sl.drop(h:Sl w A n c l){k:Nat}(hk:k<=n)(hc:¬c=k):Sl w (A.map (fun x=>x.add k)) (n -k) (c -k) (l.drop k):=by
 refine⟨?_,by rw[List.length_drop,<-h.len],by have:=h.cap;omega,by have:=h.max;omega,fun e=> ?_⟩
 ·have:=h.rd.drop (k:=k) (c:=c) (by rw[<-h.len];exact h.cap) (fun x=>x.add k) (fun b o=>by unfold Addr.add;split<;>simp_all)
  rwa [if_neg hc]at this
 ·rw[Option.map_eq_none_iff]at e;have:=h.nil e;omega
theorem Sl.dropAll(h:Sl w A n c l){k:Nat}(hk:k<=n)(hc:c=k):Sl w A (n -k) (c -k) (l.drop k):=by
 have hcap:=h.cap;refine⟨?_,by rw[List.length_drop,<-h.len],zv,by have:=h.max;omega,fun e=>by have:=h.nil e;omega⟩;rw[List.drop_of_length_le (by rw[<-h.len];omega)];exact Rd.empty _ _ _
theorem Sl.none_(w:World):Sl w none 0 0 []:=⟨Rd.empty _ _ _,rfl,Nat.le_refl _,Nat.zero_le _,fun _=>rfl⟩
end
theorem Sl.off{w w':World}{A:Option Addr}{n c:Nat}{row:Option Nat}{l:List Nat}(h:Sl w A n c l)(hg:w.grownBy w' row)(hr:0<l.length->∀a,A=some a->row≠some a.block):Sl w' A n c l:=
 ⟨⟨h.rd.1,fun hl=>by
  obtain⟨b,o,e,hb,hc⟩:=h.rd.2 hl;exact⟨b,o,e,Nat.lt_of_lt_of_le hb hg.size,fun j hj=>hg.cell (hc j hj) (fun e2=>hr hl _ e e2.symm)⟩⟩,h.len,h.cap,h.max,h.nil⟩
theorem Sl.block{w:World}{A:Option Addr}{n c:Nat}{l:List Nat}(h:Sl w A n c l)(hl:0<l.length):∀a,A=some a->a.block<w.heap.size:=by
 intro a ha;obtain⟨b,o,e,hb,_⟩:=h.rd.2 hl;rw[ha]at e;injection e with e;subst e;exact hb
theorem Rd.made{w:World}{t:TypeId}{cs:Array Value}{fr:Nat×Nat}(l:List Nat)(hcs:cs=(vals l).toArray)(hl:∀x∈l,x<256):Rd (w.alloc (.cells cs t fr)) (w.alloc (.cells cs t fr)).heap.size (some ⟨w.heap.size,0,none⟩) l:=by
 subst hcs;exact⟨hl,fun _=>⟨_,0,rfl,by simp,fun j hj=>by rw[cell_of_row _ _ _ _ t fr (heap_alloc_new w _),Nat.zero_add,List.getElem?_toArray,jgs hj]⟩⟩
theorem jpu{w:World}{B n c:Nat}{A:Option Addr}{l:List Nat}(h:Rd w B A l)(hn:n=l.length):
  (convert 43 9 (.slice A n c)).run Tryz.prog w= .ok (.string (txt l)) w:=by
 by_cases h0:l=[]
 ·subst h0
  subst hn;rcases A with _|ad
  ·rw[run_convert_bytes_nil w 43 5 Tryz.underlying43 Tryz.underlying5 _ _ _ Tryz.underlying9];rfl
  ·rw[run_convert_bytes_string w 43 9 5 _ _ _ Tryz.underlying43 Tryz.underlying5 Tryz.underlying9,run_bytesToString w ad _ c [] (by simp[loadCells,loadCellsFrom])];rfl
 ·obtain⟨b,o,rfl,_,hc⟩:=h.2 (List.length_pos_iff.2 h0)
  refine run_convert_bytes_arg w 43 5 Tryz.underlying43 Tryz.underlying5 b o n c _ (by simp[hn]) (fun i hi=> ?_) _ Tryz.underlying9;rw[hc i zv,jal zv,jal (by simp;omega)];simp
def OwnB(w:World)(B:Nat)(v:Value)(l:List Nat):Prop:=w.ownsRow B 5 1 v l.length (vals l)/\∀x∈l,x<256
theorem OwnB.sl{w:World}{B:Nat}{v:Value}{l:List Nat}(h:OwnB w B v l):∃A c,v= .slice A l.length c/\Sl w A l.length c l:=by
 rcases h.1.2 with⟨rfl,h0⟩|⟨g,cap,cur,rfl,_,_,h1,h2,_⟩
 ·have hl:l=[]:=by simpa using h0
  subst hl;exact⟨none,0,rfl,Sl.none_ w⟩
 ·exact⟨_,cap,rfl,Rd.of_own h.1 h.2,rfl,h1,h2,fun h=>by cases h⟩
theorem OwnB.sls{w:World}{B n c:Nat}{A:Option Addr}{l:List Nat}(h:OwnB w B (.slice A n c) l):Sl w A n c l:=by
 obtain⟨A',c',e,hs⟩:=h.sl;injection e with e1 e2 e3
 subst e1 e2 e3;exact hs
theorem zz1x{p:Prop}(h:p:=by
 rcases h.1.2 with⟨h0,_⟩|⟨g,cap,cur,h0,hb,_⟩
 ·cases h0
 ·injection h0 with h0;injection h0 with h0;subst h0;exact hb):p:=h
theorem OwnB.far{w:World}{B n c:Nat}{A:Option Addr}{v:Value}{l:List Nat}(h:OwnB w B v l)(hv:v= .slice A n c):∀a,A=some a->B<=a.block:=by
 intro a ha;subst ha;subst hv;exact zz1x
theorem OwnB.from_{w:World}{B n c:Nat}{A:Option Addr}{l:List Nat}(h:OwnB w B (.slice A n c) l):∀a,A=some a->B<=a.block:=by
 intro a ha;subst ha;exact zz1x
theorem OwnB.below{w w':World}{B:Nat}{v:Value}{l:List Nat}(h:OwnB w B v l)(hb:Below w.heap.size w w'):OwnB w' B v l:=⟨jb1 h.1 hb,h.2⟩
theorem OwnB.lower{w:World}{B B':Nat}{v:Value}{l:List Nat}(h:OwnB w B v l)(hB:B'<=B):OwnB w B' v l:=⟨jch h.1 hB,h.2⟩
theorem OwnB.none_(w:World)(B:Nat):OwnB w B (.slice none 0 0) []:=⟨World.ownsRow_nil _ _ _ _,by simp⟩
theorem OwnB.snoc{w:World}{B:Nat}{v:Value}{l:List Nat}{x:Nat}(h:w.ownsRow B 5 1 v (l.length+1) (vals l++[.int .u8 ((x:Nat):Int)]))(hl:∀y∈l,y<256)(hx:x<256):OwnB w B v (l++[x]):=by
 refine⟨?_,?_⟩
 ·rw[jbf,List.length_append];exact h
 ·intro y hy
  rcases List.mem_append.1 hy with hy|hy
  ·exact hl y hy
  ·simp at hy;omega
theorem jbb{w:World}{ops:Array Oper}{rest:List Oper}{op:Oper}{a:Act}{Q:Exit->Act->World->Prop}(hgd:op.guard=none)(s x:Operand)
  (ho:op.op= .call {callee:= .builtin .append,args:=#[s,x],argTypes:=#[43,43]})
  (base:Nat) (v:Value) (l:List Nat) (hs:a.eval s=v) (hown:OwnB w base v l) (X:Int) (y:Nat) (hX:X=(y:Int)) (hy:y<256) (hx:a.eval x= .slice (some ⟨w.heap.size,0,none⟩) 1 1)
  (hl:l.length<=3000000) (hB:base<=w.heap.size)
  (h:∀v' w',OwnB w' base v' (l++[y])->Below base w w'->wpList Tryz.prog ops Q rest (a.put op.dst v') w'):wpList Tryz.prog ops Q (op::rest) a (w.alloc (.cells #[.int .u8 X] 5)):=by
 obtain⟨i0,hi0,hz0,hz1,hz2⟩:=info_parts jbz;subst hX;refine wpList_append_own _ hgd s x 43 ho base 5 i0 (.int .u8 0) 1 1 Tryz.underlying43 hi0 hz0 hz1 hz2 rfl (by decide) v l.length (vals l) hs (hown.1.alloc _) ⟨w.heap.size,0,none⟩ 1 1 [.int .u8 (y:Int)] hx rfl ?_ ?_ (by unfold maxLen;omega) zv (by simp;omega) ?_
 ·intro j u hu
  rcases j with _|j
  ·simp at hu;subst hu
   have:((⟨w.heap.size,0,none⟩:Addr).add 0)=⟨w.heap.size,0,none⟩:=by unfold Addr.add;split<;>simp_all
   rw[this,World.cell?_alloc_at _ _ _ _ rfl];rfl
  ·simp at hu
 ·intro u hu;simp at hu;subst hu;rfl
 ·intro v' w' h1 h2 _
  exact h v' w' (OwnB.snoc h1 hown.2 hy) (((Below.refl base w).alloc hB _).grown h2 (by simp;omega) (jaz hown.1))
def jes(l:List Nat)(w:World)(e:Ending)(w':World):Prop:=
 ∃A c,e= .returned (.slice A l.length c)/\OwnB w' w.heap.size (.slice A l.length c) l/\Below w.heap.size w w'
theorem jes.mk{l:List Nat}{w w':World}{v:Value}(h:OwnB w' w.heap.size v l)(hb:Below w.heap.size w w'):jes l w (.returned v) w':=by
 obtain⟨A,c,rfl,_⟩:=h.sl;exact⟨A,c,rfl,h,hb⟩
theorem jan{w:World}{ops:Array Oper}{rest:List Oper}{op:Oper}{a:Act}{Q:Exit->Act->World->Prop}(hgd:op.guard=none)(s x:Operand)
  (ho:op.op= .call {callee:= .builtin .append,args:=#[s,x],argTypes:=#[43,43]})
  (base:Nat) (v:Value) (l1:List Nat) (hs:a.eval s=v) (hown:OwnB w base v l1) (m c:Nat) (A:Option Addr) (l:List Nat) (hx:a.eval x= .slice A m c) (hr:Sl w A m c l)
  (hlen:l1.length+l.length<=140737488355328) (hbase:base<=w.heap.size)
  (h:∀v' w',OwnB w' base v' (l1++l)->Below base w w'->wpList Tryz.prog ops Q rest (a.put op.dst v') w'):wpList Tryz.prog ops Q (op::rest) a w:=by
 obtain⟨i0,hi0,hz0,hz1,hz2⟩:=info_parts jbz;refine jao hgd s x 43 ho base 5 i0 _ Tryz.underlying43 hi0 hz0 hz1 hz2 rfl v l1.length (vals l1) hs hown.1 w.heap.size m c A l hx hr.rd hr.len hr.nil (by rw[hr.len];exact hlen) hbase ?_;intro v' w' h1 h2;refine h v' w' ⟨?_,?_⟩ ((Below.refl base w).grown h2 hbase (jaz hown.1))
 ·rw[jbf,List.length_append,<-hr.len];exact h1
 ·intro y hy
  rcases List.mem_append.1 hy with hy|hy
  ·exact hown.2 y hy
  ·exact hr.rd.1 y hy
theorem sl_two(w:World)(x y:Nat)(hx:x<256)(hy:y<256)(X Y:Int)(e1:X=(x:Int))(e2:Y=(y:Int)):Sl (w.alloc (.cells #[.int .u8 X,.int .u8 Y] 5)) (some ⟨w.heap.size,0,none⟩) 2 2 [x,y]:=by
 subst e1 e2;exact⟨Rd.made [x,y] rfl (by intro z hz;simp at hz;omega),rfl,Nat.le_refl _,by unfold maxLen;omega,fun h=>by cases h⟩
theorem jc8(n c:Nat)(A:Option Addr)(l:List Nat)(w:World)(h:Sl w A n c l)(hl:n<=1000000000):
  Calls Tryz.prog 47 #[.slice A n c] w (jes l w):=by
 have H:=zh h;have hnil:=fun(w:World) (a:Option Addr) (n c:Nat)=>Lib.run_eql_slice_nil (P:=Tryz.prog) w 43 5 a n c 0 0 Tryz.underlying43;rcases A with _|ad
 ·obtain rfl:=h.nil rfl
  have hn:n=0:=by have:=h.cap;omega
  subst hn;have hl0:l=[]:=by have:=h.len;exact List.eq_nil_of_length_eq_zero this.symm
  subst hl0;clear h;go_in;go_wp2;go_ret;exact jes.mk (OwnB.none_ _ _) (Below.refl _ _)
 ·have O1:Hid (OwnB (w.alloc (.cells #[] 5)) w.heap.size (.slice (some ⟨w.heap.size,0,none⟩) 0 0) []):=⟨World.ownsRow_made w #[] 0 (Nat.le_refl _) (Nat.zero_le _) rfl,by simp⟩
  have HB:=zh ((Below.refl w.heap.size w).alloc (Nat.le_refl _) (.cells #[] 5));have HL:Hid (([]:List Nat).length+l.length<=140737488355328):=by show _<=_;rw[<-h.len];simp;omega
  have hs0:(w.alloc (.cells #[] 5)).heap.size=w.heap.size+1:=by simp
  have HS:=zh hs0;clear h hs0 hl;go_in;go_wp2_with(at_builtin;refine jan rfl (.tmp 5) (.tmp 6) rfl w.heap.size _ [] rfl O1.out n c _ l rfl (H.out.on HB.out) HL.out (by rw[HS.out];omega) ?_;intro v2 w2 hown2 hb2;have O2:=zh hown2;have B2:=zh hb2;clear hown2 hb2);go_ret;exact jes.mk O2.out (HB.out.trans B2.out)
def OwnC(w:World)(v:Value)(l:List Nat):Prop:=
 (∀x∈l,x<256)/\((v= .slice none 0 0/\l=[])\/
  ∃g cap cur,v= .slice (some ⟨g,0,none⟩) l.length cap/\w.heap[g]? =some (.cells cur 5 (0,0))/\l.length<=cap/\cap<=maxLen/\cap<=cur.size/\cur.toList.take l.length=vals l)
theorem OwnC.none_(w:World):OwnC w (.slice none 0 0) []:=⟨by simp,.inl ⟨rfl,rfl⟩⟩
theorem OwnC.of_own{w:World}{B:Nat}{v:Value}{l:List Nat}(h:OwnB w B v l):OwnC w v l:=by
 refine⟨h.2,?_⟩;rcases h.1.2 with⟨h1,h2⟩|⟨g,cap,cur,h1,_,h2,h3,h4,h5,h6⟩
 ·exact .inl ⟨h1,List.eq_nil_of_length_eq_zero h2⟩
 ·rw[Nat.mul_one]at h5 h6
  exact .inr ⟨g,cap,cur,h1,h2,h3,h4,zv,h6⟩
theorem OwnC.lt{w:World}{v:Value}{l:List Nat}(h:OwnC w v l):∀k,v.ownBlock=some k->k<w.heap.size:=by
 intro k hk;rcases h.2 with⟨rfl,_⟩|⟨g,cap,cur,rfl,h2,_⟩
 ·cases hk
 ·injection hk with hk;subst hk;exact(Array.getElem?_eq_some_iff.1 h2).1
theorem OwnC.keep{w w':World}{v:Value}{l:List Nat}(h:OwnC w v l)(hk:∀k,v.ownBlock=some k->w'.heap[k]? =w.heap[k]?):OwnC w' v l:=by
 refine⟨h.1,?_⟩;rcases h.2 with h2|⟨g,cap,cur,rfl,h2,h3⟩
 ·exact .inl h2
 ·exact .inr ⟨g,cap,cur,rfl,(hk g rfl).trans h2,h3⟩
theorem OwnC.sl{w:World}{v:Value}{l:List Nat}(h:OwnC w v l):∃A c,v= .slice A l.length c/\Sl w A l.length c l:=by
 rcases h.2 with⟨rfl,rfl⟩|⟨g,cap,cur,rfl,h2,h3,h4,h5,h6⟩
 ·exact⟨none,0,rfl,Sl.none_ w⟩
 ·refine⟨_,cap,rfl,⟨⟨h.1,fun h0=>⟨g,0,rfl,(Array.getElem?_eq_some_iff.1 h2).1,fun j hj=> ?_⟩⟩,rfl,h3,h4,fun h=>by cases h⟩⟩
  rw[cell_of_row w g (0+j) _ _ _ h2,Nat.zero_add,<-jgs hj,<-h6,List.getElem?_take,if_pos hj];simp
theorem OwnC.cut{w:World}{A:Option Addr}{n c:Nat}{l:List Nat}(h:OwnC w (.slice A n c) l)(k:Nat)(hk:k<=n):OwnC w (.slice A k k) (l.take k):=by
 refine⟨fun x hx=>h.1 x (List.mem_of_mem_take hx),?_⟩;rcases h.2 with⟨h1,rfl⟩|⟨g,cap,cur,h1,h2,h3,h4,h5,h6⟩
 ·injection h1 with h1 h2 h3
  obtain rfl:k=0:=by omega
  exact .inl ⟨by rw[h1],rfl⟩
 ·injection h1 with h1 h7 h8
  subst h1 h7 h8;have e:(l.take k).length=k:=by rw[List.length_take];omega
  refine .inr ⟨g,k,cur,by rw[e],h2,zv,zv,zv,?_⟩;rw[e];have:=congrArg (List.take k) h6;rw[List.take_take,Nat.min_eq_left hk]at this;rw[this];simp[vals,List.map_take]
theorem je8{w:World}{ops:Array Oper}{rest:List Oper}{op:Oper}{a:Act}{Q:Exit->Act->World->Prop}(hgd:op.guard=none)(s x:Operand)
  (ho:op.op= .call {callee:= .builtin .append,args:=#[s,x],argTypes:=#[43,43]})
  (v:Value) (l1:List Nat) (hs:a.eval s=v) (hown:OwnC w v l1) (m c:Nat) (A:Option Addr) (l:List Nat) (hx:a.eval x= .slice A m c) (hr:Sl w A m c l)
  (hlen:l1.length+l.length<=140737488355328)
  (h:∀v' w',OwnC w' v' (l1++l)->(v'.ownBlock=v.ownBlock\/∃k,v'.ownBlock=some k/\w.heap.size<=k)->w.grownBy w' v.ownBlock->wpList Tryz.prog ops Q rest (a.put op.dst v') w'):wpList Tryz.prog ops Q (op::rest) a w:=by
 obtain⟨i0,hi0,hz0,hz1,hz2⟩:=info_parts jbz;have hby:∀y∈l1++l,y<256:=by
  intro y hy;rcases List.mem_append.1 hy with hy|hy
  ·exact hown.1 y hy
  ·exact hr.rd.1 y hy
 rcases hown.2 with⟨rfl,rfl⟩|⟨g,cap,cur,rfl,h2,h3,h4,h5,h6⟩
 ·refine jan hgd s x ho w.heap.size _ [] hs (OwnB.none_ _ _) m c A l hx hr hlen (Nat.le_refl _) ?_
  intro v' w' h1 h2;refine h v' w' (OwnC.of_own h1) ?_ (jf5 _ h2);rcases h1.1.2 with⟨rfl,_⟩|⟨g,cap,cur,rfl,hg,_⟩
  ·exact .inl rfl
  ·exact .inr ⟨g,rfl,hg⟩
 ·obtain rfl:=hr.len
  rcases A with _|ad
  ·obtain rfl:=hr.nil rfl
   have hl:l=[]:=List.eq_nil_of_length_eq_zero (by have:=hr.cap;omega);subst hl;refine wpList_plain hgd fun K hK=> ?_;have hrun:(Builtin.append_ #[43,43] op.type #[.slice (some ⟨g,0,none⟩) l1.length cap,.slice none 0 0]).run Tryz.prog w= .ok (.slice (some ⟨g,0,none⟩) l1.length cap) w:=by
    simp[Builtin.append_,run_underlying Tryz.underlying43,sizeOf,typeInfo,hi0,Builtin.lenOf,Builtin.firstCells,h3,storeCells]
   unfold Oper.wp;simp only[List.length_nil]at hx;simp[execOp,ho,resolve,invoke,builtin,hs,hx,hrun,Result.andThen];exact hK _ _ (h _ w (by rw[List.append_nil];exact hown) (.inl rfl) (World.grownBy.refl _ _))
  ·have hcells:∀j u,(vals l)[j]? =some u->w.cell? (ad.add j)=some u:=by
    rcases l with _|⟨y,l⟩
    ·intro j u hu;simp[vals]at hu
    ·obtain⟨b,o,h0,_⟩:=hr.rd.2 (by simp)
     injection h0 with h0
     subst h0;exact hr.rd.cells
   by_cases hroom:l1.length+l.length<=cap
   ·refine wpList_plain hgd fun K hK=> ?_
    have hrun:=run_append_room (P:=Tryz.prog) w 43 op.type 5 i0 Tryz.underlying43 hi0 g l1.length cap cur h2 ad l.length c (vals l) (by rw[jaw,hz1,Nat.mul_one]) hcells (jlx l) hroom (by rw[hz1,jaw];omega);unfold Oper.wp;simp[execOp,ho,resolve,invoke,builtin,hs,hx,hrun,Result.andThen];refine hK _ _ (h _ _ ⟨hby,.inr ⟨g,cap,_,by rw[List.length_append],setRow_heap w g cur _ _ _ h2,by rw[List.length_append];omega,h4,?_,?_⟩⟩ (.inl rfl) ⟨rfl,rfl,rfl,by simp[World.setRow],fun k _ hk=>setRow_other w g k _ (fun e=>hk (by simp[e,Value.ownBlock]))⟩)
    ·simp only[List.size_toArray,List.length_append,List.length_take,List.length_drop,Array.length_toList,hz1,Nat.mul_one,jaw]
     omega
    ·rw[hz1,Nat.mul_one,h6,List.length_append,show l1.length+l.length=(vals l1++vals l).length from by rw[List.length_append,jaw,jaw],jbf]
     show List.take _ (vals l1++(vals l++_))=_;rw[<-List.append_assoc];exact List.take_left
   ·refine wpList_plain hgd fun K hK=> ?_
    obtain⟨v',w',hrun,r1,r2⟩:=run_append_arg_grows (P:=Tryz.prog) w 43 op.type 5 i0 _ 1 1 Tryz.underlying43 hi0 hz0 hz1 hz2 rfl zv ⟨g,0,none⟩ l1.length cap (vals l1) (by rw[jaw];omega)
     (fun j u hj=>by
      have hjl:j<l1.length:=by
       rcases Nat.lt_or_ge j l1.length with h|h
       ·exact h
       ·rw[List.getElem?_eq_none (by rw[jaw];omega)]at hj;cases hj
      rw[Addr.add_lit,cell_of_row w g (0+j) _ _ _ h2,Nat.zero_add,<-hj,<-h6,List.getElem?_take,if_pos hjl];simp)
     ad l.length c (vals l) (by rw[jaw];omega) hcells zv (by unfold maxLen;omega) zv
    unfold Oper.wp;simp[execOp,ho,resolve,invoke,builtin,hs,hx,hrun,Result.andThen];have r3:OwnB w' w.heap.size v' (l1++l):=⟨by rw[jbf,List.length_append];exact r1,hby⟩;refine hK _ _ (h v' w' (OwnC.of_own r3) ?_ ⟨r2.os,r2.tape,r2.output,r2.size,fun k hk _=>r2.block k hk (by simp)⟩);rcases r1.2 with⟨rfl,h0⟩|⟨g',cap',cur',rfl,hg,_⟩
    ·omega
    ·exact .inr ⟨g',rfl,hg⟩
namespace Dk
structure St where
 room:Nat
 safe:Nat
 l:List Nat
def fits(n:Int):Nat:=(max 0 (min n 1048576)).toNat
def new(n:Int):St:=⟨fits n,0,[]⟩
def Okay(d:St):Prop:=d.safe<=d.l.length/\d.l.length<=d.room/\d.room<=1048576
def goes(d:St)(b:List Nat):Prop:=d.l.length+b.length<=d.room
instance (d:St) (b:List Nat):Decidable (goes d b):=by unfold goes;infer_instance
def write(d:St)(b:List Nat):St:=if goes d b then⟨d.room,d.safe,d.l++b⟩else d
def writeE(d:St)(b:List Nat):Int:=if goes d b then 0 else 4
def opens(d:St):Nat:=d.l.length -d.safe
def sync(d:St):St:=⟨d.room,d.l.length,d.l⟩
def leave(d:St)(n:Nat):St:=⟨d.room,n,d.l.take n⟩
def kept(d:St)(keep:Int):Nat:=(max 0 (min keep (opens d:Nat))).toNat
def crash(d:St)(keep:Int):St:=leave d (d.safe+kept d keep)
def lost(d:St)(keep:Int):Nat:=opens d -kept d keep
def within(d:St)(n:Int):Prop:=0<=n/\n<=(d.l.length:Nat)
instance (d:St) (n:Int):Decidable (within d n):=by unfold within;infer_instance
def cut(d:St)(n:Int):St:=if within d n then leave d n.toNat else d
def cutE(d:St)(n:Int):Int:=if within d n then 0 else 1
def swap(d:St)(b:List Nat):St:=if b.length<=d.room then⟨d.room,b.length,b⟩else d
def swapE(d:St)(b:List Nat):Int:=if b.length<=d.room then 0 else 4
theorem fits_le(n:Int):fits n<=1048576:=by unfold fits;omega
theorem Okay.new(n:Int):Okay (new n):=⟨Nat.le_refl _,Nat.zero_le _,fits_le n⟩
theorem Okay.write{d:St}(h:Okay d)(b:List Nat):Okay (write d b):=by
 unfold Dk.write;split
 ·rename_i h1
  unfold goes at h1;exact⟨by simp;have:=h.1;omega,by simp;omega,h.2.2⟩
 ·exact h
theorem Okay.sync{d:St}(h:Okay d):Okay (sync d):=⟨Nat.le_refl _,h.2⟩
theorem Okay.leave{d:St}(h:Okay d){n:Nat}(hn:n<=d.l.length):Okay (leave d n):=by
 have h1:=h.2.1;refine⟨?_,?_,h.2.2⟩
 ·show n<=(d.l.take n).length;rw[List.length_take];omega
 ·show(d.l.take n).length<=d.room;rw[List.length_take];omega
theorem kept_le(d:St)(keep:Int):kept d keep<=opens d:=by unfold kept;omega
theorem Okay.swap{d:St}(h:Okay d)(b:List Nat):Okay (swap d b):=by
 unfold Dk.swap;split
 ·rename_i h1;exact⟨Nat.le_refl _,h1,h.2.2⟩
 ·exact h
end Dk
structure Dsk(w:World)(r:Nat)(v:Value)(d:Dk.St):Prop where
 blk:w.heap[r]? =some (.cells #[.int .i64 (d.room:Nat),.int .i64 (d.safe:Nat),v] 112 (0,0))
 own:OwnC w v d.l
 off:v.ownBlock≠some r
 okay:Dk.Okay d
def foot(r:Nat)(v:Value)(i:Nat):Prop:=i=r\/v.ownBlock=some i
theorem Dsk.lt{w:World}{r:Nat}{v:Value}{d:Dk.St}(h:Dsk w r v d):∀i,foot r v i->i<w.heap.size:=by
 rintro i (rfl|hi)
 ·exact(Array.getElem?_eq_some_iff.1 h.blk).1
 ·exact h.own.lt _ hi
theorem Dsk.keep{w w':World}{r:Nat}{v:Value}{d:Dk.St}(h:Dsk w r v d)(hk:∀i,foot r v i->w'.heap[i]? =w.heap[i]?):Dsk w' r v d:=
 ⟨(hk r (.inl rfl)).trans h.blk,h.own.keep fun k hk2=>hk k (.inr hk2),h.off,h.okay⟩
theorem Dsk.below{w w':World}{r:Nat}{v:Value}{d:Dk.St}(h:Dsk w r v d)(hb:Below w.heap.size w w'):Dsk w' r v d:=h.keep fun i hi=>hb.block i (h.lt i hi)
theorem Dsk.facts{w:World}{r:Nat}{v:Value}{d:Dk.St}(h:Dsk w r v d):
  w.cell? ⟨r,0,none⟩=some (.int .i64 (d.room:Nat))/\w.cell? ⟨r,1,none⟩=some (.int .i64 (d.safe:Nat))/\w.cell? ⟨r,2,none⟩=some v/\w.frozen? ⟨r,1,none⟩=false/\w.frozen? ⟨r,2,none⟩=false:=
 ⟨by rw[cell_of_row w r 0 _ _ _ h.blk];rfl,by rw[cell_of_row w r 1 _ _ _ h.blk];rfl,by rw[cell_of_row w r 2 _ _ _ h.blk];rfl,frozen_of_row w r 1 _ _ h.blk,frozen_of_row w r 2 _ _ h.blk⟩
def jc3(w:World)(r:Nat)(v:Value)(d:Dk.St)(x:Value)(e:Ending)(w':World):Prop:=
 e= .returned x/\∃v',Dsk w' r v' d/\(∀i,v'.ownBlock=some i->v.ownBlock=some i\/w.heap.size<=i)/\Kept (foot r v) w w'
def je9(w:World)(x:Value)(e:Ending)(w':World):Prop:=e= .returned x/\Below w.heap.size w w'
theorem jjc(w:World)(r:Nat)(v:Value)(d:Dk.St)(h:Dsk w r v d):
  Calls Tryz.prog 133 #[.pointer (some ⟨r,0,none⟩)] w (je9 w (.int .i64 (Dk.opens d:Nat))):=by
 obtain⟨c0,c1,c2,f1,f2⟩:=h.facts;obtain⟨A,c,rfl,hs⟩:=h.own.sl;have hok:=h.okay;have HO:Hid (Dk.opens d=d.l.length -d.safe):=rfl;unfold Dk.Okay at hok;clear h hs c0 f1 f2;generalize d.l.length=n at*;generalize d.safe=s at*;go_in;go_wp2_with fail;go_quiet (fail);go_wp2;go_ret;exact⟨jcf (by rw[HO.out];omega),Below.drewN (Below.refl _ _) _⟩
theorem jjd(w:World)(r:Nat)(v:Value)(d:Dk.St)(h:Dsk w r v d):
  Calls Tryz.prog 132 #[.pointer (some ⟨r,0,none⟩)] w (je9 w (.int .i64 (d.room -d.l.length:Nat))):=by
 obtain⟨c0,c1,c2,f1,f2⟩:=h.facts;obtain⟨A,c,rfl,hs⟩:=h.own.sl;have hok:=h.okay;unfold Dk.Okay at hok;clear h hs c1 f1 f2;generalize d.l.length=n at*;generalize d.room=s at*;go_in;go_wp2_with fail;go_quiet (fail);go_wp2;go_ret;exact⟨jcf zv,Below.drewN (Below.refl _ _) _⟩
theorem jti(w:World)(r:Nat)(v:Value)(d:Dk.St)(h:Dsk w r v d):
  Calls Tryz.prog 76 #[.pointer (some ⟨r,0,none⟩)] w (je9 w (.int .i64 (d.l.length:Nat))):=by
 obtain⟨c0,c1,c2,f1,f2⟩:=h.facts;obtain⟨A,c,rfl,hs⟩:=h.own.sl;clear h hs c1 c0 f1 f2;generalize d.l.length=n at*;go_in;go_wp2;go_ret;exact⟨rfl,Below.refl _ _⟩
theorem jpv(w:World)(r:Nat)(v:Value)(d:Dk.St)(h:Dsk w r v d):
  Calls Tryz.prog 73 #[.pointer (some ⟨r,0,none⟩)] w (je9 w (.int .i64 (d.safe:Nat))):=by
 obtain⟨c0,c1,c2,f1,f2⟩:=h.facts;clear h c2 c0 f1 f2;generalize d.safe=n at*;go_in;go_wp2;go_ret;exact⟨rfl,Below.refl _ _⟩
theorem jtj(w:World)(r:Nat)(v:Value)(d:Dk.St)(h:Dsk w r v d):
  Calls Tryz.prog 21 #[.pointer (some ⟨r,0,none⟩)] w (jes d.l w):=by
 obtain⟨c0,c1,c2,f1,f2⟩:=h.facts;obtain⟨A,c,rfl,hs⟩:=h.own.sl;have hok:=h.okay;unfold Dk.Okay at hok;have HC:=zh (jc8 d.l.length c A d.l w hs zv);clear h hs c1 c0 f1 f2 hok;go_in;go_wp2_with fail
 (with_reducible refine HC.out.mono ?_)
 rintro e w1 ⟨A1,c1,rfl,ho,hb⟩;have O:=zh ho;clear ho;have B:=zh hb;clear hb;go_wp2;go_ret;exact⟨A1,c1,rfl,O.out,B.out⟩
def NPost(n:Int)(w:World)(e:Ending)(w':World):Prop:=∃r,e= .returned (.pointer (some ⟨r,0,none⟩))/\w.heap.size<=r/\Dsk w' r (.slice none 0 0) (Dk.new n)/\Below w.heap.size w w'
theorem jkx(n lo hi:Int)(w:World):
  Calls Tryz.prog 92 #[.int .i64 n,.int .i64 lo,.int .i64 hi] w fun e w'=>e= .returned (.int .i64 (max lo (min n hi)))/\w=w':=by
 go_in;go_wp2_with fail
 all_goals (go_ret;exact⟨jcf zv,rfl⟩)
theorem jtk(n:Int)(w:World):
  Calls Tryz.prog 48 #[.int .i64 n] w fun e w'=>e= .returned (.int .i64 (Dk.fits n:Nat))/\w=w':=by
 have HF:Hid ((Dk.fits n:Nat)=max 0 (min n 1048576)):=by show _=_;unfold Dk.fits;omega
 go_in;go_wp2_with fail;refine(jkx n 0 1048576 w).mono ?_;rintro e w' ⟨rfl,rfl⟩;go_wp2;go_ret;exact⟨jcf HF.out.symm,rfl⟩
theorem jtl(n:Int)(w:World):Calls Tryz.prog 22 #[.int .i64 n] w (NPost n w):=by
 have HO:=zh (Dk.Okay.new n);have HC:=zh (jtk n w);have HF:Hid (Dk.new n=⟨Dk.fits n,0,[]⟩):=rfl;generalize Dk.fits n=m at*;go_in;go_wp2_with fail;refine HC.out.mono ?_;rintro e w' ⟨rfl,rfl⟩;go_wp2;go_ret;refine⟨w.heap.size,rfl,Nat.le_refl _,⟨?_,?_,by simp[Value.ownBlock],HO.out⟩,(Below.refl _ _).alloc (Nat.le_refl _) _⟩
 ·rw[HF.out];exact heap_alloc_new w _
 ·rw[HF.out];exact OwnC.none_ _
theorem jhb(w:World)(r o:Nat)(u:Value)(k:Nat)(h:k≠r):(w.setCell ⟨r,o,none⟩ u).heap[k]? =w.heap[k]? :=Below.heap_setCell _ _ _ _ (by simpa using h)
theorem OwnC.set{w:World}{v:Value}{l:List Nat}{r o:Nat}{u:Value}(h:OwnC w v l)(hr:v.ownBlock≠some r):OwnC (w.setCell ⟨r,o,none⟩ u) v l:=
 h.keep fun k hk=>jhb _ _ _ _ _ (fun e=>hr (by rw[hk,e]))
theorem jhl(w:World)(r n:Nat)(v:Value)(d:Dk.St)(h:Dsk w r v d)(hn:n<=d.l.length):
  Calls Tryz.prog 134 #[.pointer (some ⟨r,0,none⟩),.int .i64 (n:Nat)] w (jc3 w r v (Dk.leave d n) (.tuple #[])):=by
 obtain⟨c0,c1,c2,f1,f2⟩:=h.facts;obtain⟨A,c,rfl,hs⟩:=h.own.sl;have hok:=h.okay;have hcap:=hs.cap;have hmax:=hs.max;unfold maxLen at hmax;have HOC:=h.own.cut n hn;have HR:Hid ((Value.slice A n n).ownBlock≠some r):=by
  have:=h.off
  cases A<;>exact this
 have D1:=heap_setCell_same w r 2 _ _ (.slice A n n) h.blk;have D2:=heap_setCell_same (w.setCell ⟨r,2,none⟩ (.slice A n n)) r 1 _ _ (.int .i64 (n:Nat)) D1;have HD:Hid (Dsk ((w.setCell ⟨r,2,none⟩ (.slice A n n)).setCell ⟨r,1,none⟩ (.int .i64 (n:Nat))) r (.slice A n n) (Dk.leave d n)):=
  ⟨by rw[D2];rfl,(HOC.set HR.out).set HR.out,HR.out,hok.leave hn⟩
 clear D1 D2 HOC h hs;generalize d.l.length=m at*;go_in;go_wp2;go_end0;refine⟨rfl,_,HD.out,fun i hi=> .inl ?_,Kept.of_grown (row:=some r) (jam (jad _ _ _ _) (jad _ _ _ _)) (fun k hk=> .inl (by injection hk with hk;exact hk.symm))⟩
 cases A<;>exact hi
theorem jc3.of_safe{w:World}{r:Nat}{v:Value}{d d':Dk.St}(h:Dsk w r v d)(x:Value)(n:Nat)(e:d'=⟨d.room,n,d.l⟩)(hok:Dk.Okay d'):jc3 w r v d' x (.returned x) (w.setCell ⟨r,1,none⟩ (.int .i64 (n:Nat))):=by
 subst e;have D1:=heap_setCell_same w r 1 _ _ (.int .i64 (n:Nat)) h.blk;exact⟨rfl,v,⟨by rw[D1];rfl,h.own.set h.off,h.off,hok⟩,fun i hi=> .inl hi,Kept.of_grown (row:=some r) (jad _ _ _ _) (fun k hk=> .inl (by injection hk with hk;exact hk.symm))⟩
theorem jc3.before{w w1:World}{r:Nat}{v:Value}{d:Dk.St}{x:Value}{e:Ending}{w':World}(h:jc3 w1 r v d x e w')(hb:Below w.heap.size w w1):jc3 w r v d x e w':=by
 obtain⟨rfl,v',h1,h2,h3⟩:=h;refine⟨rfl,v',h1,fun i hi=> ?_,(Kept.of_below hb).trans h3 fun i _ h=>h⟩;rcases h2 i hi with h4|h4
 ·exact .inl h4
 ·exact .inr (Nat.le_trans hb.size h4)
theorem jc3.behind{w w1 w':World}{r:Nat}{v:Value}{d:Dk.St}{x y:Value}{e:Ending}(h:jc3 w r v d x e w1)(hb:Below w1.heap.size w1 w'):jc3 w r v d y (.returned y) w':=by
 obtain⟨rfl,v',h1,h2,h3⟩:=h;exact⟨rfl,v',h1.below hb,h2,h3.trans (Kept.of_below hb) fun i _ h=>h⟩
theorem jpw(w:World)(r:Nat)(v:Value)(d:Dk.St)(h:Dsk w r v d):
  Calls Tryz.prog 74 #[.pointer (some ⟨r,0,none⟩)] w (jc3 w r v (Dk.sync d) (.int .i64 (Dk.opens d:Nat))):=by
 have HD:=zh h;have HC:=zh (jjc w r v d h);have HS:Hid (Dk.sync d=⟨d.room,d.l.length,d.l⟩):=rfl;have HK:=zh h.okay.sync;clear h;generalize Dk.opens d=m at*;go_in;go_wp2_with fail;refine HC.out.mono ?_;rintro e w1 ⟨rfl,hb⟩;have B:=zh hb;have D1:=HD.out.below hb;have HD1:=zh D1;obtain⟨c0,c1,c2,f1,f2⟩:=D1.facts;obtain⟨A,c,rfl,hs⟩:=D1.own.sl;clear hb D1 hs;go_wp2;go_ret;exact(jc3.of_safe HD1.out (.int .i64 (m:Nat)) d.l.length HS.out HK.out).before B.out
theorem jnd(w:World)(r:Nat)(keep:Int)(v:Value)(d:Dk.St)(h:Dsk w r v d)(hk: -9223372036854775808<=keep/\keep<=9223372036854775807):
  Calls Tryz.prog 75 #[.pointer (some ⟨r,0,none⟩),.int .i64 keep] w (jc3 w r v (Dk.crash d keep) (.int .i64 (Dk.lost d keep:Nat))):=by
 have HD:=zh h;have HC:=zh (fun W h=>jjc W r v d h);have HS:Hid (Dk.crash d keep=Dk.leave d (d.safe+Dk.kept d keep)):=rfl;have HL:Hid (Dk.lost d keep=Dk.opens d -Dk.kept d keep):=rfl;have hok:=h.okay;have hm:max 0 (min keep (Dk.opens d:Nat))=(Dk.kept d keep:Nat):=by unfold Dk.kept;omega
 have hle:=Dk.kept_le d keep;have hop:Dk.opens d=d.l.length -d.safe:=rfl;unfold Dk.Okay at hok;have HV:=zh (fun W h (hn:d.safe+Dk.kept d keep<=d.l.length)=>jhl W r (d.safe+Dk.kept d keep) v d h hn);have HN:Hid (d.safe+Dk.kept d keep<=d.l.length):=by show _<=_;omega
 have hb1:Dk.opens d<=1048576/\d.safe+Dk.kept d keep<=1048576:=by omega
 clear h hop hok;generalize Dk.opens d=m at*;generalize Dk.kept d keep=k at*;go_in;go_wp2_with fail;refine(HC.out _ HD.out).mono ?_;rintro e w1 ⟨rfl,hb⟩;have B:=zh hb;have HD1:=zh (HD.out.below hb);clear hb;go_wp2_with fail;refine(HC.out _ HD1.out).mono ?_;rintro e w2 ⟨rfl,hb⟩;have B2:=zh (B.out.trans (hb.mono B.out.size));have HD2:=zh (HD1.out.below hb);obtain⟨c0,c1,c2,f1,f2⟩:=HD2.out.facts;clear hb c0 c2 f1 f2;go_wp2_with fail;have e1:(d.safe:Int)+(k:Int)=((d.safe+k:Nat):Int):=by omega
 rw[e1]
 (with_reducible refine(HV.out _ HD2.out HN.out).mono ?_)
 rintro e w3 hp;obtain rfl:=hp.1;have P:=zh (hp.before B2.out);clear hp e1;go_wp2;go_ret;rw[HS.out,HL.out];have e2:(m:Int) -(k:Int)=((m -k:Nat):Int):=by omega
 rw[e2];exact P.out.behind (Below.refl _ _)
theorem jtm(w:World)(r:Nat)(n:Int)(v:Value)(d:Dk.St)(h:Dsk w r v d)(hn: -9223372036854775808<=n/\n<=9223372036854775807):
  Calls Tryz.prog 94 #[.pointer (some ⟨r,0,none⟩),.int .i64 n] w (jc3 w r v (Dk.cut d n) (.int .i64 (Dk.cutE d n))):=by
 have HD:=zh h;obtain⟨c0,c1,c2,f1,f2⟩:=h.facts;obtain⟨A,c,rfl,hs⟩:=h.own.sl;have HQ:Hid (Dk.cut d n=if Dk.within d n then Dk.leave d n.toNat else d):=rfl;have HE:Hid (Dk.cutE d n=if Dk.within d n then 0 else 1):=rfl;by_cases hw:Dk.within d n
 ·rw[if_pos hw]at HQ HE
  unfold Dk.within at hw;obtain⟨k,rfl⟩:∃k:Nat,n=(k:Int):=⟨n.toNat,zv⟩;have HV:=zh (jhl w r k (.slice A d.l.length c) d h zv);rw[Int.toNat_natCast]at HQ;clear h hs c0 c1 f1 f2;generalize d.l.length=m at*;have t1:¬(m:Int)<k:=by omega
  go_in;go_wp2_with fail;refine HV.out.mono ?_;rintro e w1 hp;obtain rfl:=hp.1;have P:=zh hp;clear hp;go_wp2;go_ret;rw[HQ.out,HE.out];exact P.out.behind (Below.refl _ _)
 ·rw[if_neg hw]at HQ HE
  unfold Dk.within at hw;clear h hs c0 c1 f1 f2;generalize d.l.length=m at*;have hor:n<0\/(m:Int)<n:=by omega
  rcases hor with hor|hor
  all_goals
   go_in;go_wp2;go_ret;rw[HQ.out,HE.out];exact⟨rfl,_,HD.out,fun i hi=> .inl hi,Kept.refl _ _⟩
theorem jne(w:World)(r n c:Nat)(A:Option Addr)(b:List Nat)(v:Value)(d:Dk.St)(h:Dsk w r v d)(hs:Sl w A n c b):
  Calls Tryz.prog 71 #[.pointer (some ⟨r,0,none⟩),.slice A n c] w (jc3 w r v (Dk.write d b) (.int .i64 (Dk.writeE d b))):=by
 have HD:=zh h;have HS:=zh hs;have HC:=zh (jjd w r v d h);have HQ:Hid (Dk.write d b=if Dk.goes d b then⟨d.room,d.safe,d.l++b⟩else d):=rfl;have HE:Hid (Dk.writeE d b=if Dk.goes d b then 0 else 4):=rfl;have hlen:=hs.len;have hok:=h.okay;unfold Dk.Okay at hok;by_cases hw:Dk.goes d b
 ·have HW:=zh (h.okay.write b)
  rw[if_pos hw]at HQ HE;unfold Dk.goes at hw;have t1:n<=d.room -d.l.length:=by omega
  have HL:Hid (d.l.length+b.length<=140737488355328):=by show _<=_;omega
  clear h hs hlen hok hw;generalize d.room -d.l.length=q at*;go_in;go_wp2_with fail;refine HC.out.mono ?_;rintro e w1 ⟨rfl,hb⟩;have B:=zh hb;have D1:=HD.out.below hb;have HD1:=zh D1;have S1:=zh (HS.out.on hb);obtain⟨c0,c1,c2,f1,f2⟩:=D1.facts;clear hb D1 c0 c1 f1;go_wp2_with(at_builtin;refine je8 rfl (.tmp 16) (.tmp 17) rfl v d.l rfl HD1.out.own n c A b rfl S1.out HL.out ?_;intro v2 w2 hown2 hor2 hg2;obtain⟨A2,cc2,rfl,_⟩:=hown2.sl;have hown3:OwnC w2 (.slice A2 (d.l.length+b.length) cc2) (d.l++b):=(by rw[<-List.length_append];exact hown2);have O2:=zh hown3;have R2:=zh hor2;have G2:=zh hg2;have hb2:w2.heap[r]? =w1.heap[r]? :=hg2.block r (HD1.out.lt r (.inl rfl)) (fun e=>HD1.out.off e.symm);have X2:=zh (hb2.trans HD1.out.blk);have f22:w2.frozen? ⟨r,2,none⟩=false:=frozen_of_row w2 r 2 _ _ X2.out;have c22:w2.cell? ⟨r,2,none⟩=some v:=by{rw[cell_of_row w2 r 2 _ _ _ X2.out];rfl};clear hown2 hown3 hor2 hg2 hb2);go_ret;have D3:=heap_setCell_same w2 r 2 _ _ (.slice A2 (d.l.length+b.length) cc2) X2.out;have hoff:(Value.slice A2 (d.l.length+b.length) cc2).ownBlock≠some r:=by
   have e0:(Value.slice A2 (d.l.length+b.length) cc2).ownBlock=(Value.slice A2 (d.l++b).length cc2).ownBlock:=by rw[List.length_append]
   rw[e0];rcases R2.out with e|⟨k,e,hk⟩
   ·rw[e];exact HD1.out.off
   ·rw[e];intro e2;injection e2 with e2;have:=HD1.out.lt r (.inl rfl);omega
  rw[HQ.out,HE.out];rw[HQ.out]at HW;refine jc3.before ⟨rfl,_,⟨by rw[D3];rfl,O2.out.set hoff,hoff,HW.out⟩,fun i hi=> ?_,?_⟩ B.out
  ·rw[<-List.length_append]at hi
   rcases R2.out with e|⟨k,e,hk⟩
   ·exact .inl (by rw[<-e];exact hi)
   ·rw[e]at hi;injection hi with hi;exact .inr zv
  ·refine(Kept.of_grown (F:=foot r v) G2.out fun k hk=> .inr hk).trans (G:=foot r v) (Kept.of_grown (row:=some r) (jad _ _ _ _) fun k hk=> .inl (by injection hk with hk;exact hk.symm)) fun i _ h=>h
 ·rw[if_neg hw]at HQ HE
  unfold Dk.goes at hw;have t1:d.room -d.l.length<n:=by omega
  clear h hs hlen hok hw;generalize d.room -d.l.length=q at*;go_in;go_wp2_with fail;refine HC.out.mono ?_;rintro e w1 ⟨rfl,hb⟩;have B:=zh hb;have HD1:=zh (HD.out.below hb);clear hb;go_wp2;go_ret;rw[HQ.out,HE.out];exact⟨rfl,v,HD1.out,fun i hi=> .inl hi,Kept.of_below B.out⟩
theorem jje(w:World)(r n c:Nat)(A:Option Addr)(b:List Nat)(v:Value)(d:Dk.St)(h:Dsk w r v d)(hs:Sl w A n c b):
  Calls Tryz.prog 23 #[.pointer (some ⟨r,0,none⟩),.slice A n c] w (jc3 w r v (Dk.swap d b) (.int .i64 (Dk.swapE d b))):=by
 have HD:=zh h;obtain⟨c0,c1,c2,f1,f2⟩:=h.facts;have HQ:Hid (Dk.swap d b=if b.length<=d.room then⟨d.room,b.length,b⟩else d):=rfl;have HE:Hid (Dk.swapE d b=if b.length<=d.room then 0 else 4):=rfl;have hlen:=hs.len;by_cases hw:b.length<=d.room
 ·have HW:=zh (h.okay.swap b)
  have hok:=h.okay;unfold Dk.Okay at hok;have HC:=zh (jc8 n c A b w hs zv);clear hok;rw[if_pos hw]at HQ HE;have t1:n<=d.room:=by omega
  have HL:=zh hlen;clear h hs hlen hw c1 c2 f1 f2;generalize hrm:d.room=q at*;have RM:=zh hrm;clear hrm;go_in;go_wp2_with fail
  (with_reducible refine HC.out.mono ?_)
  rintro e w1 ⟨A1,cc,rfl,ho,hb⟩;have B:=zh hb;have O:=zh ho;have D1:=zh (HD.out.below hb);obtain⟨c0,c1,c2,f1,f2⟩:=D1.out.facts;have X2:=heap_setCell_same w1 r 2 _ _ (.slice A1 b.length cc) D1.out.blk;have HX2:=zh X2;have c12:(w1.setCell ⟨r,2,none⟩ (.slice A1 b.length cc)).cell? ⟨r,1,none⟩=some (.int .i64 (d.safe:Nat)):=by rw[cell_of_row _ r 1 _ _ _ X2];rfl
  have f12:(w1.setCell ⟨r,2,none⟩ (.slice A1 b.length cc)).frozen? ⟨r,1,none⟩=false:=frozen_of_row _ r 1 _ _ X2;clear hb ho X2 c0 c1 f1;go_wp2;go_ret;have D3:=heap_setCell_same (w1.setCell ⟨r,2,none⟩ (.slice A1 b.length cc)) r 1 _ _ (.int .i64 (b.length:Nat)) HX2.out;have hfr:∀k,(Value.slice A1 b.length cc).ownBlock=some k->w.heap.size<=k:=by
   intro k hk;rcases A1 with _|a
   ·cases hk
   ·injection hk with hk;subst hk;exact O.out.from_ a rfl
  have hoff:(Value.slice A1 b.length cc).ownBlock≠some r:=fun e=>by have:=hfr r e;have:=HD.out.lt r (.inl rfl);omega
  rw[HQ.out,HE.out];rw[HQ.out]at HW;rw[HL.out];refine⟨rfl,_,⟨by rw[D3,<-RM.out];rfl,((OwnC.of_own O.out).set hoff).set hoff,hoff,HW.out⟩,fun i hi=> .inr (hfr i hi),?_⟩;refine(Kept.of_below (F:=foot r v) B.out).trans (G:=foot r v) (Kept.of_grown (row:=some r) (jam (jad _ _ _ _) (jad _ _ _ _)) fun k hk=> .inl (by injection hk with hk;exact hk.symm)) fun i _ h=>h
 ·rw[if_neg hw]at HQ HE
  have t1:d.room<n:=by omega
  clear h hs hlen hw c1 c2 f1 f2;generalize d.room=q at*;go_in;go_wp2;go_ret;rw[HQ.out,HE.out];exact⟨rfl,v,HD.out,fun i hi=> .inl hi,Kept.refl _ _⟩
def DskB(w:World)(B r:Nat)(d:Dk.St):Prop:=∃v,Dsk w r v d/\∀i,foot r v i->B<=i
def jtn(w0:World)(r:Nat)(d:Dk.St)(x:Value)(e:Ending)(w':World):Prop:=e= .returned x/\DskB w' w0.heap.size r d/\Below w0.heap.size w0 w'
theorem jtn.mk{w0 W:World}{r:Nat}{v:Value}{d:Dk.St}{x:Value}{e:Ending}{w':World}(h:jc3 W r v d x e w')(hb:Below w0.heap.size w0 W)(hv:∀i,foot r v i->w0.heap.size<=i):jtn w0 r d x e w':=by
 obtain⟨rfl,v',h1,h2,h3⟩:=h;refine⟨rfl,⟨v',h1,?_⟩,hb.trans (h3.below hb.size hv)⟩;rintro i (rfl|hi)
 ·exact hv _ (.inl rfl)
 ·rcases h2 i hi with h4|h4
  ·exact hv i (.inr h4)
  ·exact Nat.le_trans hb.size h4
section
variable{w0:World}(W:World){r:Nat}{d:Dk.St}(hb:Below w0.heap.size w0 W)(hd:DskB W w0.heap.size r d)
include hb hd
theorem jto{n c:Nat}{A:Option Addr}{b:List Nat}(hs:Sl W A n c b):Calls Tryz.prog 23 #[.pointer (some ⟨r,0,none⟩),.slice A n c] W (jtn w0 r (Dk.swap d b) (.int .i64 (Dk.swapE d b))):=by
 obtain⟨v,h1,h2⟩:=hd;exact(jje W r n c A b v d h1 hs).mono fun _ _ h=>jtn.mk h hb h2
end
def NewPost(w0:World)(d:Dk.St)(W:World)(e:Ending)(w':World):Prop:=∃r,e= .returned (.pointer (some ⟨r,0,none⟩))/\W.heap.size<=r/\DskB w' W.heap.size r d/\Below w0.heap.size w0 w'/\Below W.heap.size W w'
theorem dNew_at{w0:World}(W:World)(n:Int)(hb:Below w0.heap.size w0 W):Calls Tryz.prog 22 #[.int .i64 n] W (NewPost w0 (Dk.new n) W):=by
 refine(jtl n W).mono ?_;rintro e w' ⟨r,rfl,h1,h2,h3⟩;refine⟨r,rfl,h1,⟨_,h2,?_⟩,hb.trans (h3.mono hb.size),h3⟩;rintro i (rfl|hi)
 ·exact h1
 ·cases hi
theorem jky(W:World)(o:Obj):Below W.heap.size W (W.alloc o):=(Below.refl _ _).alloc (Nat.le_refl _) o
theorem jly{W:World}{g:Nat}{x y z:Value}{t:TypeId}(h:W.heap[g]? =some (.cells #[x,y,z] t (0,0))):W.cell? ⟨g,0,none⟩=some x/\W.cell? ⟨g,1,none⟩=some y/\W.cell? ⟨g,2,none⟩=some z:=
 ⟨by rw[cell_of_row W g 0 _ _ _ h];rfl,by rw[cell_of_row W g 1 _ _ _ h];rfl,by rw[cell_of_row W g 2 _ _ _ h];rfl⟩
theorem jf0{W:World}{g:Nat}{x y z:Value}{t:TypeId}(h:W.heap[g]? =some (.cells #[x,y,z] t (0,0))):
  W.cell? ⟨g,0,none⟩=some x/\W.cell? ⟨g,1,none⟩=some y/\W.cell? ⟨g,2,none⟩=some z/\W.frozen? ⟨g,0,none⟩=false/\W.frozen? ⟨g,1,none⟩=false/\W.frozen? ⟨g,2,none⟩=false:=
 ⟨by rw[cell_of_row W g 0 _ _ _ h];rfl,by rw[cell_of_row W g 1 _ _ _ h];rfl,by rw[cell_of_row W g 2 _ _ _ h];rfl,frozen_of_row W g 0 _ _ h,frozen_of_row W g 1 _ _ h,frozen_of_row W g 2 _ _ h⟩
theorem jjf{W:World}{g:Nat}{x y z:Value}{t:TypeId}(h:W.heap[g]? =some (.cells #[x,y,z] t (0,0)))(x' y' z':Value):
  (((W.setCell ⟨g,0,none⟩ x').setCell ⟨g,1,none⟩ y').setCell ⟨g,2,none⟩ z').heap[g]? =some (.cells #[x',y',z'] t (0,0)):=by
 have h1:=heap_setCell_same W g 0 _ _ x' h;have h2:=heap_setCell_same _ g 1 _ _ y' h1;exact heap_setCell_same _ g 2 _ _ z' h2
theorem jhm(W:World)(g:Nat)(x y z:Value):W.grownBy (((W.setCell ⟨g,0,none⟩ x).setCell ⟨g,1,none⟩ y).setCell ⟨g,2,none⟩ z) (some g):=
 jam (jam (jad _ _ _ _) (jad _ _ _ _)) (jad _ _ _ _)
def jpx(R:Int)(A B:ByteArray)(x:Int)(w:World)(e:Ending)(w':World):Prop:=e= .returned (.tuple #[.agg #[.int .i64 R,.string A,.string B],.int .i64 x])/\Below w.heap.size w w'
theorem jet(w:World)(o1 o2:Obj):Below w.heap.size w ((w.alloc o1).alloc o2):=((Below.refl _ _).alloc (Nat.le_refl _) o1).alloc (by simp) o2
theorem jtp(n:Int)(w:World):
  Calls Tryz.prog 38 #[.int .i64 n] w fun e w'=>e= .returned (.agg #[.int .i64 (Dk.fits n:Nat),.string ⟨#[]⟩,.string ⟨#[]⟩])/\Below w.heap.size w w':=by
 have hf:min (max n 0) 1048576=(Dk.fits n:Nat):=by unfold Dk.fits;omega
 generalize Dk.fits n=q at*;go_in;go_wp2_with fail;exact bodyPost_ret (v:= .agg #[.int .i64 (q:Nat),.string ⟨#[]⟩,.string ⟨#[]⟩]) (by simp[results,Tryz.results38,go_sem]) rfl ⟨rfl,(Below.refl _ _).alloc (Nat.le_refl _) _⟩
theorem jnf(R:Int)(A B L:ByteArray)(w:World)(h:A.size+B.size<=1000000000)(hL:L.size<=1000000000):
  Calls Tryz.prog 91 #[.agg #[.int .i64 R,.string A,.string B],.string L] w (jpx R A (if(A.size:Int)+B.size+L.size<=R then B++L else B) (if(A.size:Int)+B.size+L.size<=R then 0 else 4) w):=by
 by_cases hg:(A.size:Int)+B.size+L.size<=R
 ·rw[if_pos hg,if_pos hg]
  go_in;go_wp2_with fail;exact bodyPost_ret (v:= .tuple #[.agg #[.int .i64 R,.string A,.string (B++L)],.int .i64 0]) (by simp[results,Tryz.results91,go_sem]) rfl ⟨rfl,jet _ _ _⟩
 ·rw[if_neg hg,if_neg hg]
  go_in;go_wp2_with fail;exact bodyPost_ret (v:= .tuple #[.agg #[.int .i64 R,.string A,.string B],.int .i64 4]) (by simp[results,Tryz.results91,go_sem]) rfl ⟨rfl,jet _ _ _⟩
theorem jpy(R:Int)(A B:ByteArray)(w:World)(h:A.size+B.size<=1000000000):
  Calls Tryz.prog 46 #[.agg #[.int .i64 R,.string A,.string B]] w (jpx R (A++B) ⟨#[]⟩ (B.size:Nat) w):=by
 go_in;go_wp2_with fail;exact bodyPost_ret (v:= .tuple #[.agg #[.int .i64 R,.string (A++B),.string ⟨#[]⟩],.int .i64 (B.size:Nat)]) (by simp[results,Tryz.results46,go_sem]) rfl ⟨rfl,jet _ _ _⟩
def tA(d:Dk.St):ByteArray:=txt (d.l.take d.safe)
def tB(d:Dk.St):ByteArray:=txt (d.l.drop d.safe)
theorem tA_size{d:Dk.St}(h:Dk.Okay d):(tA d).size=d.safe:=by unfold tA;rw[jbl,List.length_take];have:=h.1;omega
theorem jpz(d:Dk.St):(tB d).size=Dk.opens d:=by unfold tB;rw[jbl,List.length_drop];rfl
theorem tAB(d:Dk.St):tA d++tB d=txt d.l:=by unfold tA tB;rw[je0,List.take_append_drop]
theorem jp0{d:Dk.St}(h:Dk.Okay d):(tA d).size+(tB d).size=d.l.length/\(tA d).size+(tB d).size<=1000000000:=by
 rw[tA_size h,jpz];have h1:=h.1;have h2:=h.2.1;have h3:=h.2.2;unfold Dk.opens;omega
def jkz(d:Dk.St)(x:Int)(w:World)(e:Ending)(w':World):Prop:=e= .returned (.tuple #[.agg #[.int .i64 (d.room:Nat),.string (tA d),.string (tB d)],.int .i64 x])/\Below w.heap.size w w'
theorem jkz.of{d:Dk.St}{R:Int}{A B:ByteArray}{x y:Int}{w:World}{e:Ending}{w':World}(h:jpx R A B x w e w')(h1:R=(d.room:Nat))(h2:A=tA d)(h3:B=tB d)(h4:x=y):jkz d y w e w':=by
 subst h1 h2 h3 h4;exact h
theorem qWrite{d:Dk.St}(h:Dk.Okay d)(b:List Nat)(hb:b.length<=1000000000)(w:World):
  Calls Tryz.prog 91 #[.agg #[.int .i64 (d.room:Nat),.string (tA d),.string (tB d)],.string (txt b)] w (jkz (Dk.write d b) (Dk.writeE d b) w):=by
 obtain⟨h1,h2⟩:=jp0 h;have hs:(txt b).size=b.length:=jbl b;refine(jnf (d.room:Nat) (tA d) (tB d) (txt b) w h2 zv).mono fun e w' hp=> ?_;by_cases hg:Dk.goes d b
 ·have hc:((tA d).size:Int)+(tB d).size+(txt b).size<=(d.room:Nat):=by unfold Dk.goes at hg;omega
  rw[if_pos hc,if_pos hc]at hp;unfold Dk.write Dk.writeE;rw[if_pos hg,if_pos hg];have hsl:=h.1;refine jkz.of hp rfl ?_ ?_ rfl
  ·unfold tA;simp only;rw[List.take_append_of_le_length hsl]
  ·unfold tB;simp only;rw[List.drop_append_of_le_length hsl,je0]
 ·have hc:¬((tA d).size:Int)+(tB d).size+(txt b).size<=(d.room:Nat):=by unfold Dk.goes at hg;omega
  rw[if_neg hc,if_neg hc]at hp;unfold Dk.write Dk.writeE;rw[if_neg hg,if_neg hg];exact hp
theorem jtq(R:Nat)(l:List Nat)(n:Nat)(hn:n=l.length):tA ⟨R,n,l⟩=txt l/\tB ⟨R,n,l⟩=⟨#[]⟩:=by
 subst hn;unfold tA tB;simp only;rw[List.take_length,List.drop_length];exact⟨rfl,rfl⟩
theorem qSync{d:Dk.St}(h:Dk.Okay d)(w:World):
  Calls Tryz.prog 46 #[.agg #[.int .i64 (d.room:Nat),.string (tA d),.string (tB d)]] w (jkz (Dk.sync d) (Dk.opens d:Nat) w):=by
 obtain⟨h1,h2⟩:=jp0 h;refine(jpy (d.room:Nat) (tA d) (tB d) w h2).mono fun e w' hp=> ?_;obtain⟨t1,t2⟩:=jtq d.room d.l d.l.length rfl;exact jkz.of hp rfl ((tAB d).trans t1.symm) t2.symm (by rw[jpz])
end Go.Proofs.YtpehidgjfcfjoaaGreatDoor
namespace Go.Proofs.YtpehidgjfcfjoaaGreatDoor.Crc
def mv1(w:Nat):Nat:=if w%2=1 then(w/2)^^^3988292384 else w/2
def mvN:Nat->Nat->Nat
 |0,w=>w
 |k+1,w=>mv1 (mvN k w)
def mv8(w:Nat):Nat:=mvN 8 w
def step(w x:Nat):Nat:=mv8 (w^^^x)
def crc(w:Nat)(l:List Nat):Nat:=l.foldl step w
def more(s:Nat)(l:List Nat):Nat:=4294967295 -crc (4294967295 -s) l
def sum(l:List Nat):Nat:=more 0 l
theorem xor_lt{a b:Nat}(ha:a<4294967296)(hb:b<4294967296):a^^^b<4294967296:=
 Nat.xor_lt_two_pow (n:=32) ha hb
theorem mv1_lt{w:Nat}(h:w<4294967296):mv1 w<4294967296:=by
 unfold mv1;split
 ·exact xor_lt zv zv
 ·omega
theorem mvN_lt{w:Nat}(h:w<4294967296)(k:Nat):mvN k w<4294967296:=by
 induction k with
 |zero=>exact h
 |succ k ih=>exact mv1_lt ih
theorem mv8_lt{w:Nat}(h:w<4294967296):mv8 w<4294967296:=mvN_lt h 8
theorem xor_mod_two(a b:Nat):(a^^^b)%2=(a%2+b%2)%2:=by
 have h:(a^^^b).testBit 0=(a.testBit 0^^b.testBit 0):=Nat.testBit_xor ..;simp only[Nat.testBit_zero]at h;have ha:=Nat.mod_two_eq_zero_or_one a;have hb:=Nat.mod_two_eq_zero_or_one b;have hc:=Nat.mod_two_eq_zero_or_one (a^^^b);rcases ha with ha|ha<;>rcases hb with hb|hb<;>rcases hc with hc|hc<;>simp_all
theorem xor_div_two(a b:Nat):(a^^^b)/2=(a/2)^^^(b/2):=by
 apply Nat.eq_of_testBit_eq;intro i;rw[Nat.testBit_xor,<-Nat.testBit_succ,<-Nat.testBit_succ,<-Nat.testBit_succ,Nat.testBit_xor]
theorem mv1_xor(a b:Nat):mv1 (a^^^b)=mv1 a^^^mv1 b:=by
 unfold mv1;rw[xor_mod_two,xor_div_two];rcases Nat.mod_two_eq_zero_or_one a with ha|ha<;>rcases Nat.mod_two_eq_zero_or_one b with hb|hb<;>rw[ha,hb]<;>simp
 ·rw[Nat.xor_assoc]
 ·rw[Nat.xor_assoc,Nat.xor_assoc,Nat.xor_comm (b/2)]
 ·rw[Nat.xor_comm (b/2),Nat.xor_assoc,<-Nat.xor_assoc 3988292384,Nat.xor_self,Nat.zero_xor]
theorem mvN_xor(k a b:Nat):mvN k (a^^^b)=mvN k a^^^mvN k b:=by
 induction k with
 |zero=>rfl
 |succ k ih=>show mv1 (mvN k (a^^^b))=_;rw[ih,mv1_xor];rfl
theorem mv8_xor(a b:Nat):mv8 (a^^^b)=mv8 a^^^mv8 b:=mvN_xor 8 a b
theorem mvN_up(k h:Nat):mvN k (2^k*h)=h:=by
 induction k generalizing h with
 |zero=>simp[mvN]
 |succ k ih=>
  show mv1 (mvN k (2^(k+1)*h))=h;rw[Nat.pow_succ,Nat.mul_assoc,ih];unfold mv1;rw[if_neg zv];omega
theorem split256(w:Nat):w=(256*(w/256))^^^(w%256):=by
 apply Nat.eq_of_testBit_eq;intro i;rw[Nat.testBit_xor,show(256:Nat)=2^8 from rfl,Nat.testBit_two_pow_mul,Nat.testBit_mod_two_pow,Nat.testBit_div_two_pow];by_cases h:8<=i
 ·simp[h,Nat.not_lt.2 h]
 ·simp[h,Nat.lt_of_not_le h]
theorem step_eq(w x:Nat):step w x=(w/256)^^^mv8 ((w%256)^^^x):=by
 unfold step
 conv=>lhs;rw[split256 w]
 rw[Nat.xor_assoc,mv8_xor]
 congr 1
 exact mvN_up 8 (w/256)
theorem step_lt{w x:Nat}(hw:w<4294967296)(hx:x<256):step w x<4294967296:=mv8_lt (xor_lt hw zv)
theorem crc_lt{w:Nat}{l:List Nat}(hw:w<4294967296)(hl:∀x∈l,x<256):crc w l<4294967296:=by
 induction l generalizing w with
 |nil=>exact hw
 |cons x l ih=>exact ih (step_lt hw (hl x (by simp))) (fun y hy=>hl y (by simp[hy]))
theorem crc_append(w:Nat)(a b:List Nat):crc w (a++b)=crc (crc w a) b:=List.foldl_append ..
theorem more_lt(s:Nat)(l:List Nat):more s l<4294967296:=by unfold more;omega
theorem sum_lt(l:List Nat):sum l<4294967296:=more_lt 0 l
theorem more_nil{s:Nat}(hs:s<4294967296):more s []=s:=by show 4294967295 -(4294967295 -s)=s;omega
theorem eff_put:∀j,j<8->∀r,r<2^j->mv8 (2^j+r)=mv8 (2^j)^^^mv8 r:=by
 have h:∀j,j<8->∀r,r<2^j->2^j+r=2^j^^^r:=by decide+kernel
 intro j hj r hr;rw[h j hj r hr,mv8_xor]
theorem not_xor{a:Nat}(ha:a<4294967296):4294967295 -a=4294967295^^^a:=by
 have h:2^32 -(a+1)=(2^32 -1)^^^a:=by
  apply Nat.eq_of_testBit_eq;intro i;rw[Nat.testBit_two_pow_sub_succ zv,Nat.testBit_xor,Nat.testBit_two_pow_sub_one];by_cases hi:i<32
  ·simp[hi]
  ·have:a.testBit i=false:=Nat.testBit_lt_two_pow (Nat.lt_of_lt_of_le ha (Nat.pow_le_pow_right zv (Nat.le_of_not_lt hi):2^32<=2^i))
   simp[hi,this]
 rw[show(4294967295:Nat)=2^32 -1 from rfl,<-h];omega
end Go.Proofs.YtpehidgjfcfjoaaGreatDoor.Crc
namespace Go.Proofs.YtpehidgjfcfjoaaGreatDoor
open Go.RowKit
theorem odd_of(m:Nat)(hm:m<4294967296):bits .and .u32 (m:Int) 1=((m%2:Nat):Int):=by
 rw[show(1:Int)=((1:Nat):Int)from rfl,u32_and_nat m 1 hm zv,nat_mask1]
theorem mv1_odd(m:Nat)(hm:m<4294967296)(h:(bits .and .u32 (m:Int) 1==1)=true):bits .xor .u32 ((m:Int)/2) 3988292384=((Crc.mv1 m:Nat):Int):=by
 rw[odd_of m hm,beq_iff_eq]at h;unfold Crc.mv1;rw[if_pos zv,show(m:Int)/2=((m/2:Nat):Int)from rfl,show(3988292384:Int)=((3988292384:Nat):Int)from rfl,u32_xor_nat _ _ zv zv]
theorem jtr(m:Nat)(hm:m<4294967296)(h:(bits .and .u32 (m:Int) 1==1)=false):(m:Int)/2=((Crc.mv1 m:Nat):Int):=by
 rw[odd_of m hm,beq_eq_false_iff_ne]at h;unfold Crc.mv1;rw[if_neg zv];rfl
theorem jjg(n:Nat)(w:World)(hn:n<4294967296):
  Calls Tryz.prog 275 #[.int .u32 n] w fun e w'=>e= .returned (.int .u32 (Crc.mv8 n))/\w=w':=by
 go_in;go_wp2;go_loop [0,4] (fun v i=>∃k:Nat,k<=8/\i= .int .i64 k/\v= .int .u32 (Crc.mvN k n)) (fun _ i=>8 -(intOf i).toNat)
 case atStart=>exact⟨0,zv,rfl,rfl⟩
 case round=>
  obtain⟨k,hk,rfl,rfl⟩:=hrel;have hm:=Crc.mvN_lt hn k;go_wp2
  ·have h1:(k:Int)<8:=by assumption
   have h2:(bits BinOp.and IntKind.u32 (↑(Crc.mvN k n)) 1==1)=true:=by assumption
   refine⟨⟨k+1,zv,rfl,jf4 ?_⟩,by simp[intOf];omega⟩;exact mv1_odd _ hm h2
  ·have h1:(k:Int)<8:=by assumption
   have h2:(bits BinOp.and IntKind.u32 (↑(Crc.mvN k n)) 1==1)=false:=by assumption
   refine⟨⟨k+1,zv,rfl,jf4 ?_⟩,by simp[intOf];omega⟩;exact jtr _ hm h2
  ·have h1:8<=(k:Int):=by assumption
   obtain rfl:k=8:=by omega
   go_ret;exact⟨rfl,rfl⟩
def zrow:Array Value:=Array.replicate 256 (.int .u32 0)
theorem jp1(i:Nat)(h:i<256):zrow[i]? =some (.int .u32 0):=by simp[zrow,h]
theorem jeu:zrow.size=256:=by simp[zrow]
def jhc(m i:Nat):Value:= .int .u32 (((if i<m then Crc.mv8 i else 0:Nat):Nat):Int)
def Pow(p:Nat):Prop:=∃j,j<=8/\p=2^j
theorem Pow.le{p:Nat}(h:Pow p):1<=p/\p<=256:=by
 obtain⟨j,hj,rfl⟩:=h;exact⟨Nat.pos_of_ne_zero (by simp),(Nat.pow_le_pow_right zv hj:2^j<=2^8)⟩
theorem Pow.twice{p:Nat}(h:Pow p)(hp:p<256):Pow (p*2):=by
 obtain⟨j,hj,rfl⟩:=h;have:j≠8:=by rintro rfl;omega
 exact⟨j+1,zv,by rw[Nat.pow_succ]⟩
theorem Pow.half{p:Nat}(h:Pow p)(hp:p<256):p<=128:=by have:=(h.twice hp).le;omega
theorem Pow.put{p r:Nat}(h:Pow p)(hp:p<256)(hr:r<p):Crc.mv8 (p+r)=Crc.mv8 p^^^Crc.mv8 r:=by
 obtain⟨j,hj,rfl⟩:=h;have:j≠8:=by rintro rfl;omega
 exact Crc.eff_put j zv r hr
theorem Pow.one:Pow 1:=⟨0,zv,rfl⟩
def jts(c:Array Value):Prop:=c.size=256/\∀i,i<256->c[i]? =some (.int .u32 ((Crc.mv8 i:Nat):Int))
def EffPost(w:World)(e:Ending)(w':World):Prop:=∃c,e= .returned (.agg c)/\jts c/\Below w.heap.size w w'
theorem jh3{m i:Nat}(h:i<m):jhc m i= .int .u32 ((Crc.mv8 i:Nat):Int):=by unfold jhc;rw[if_pos h]
theorem jtt{w:World}{g m:Nat}{t:TypeId}{v:Value}(h:w.rowIs g t 256 (jhc m))(hv:v= .int .u32 ((Crc.mv8 m:Nat):Int)):(w.setCell ⟨g,m,none⟩ v).rowIs g t 256 (jhc (m+1)):=by
 refine(h.set m v).congr fun i _=> ?_;by_cases e:i=m
 ·subst e;rw[if_pos rfl,hv,jh3 zv]
 ·rw[if_neg e];unfold jhc
  by_cases h1:i<m
  ·rw[if_pos h1,if_pos zv]
  ·rw[if_neg h1,if_neg zv]
theorem eff_val{p r:Nat}(h:Pow p)(hp:p<256)(hr:r<p):Value.int .u32 (bits .xor .u32 ((Crc.mv8 p:Nat):Int) ((Crc.mv8 r:Nat):Int))= .int .u32 ((Crc.mv8 (p+r):Nat):Int):=by
 rw[u32_xor_nat _ _ (Crc.mv8_lt zv) (Crc.mv8_lt zv),h.put hp hr]
theorem jtu{w:World}{g:Nat}{t:TypeId}(h:w.rowIs g t 256 (jhc 256)):∃c,w.heap[g]? =some (.cells c t (0,0))/\jts c:=by
 obtain⟨c,hc,hs,hi⟩:=h;exact⟨c,hc,hs,fun i h=>by rw[hi i h,jh3 h]⟩
theorem jts.one{c:Array Value}(h:jts c):c.all (·.oneCell')=true:=by
 rw[Array.all_eq_true];intro i hi;have:=h.2 i (by have:=h.1;omega);rw[Array.getElem?_eq_getElem hi]at this;injection this with this
 rw[this];rfl
theorem jp2(w:World):(zeroValue 290).run Tryz.prog w= .ok (.agg zrow) w:=by kernel_rfl
theorem jgt(w:World):
  Calls Tryz.prog 253 #[] w (EffPost w):=by
 have hz:=jp2;go_in;go_wp2_with fail;go_loopw [2] (fun b wr=>∃p:Nat,p<=256/\b= .int .i64 p/\Pow p/\wr.rowIs (w.heap.size+1) 290 256 (jhc p)/\wr.rowIs w.heap.size 290 256 (fun _=> .int .u32 0)/\Below w.heap.size w wr) (fun b _=>512 -(intOf b).toNat)
 case atStart=>
  have g0:=World.rowIs_alloc w zrow 290 (fun _=> .int .u32 0) (fun i hi=>jp1 i (by rw[jeu]at hi;exact hi));have g1:=World.rowIs_alloc (w.alloc (.cells zrow 290)) zrow 290 (jhc 1) (fun i hi=>by
   rw[jp1 i (by rw[jeu]at hi;exact hi)];unfold jhc;split
   ·rename_i h;obtain rfl:i=0:=by omega
    rfl
   ·rfl)
  rw[jeu]at g0 g1;exact⟨1,zv,rfl,Pow.one,by simpa using g1,g0.alloc _,((Below.refl _ _).alloc (Nat.le_refl _) _).alloc (by simp) _⟩
 case round=>
  obtain⟨p,hp,rfl,hpow,hr1,hr0,hb⟩:=hrel;have hp1:=hpow.le.1;have H1:=zh hr1;clear hr1;have H0:=zh hr0;clear hr0;have HB:=zh hb;clear hb;have HP:=zh hpow;clear hpow hz;by_cases hlt:p<256
  ·have hh:p<=128:=HP.out.half hlt
   go_wp2_with fail;refine(jjg p _ zv).mono ?_;rintro e w1 ⟨rfl,rfl⟩;go_wp2_with fail;obtain⟨wo,rfl⟩:∃wo:World,wo=wr:=⟨_,rfl⟩;go_loopw [13] (fun k wr'=>∃r:Nat,r<=p/\k= .int .i64 r/\wr'.rowIs (w.heap.size+1) 290 256 (jhc (p+r))/\wr'.rowIs w.heap.size 290 256 (fun _=> .int .u32 0)/\Below w.heap.size w wr') (fun k _=>p -(intOf k).toNat)
   case atStart=>exact⟨0,zv,rfl,H1.out,H0.out,HB.out⟩
   case round=>
    obtain⟨r,hr,rfl,hr1,hr0,hb⟩:=hrel;clear H1 H0 HB;by_cases hlt2:r<p
    ·have hc1:=hr1.cell (i:=r) zv
     have hc2:=hr1.cell (i:=p+r) zv;have hf2:=hr1.frozen (p+r);rw[jh3 zv]at hc1;have H1:=zh hr1;clear hr1;have H0:=zh hr0;clear hr0;have HB:=zh hb;clear hb;go_wp2_with fail;refine⟨⟨r+1,zv,rfl,jtt H1.out (eff_val HP.out hlt hlt2),H0.out.setOther (by simp) _,HB.out.setCell (by simp) _⟩,by simp[intOf];omega⟩
    ·obtain rfl:r=p:=by omega
     have H1:=zh hr1;clear hr1;have H0:=zh hr0;clear hr0;have HB:=zh hb;clear hb;go_wp2_with fail;refine⟨⟨r*2,zv,by go_num,HP.out.twice hlt,by rw[Nat.mul_two];exact H1.out,H0.out,HB.out⟩,by simp[intOf];omega⟩
  ·obtain rfl:p=256:=by omega
   obtain⟨c,hc,he⟩:=jtu H1.out;obtain⟨z,hz,hzs,_⟩:=H0.out;have hcs:(Tryz.prog.info? 290).map (·.size)=some c.size:=by rw[he.1];kernel_rfl
   have hu:Tryz.prog.underlying 290=some (.array 256 237):=by kernel_rfl
   have HC:=zh hc;clear hc;have HZ:=zh hz;clear hz;have HS:=zh hzs;clear hzs;have HE:=zh he;clear he;have HI:=zh hcs;clear hcs;have HU:=zh hu;clear hu;clear hlt hp hp1
   go_wp2_with(first
    |(refine wpList_load_row rfl 290 (.tmp 1) rfl (w.heap.size+1) rfl 290 c (0,0) _ HC.out HU.out rfl HI.out ?_)
    |(refine wpList_store_row rfl 290 (.tmp 0) (.tmp 26) rfl w.heap.size c rfl rfl 290 z HZ.out HI.out (HS.out.trans HE.out.1.symm) HE.out.one ?_))
   exact bodyPost_ret (results_cell_row rfl _ _ w.heap.size 290 c (0,0) _ rfl (setRow_heap wr _ z c 290 _ HZ.out) HU.out rfl HI.out) rfl ⟨c,rfl,HE.out,below_setRow HB.out (Nat.le_refl _) c⟩
theorem jp3(s:Nat)(hs:s<4294967296):bits .xor .u32 IntKind.u32.max (s:Int)=((4294967295 -s:Nat):Int):=by
 rw[show IntKind.u32.max=((4294967295:Nat):Int)from rfl,u32_xor_nat _ _ zv hs,<-Crc.not_xor hs]
theorem idx_u8(wd x:Nat)(hx:x<256):bits .xor .u8 ((wd:Int)%256) (x:Int)=(((wd%256)^^^x:Nat):Int):=by
 rw[show(wd:Int)%256=((wd%256:Nat):Int)from rfl,u8_xor_nat _ _ zv hx]
theorem jtv(wd x:Nat)(hw:wd<4294967296)(hx:x<256):bits .xor .u32 ((wd:Int)/256) ((Crc.mv8 ((wd%256)^^^x):Nat):Int)=((Crc.step wd x:Nat):Int):=by
 have hi:(wd%256)^^^x<256:=Nat.xor_lt_two_pow (n:=8) zv hx;rw[show(wd:Int)/256=((wd/256:Nat):Int)from rfl,u32_xor_nat _ _ zv (Crc.mv8_lt zv),Crc.step_eq]
theorem jlz(w:Nat)(l:List Nat)(k:Nat)(h:k<l.length):Crc.crc w (l.take (k+1))=Crc.step (Crc.crc w (l.take k)) (l.getD k 0):=by
 rw[jim l k h,Crc.crc_append];rfl
theorem jtw(s n c:Nat)(A:Option Addr)(l:List Nat)(w:World)(hs:s<4294967296)(hr:Rd w w.heap.size A l)(hn:n=l.length)(hl:l.length<=2147483647):
  Calls Tryz.prog 231 #[.int .u32 s,.slice A n c] w fun e w'=>e= .returned (.int .u32 ((Crc.more s l:Nat):Int))/\Below w.heap.size w w':=by
 by_cases h0:l=[]
 ·subst h0
  subst hn;go_in;go_wp2;go_ret;exact⟨by rw[Crc.more_nil hs];rfl,Below.refl _ _⟩
 ·have hpos:0<l.length:=List.length_pos_iff.2 h0
  have hne:((n:Int)==0)=false:=by rw[beq_eq_false_iff_ne];omega
  have hz:=jp2;have HN:=zh hn;have hn1:n<=2147483647:=by omega
  have hn2:0<n:=by omega
  have HR:=zh hr;have H0:=zh h0;clear hr h0 hn hpos hl;go_in;go_wp2_with fail;refine(jgt _).mono ?_;rintro e w1 ⟨t,rfl,he,hb1⟩;have HE:=zh he;clear he;have HB:=zh hb1;clear hb1;have HI:Hid ((Tryz.prog.info? 290).map (·.size)=some t.size):=by rw[HE.out.1];exact(by kernel_rfl:(Tryz.prog.info? 290).map (·.size)=some 256)
  have HG:Hid ((w1.alloc (.cells zrow 290)).heap[w1.heap.size]? =some (.cells zrow 290 (0,0))):=heap_alloc_last w1 _;have HX:=zh (jp3 s hs);go_wp2_with(refine wpList_store_row rfl 290 (.tmp 5) (.tmp 13) rfl w1.heap.size t rfl rfl 290 zrow HG.out HI.out (jeu.trans HE.out.1.symm) HE.out.one ?_;rw[World.setRow_alloc_new]);rw[HX.out];clear HG HI hz hne;have FR:Hid (Rd (w1.alloc (.cells t 290)) (w1.heap.size+1) A l):=by
   have:=HR.out.on (HB.out.alloc HB.out.size (.cells t 290));exact this.more (by simp)
  have FT:Hid (∀i,i<256->(w1.alloc (.cells t 290)).cell? ⟨w1.heap.size,i,none⟩=some (.int .u32 ((Crc.mv8 i:Nat):Int))):=fun i hi=>by
   rw[World.cell?_alloc_at _ _ _ _ rfl];exact HE.out.2 i hi
  have FB:=zh (HB.out.alloc HB.out.size (.cells t 290));clear HE HB HR;generalize w1.alloc (.cells t 290)=wl at FR FT FB⊢;generalize w1.heap.size=g at FR FT⊢;go_loop [6,18] (fun v i=>∃k:Nat,k<=n/\i= .int .i64 k/\v= .int .u32 ((Crc.crc (4294967295 -s) (l.take k):Nat):Int)) (fun _ i=>n -(intOf i).toNat)
  case atStart=>exact⟨0,zv,rfl,rfl⟩
  case round=>
   obtain⟨k,hk,rfl,rfl⟩:=hrel;by_cases hlt:k<n
   ·have hkl:k<l.length:=by rw[<-HN.out];exact hlt
    have HS:=zh (jlz (4294967295 -s) l k hkl);have hwd:Crc.crc (4294967295 -s) (l.take k)<4294967296:=Crc.crc_lt zv (fun x hx=>FR.out.1 x (List.mem_of_mem_take hx));have hx:=FR.out.byte k;obtain⟨b,o,rfl,hb,hc⟩:=FR.out.2 zv;have hck:=hc k hkl;clear hc hb;generalize Crc.crc (4294967295 -s) (l.take k)=wd at*;generalize l.getD k 0=x at*;have hidx:=idx_u8 wd x hx;have hil:((wd%256)^^^x:Nat)<256:=Nat.xor_lt_two_pow (n:=8) zv hx;have hct:=FT.out _ hil;have HV:=zh (jtv wd x hwd hx);generalize((wd%256)^^^x:Nat)=ix at*;go_wp2_with fail;refine⟨⟨k+1,zv,rfl,jf4 ?_⟩,by simp[intOf];omega⟩;rw[HV.out,HS.out]
   ·obtain rfl:k=n:=by omega
    have hwd:Crc.crc (4294967295 -s) (l.take k)<4294967296:=Crc.crc_lt zv (fun x hx=>FR.out.1 x (List.mem_of_mem_take hx));have HV:=zh (jp3 _ hwd);go_wp2;go_ret;refine⟨jcf ?_,FB.out⟩;show bits _ _ _ _=_;rw[HV.out,HN.out,List.take_length];rfl
theorem jp4(n c:Nat)(A:Option Addr)(l:List Nat)(w:World)(hr:Rd w w.heap.size A l)(hn:n=l.length)(hl:l.length<=2147483647):
  Calls Tryz.prog 192 #[.slice A n c] w fun e w'=>e= .returned (.int .u32 ((Crc.sum l:Nat):Int))/\Below w.heap.size w w':=by
 have HR:=zh hr;clear hr;have HN:=zh hn;clear hn;go_in;go_wp2_with fail;refine(jtw 0 n c A l _ zv HR.out HN.out hl).mono ?_;rintro e w1 ⟨rfl,hb⟩;go_wp2;go_ret;exact⟨rfl,hb⟩
end Go.Proofs.YtpehidgjfcfjoaaGreatDoor
