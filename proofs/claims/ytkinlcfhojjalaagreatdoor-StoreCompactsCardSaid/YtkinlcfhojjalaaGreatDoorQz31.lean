import Derived.Test.YtkinlcfhojjalaaGreatDoorQz23
import Derived.Test.YtkinlcfhojjalaaGreatDoorQz27
set_option maxHeartbeats 6400000
set_option maxRecDepth 100000
set_option linter.all false
namespace Go.Proofs.YtkinlcfhojjalaaGreatDoor
open Go.RowKit
def jfl(L V H:Value)(b:Nat):Prop:=∃A n c o,(L= .slice A n c\/V= .slice A n c\/H= .slice A n c)/\A=some ⟨b,o,none⟩/\0<n
theorem zz36{p:Prop}(h:p:=by
 rw[ha]at e';injection e' with e';injection e' with e' _;omega):p:=h
theorem row_lt{W:World}{s:Bk.St}{L V H:Value}(h:BkRd W s L V H){b:Nat}(hr:jfl L V H b):b<W.heap.size:=by
 obtain⟨⟨A1,c1,e1,h1⟩,⟨A2,c2,e2,h2⟩,⟨A3,c3,e3,h3⟩⟩:=h;obtain⟨A,n,c,o,hx,ha,hp⟩:=hr;rcases hx with e|e|e
 ·rw[e1]at e;injection e with x1 x2 x3;subst x1 x2 x3
  obtain⟨b',o',e',hb,_⟩:=h1.rd hp;exact zz36
 ·rw[e2]at e;injection e with x1 x2 x3;subst x1 x2 x3
  obtain⟨b',o',e',hb,_⟩:=h2.rd hp;exact zz36
 ·rw[e3]at e;injection e with x1 x2 x3;subst x1 x2 x3
  obtain⟨b',o',e',hb,_⟩:=h3.rd hp;exact zz36
theorem je8{W:World}{L V H L2 V2 H2:Value}(h:jez W L V H L2 V2 H2){b:Nat}(hr:jfl L2 V2 H2 b):jfl L V H b\/W.heap.size<=b:=by
 obtain⟨A,n,c,o,hx,ha,hp⟩:=hr;obtain⟨h1,h2,h3⟩:=h;rcases hx with e|e|e
 ·rcases h1 with h|h
  ·exact .inl ⟨A,n,c,o,.inl (h▸e),ha,hp⟩
  ·exact .inr (h A n c b o e ha hp)
 ·rcases h2 with h|h
  ·exact .inl ⟨A,n,c,o,.inr (.inl (h▸e)),ha,hp⟩
  ·exact .inr (h A n c b o e ha hp)
 ·rcases h3 with h|h
  ·exact .inl ⟨A,n,c,o,.inr (.inr (h▸e)),ha,hp⟩
  ·exact .inr (h A n c b o e ha hp)
theorem jd3{w w':World}{g:Nat}{s:Bk.St}{L V H:Value}(h:BkRd w s L V H)(hg:w.grownBy w' (some g))(hn:¬jfl L V H g):BkRd w' s L V H:=
 h.kept hg fun A n c b o e1 e2 hp e3=>hn (e3▸⟨A,n,c,o,e1,e2,hp⟩)
theorem ja6(w:World)(g:Nat)(cs:Array Value):w.grownBy (w.setRow g cs) (some g):=⟨rfl,rfl,rfl,by rw[jba];exact zl,fun k _ hk=>jbn _ _ (fun e=>hk (by rw[e]))⟩
section
variable{w0 W W':World}{g:Nat}{s:Bk.St}{L V H v:Value}{ls:List Rc.R}
end
open Go Go.Deep
theorem jca{n:Int}(h:(Lit.int .i64 n).wf=true): -9223372036854775808<=n/\n<=9223372036854775807:=by
 simp[Lit.wf,IntKind.min,IntKind.max,IntKind.signed,IntKind.bits]at h;omega
def ERc(_:World)(cs:List Value)(r:Rc.R):Prop:=cs=Bk.rcC r/\Rc.In r
theorem jsr{H:Type}{enc:TypeId×Value->H}{w:World}{held:Bool}(f:Nat)(cs:List Value)(y:DataW H×List MemPlace)(h:DataW.trod enc Tryz.prog w 0 (fun _=>true) held f 33 cs=some y)(hl:cs.length=12):∃s:Spc.Sp,cs=[.int .i64 s.v,.int .i64 s.d,.int .i64 s.u,.int .i64 s.n,.int .i64 s.g,.int .i64 s.a,.int .i64 s.b,.int .i64 s.c,.int .i64 s.e,.int .i64 s.w,.int .i64 s.x,.int .i64 s.k]/\Spc.In s:=by
 obtain⟨xs,n,_,_,_,hxl,hf⟩:=DataW.trod_struct Tryz.underlying33 h
 match cs,hl with
 |[a0,a1,a2,a3,a4,a5,a6,a7,a8,a9,a10,a11],_=>
  have hxl3:xs.length=9:=hxl;have k1:Tryz.prog.cellsOf 3=1:=by kernel_rfl
  have k4:Tryz.prog.cellsOf 31=4:=by kernel_rfl
  have h0:DataW.trod enc Tryz.prog w 0 (fun _=>true) held n 3 (([a0,a1,a2,a3,a4,a5,a6,a7,a8,a9,a10,a11].drop 0).take (Tryz.prog.cellsOf 3))=xs[0]? :=hf 0 _ rfl;have h1:DataW.trod enc Tryz.prog w 0 (fun _=>true) held n 3 (([a0,a1,a2,a3,a4,a5,a6,a7,a8,a9,a10,a11].drop 1).take (Tryz.prog.cellsOf 3))=xs[1]? :=hf 1 _ rfl;have h2:DataW.trod enc Tryz.prog w 0 (fun _=>true) held n 3 (([a0,a1,a2,a3,a4,a5,a6,a7,a8,a9,a10,a11].drop 2).take (Tryz.prog.cellsOf 3))=xs[2]? :=hf 2 _ rfl;have h3:DataW.trod enc Tryz.prog w 0 (fun _=>true) held n 3 (([a0,a1,a2,a3,a4,a5,a6,a7,a8,a9,a10,a11].drop 3).take (Tryz.prog.cellsOf 3))=xs[3]? :=hf 3 _ rfl;have h4:DataW.trod enc Tryz.prog w 0 (fun _=>true) held n 3 (([a0,a1,a2,a3,a4,a5,a6,a7,a8,a9,a10,a11].drop 4).take (Tryz.prog.cellsOf 3))=xs[4]? :=hf 4 _ rfl;have h9:DataW.trod enc Tryz.prog w 0 (fun _=>true) held n 3 (([a0,a1,a2,a3,a4,a5,a6,a7,a8,a9,a10,a11].drop 9).take (Tryz.prog.cellsOf 3))=xs[6]? :=hf 6 _ rfl;have h10:DataW.trod enc Tryz.prog w 0 (fun _=>true) held n 3 (([a0,a1,a2,a3,a4,a5,a6,a7,a8,a9,a10,a11].drop 10).take (Tryz.prog.cellsOf 3))=xs[7]? :=hf 7 _ rfl;have h11:DataW.trod enc Tryz.prog w 0 (fun _=>true) held n 3 (([a0,a1,a2,a3,a4,a5,a6,a7,a8,a9,a10,a11].drop 11).take (Tryz.prog.cellsOf 3))=xs[8]? :=hf 8 _ rfl;have hA:DataW.trod enc Tryz.prog w 0 (fun _=>true) held n 31 (([a0,a1,a2,a3,a4,a5,a6,a7,a8,a9,a10,a11].drop 5).take (Tryz.prog.cellsOf 31))=xs[5]? :=hf 5 _ rfl;rw[k1]at h0 h1 h2 h3 h4 h9 h10 h11;rw[k4]at hA;rw[List.getElem?_eq_getElem zv]at h0 h1 h2 h3 h4 h9 h10 h11 hA;obtain⟨ys,m,_,_,hl4,hyl,hi⟩:=DataW.trod_array (cs:=[a5,a6,a7,a8]) Tryz.underlying31 hA;have h5:DataW.trod enc Tryz.prog w 0 (fun _=>true) held m 3 (([a5,a6,a7,a8].drop (0*Tryz.prog.cellsOf 3)).take (Tryz.prog.cellsOf 3))=ys[0]? :=hi 0 zv;have h6:DataW.trod enc Tryz.prog w 0 (fun _=>true) held m 3 (([a5,a6,a7,a8].drop (1*Tryz.prog.cellsOf 3)).take (Tryz.prog.cellsOf 3))=ys[1]? :=hi 1 zv;have h7:DataW.trod enc Tryz.prog w 0 (fun _=>true) held m 3 (([a5,a6,a7,a8].drop (2*Tryz.prog.cellsOf 3)).take (Tryz.prog.cellsOf 3))=ys[2]? :=hi 2 zv;have h8:DataW.trod enc Tryz.prog w 0 (fun _=>true) held m 3 (([a5,a6,a7,a8].drop (3*Tryz.prog.cellsOf 3)).take (Tryz.prog.cellsOf 3))=ys[3]? :=hi 3 zv;rw[k1]at h5 h6 h7 h8;rw[List.getElem?_eq_getElem zv]at h5 h6 h7 h8;obtain⟨x0,e0,_,w0⟩:=DataW.trod_int (cs:=[a0]) Tryz.underlying3 h0;obtain⟨x1,e1,_,w1⟩:=DataW.trod_int (cs:=[a1]) Tryz.underlying3 h1;obtain⟨x2,e2,_,w2⟩:=DataW.trod_int (cs:=[a2]) Tryz.underlying3 h2;obtain⟨x3,e3,_,w3⟩:=DataW.trod_int (cs:=[a3]) Tryz.underlying3 h3;obtain⟨x4,e4,_,w4⟩:=DataW.trod_int (cs:=[a4]) Tryz.underlying3 h4;obtain⟨x5,e5,_,w5⟩:=DataW.trod_int (cs:=[a5]) Tryz.underlying3 h5;obtain⟨x6,e6,_,w6⟩:=DataW.trod_int (cs:=[a6]) Tryz.underlying3 h6;obtain⟨x7,e7,_,w7⟩:=DataW.trod_int (cs:=[a7]) Tryz.underlying3 h7;obtain⟨x8,e8,_,w8⟩:=DataW.trod_int (cs:=[a8]) Tryz.underlying3 h8;obtain⟨x9,e9,_,w9⟩:=DataW.trod_int (cs:=[a9]) Tryz.underlying3 h9;obtain⟨x10,e10,_,w10⟩:=DataW.trod_int (cs:=[a10]) Tryz.underlying3 h10;obtain⟨x11,e11,_,w11⟩:=DataW.trod_int (cs:=[a11]) Tryz.underlying3 h11;simp at e0 e1 e2 e3 e4 e5 e6 e7 e8 e9 e10 e11;subst e0 e1 e2 e3 e4 e5 e6 e7 e8 e9 e10 e11;exact⟨⟨x0,x1,x2,x3,x4,x5,x6,x7,x8,x9,x10,x11⟩,rfl,by
   intro n hn;simp only[Spc.flds,List.mem_cons,List.not_mem_nil,or_false]at hn;have v0:=jca w0;have v1:=jca w1;have v2:=jca w2;have v3:=jca w3;have v4:=jca w4;have v5:=jca w5;have v6:=jca w6;have v7:=jca w7;have v8:=jca w8;have v9:=jca w9;have v10:=jca w10;have v11:=jca w11;rcases hn with rfl|rfl|rfl|rfl|rfl|rfl|rfl|rfl|rfl|rfl|rfl|rfl<;>assumption⟩
theorem jvp{H:Type}{enc:TypeId×Value->H}{w:World}{held:Bool}(f:Nat)(cs:List Value)(y:DataW H×List MemPlace)(h:DataW.trod enc Tryz.prog w 0 (fun _=>true) held f 56 cs=some y)(hl:cs.length=18):∃r,ERc w cs r:=by
 obtain⟨xs,n,_,_,_,hxl,hf⟩:=DataW.trod_struct Tryz.underlying56 h
 match cs,hl with
 |[a0,a1,a2,a3,a4,a5,a6,a7,a8,a9,a10,a11,a12,a13,a14,a15,a16,a17],_=>
  have hxl3:xs.length=7:=hxl;have k1:Tryz.prog.cellsOf 3=1:=by kernel_rfl
  have k2:Tryz.prog.cellsOf 9=1:=by kernel_rfl
  have k3:Tryz.prog.cellsOf 33=12:=by kernel_rfl
  have h0:DataW.trod enc Tryz.prog w 0 (fun _=>true) held n 3 (([a0,a1,a2,a3,a4,a5,a6,a7,a8,a9,a10,a11,a12,a13,a14,a15,a16,a17].drop 0).take (Tryz.prog.cellsOf 3))=xs[0]? :=hf 0 _ rfl;have h1:DataW.trod enc Tryz.prog w 0 (fun _=>true) held n 3 (([a0,a1,a2,a3,a4,a5,a6,a7,a8,a9,a10,a11,a12,a13,a14,a15,a16,a17].drop 1).take (Tryz.prog.cellsOf 3))=xs[1]? :=hf 1 _ rfl;have h2:DataW.trod enc Tryz.prog w 0 (fun _=>true) held n 3 (([a0,a1,a2,a3,a4,a5,a6,a7,a8,a9,a10,a11,a12,a13,a14,a15,a16,a17].drop 2).take (Tryz.prog.cellsOf 3))=xs[2]? :=hf 2 _ rfl;have h3:DataW.trod enc Tryz.prog w 0 (fun _=>true) held n 3 (([a0,a1,a2,a3,a4,a5,a6,a7,a8,a9,a10,a11,a12,a13,a14,a15,a16,a17].drop 3).take (Tryz.prog.cellsOf 3))=xs[3]? :=hf 3 _ rfl;have h4:DataW.trod enc Tryz.prog w 0 (fun _=>true) held n 3 (([a0,a1,a2,a3,a4,a5,a6,a7,a8,a9,a10,a11,a12,a13,a14,a15,a16,a17].drop 4).take (Tryz.prog.cellsOf 3))=xs[4]? :=hf 4 _ rfl;have h5:DataW.trod enc Tryz.prog w 0 (fun _=>true) held n 9 (([a0,a1,a2,a3,a4,a5,a6,a7,a8,a9,a10,a11,a12,a13,a14,a15,a16,a17].drop 5).take (Tryz.prog.cellsOf 9))=xs[5]? :=hf 5 _ rfl;have h6:DataW.trod enc Tryz.prog w 0 (fun _=>true) held n 33 (([a0,a1,a2,a3,a4,a5,a6,a7,a8,a9,a10,a11,a12,a13,a14,a15,a16,a17].drop 6).take (Tryz.prog.cellsOf 33))=xs[6]? :=hf 6 _ rfl;rw[k1]at h0 h1 h2 h3 h4;rw[k2]at h5;rw[k3]at h6;rw[List.getElem?_eq_getElem zv]at h0 h1 h2 h3 h4 h5 h6;obtain⟨x0,e0,_,w0⟩:=DataW.trod_int (cs:=[a0]) Tryz.underlying3 h0;obtain⟨x1,e1,_,w1⟩:=DataW.trod_int (cs:=[a1]) Tryz.underlying3 h1;obtain⟨x2,e2,_,w2⟩:=DataW.trod_int (cs:=[a2]) Tryz.underlying3 h2;obtain⟨x3,e3,_,w3⟩:=DataW.trod_int (cs:=[a3]) Tryz.underlying3 h3;obtain⟨x4,e4,_,w4⟩:=DataW.trod_int (cs:=[a4]) Tryz.underlying3 h4;obtain⟨x5,e5,_,w5⟩:=DataW.trod_string (cs:=[a5]) Tryz.underlying9 h5;obtain⟨sp,e6,w6⟩:=jsr _ [a6,a7,a8,a9,a10,a11,a12,a13,a14,a15,a16,a17] _ h6 rfl;simp at e0 e1 e2 e3 e4 e5;subst e0 e1 e2 e3 e4 e5;have hc:[.int .i64 x0,.int .i64 x1,.int .i64 x2,.int .i64 x3,.int .i64 x4,.string x5]++[a6,a7,a8,a9,a10,a11,a12,a13,a14,a15,a16,a17]=Bk.rcC ⟨x0,x1,x2,x3,x4,x5,sp⟩:=by
   rw[e6];rfl
  refine⟨⟨x0,x1,x2,x3,x4,x5,sp⟩,hc,?_,w5,w6⟩;intro x hx;simp only[Rc.nums,List.mem_cons,List.not_mem_nil,or_false]at hx;have v0:=jca w0;have v1:=jca w1;have v2:=jca w2;have v3:=jca w3;have v4:=jca w4;rcases hx with rfl|rfl|rfl|rfl|rfl<;>assumption
theorem jss:Tryz.prog.cellsOf 56=18:=by kernel_rfl
theorem jvq{w:World}{A:Option Addr}{n c:Nat}{ts:List Rc.R}(h:SlR 18 ERc w A n c ts):SlF Bk.rcC w A n c ts/\∀r∈ts,Rc.In r:=by
 refine⟨sle_of Bk.rcC_len h (fun _ _ e=>e.1),fun r hr=> ?_⟩;obtain⟨j,hj,e⟩:=List.mem_iff_getElem.1 hr;obtain⟨b,o,cs,h1,h2,h3,h4,h5⟩:=h.rd j r (e▸List.getElem?_eq_getElem hj);exact h5.2
theorem recs_of{H:Type}{enc:TypeId×Value->H}{w:World}{held:Bool}{A:Option Addr}{n c:Nat}{f:Nat}{y:DataW H×List MemPlace}(h:DataW.trod enc Tryz.prog w 0 (fun _=>true) held f 22 [.slice A n c]=some y):∃ts,SlF Bk.rcC w A n c ts/\∀r∈ts,Rc.In r:=by
 obtain⟨ts,h1⟩:=slr_of Tryz.underlying22 jss zv jvp h;exact⟨ts,jvq h1⟩
end Go.Proofs.YtkinlcfhojjalaaGreatDoor
namespace Go.Proofs.YtkinlcfhojjalaaGreatDoor
theorem jkm{w0 W:World}{F:Nat->Prop}{q:Nat}{s:Bk.St}(h:BP w0 F q s W)(ht:BT W)(n:Int)(hn:b64In n):Calls Tryz.prog 60 #[.pointer (some ⟨q,0,none⟩),.int .i64 n] W (BRet (.tuple #[.string (Bk.text s.vs n),.bool (Bk.has s.vs n)]) W):=by
 obtain⟨X,⟨ru,rv,lo,ko,H,K,h1,_⟩,_⟩:=h;exact jg3 q s ru rv lo ko H K W h1 ht n hn
open Go.RowKit
namespace Bk
theorem dig_text3{vs:List Vn}{n:Int}{t:ByteArray}(h:dig vs n=some t):text vs n=t:=by
 unfold text;rw[h];rfl
def dif(a b:List Vn)(n:Int):Bool:= !((text a n).toList==(text b n).toList)
theorem dif_iff{a b:List Vn}{n:Int}:dif a b n=true↔text a n≠text b n:=by
 unfold dif;simp only[Bool.not_eq_true',zq,ne_eq];exact not_congr ⟨fun h=>jev.1 (beq_iff_eq.2 h),fun h=>by rw[h]⟩
theorem vs_same{a b:List Vn}(ha:a.Pairwise fun x y=>x.n<y.n)(hb:b.Pairwise fun x y=>x.n<y.n):a=b↔(a.map (·.n)=b.map (·.n)/\∀n∈a.map (·.n),text a n=text b n):=by
 constructor
 ·rintro rfl
  exact⟨rfl,fun _ _=>rfl⟩
 ·rintro⟨h1,h2⟩
  have hl:a.length=b.length:=by have:=congrArg List.length h1;simpa using this
  refine List.ext_getElem? fun k=> ?_;rcases Nat.lt_or_ge k a.length with hk|hk
  ·have hx:a[k]? =some a[k]:=List.getElem?_eq_getElem hk
   have hy:b[k]? =some (b[k]'zv):=List.getElem?_eq_getElem _;have e:=congrArg (·[k]?) h1;simp only[List.getElem?_map,hx,hy,Option.map_some,Option.some.injEq]at e;have h3:=h2 _ (List.mem_map_of_mem (f:=(·.n)) (List.getElem_mem hk));have d1:=Bd.dig_mem ha (List.getElem_mem hk);have d2:=Bd.dig_mem hb (List.getElem_mem (show k<b.length by omega));rw[dig_text3 d1,e,dig_text3 d2]at h3;rw[hx,hy];generalize a[k]=x at*;generalize b[k]=y at*
   cases x;cases y
   simp only at e h3;rw[e,h3]
  ·rw[List.getElem?_eq_none hk,List.getElem?_eq_none zv]
end Bk
theorem jst(g1 g2:Nat)(qa qb:Nat)(s t:Bk.St)(x:Int)(W:World)(h1:W.heap[g1]? =some (.cells #[.pointer (some ⟨qa,0,none⟩)] 43))(h2:W.heap[g2]? =some (.cells #[.pointer (some ⟨qb,0,none⟩)] 43))
  (ca:∀X,zF W X->Calls Tryz.prog 60 #[.pointer (some ⟨qa,0,none⟩),.int .i64 x] X (BRet (.tuple #[.string (Bk.text s.vs x),.bool (Bk.has s.vs x)]) X)) (cb:∀X,zF W X->Calls Tryz.prog 60 #[.pointer (some ⟨qb,0,none⟩),.int .i64 x] X (BRet (.tuple #[.string (Bk.text t.vs x),.bool (Bk.has t.vs x)]) X)):
  Calls Tryz.prog 59 #[.int .i64 x,.pointer (some ⟨g1,0,none⟩),.pointer (some ⟨g2,0,none⟩)] W (fun e w'=>e= .returned (.bool (Bk.dif s.vs t.vs x))/\zF W w'):=by
 have CA:=zh ca;have CB:=zh cb;have P2:=zh h2;have e1:W.cell? ⟨g1,0,none⟩=some (.pointer (some ⟨qa,0,none⟩)):=by rw[cell_of_row _ g1 0 _ _ _ h1];rfl
 have l1:=(zg h1).1;clear ca cb h1 h2;generalize Bk.has s.vs x=ha at*;generalize Bk.has t.vs x=hb at*;unfold Bk.dif;obtain⟨ta,hta⟩:∃ta,ta=Bk.text s.vs x:=zx;obtain⟨tb,htb⟩:∃tb,tb=Bk.text t.vs x:=zx;rw[<-hta]at CA⊢;rw[<-htb]at CB⊢;clear hta htb;go_in;go_upto_region 2 with(go_at_call 60;refine(CA.o _ zD).mono ?_;rintro e w1 ⟨rfl,hb1⟩;have B1:=zh hb1;clear hb1)
 clear e1 l1;have e2:w1.cell? ⟨g2,0,none⟩=some (.pointer (some ⟨qb,0,none⟩)):=by rw[cell_of_row _ g2 0 _ _ _ (jah P2.o B1.o)];rfl
 have l2:=(zg (jah P2.o B1.o)).1;go_upto_region 3 with(go_at_call 60;refine(CB.o _ B1.o).mono ?_;rintro e w2 ⟨rfl,hb2⟩;have B2:=zh (B1.o.trans (hb2.mono B1.o.size));clear hb2)
 clear e2 l2;go_wp2;go_ret;exact⟨rfl,B2.o⟩
def FnI(g1 g2:Nat)(p:Int->Bool)(w0:World)(l:List Int):Prop:=
 ∀W x,x∈l->zF w0 W->Calls Tryz.prog 59 #[.int .i64 x,.pointer (some ⟨g1,0,none⟩),.pointer (some ⟨g2,0,none⟩)] W (fun e w'=>e= .returned (.bool (p x))/\zF W w')
theorem jop(g1 g2:Nat)(p:Int->Bool)(l:List Int)(n c:Nat)(A:Option Addr)(w:World)(h:SlI w A n c l)(hp:FnI g1 g2 p w l):
  Calls Tryz.prog 111 #[.slice A n c,.func (.func 59) #[] #[.pointer (some ⟨g1,0,none⟩),.pointer (some ⟨g2,0,none⟩)]] w (fun e w'=>∃i:Int,e= .returned (.int .i64 i)/\(0<=i↔l.any p=true)/\zF w w'):=by
 have HN:=zh h.len;have hmx:=h.max;have hcp:=h.cap;unfold maxLen at hmx;have HA:=zh h;have HP:=zh hp;clear h hp;go_in;go_wp2_with fail;go_loopw [5,8] (fun _ i wr=>∃j:Nat,j<=n/\i= .int .i64 j/\(∀x∈l.take j,p x=false)/\zF w wr) (fun _ i _=>n -(intOf i).toNat)
 case atStart=>exact⟨0,zv,rfl,by simp,zD⟩
 case round=>
  obtain⟨j,hj,rfl,hok,hbr⟩:=hrel;have OK:=zh hok;have B:=zh hbr;clear hok hbr;by_cases hlt:j<n
  ·have hjl:j<l.length:=by have:=HN.o;omega
   obtain⟨b1,o1,rfl,_,_⟩:=HA.o.rd zv;obtain⟨b',o',e',hbb,hcc⟩:=(HA.o.on B.o).rd zv;injection e' with e';injection e' with x1 x2;subst x1 x2
   have f1:=hcc j hjl;have EA:Hid (l[j]? =some (l.getD j 0)):=by
    show _=_;rw[List.getD_eq_getElem?_getD,List.getElem?_eq_getElem hjl];rfl
   generalize l.getD j 0=x at*;have HM:Hid (x∈l):=List.mem_of_getElem? EA.o;have CC:=zh (HP.o _ x HM.o B.o);have i1:(0:Int)<=(j:Int):=by omega
   have i2:(j:Int)<(n:Int):=by omega
   clear hcc
   cases hq:p x with
   |true=>
    rw[hq]at CC;have HQ:=zh hq;clear hq;go_wp2_with(go_at_call 59;refine CC.o.mono ?_;rintro e w1 ⟨rfl,hb1⟩;have B1:=zh (B.o.trans (hb1.mono B.o.size));clear hb1);go_ret;refine⟨_,rfl,?_,B1.o⟩;rw[List.any_eq_true];exact⟨fun _=>⟨x,HM.o,HQ.o⟩,fun _=>by omega⟩
   |false=>
    rw[hq]at CC;have HQ:=zh hq;clear hq;go_wp2_with(go_at_call 59;refine CC.o.mono ?_;rintro e w1 ⟨rfl,hb1⟩;have B1:=zh (B.o.trans (hb1.mono B.o.size));clear hb1);refine⟨⟨j+1,zv,by go_num,fun o ho=> ?_,B1.o⟩,by simp[intOf];omega⟩;rw[List.take_add_one,EA.o]at ho;rcases List.mem_append.1 ho with ho|ho
    ·exact OK.o o ho
    ·simp at ho;subst ho;exact HQ.o
  ·have E:Hid (l.take j=l):=List.take_of_length_le (by have:=HN.o;omega)
   rw[E.o]at OK;go_wp2;go_ret;refine⟨_,rfl,?_,B.o⟩;rw[List.any_eq_true];refine⟨fun h=>by omega,fun⟨o,ho,hp⟩=> ?_⟩;rw[OK.o o ho]at hp
   cases hp
theorem jsu(g1 g2:Nat)(p:Int->Bool)(l:List Int)(n c:Nat)(A:Option Addr)(w:World)(h:SlI w A n c l)(hp:FnI g1 g2 p w l):
  Calls Tryz.prog 62 #[.slice A n c,.func (.func 59) #[] #[.pointer (some ⟨g1,0,none⟩),.pointer (some ⟨g2,0,none⟩)]] w (fun e w'=>e= .returned (.bool (l.any p))/\zF w w'):=by
 have C:=zh (jop g1 g2 p l n c A w h hp);clear h hp;generalize l.any p=b at C⊢;go_in;go_wp2_with(go_at_call 111;refine C.o.mono ?_;rintro e w1 ⟨i,rfl,hi,hb1⟩;have B1:=zh hb1;have HI:=zh hi;clear hb1 hi);go_ret;refine⟨?_,B1.o⟩
 cases b with
 |true=>
  have:0<=i:=HI.o.2 rfl;simp[this]
 |false=>
  have:¬0<=i:=fun h=>by have:=HI.o.1 h;cases this
  simp[this]
theorem jsv{w0 w1 W:World}{F G:Nat->Prop}{qa qb:Nat}{s t:Bk.St}(ha:BP w0 F qa s W)(hb:BP w1 G qb t W)(ht:BT W):Calls Tryz.prog 29 #[.pointer (some ⟨qa,0,none⟩),.pointer (some ⟨qb,0,none⟩)] W (jeb (s.vs=t.vs) W):=by
 have OKA:=zh (bp_ok ha);have OKB:=zh (bp_ok hb);have HVS:=zh (Bk.vs_same OKA.o.rise OKB.o.rise);have x1:zF W (W.alloc (.cells #[.pointer (some ⟨qa,0,none⟩)] 43)):=zE;have p1:=heap_alloc_new W (.cells #[.pointer (some ⟨qa,0,none⟩)] 43);obtain⟨g1,hg1⟩:∃g,g=W.heap.size:=zx;have hs1:(W.alloc (.cells #[.pointer (some ⟨qa,0,none⟩)] 43)).heap.size=g1+1:=by simp[hg1]
 obtain⟨W1,hW1⟩:∃W1,W1=W.alloc (.cells #[.pointer (some ⟨qa,0,none⟩)] 43):=zx;rw[<-hW1]at x1 p1 hs1;rw[<-hg1]at p1;have x2:zF W1 (W1.alloc (.cells #[.pointer (some ⟨qb,0,none⟩)] 43)):=zE;have p2:=heap_alloc_new W1 (.cells #[.pointer (some ⟨qb,0,none⟩)] 43);have p1b:=jah p1 x2;rw[hs1]at p2;have B2:=zh (x1.trans (x2.mono x1.size));obtain⟨W2,hW2⟩:∃W2,W2=W1.alloc (.cells #[.pointer (some ⟨qb,0,none⟩)] 43):=zx;rw[<-hW2]at B2 p1b p2;have P1:=zh p1b;have P2:=zh p2;have EW:Hid ((W.alloc (.cells #[.pointer (some ⟨qa,0,none⟩)] 43)).alloc (.cells #[.pointer (some ⟨qb,0,none⟩)] 43)=W2):=by show _=_;rw[hW2,hW1]
 have DA:=zh (jbf ha B2.o);have DB:=zh (jbf hb B2.o);have TT:=zh (ht.on B2.o);have EG:=zh hg1;clear ha hb ht x1 x2 p1 p1b p2 hs1 hW1 hW2 hg1;have e1:W2.cell? ⟨g1,0,none⟩=some (.pointer (some ⟨qa,0,none⟩)):=by rw[cell_of_row _ g1 0 _ _ _ P1.o];rfl
 have l1:=(zg P1.o).1;go_in;go_upto_region 1 with fail
 rw[EW.o,<-EG.o];clear EW EG;have LA:Hid ((s.vs.map (·.n)).length=s.vs.length):=List.length_map _;have LB:Hid ((t.vs.map (·.n)).length=t.vs.length):=List.length_map _;have la:s.vs.length<=64:=OKA.o.vl;have lb:t.vs.length<=64:=OKB.o.vl;go_upto_region 3 with(go_at_call 58;refine(jlu DA.o).mono ?_;rintro e w3 ⟨A5,c5,rfl,h1,h2,h3⟩;rw[LA.o]at h1⊢;have VA:=zh (jso h1);have B3:=zh h2;have DB3:=zh (jbf DB.o h2);clear h1 h2 h3)
 clear e1 l1;have e2:w3.cell? ⟨g1+1,0,none⟩=some (.pointer (some ⟨qb,0,none⟩)):=by rw[cell_of_row _ (g1+1) 0 _ _ _ (jah P2.o B3.o)];rfl
 have l2:=(zg (jah P2.o B3.o)).1;have HVS2:=zh (show(∀n∈s.vs.map (·.n),Bk.text s.vs n=Bk.text t.vs n)↔(s.vs.map (·.n)).any (Bk.dif s.vs t.vs)=false from by
  rw[Bool.eq_false_iff,ne_eq,List.any_eq_true];constructor
  ·rintro h ⟨n,hn,hd⟩
   exact Bk.dif_iff.1 hd (h n hn)
  ·intro h n hn
   exact Decidable.byContradiction fun hne=>h ⟨n,hn,Bk.dif_iff.2 hne⟩)
 have BN:Hid (∀n∈s.vs.map (·.n),b64In n):=fun n hn=>by
  obtain⟨v,hv,rfl⟩:=List.mem_map.1 hn;exact⟨by have:=OKA.o.vs v hv;omega,by have:=OKA.o.vs v hv;omega⟩
 by_cases hv:s.vs.map (·.n)=t.vs.map (·.n)
 ·have HV:=zh hv
  clear hv;have FI:Hid (∀X,zF W2 X->FnI g1 (g1+1) (Bk.dif s.vs t.vs) X (s.vs.map (·.n))):=fun X hX Y n hn hY=>by
   have hb:=hX.trans (hY.mono hX.size);exact jst g1 (g1+1) qa qb s t n Y (jah P1.o hb) (jah P2.o hb) (fun Z hZ=>jkm (jbf DA.o (hb.trans (hZ.mono hb.size))) (TT.o.on (hb.trans (hZ.mono hb.size))) n (BN.o n hn)) (fun Z hZ=>jkm (jbf DB.o (hb.trans (hZ.mono hb.size))) (TT.o.on (hb.trans (hZ.mono hb.size))) n (BN.o n hn))
  have AN:Hid ((s.vs.map (·.n)).any (Bk.dif s.vs t.vs)=false↔s.vs=t.vs):=by
   show _↔_;rw[<-HVS2.o];exact⟨fun h=>HVS.o.2 ⟨HV.o,h⟩,fun h=>(HVS.o.1 h).2⟩
  go_wp2_with(first
   |(go_at_call 58;refine(jlu DB3.o).mono ?_;rintro e w4 ⟨A6,c6,rfl,h1,h2,h3⟩;rw[LB.o]at h1⊢;have VB:=zh (jso h1);have VA4:=zh (VA.o.on h2);have B4:=zh (B3.o.trans (h2.mono B3.o.size));clear h1 h2 h3 e2 l2)
   |(go_at_call 61;refine(jkl A5 A6 _ _ c5 c6 _ _ _ VA4.o VB.o zv zv).mono ?_;rintro e w5 ⟨⟨z,rfl,hz⟩,hb⟩;obtain rfl:z=true:=hz.2 HV.o;have VA5:=zh (VA4.o.on hb);have B5:=zh (B4.o.trans (hb.mono B4.o.size));clear hz hb)
   |(go_at_call 62;refine(jsu g1 (g1+1) _ _ _ c5 A5 _ VA5.o (FI.o _ B5.o)).mono ?_;rintro e w6 ⟨rfl,hb⟩;have B6:=zh (B2.o.trans ((B5.o.trans (hb.mono B5.o.size)).mono B2.o.size));clear hb))
  go_ret;refine⟨⟨_,rfl,?_⟩,B6.o⟩;rw[<-AN.o];simp
 ·have HV:=zh hv
  clear hv
  go_wp2_with(first
   |(go_at_call 58;refine(jlu DB3.o).mono ?_;rintro e w4 ⟨A6,c6,rfl,h1,h2,h3⟩;rw[LB.o]at h1⊢;have VB:=zh (jso h1);have VA4:=zh (VA.o.on h2);have B4:=zh (B3.o.trans (h2.mono B3.o.size));clear h1 h2 h3 e2 l2)
   |(go_at_call 61;refine(jkl A5 A6 _ _ c5 c6 _ _ _ VA4.o VB.o zv zv).mono ?_;rintro e w5 ⟨⟨z,rfl,hz⟩,hb⟩;obtain rfl:z=false:=Bool.eq_false_iff.2 (fun h=>HV.o (hz.1 h));have B5:=zh (B2.o.trans ((B4.o.trans (hb.mono B4.o.size)).mono B2.o.size));clear hz hb))
  go_ret;exact⟨⟨_,rfl,by simp only[Bool.false_eq_true,false_iff];exact fun h=>HV.o (HVS.o.1 h).1⟩,B5.o⟩
theorem jhe(q:Nat)(W:World):Calls Tryz.prog 27 #[.pointer (some ⟨q,0,none⟩)] W (BRet (.pointer (some ⟨q,0,none⟩)) W):=by
 go_in;go_wp2;go_ret;exact⟨rfl,zD⟩
theorem us_eq(u t:Nat->Bk.Un)(W:World):(binOp .eql 36 (.agg (Bk.uC u)) (.agg (Bk.uC t))).run Tryz.prog W= .ok (.bool (Bk.usSame u t)) W:=by
 have h:=us_eqIn u t 9996 W;rw[run_eql_struct,h];rfl
theorem ja4{a:Act}{oi:Oper}(ty:TypeId)(x:Operand)(ho:oi.op= .load ty x)(b o:Nat)(cs:Array Value)(d:TypeDesc)(hx:a.eval x= .pointer (some ⟨b,o,none⟩)){W:World}(h:W.rangeAt b o cs.toList)(hu:Tryz.prog.underlying ty=some d)(hd:d.isRow=true)(hi:(Tryz.prog.info? ty).map (·.size)=some cs.toList.length):(execOp a.eval oi).run Tryz.prog W= .ok (.value (.agg cs)) W:=by
 have:=run_loadVar_mid (P:=Tryz.prog) W b o ty cs.toList d h hu hd hi;exact zz1m
theorem jh9{w:World}{q:Nat}{s:Bk.St}{ru:Nat->Bk.Un}{rv:Int}{lm km H:Value}(h:BdAt w q s ru rv lm km H):w.rangeAt q 26 (Bk.uC ru).toList:=by
 intro j v hv;have hj:j<48:=(List.getElem?_eq_some_iff.1 hv).1;rw[cell_of_row w q _ _ _ _ h.row];rcases j with _|_|_|_|_|_|_|_|_|_|_|_|_|_|_|_|_|_|_|_|_|_|_|_|_|_|_|_|_|_|_|_|_|_|_|_|_|_|_|_|_|_|_|_|_|_|_|_|j
 all_goals first|exact hv|omega
theorem bd_hist{w:World}{q:Nat}{s:Bk.St}{ru:Nat->Bk.Un}{rv:Int}{lm km H:Value}(h:BdAt w q s ru rv lm km H):w.cell? ⟨q,74,none⟩=some H:=by
 rw[cell_of_row w q _ _ _ _ h.row];rfl
structure CmpB(W:World)(q:Nat)(s:Bk.St)(ru:Nat->Bk.Un)(A:Option Addr)(c:Nat):Prop where
 vw:W.rangeAt q 4 (Bk.viewC s).toList
 us:W.rangeAt q 26 (Bk.uC ru).toList
 hc:W.cell? ⟨q,74,none⟩=some (.slice A s.h.length c)
 hs:SlF Bk.rcC W A s.h.length c s.h
 raw:Bd.Raw ru s.us
 lt:q<W.heap.size
theorem jsw{w0 W:World}{F:Nat->Prop}{q:Nat}{s:Bk.St}(h:BP w0 F q s W):∃ru A c,CmpB W q s ru A c:=by
 obtain⟨X,⟨ru,rv,lo,ko,H,K,h1,_⟩,_⟩:=h;obtain⟨A,c,rfl⟩:=h1.h.form;exact⟨ru,A,c,jdx h1.at_,jh9 h1.at_,bd_hist h1.at_,h1.h.sl,h1.raw,h1.at_.lt⟩
theorem CmpB.on{W W':World}{q:Nat}{s:Bk.St}{ru:Nat->Bk.Un}{A:Option Addr}{c:Nat}(h:CmpB W q s ru A c)(hb:zF W W'):CmpB W' q s ru A c:=
 ⟨jf6 h.vw (hb.block q h.lt),jf6 h.us (hb.block q h.lt),(hb.cell (p:=⟨q,74,none⟩) h.lt).trans h.hc,h.hs.on hb,h.raw,Nat.lt_of_lt_of_le h.lt hb.size⟩
theorem joq{s t:Bk.St}:Bk.Like s t↔(Bk.vwSame s t=true/\(∀i,i<16->s.us i=t.us i)/\s.h=t.h/\s.vs=t.vs):=by
 rw[Bk.vwSame_iff];constructor
 ·intro h
  exact⟨⟨h.ep,h.who,h.till,h.stable,h.from_,h.ph,h.step,h.since,h.begun,h.seq,h.sp⟩,h.us,h.h,h.vs⟩
 ·rintro⟨⟨h1,h2,h3,h4,h5,h6,h7,h8,h9,h10,h11⟩,h12,h13,h14⟩
  exact⟨h1,h2,h3,h4,h5,h6,h7,h8,h9,h10,h11,h12,h14,h13⟩
theorem zzm{p:Prop}(h:p:=by
 refine tY 19 hS ?_;refine tY 20 hS ?_;refine tN 21 hS ?_;refine tN 22 hS ?_;refine tN 23 hS ?_;simp only[Act.put,zT,zO,zS];refine tN 24 hS ?_;refine tN 25 hS ?_;refine tN 26 hS ?_;refine tN 27 hS ?_;refine tN 28 hS ?_;refine tN 29 hS ?_;simp only[Act.put,zT,zO,zS];refine tY 30 hS ?_;refine tY 31 hS ?_;refine tN 32 hS ?_;refine tN 33 hS ?_;refine tN 34 hS ?_;refine tY 35 hS ?_;simp only[Act.put,zT,zO,zS];refine tY 36 hS ?_;simp only[Act.put,zT,zO,zS];refine wpAnyH_done zk ?_ _;have D5:=zh hS;clear hS;go_wp2;go_ret;exact⟨⟨false,rfl,by simp only[Bool.false_eq_true,false_iff];exact NO.o⟩,D5.o⟩):p:=h
theorem jhf{w0 w1 W:World}{F G:Nat->Prop}{qa qb:Nat}{s t:Bk.St}(ha:BP w0 F qa s W)(hb:BP w1 G qb t W)(ht:BT W):Calls Tryz.prog 10 #[.pointer (some ⟨qa,0,none⟩),.pointer (some ⟨qb,0,none⟩)] W (jeb (Bk.Like s t) W):=by
 obtain⟨ra,AA,ca,hca⟩:=jsw ha;obtain⟨rb,AB,cb,hcb⟩:=jsw hb;have KA:=zh (fun X (h:zF W X)=>hca.on h);have KB:=zh (fun X (h:zF W X)=>hcb.on h);have CS:=zh (fun X (h:zF W X)=>jsv (jbf ha h) (jbf hb h) (ht.on h));have LA:Hid (s.h.length<=24):=(bp_ok ha).hl;have US:=zh (hca.raw.same hcb.raw);have LP:=zh (joq (s:=s) (t:=t));rw[US.o,<-Bk.usSame_iff]at LP;clear ha hb ht hca hcb US;go_in;go_upto_region 2 with(first|(go_at_call 27;refine(jhe qb _).mono ?_;rintro e wb ⟨rfl,hb⟩;have B0:=zh (BA.o.trans (hb.mono BA.o.size));clear hb BA)|(go_at_call 27;refine(jhe qa _).mono ?_;rintro e wa ⟨rfl,hb⟩;have BA:=zh hb;clear hb))
 have hve:∀W,(binOp .eql 59 (.agg (Bk.viewC s)) (.agg (Bk.viewC t))).run Tryz.prog W= .ok (.bool (Bk.vwSame s t)) W:=fun W=>vw_eq s t W;have hue:∀W,(binOp .eql 36 (.agg (Bk.uC ra)) (.agg (Bk.uC rb))).run Tryz.prog W= .ok (.bool (Bk.usSame ra rb)) W:=fun W=>us_eq ra rb W;generalize Bk.vwSame s t=vz at*;generalize Bk.usSame ra rb=uz at*
 cases vz with
 |false=>
  have NO:Hid (¬Bk.Like s t):=fun h=>by have:=(LP.o.1 h).1;cases this
  clear LP CS;refine wp_region_held_drew (S:=fun X=>zF W X) zk B0.o.drew (fun hS=> ?_);refine tY 0 hS ?_;refine tY 1 hS ?_;refine tY 2 hS ?_;refine tZ 3 (v:= .agg (Bk.viewC s)) rfl (fun W hW=>ja4 59 (.tmp 11) rfl qa 4 (Bk.viewC s) _ rfl (KA.o W hW).vw jau rfl (jbe s)) hS ?_;refine tY 4 hS ?_;refine tY 5 hS ?_;simp only[Act.put,zT,zO,zS];refine tY 6 hS ?_;refine tZ 7 (v:= .agg (Bk.viewC t)) rfl (fun W hW=>ja4 59 (.tmp 15) rfl qb 4 (Bk.viewC t) _ rfl (KB.o W hW).vw jau rfl (jbe t)) hS ?_;refine tY 8 hS ?_;refine tY 9 hS ?_;refine tN 10 hS ?_;refine tN 11 hS ?_;simp only[Act.put,zT,zO,zS];refine tN 12 hS ?_;refine tN 13 hS ?_;refine tN 14 hS ?_;refine tN 15 hS ?_;refine tN 16 hS ?_;refine tN 17 hS ?_;simp only[Act.put,zT,zO,zS];refine tN 18 hS ?_;exact zzm
 |true=>
  cases uz with
  |false=>
   have NO:Hid (¬Bk.Like s t):=fun h=>by have:=(LP.o.1 h).2.1;cases this
   clear LP CS;refine wp_region_held_drew (S:=fun X=>zF W X) zk B0.o.drew (fun hS=> ?_);refine tY 0 hS ?_;refine tY 1 hS ?_;refine tY 2 hS ?_;refine tZ 3 (v:= .agg (Bk.viewC s)) rfl (fun W hW=>ja4 59 (.tmp 11) rfl qa 4 (Bk.viewC s) _ rfl (KA.o W hW).vw jau rfl (jbe s)) hS ?_;refine tY 4 hS ?_;refine tY 5 hS ?_;simp only[Act.put,zT,zO,zS];refine tY 6 hS ?_;refine tZ 7 (v:= .agg (Bk.viewC t)) rfl (fun W hW=>ja4 59 (.tmp 15) rfl qb 4 (Bk.viewC t) _ rfl (KB.o W hW).vw jau rfl (jbe t)) hS ?_;refine tY 8 hS ?_;refine tY 9 hS ?_;refine tY 10 hS ?_;refine tY 11 hS ?_;simp only[Act.put,zT,zO,zS];refine tY 12 hS ?_;refine tZ 13 (v:= .agg (Bk.uC ra)) rfl (fun W hW=>ja4 36 (.tmp 21) rfl qa 26 (Bk.uC ra) _ rfl (KA.o W hW).us jft rfl (jec ra)) hS ?_;refine tY 14 hS ?_;refine tY 15 hS ?_;refine tY 16 hS ?_;refine tZ 17 (v:= .agg (Bk.uC rb)) rfl (fun W hW=>ja4 36 (.tmp 25) rfl qb 26 (Bk.uC rb) _ rfl (KB.o W hW).us jft rfl (jec rb)) hS ?_;simp only[Act.put,zT,zO,zS];refine tY 18 hS ?_;exact zzm
  |true=>
   by_cases hh:s.h=t.h
   ·have HH:=zh hh
    have LP2:Hid (Bk.Like s t↔s.vs=t.vs):=⟨fun h=>(LP.o.1 h).2.2.2,fun h=>LP.o.2 ⟨rfl,rfl,HH.o,h⟩⟩;clear hh LP;refine wp_region_held_drew (S:=fun X=>zF W X) zk B0.o.drew (fun hS=> ?_);refine tY 0 hS ?_;refine tY 1 hS ?_;refine tY 2 hS ?_;refine tZ 3 (v:= .agg (Bk.viewC s)) rfl (fun W hW=>ja4 59 (.tmp 11) rfl qa 4 (Bk.viewC s) _ rfl (KA.o W hW).vw jau rfl (jbe s)) hS ?_;refine tY 4 hS ?_;refine tY 5 hS ?_;simp only[Act.put,zT,zO,zS];refine tY 6 hS ?_;refine tZ 7 (v:= .agg (Bk.viewC t)) rfl (fun W hW=>ja4 59 (.tmp 15) rfl qb 4 (Bk.viewC t) _ rfl (KB.o W hW).vw jau rfl (jbe t)) hS ?_;refine tY 8 hS ?_;refine tY 9 hS ?_;refine tY 10 hS ?_;refine tY 11 hS ?_;simp only[Act.put,zT,zO,zS];refine tY 12 hS ?_;refine tZ 13 (v:= .agg (Bk.uC ra)) rfl (fun W hW=>ja4 36 (.tmp 21) rfl qa 26 (Bk.uC ra) _ rfl (KA.o W hW).us jft rfl (jec ra)) hS ?_;refine tY 14 hS ?_;refine tY 15 hS ?_;refine tY 16 hS ?_;refine tZ 17 (v:= .agg (Bk.uC rb)) rfl (fun W hW=>ja4 36 (.tmp 25) rfl qb 26 (Bk.uC rb) _ rfl (KB.o W hW).us jft rfl (jec rb)) hS ?_;simp only[Act.put,zT,zO,zS];refine tY 18 hS ?_;refine tY 19 hS ?_;refine tY 20 hS ?_;refine tY 21 hS ?_;refine tY 22 hS ?_;refine tY 23 hS ?_;simp only[Act.put,zT,zO,zS];refine tZ 24 rfl (by intro W hW;have e0:=(KA.o W hW).hc;have lg:=(KA.o W hW).lt;go_simp;(try with_reducible rfl)) hS ?_;refine tY 25 hS ?_;refine tY 26 hS ?_;refine tY 27 hS ?_;refine tZ 28 rfl (by intro W hW;have e0:=(KB.o W hW).hc;have lg:=(KB.o W hW).lt;go_simp;(try with_reducible rfl)) hS ?_;simp only[Act.put,zT,zO,zS];refine rO 29 (fun K hK=> ?_);go_simp
    refine(jkk AA AB s.h.length t.h.length ca cb s.h t.h _ (KA.o _ hS).hs (KB.o _ hS).hs (by have:=LA.o;omega)).mono ?_
    rintro e wv ⟨⟨zz,rfl,hzz⟩,hb⟩;obtain rfl:zz=true:=hzz.2 HH.o;clear hzz;replace hS:=hS.trans (hb.mono hS.size);clear hb;refine hK.out _ _ hS (fun _=> ?_);clear hK K;refine tY 30 hS ?_;refine tY 31 hS ?_;refine tY 32 hS ?_;refine tY 33 hS ?_;simp only[Act.put,zT,zO,zS];refine rO 34 (fun K hK=> ?_);go_simp
    refine(CS.o _ hS).mono ?_
    rintro e wv ⟨⟨zz,rfl,hzz⟩,hb⟩;have HZ:=zh hzz;clear hzz;replace hS:=hS.trans (hb.mono hS.size);clear hb;refine hK.out _ _ hS (fun _=> ?_);clear hK K;refine tY 35 hS ?_;refine tY 36 hS ?_;simp only[Act.put,zT,zO,zS];refine wpAnyH_done zk ?_ _;have D5:=zh hS;clear hS;go_wp2;go_ret;exact⟨⟨_,rfl,by first|exact HZ.o.trans LP2.o.symm|(rw[LP2.o,<-HZ.o];simp)⟩,D5.o⟩
   ·have HH:=zh hh
    have NO:Hid (¬Bk.Like s t):=fun h=>HH.o (LP.o.1 h).2.2.1;clear hh LP CS;refine wp_region_held_drew (S:=fun X=>zF W X) zk B0.o.drew (fun hS=> ?_);refine tY 0 hS ?_;refine tY 1 hS ?_;refine tY 2 hS ?_;refine tZ 3 (v:= .agg (Bk.viewC s)) rfl (fun W hW=>ja4 59 (.tmp 11) rfl qa 4 (Bk.viewC s) _ rfl (KA.o W hW).vw jau rfl (jbe s)) hS ?_;refine tY 4 hS ?_;refine tY 5 hS ?_;simp only[Act.put,zT,zO,zS];refine tY 6 hS ?_;refine tZ 7 (v:= .agg (Bk.viewC t)) rfl (fun W hW=>ja4 59 (.tmp 15) rfl qb 4 (Bk.viewC t) _ rfl (KB.o W hW).vw jau rfl (jbe t)) hS ?_;refine tY 8 hS ?_;refine tY 9 hS ?_;refine tY 10 hS ?_;refine tY 11 hS ?_;simp only[Act.put,zT,zO,zS];refine tY 12 hS ?_;refine tZ 13 (v:= .agg (Bk.uC ra)) rfl (fun W hW=>ja4 36 (.tmp 21) rfl qa 26 (Bk.uC ra) _ rfl (KA.o W hW).us jft rfl (jec ra)) hS ?_;refine tY 14 hS ?_;refine tY 15 hS ?_;refine tY 16 hS ?_;refine tZ 17 (v:= .agg (Bk.uC rb)) rfl (fun W hW=>ja4 36 (.tmp 25) rfl qb 26 (Bk.uC rb) _ rfl (KB.o W hW).us jft rfl (jec rb)) hS ?_;simp only[Act.put,zT,zO,zS];refine tY 18 hS ?_;refine tY 19 hS ?_;refine tY 20 hS ?_;refine tY 21 hS ?_;refine tY 22 hS ?_;refine tY 23 hS ?_;simp only[Act.put,zT,zO,zS];refine tZ 24 rfl (by intro W hW;have e0:=(KA.o W hW).hc;have lg:=(KA.o W hW).lt;go_simp;(try with_reducible rfl)) hS ?_;refine tY 25 hS ?_;refine tY 26 hS ?_;refine tY 27 hS ?_;refine tZ 28 rfl (by intro W hW;have e0:=(KB.o W hW).hc;have lg:=(KB.o W hW).lt;go_simp;(try with_reducible rfl)) hS ?_;simp only[Act.put,zT,zO,zS];refine rO 29 (fun K hK=> ?_);go_simp
    refine(jkk AA AB s.h.length t.h.length ca cb s.h t.h _ (KA.o _ hS).hs (KB.o _ hS).hs (by have:=LA.o;omega)).mono ?_
    rintro e wv ⟨⟨zz,rfl,hzz⟩,hb⟩;obtain rfl:zz=false:=Bool.eq_false_iff.2 (fun h=>HH.o (hzz.1 h));clear hzz;replace hS:=hS.trans (hb.mono hS.size);clear hb;refine hK.out _ _ hS (fun _=> ?_);clear hK K;refine tY 30 hS ?_;refine tY 31 hS ?_;refine tN 32 hS ?_;refine tN 33 hS ?_;refine tN 34 hS ?_;refine tY 35 hS ?_;simp only[Act.put,zT,zO,zS];refine tY 36 hS ?_;simp only[Act.put,zT,zO,zS];refine wpAnyH_done zk ?_ _;have D5:=zh hS;clear hS;go_wp2;go_ret;exact⟨⟨false,rfl,by simp only[Bool.false_eq_true,false_iff];exact NO.o⟩,D5.o⟩