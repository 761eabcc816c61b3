import Derived.Laws.ResultCell
import Derived.Great.BuildSlice
import Derived.Deep.MidRow
import Derived.Test.YtkinlcfhojjalaaGreatDoorQz08
import Derived.Maps.OwnSet
import Derived.Maps.OwnOps
import Derived.Maps.RangeWalk
import Derived.StringKeys
import Derived.Laws.IdiomRangeMap
import Derived.Laws.Strings
import Derived.Laws.ByValue
import Derived.IntWalk
set_option maxHeartbeats 6400000
set_option maxRecDepth 100000
set_option linter.all false
namespace Go.Proofs.YtkinlcfhojjalaaGreatDoor
open Go.RowKit
namespace Bk
def unSame(a b:Un):Bool:=(a.v==b.v)&&((a.q==b.q)&&((a.d==b.d)&&true))
theorem unSame_iff{a b:Un}:unSame a b=true↔a=b:=by
 unfold unSame;simp only[Bool.and_eq_true,beq_iff_eq,and_true];constructor
 ·rintro⟨h1,h2,h3⟩
  cases a;cases b
  simp only at h1 h2 h3;subst h1 h2 h3;rfl
 ·rintro rfl;simp
def uC(u:Nat->Un):Array Value:=#[.int .i64 (u 0).v,.int .i64 (u 0).q,.bool (u 0).d,.int .i64 (u 1).v,.int .i64 (u 1).q,.bool (u 1).d,.int .i64 (u 2).v,.int .i64 (u 2).q,.bool (u 2).d,.int .i64 (u 3).v,.int .i64 (u 3).q,.bool (u 3).d,.int .i64 (u 4).v,.int .i64 (u 4).q,.bool (u 4).d,.int .i64 (u 5).v,.int .i64 (u 5).q,.bool (u 5).d,.int .i64 (u 6).v,.int .i64 (u 6).q,.bool (u 6).d,.int .i64 (u 7).v,.int .i64 (u 7).q,.bool (u 7).d,.int .i64 (u 8).v,.int .i64 (u 8).q,.bool (u 8).d,.int .i64 (u 9).v,.int .i64 (u 9).q,.bool (u 9).d,.int .i64 (u 10).v,.int .i64 (u 10).q,.bool (u 10).d,.int .i64 (u 11).v,.int .i64 (u 11).q,.bool (u 11).d,.int .i64 (u 12).v,.int .i64 (u 12).q,.bool (u 12).d,.int .i64 (u 13).v,.int .i64 (u 13).q,.bool (u 13).d,.int .i64 (u 14).v,.int .i64 (u 14).q,.bool (u 14).d,.int .i64 (u 15).v,.int .i64 (u 15).q,.bool (u 15).d]
def usSame(u t:Nat->Un):Bool:=(Bk.unSame (u 0) (t 0)&&(Bk.unSame (u 1) (t 1)&&(Bk.unSame (u 2) (t 2)&&(Bk.unSame (u 3) (t 3)&&(Bk.unSame (u 4) (t 4)&&(Bk.unSame (u 5) (t 5)&&(Bk.unSame (u 6) (t 6)&&(Bk.unSame (u 7) (t 7)&&(Bk.unSame (u 8) (t 8)&&(Bk.unSame (u 9) (t 9)&&(Bk.unSame (u 10) (t 10)&&(Bk.unSame (u 11) (t 11)&&(Bk.unSame (u 12) (t 12)&&(Bk.unSame (u 13) (t 13)&&(Bk.unSame (u 14) (t 14)&&(Bk.unSame (u 15) (t 15)&&true))))))))))))))))
theorem usSame_iff{u t:Nat->Un}:usSame u t=true↔∀i,i<16->u i=t i:=by
 unfold usSame;simp only[Bool.and_eq_true,unSame_iff,and_true];constructor
 ·rintro⟨h0,h1,h2,h3,h4,h5,h6,h7,h8,h9,h10,h11,h12,h13,h14,h15⟩ i hi
  rcases i with _|_|_|_|_|_|_|_|_|_|_|_|_|_|_|_|i
  all_goals first|assumption|omega
 ·intro h
  exact⟨h 0 zv,h 1 zv,h 2 zv,h 3 zv,h 4 zv,h 5 zv,h 6 zv,h 7 zv,h 8 zv,h 9 zv,h 10 zv,h 11 zv,h 12 zv,h 13 zv,h 14 zv,h 15 zv⟩
end Bk
theorem jqh:Tryz.prog.underlying 35=some (.struct (Tryz.prog.fieldsOf 35)):=by kernel_rfl
theorem jup:Tryz.prog.stoodInHeld 35=false:=by kernel_rfl
theorem juq:Tryz.prog.cellsOf 35=3:=by kernel_rfl
theorem jft:Tryz.prog.underlying 36=some (.array 16 35):=by kernel_rfl
theorem un_info:(Tryz.prog.info? 35).map (fun i=>(i.zero,i.size,i.bytes))=some (some (.agg #[zi,zi,.bool false]),3,24):=by kernel_rfl
theorem jbo(a b:Bk.Un)(d:Nat)(W:World):(Op.equalIn (d+2) 35 (.agg #[.int .i64 a.v,.int .i64 a.q,.bool a.d]) (.agg #[.int .i64 b.v,.int .i64 b.q,.bool b.d])).run Tryz.prog W= .ok (Bk.unSame a b) W:=by
 rw[run_equalIn_agg W (d+1) 35 _ _ jqh jup];have hi:∀x y,(Op.equalIn (d+1) 3 (.int .i64 x) (.int .i64 y)).run Tryz.prog W= .ok (x==y) W:=fun x y=>run_equalIn_int W d 3 .i64 .i64 x y Tryz.underlying3;have hb:∀x y,(Op.equalIn (d+1) 4 (.bool x) (.bool y)).run Tryz.prog W= .ok (x==y) W:=fun x y=>run_equalIn_bool' W d 4 x y Tryz.underlying4;simp only[Program.fieldsOf,Tryz.underlying35];unfold Bk.unSame;refine jai (by decide) ?_ ?_ (hi _ _) (jai (by decide) ?_ ?_ (hi _ _) (jai (by decide) ?_ ?_ (hb _ _) jgk))
 all_goals simp[go_sem,Sem.run_bind,Result.andThen]
theorem us_eqIn(u t:Nat->Bk.Un)(d:Nat)(W:World):(Op.equalIn (d+4) 36 (.agg (Bk.uC u)) (.agg (Bk.uC t))).run Tryz.prog W= .ok (Bk.usSame u t) W:=by
 obtain⟨i0,hi0,hz0,hz1,hz2⟩:=info_parts un_info;rw[run_equalIn_array W (d+3) _ _ jft hi0,juq,show List.range 16=[0,1,2,3,4,5,6,7,8,9,10,11,12,13,14,15]from rfl];unfold Bk.usSame Bk.uC;exact(jaw (by simp[go_sem,Sem.run_bind,Result.andThen]) (by simp[go_sem,Sem.run_bind,Result.andThen]) (jbo (u 0) (t 0) (d+1) W) (jaw (by simp[go_sem,Sem.run_bind,Result.andThen]) (by simp[go_sem,Sem.run_bind,Result.andThen]) (jbo (u 1) (t 1) (d+1) W) (jaw (by simp[go_sem,Sem.run_bind,Result.andThen]) (by simp[go_sem,Sem.run_bind,Result.andThen]) (jbo (u 2) (t 2) (d+1) W) (jaw (by simp[go_sem,Sem.run_bind,Result.andThen]) (by simp[go_sem,Sem.run_bind,Result.andThen]) (jbo (u 3) (t 3) (d+1) W) (jaw (by simp[go_sem,Sem.run_bind,Result.andThen]) (by simp[go_sem,Sem.run_bind,Result.andThen]) (jbo (u 4) (t 4) (d+1) W) (jaw (by simp[go_sem,Sem.run_bind,Result.andThen]) (by simp[go_sem,Sem.run_bind,Result.andThen]) (jbo (u 5) (t 5) (d+1) W) (jaw (by simp[go_sem,Sem.run_bind,Result.andThen]) (by simp[go_sem,Sem.run_bind,Result.andThen]) (jbo (u 6) (t 6) (d+1) W) (jaw (by simp[go_sem,Sem.run_bind,Result.andThen]) (by simp[go_sem,Sem.run_bind,Result.andThen]) (jbo (u 7) (t 7) (d+1) W) (jaw (by simp[go_sem,Sem.run_bind,Result.andThen]) (by simp[go_sem,Sem.run_bind,Result.andThen]) (jbo (u 8) (t 8) (d+1) W) (jaw (by simp[go_sem,Sem.run_bind,Result.andThen]) (by simp[go_sem,Sem.run_bind,Result.andThen]) (jbo (u 9) (t 9) (d+1) W) (jaw (by simp[go_sem,Sem.run_bind,Result.andThen]) (by simp[go_sem,Sem.run_bind,Result.andThen]) (jbo (u 10) (t 10) (d+1) W) (jaw (by simp[go_sem,Sem.run_bind,Result.andThen]) (by simp[go_sem,Sem.run_bind,Result.andThen]) (jbo (u 11) (t 11) (d+1) W) (jaw (by simp[go_sem,Sem.run_bind,Result.andThen]) (by simp[go_sem,Sem.run_bind,Result.andThen]) (jbo (u 12) (t 12) (d+1) W) (jaw (by simp[go_sem,Sem.run_bind,Result.andThen]) (by simp[go_sem,Sem.run_bind,Result.andThen]) (jbo (u 13) (t 13) (d+1) W) (jaw (by simp[go_sem,Sem.run_bind,Result.andThen]) (by simp[go_sem,Sem.run_bind,Result.andThen]) (jbo (u 14) (t 14) (d+1) W) (jaw (by simp[go_sem,Sem.run_bind,Result.andThen]) (by simp[go_sem,Sem.run_bind,Result.andThen]) (jbo (u 15) (t 15) (d+1) W) jpx))))))))))))))))
theorem jec(u:Nat->Bk.Un):(Tryz.prog.info? 36).map (·.size)=some (Bk.uC u).toList.length:=by kernel_rfl
structure Bk.Like(a b:Bk.St):Prop where
 ep:a.ep=b.ep
 who:a.who=b.who
 till:a.till=b.till
 stable:a.stable=b.stable
 from_:a.from_=b.from_
 ph:a.ph=b.ph
 step:a.step=b.step
 since:a.since=b.since
 begun:a.begun=b.begun
 seq:a.seq=b.seq
 sp:a.sp=b.sp
 us:∀i,i<16->a.us i=b.us i
 vs:a.vs=b.vs
 h:a.h=b.h
theorem jbm{ops:Array Oper}{rest:List Oper}{op:Oper}{a:Act}{w:World}{Q:Exit->Act->World->Prop}(hgd:op.guard=none)(x:Operand)(ho:op.op= .load 56 x)
  (b o:Nat) (hx:a.eval x= .pointer (some ⟨b,o,none⟩)) (r:Rc.R) (hc:w.rangeAt b o (Rc.cells r).toList)
  (h:wpList Tryz.prog ops Q rest (a.put op.dst (.agg (Rc.cells r))) w):wpList Tryz.prog ops Q (op::rest) a w:=by
 refine wpList_load_mid hgd 56 x ho b o hx (Rc.cells r).toList _ hc jag rfl (jak r) ?_;rw[Array.toArray_toList];exact h
def Rc.txt_(r:Rc.R)(t:ByteArray):Rc.R:={r with text:=t}
theorem jnv{w:World}{g:Nat}{r:Rc.R}(h:RcAt w g r)(t:ByteArray):RcAt (w.setCell ⟨g,5,none⟩ (.string t)) g (Rc.txt_ r t):=⟨heap_setCell_same w g 5 _ _ _ h.row⟩
namespace Bk
def viewC(s:St):Array Value:=#[.int .i64 s.ep,.int .i64 s.who,.int .i64 s.till,.int .i64 s.stable,.int .i64 s.from_,.int .i64 s.ph,.int .i64 s.step,.int .i64 s.since,.int .i64 s.begun,.int .i64 s.seq,.int .i64 s.sp.v,.int .i64 s.sp.d,.int .i64 s.sp.u,.int .i64 s.sp.n,.int .i64 s.sp.g,.int .i64 s.sp.a,.int .i64 s.sp.b,.int .i64 s.sp.c,.int .i64 s.sp.e,.int .i64 s.sp.w,.int .i64 s.sp.x,.int .i64 s.sp.k]
end Bk
abbrev b64In(x:Int):Prop:= -9223372036854775808<=x/\x<=9223372036854775807
abbrev jnw:=World->(Nat->Prop)->Nat->Bk.St->Prop
def BRet(v:Value)(w:World)(e:Ending)(w':World):Prop:=e= .returned v/\zF w w'
def BTurn(K:jnw)(X:Nat->Prop)(q:Nat)(s':Bk.St)(v:Value)(w:World)(e:Ending)(w':World):Prop:=∃X',e= .returned v/\K w' X' q s'/\(∀i,X' i->X i\/w.heap.size<=i)/\Kept X w w'
def jnx{T:Type}(enc:T->List Value)(l:List T)(w:World)(e:Ending)(w':World):Prop:=∃A c,e= .returned (.slice A l.length c)/\SlF enc w' A l.length c l/\zF w w'/\∀b o,A=some ⟨b,o,none⟩->w.heap.size<=b
def BMade(K:jnw)(s:Bk.St)(f:Value->Value)(w:World)(e:Ending)(w':World):Prop:=∃q X,e= .returned (f (.pointer (some ⟨q,0,none⟩)))/\K w' X q s/\(∀i,X i->w.heap.size<=i)/\zF w w'
def BAt(K:jnw)(w0:World)(F:Nat->Prop)(q:Nat)(s:Bk.St)(W:World):Prop:=∃X,K W X q s/\(∀i,X i->w0.heap.size<=i)/\(∀b,F b->¬X b/\b<W.heap.size)/\zF w0 W
section
variable{K:jnw}{w0 W W':World}{F:Nat->Prop}{q:Nat}{s:Bk.St}
def BRes(K:jnw)(w0:World)(F:Nat->Prop)(q:Nat)(s':Bk.St)(x:Value)(W:World)(e:Ending)(w':World):Prop:=
 e= .returned x/\BAt K w0 F q s' w'/\∀b,F b->w'.heap[b]? =W.heap[b]?
end
open Go.Maps Go.WideMaps
structure MapW(P:Program)(kt et t:TypeId)(K V:Type) where
 kv:K->Value
 kl:K->Lit
 ok:K->Prop
 ev:V->Value
 ed:V->DataW Unit
 R:Value->Option (DataW Unit×List MemPlace)
 zero:V
 keyed:Keyed P kt
 ty:P.underlying t=some (.map kt et)
 key:∀k,ok k->keyOf P kt (kv k)=some (kl k)
 inv:∀v z,keyOf P kt v=some z->∃k,v=kv k/\z=kl k/\ok k
 inj:∀k k',kl k=kl k'->k=k'
 isKey:∀k,WideAt.IsKeyLit (kl k)
 rd:∀v,R (ev v)=some (ed v,[])
 rinv:∀x z,R x=some z->∃v,x=ev v/\z=(ed v,[])
 einj:∀v v',ed v=ed v'->v=v'
 hz:∀w,(zeroValue et).run P w= .ok (ev zero) w
namespace MapW
variable{P:Program}{kt et t:TypeId}{K V:Type}(M:MapW P kt et t K V)
structure Dat(D:DataW Unit)(f:K->Option V)(n:Nat):Prop where
 has:∀k,Maps.has D (M.kl k)=(f k).isSome
 at_:∀k v,f k=some v->∀z,D.atKey (M.kl k) z=M.ed v
 size:Maps.size D=n
 tidy:Tidy D
def At(w:World)(b:Nat)(f:K->Option V)(n:Nat):Prop:=∃D,w.ownsMap P kt M.R b n D/\M.Dat D f n
noncomputable def set(f:K->Option V)(k:K)(o:Option V):K->Option V:=by
 classical exact fun k'=>if k'=k then o else f k'
theorem set_same(f:K->Option V)(k:K)(o:Option V):set f k o k=o:=by unfold set;simp
theorem set_other(f:K->Option V){k k':K}(o:Option V)(h:k'≠k):set f k o k'=f k':=by unfold set;simp[h]
variable{M}
theorem _root_.Go.Proofs.YtkinlcfhojjalaaGreatDoor.zz2a{p:Prop}(h:p:=by
 obtain⟨es,clock,hb,F,_,rfl⟩:=h;refine⟨es,clock,hb,F,?_,rfl⟩;simp[Maps.size,length_sorted]):p:=h
theorem owns_tight{w:World}{b n:Nat}{D:DataW Unit}(h:w.ownsMap P kt M.R b n D):w.ownsMap P kt M.R b (Maps.size D) D:=by
 exact zz2a
theorem At.of{w:World}{b n m:Nat}{D:DataW Unit}{f:K->Option V}(h:w.ownsMap P kt M.R b m D)(hd:M.Dat D f n):M.At w b f n:=⟨D,by rw[<-hd.size];exact owns_tight h,hd⟩
theorem At.made(w:World):M.At (w.alloc (.map #[] 0)) w.heap.size (fun _=>none) 0:=⟨_,World.ownsMap_made w P kt M.R,fun _=>rfl,fun _ _ h=>(by cases h),rfl,tidy_empty⟩
theorem At.lt{w:World}{b n:Nat}{f:K->Option V}(h:M.At w b f n):b<w.heap.size:=by
 obtain⟨D,h1,_⟩:=h;exact h1.lt
theorem _root_.Go.Proofs.YtkinlcfhojjalaaGreatDoor.zz2j{p:Prop}(h:p:=by
 obtain⟨D,⟨es,clock,h1,h2⟩,hd⟩:=h;exact⟨D,⟨es,clock,hb.trans h1,h2⟩,hd⟩):p:=h
theorem At.keep{w w':World}{b n:Nat}{f:K->Option V}(h:M.At w b f n)(hb:w'.heap[b]? =w.heap[b]?):M.At w' b f n:=by
 exact zz2j
theorem At.on{w w':World}{b n:Nat}{f:K->Option V}(h:M.At w b f n)(hb:zF w w'):M.At w' b f n:=h.keep (hb.block b h.lt)
theorem At.block{w:World}{b n:Nat}{f:K->Option V}(h:M.At w b f n):∃es clock,w.heap[b]? =some (.map es clock):=by
 obtain⟨D,⟨es,clock,h1,_⟩,_⟩:=h;exact⟨es,clock,h1⟩
theorem _root_.Go.Proofs.YtkinlcfhojjalaaGreatDoor.zz1x{p:Prop}(h:p:=by
 cases hf:f k with
 |none=>
  have:=h.has k;rw[hf]at this;exact Maps.atKey_of_not_has this _
 |some v=>exact h.at_ k v hf _):p:=h
theorem Dat.look{D:DataW Unit}{f:K->Option V}{n:Nat}(h:M.Dat D f n)(k:K):D.atKey (M.kl k) (M.ed M.zero)=M.ed ((f k).getD M.zero):=by
 exact zz1x
theorem _root_.Go.Proofs.YtkinlcfhojjalaaGreatDoor.zzp{p:Prop}(h:p:=by
 refine⟨fun k'=> ?_,fun k' u hu z=> ?_,?_,h.tidy.put (M.isKey k) _⟩
 ·by_cases hk:k'=k
  ·subst hk;rw[set_same];exact has_put_same h.tidy.isMap (M.isKey _) _
  ·rw[set_other _ _ hk,has_put_other (fun e=>hk (M.inj _ _ e))];exact h.has k'
 ·by_cases hk:k'=k
  ·subst hk
   rw[set_same]at hu;obtain rfl:=Option.some.inj hu;exact atKey_put_same h.tidy.isMap (M.isKey _) _ _
  ·rw[set_other _ _ hk]at hu
   rw[atKey_put_other (fun e=>hk (M.inj _ _ e))];exact h.at_ k' u hu z
 ·have h1:=size_put (k:=M.kl k) h.tidy (M.ed v)
  rw[h.has k,h.size]at h1;exact h1):p:=h
theorem Dat.put{D:DataW Unit}{f:K->Option V}{n:Nat}(h:M.Dat D f n)(k:K)(v:V):M.Dat (D.put (M.kl k) (M.ed v)) (set f k (some v)) (if(f k).isSome then n else n+1):=by
 exact zzp
theorem _root_.Go.Proofs.YtkinlcfhojjalaaGreatDoor.zz11{p:Prop}(h:p:=by
 obtain⟨D,h1,hd⟩:=h;obtain⟨v,ps,hrun,hv⟩:=h1.lookup M.keyed M.ty (M.hz w) (M.rd M.zero) (M.key k hk);obtain⟨u,rfl,hu⟩:=M.rinv _ _ hv;have h2:=hd.look k;have h3:D.atKey (M.kl k) (M.ed M.zero)=M.ed u:=congrArg Prod.fst hu;rw[M.einj _ _ (h2.symm.trans h3)];exact hrun):p:=h
theorem At.look{w:World}{b n:Nat}{f:K->Option V}(h:M.At w b f n)(k:K)(hk:M.ok k):(Instr.lookup t (.map (some b)) (M.kv k) false).run P w= .ok (M.ev ((f k).getD M.zero)) w:=by
 exact zz11
theorem _root_.Go.Proofs.YtkinlcfhojjalaaGreatDoor.zzy{p:Prop}(h:p:=by
 obtain⟨D,h1,hd⟩:=h;obtain⟨v,ps,hrun,hv⟩:=h1.look_ok M.keyed M.ty (M.hz w) (M.rd M.zero) (M.key k hk);obtain⟨u,rfl,hu⟩:=M.rinv _ _ hv;have h2:=hd.look k;have h3:D.atKey (M.kl k) (M.ed M.zero)=M.ed u:=congrArg Prod.fst hu;rw[hd.has k]at hrun;rw[M.einj _ _ (h2.symm.trans h3)];exact hrun):p:=h
theorem At.look_ok{w:World}{b n:Nat}{f:K->Option V}(h:M.At w b f n)(k:K)(hk:M.ok k):(Instr.lookup t (.map (some b)) (M.kv k) true).run P w= .ok (.tuple #[M.ev ((f k).getD M.zero),.bool (f k).isSome]) w:=by
 exact zzy
theorem At.put{w:World}{b n:Nat}{f:K->Option V}(h:M.At w b f n)(hn:n<maxLen)(k:K)(v:V)(hk:M.ok k):
  ∃w',(Instr.mapUpdate t (.map (some b)) (M.kv k) (M.ev v)).run P w= .ok () w'/\M.At w' b (set f k (some v)) (if(f k).isSome then n else n+1)/\w.mapTurned w' b:=by
 obtain⟨D,h1,hd⟩:=h;obtain⟨w',hrun,h2,h3⟩:=h1.store M.keyed M.ty hn (M.key k hk) (M.rd v);exact⟨w',hrun,At.of h2 (hd.put k v),h3⟩
variable(M)
def Opt(w:World)(mo:Option Nat)(f:K->Option V)(n:Nat):Prop:=
 match mo with
 |none=>(∀k,f k=none)/\n=0
 |some m=>M.At w m f n
variable{M}
theorem Opt.look{w:World}{mo:Option Nat}{n:Nat}{f:K->Option V}(h:M.Opt w mo f n)(k:K)(hk:M.ok k):(Instr.lookup t (.map mo) (M.kv k) false).run P w= .ok (M.ev ((f k).getD M.zero)) w:=by
 cases mo with
 |some m=>exact At.look h k hk
 |none=>rw[h.1 k];exact Maps.look_nil false M.keyed M.ty (M.hz w) (M.key k hk)
theorem Opt.keep{w w':World}{mo:Option Nat}{n:Nat}{f:K->Option V}(h:M.Opt w mo f n)(hk:∀m,mo=some m->w'.heap[m]? =w.heap[m]?):M.Opt w' mo f n:=by
 cases mo with
 |some m=>exact At.keep h (hk m rfl)
 |none=>exact h
theorem Opt.lt{w:World}{m n:Nat}{f:K->Option V}(h:M.Opt w (some m) f n):m<w.heap.size:=At.lt (M:=M) h
theorem Opt.on{w w':World}{mo:Option Nat}{n:Nat}{f:K->Option V}(h:M.Opt w mo f n)(hb:zF w w'):M.Opt w' mo f n:=h.keep fun m e=>by subst e;exact hb.block m (Opt.lt h)
def Coll(M:MapW P kt et t K V)(f:K->Option V)(q:K->V->Prop)(left:Lit->Bool)(ks:List K):Prop:=ks.Nodup/\∀k,k∈ks↔(∃v,f k=some v/\q k v)/\left (M.kl k)=false
theorem Coll.start{D:DataW Unit}{f:K->Option V}{n:Nat}(h:M.Dat D f n)(q:K->V->Prop):M.Coll f q (Maps.has D) []:=by
 refine⟨List.nodup_nil,fun k=> ?_⟩;simp only[List.not_mem_nil,false_iff,not_and];rintro⟨v,hv,_⟩ h2;have:=h.has k;rw[hv,h2]at this
 cases this
theorem same_kl{k x:K}[Decidable (k=x)]:(M.kl k).sameKey (M.kl x)=decide (k=x):=by
 by_cases h:k=x
 ·subst h;rw[WideAt.sameKey_self (M.isKey k)];simp
 ·rw[Maps.sameKey_ne (fun e=>h (M.inj _ _ e))];simp[h]
theorem Coll.all{f:K->Option V}{q:K->V->Prop}{left:Lit->Bool}{ks:List K}(h:M.Coll f q left ks)(hl:∀z,left z=false):ks.Nodup/\∀k,k∈ks↔∃v,f k=some v/\q k v:=
 ⟨h.1,fun k=>by rw[h.2 k];simp[hl]⟩
variable{w:World}{ops:Array Oper}{rest:List Oper}{o:Oper}{a:Act}{Q:Exit->Act->World->Prop}
end MapW
end Go.Proofs.YtkinlcfhojjalaaGreatDoor
namespace Go.Proofs.YtkinlcfhojjalaaGreatDoor
namespace Kv
theorem bl_irrefl:∀x:List UInt8,Op.bytesLess x x=false
 |[]=>rfl
 |a::x=>by simp[Op.bytesLess,bl_irrefl x]
theorem bl_trans:∀x y z:List UInt8,Op.bytesLess x y=true->Op.bytesLess y z=true->Op.bytesLess x z=true
 |_,_,[],_,h=>by cases ‹List UInt8›<;>simp[Op.bytesLess]at h
 |[],_,_::_,_,_=>rfl
 |_::_,[],_::_,h,_=>by simp[Op.bytesLess]at h
 |a::x,b::y,c::z,h1,h2=>by
  simp only[Op.bytesLess,Bool.or_eq_true,decide_eq_true_eq,Bool.and_eq_true,beq_iff_eq]at h1 h2⊢;rcases h1 with h1|⟨rfl,h1⟩
  ·rcases h2 with h2|⟨rfl,h2⟩
   ·exact .inl (UInt8.lt_trans h1 h2)
   ·exact .inl h1
  ·rcases h2 with h2|⟨rfl,h2⟩
   ·exact .inl h2
   ·exact .inr ⟨rfl,bl_trans x y z h1 h2⟩
theorem bl_tri:∀x y:List UInt8,Op.bytesLess x y=false->Op.bytesLess y x=false->x=y
 |[],[],_,_=>rfl
 |[],_::_,h,_=>by simp[Op.bytesLess]at h
 |_::_,[],_,h=>by simp[Op.bytesLess]at h
 |a::x,b::y,h1,h2=>by
  simp only[Op.bytesLess,Bool.or_eq_false_iff,decide_eq_false_iff_not,Bool.and_eq_false_iff,zq]at h1 h2;have hab:a=b:=UInt8.le_antisymm (UInt8.not_lt.1 h2.1) (UInt8.not_lt.1 h1.1);subst hab;rw[bl_tri x y (h1.2.resolve_left fun h=>h rfl) (h2.2.resolve_left fun h=>h rfl)]
def lt(a b:ByteArray):Prop:=Op.bytesLess a.toList b.toList=true
instance (a b:ByteArray):Decidable (lt a b):=inferInstanceAs (Decidable (_=true))
theorem teq{a b:ByteArray}:(a.toList==b.toList)=true↔a=b:=by
 exact zz1n
theorem tne{a b:ByteArray}:(a.toList==b.toList)=false↔a≠b:=by
 rw[<-Bool.not_eq_true,teq]
theorem lt_irrefl(a:ByteArray):¬lt a a:=by unfold lt;rw[bl_irrefl];simp
theorem lt_ne{a b:ByteArray}(h:lt a b):a≠b:=fun e=>lt_irrefl b (e▸h)
theorem lt_trans{a b c:ByteArray}(h1:lt a b)(h2:lt b c):lt a c:=bl_trans _ _ _ h1 h2
theorem lt_asymm{a b:ByteArray}(h1:lt a b):¬lt b a:=fun h2=>lt_irrefl _ (lt_trans h1 h2)
theorem lt_tri{a b:ByteArray}(h1:¬lt a b)(h2:a≠b):lt b a:=by
 unfold lt at*;by_cases h:Op.bytesLess b.toList a.toList=true
 ·exact h
 ·exact absurd (teq.1 (beq_iff_eq.2 (bl_tri _ _ (by simpa using h1) (by simpa using h)))) h2
theorem gt_eq(a b:ByteArray):(!(Op.bytesLess a.toList b.toList|| a.toList==b.toList))=true↔lt b a:=by
 simp only[Bool.not_eq_true',Bool.or_eq_false_iff,tne];constructor
 ·rintro⟨h1,h2⟩
  exact lt_tri (by unfold lt;rw[h1];simp) h2
 ·intro h
  exact⟨by simpa[lt]using lt_asymm h,fun e=>lt_ne h e.symm⟩
structure Po where
 key:ByteArray
 val:ByteArray
 rev:Int
 drop:Bool
structure En where
 key:ByteArray
 val:ByteArray
 rev:Int
structure St where
 l:List En
 rev:Int
def St.none:St:=⟨[],0⟩
def find(l:List En)(k:ByteArray):Option En:=l.find? fun e=>e.key.toList==k.toList
def valOf(l:List En)(k:ByteArray):ByteArray:=match find l k with|some e=>e.val|Option.none=>⟨#[]⟩
def revOf(l:List En)(k:ByteArray):Int:=match find l k with|some e=>e.rev|Option.none=>0
def keysOf(l:List En):List ByteArray:=l.map (·.key)
def since(s:St)(r:Int):List ByteArray:=((s.l.filter fun e=>decide (r<e.rev)).map (·.key))
def Rise(l:List En):Prop:=l.Pairwise fun a b=>lt a.key b.key
structure Good(s:St):Prop where
 rise:Rise s.l
 rev0:0<=s.rev
 revs:∀e∈s.l,1<=e.rev/\e.rev<=s.rev
 len:s.l.length<=64
 size:∀e∈s.l,1<=e.key.size/\e.key.size<=64/\e.val.size<=64
theorem Good.none_:Good St.none:=⟨List.Pairwise.nil,Int.le_refl _,by simp[St.none],by simp[St.none],by simp[St.none]⟩
theorem find_nil(k:ByteArray):find [] k=none:=rfl
theorem find_cons(e:En)(l:List En)(k:ByteArray):find (e::l) k=if e.key=k then some e else find l k:=by
 unfold find;by_cases h:e.key=k
 ·rw[if_pos h,List.find?_cons_of_pos (p:=fun e:En=>e.key.toList==k.toList) (teq.2 h)]
 ·rw[if_neg h,List.find?_cons_of_neg (p:=fun e:En=>e.key.toList==k.toList) (fun h2=>h (teq.1 h2))]
theorem find_some{l:List En}{k:ByteArray}{e:En}(h:find l k=some e):e∈l/\e.key=k:=by
 unfold find at h;exact⟨List.mem_of_find?_eq_some h,teq.1 (List.find?_some (p:=fun e:En=>e.key.toList==k.toList) h)⟩
theorem _root_.Go.Proofs.YtkinlcfhojjalaaGreatDoor.zz22{p:Prop}(h:p:=by
 unfold find;rw[List.find?_eq_none];exact⟨fun h e he hk=>h e he (teq.2 hk),fun h e he hk=>h e he (teq.1 hk)⟩):p:=h
theorem find_none{l:List En}{k:ByteArray}:find l k=none↔∀e∈l,e.key≠k:=by
 exact zz22
theorem _root_.Go.Proofs.YtkinlcfhojjalaaGreatDoor.zz1a{p:Prop}(h:p:=by
 induction l with
 |nil=>cases he
 |cons a l ih=>
  rw[find_cons];rcases List.mem_cons.1 he with rfl|he
  ·rw[if_pos rfl]
  ·have hr:=List.pairwise_cons.1 h
   rw[if_neg (lt_ne (hr.1 e he)),ih hr.2 he]):p:=h
theorem find_mem{l:List En}(h:Rise l){e:En}(he:e∈l):find l e.key=some e:=by
 exact zz1a
def PoOk(o:Po):Prop:=1<=o.key.size/\o.key.size<=64/\o.val.size<=64
def Right(ops:List Po):Prop:=0<ops.length/\(∀o∈ops,PoOk o)/\ops.Pairwise fun a b=>a.key≠b.key
def dropK(l:List En)(k:ByteArray):List En:=l.filter fun e=> !(e.key.toList==k.toList)
def putK(l:List En)(e:En):List En:=(l.takeWhile fun x=> !(!(Op.bytesLess x.key.toList e.key.toList|| x.key.toList==e.key.toList)))++e::(l.dropWhile fun x=> !(!(Op.bytesLess x.key.toList e.key.toList|| x.key.toList==e.key.toList)))
def step(r:Int)(l:List En)(o:Po):List En:=if o.drop then dropK l o.key else putK (dropK l o.key) ⟨o.key,o.val,r⟩
def after(s:St)(ops:List Po):St:=⟨ops.foldl (step (s.rev+1)) s.l,s.rev+1⟩
def Odd(s:St)(o:Po):Prop:=0<=o.rev/\o.rev≠revOf s.l o.key
def Lacks(s:St)(o:Po):Prop:=o.drop=true/\revOf s.l o.key=0
open Classical in
noncomputable def doE(s:St)(ops:List Po):Nat:=
 if¬Right ops then 1 else if∃o∈ops,Odd s o then 7 else if∃o∈ops,Lacks s o then 5 else if 64<(after s ops).l.length then 4 else 0
open Classical in
noncomputable def doS(s:St)(ops:List Po):St:=if doE s ops=0 then after s ops else s
open Classical in
noncomputable def doN(s:St)(ops:List Po):Int:=if doE s ops=0 then s.rev+1 else 0
theorem doE_right{s:St}{ops:List Po}(h:¬Right ops):doE s ops=1:=by unfold doE;rw[if_pos h]
theorem doE_odd{s:St}{ops:List Po}(h1:Right ops)(h2:∃o∈ops,Odd s o):doE s ops=7:=by unfold doE;rw[if_neg (fun h=>h h1),if_pos h2]
theorem doE_lacks{s:St}{ops:List Po}(h1:Right ops)(h2:∀o∈ops,¬Odd s o)(h3:∃o∈ops,Lacks s o):doE s ops=5:=by
 unfold doE;rw[if_neg (fun h=>h h1),if_neg (fun⟨o,ho,h⟩=>h2 o ho h),if_pos h3]
theorem doE_full{s:St}{ops:List Po}(h1:Right ops)(h2:∀o∈ops,¬Odd s o)(h3:∀o∈ops,¬Lacks s o)(h4:64<(after s ops).l.length):doE s ops=4:=by
 unfold doE;rw[if_neg (fun h=>h h1),if_neg (fun⟨o,ho,h⟩=>h2 o ho h),if_neg (fun⟨o,ho,h⟩=>h3 o ho h),if_pos h4]
theorem doE_ok{s:St}{ops:List Po}(h1:Right ops)(h2:∀o∈ops,¬Odd s o)(h3:∀o∈ops,¬Lacks s o)(h4:¬64<(after s ops).l.length):doE s ops=0:=by
 unfold doE;rw[if_neg (fun h=>h h1),if_neg (fun⟨o,ho,h⟩=>h2 o ho h),if_neg (fun⟨o,ho,h⟩=>h3 o ho h),if_neg h4]
theorem doE_zero{s:St}{ops:List Po}(h:doE s ops=0):Right ops/\(∀o∈ops,¬Odd s o)/\(∀o∈ops,¬Lacks s o)/\(after s ops).l.length<=64:=by
 unfold doE at h;split at h
 ·omega
 ·rename_i h1
  split at h
  ·omega
  ·rename_i h2
   split at h
   ·omega
   ·rename_i h3
    split at h
    ·omega
    ·rename_i h4
     exact⟨Classical.not_not.1 h1,fun o ho h=>h2 ⟨o,ho,h⟩,fun o ho h=>h3 ⟨o,ho,h⟩,zv⟩
theorem doS_ok{s:St}{ops:List Po}(h:doE s ops=0):doS s ops=after s ops/\doN s ops=s.rev+1:=by unfold doS doN;rw[if_pos h,if_pos h];exact⟨rfl,rfl⟩
theorem doS_no{s:St}{ops:List Po}(h:doE s ops≠0):doS s ops=s/\doN s ops=0:=by unfold doS doN;rw[if_neg h,if_neg h];exact⟨rfl,rfl⟩
theorem mem_dropK{l:List En}{k:ByteArray}{e:En}:e∈dropK l k↔e∈l/\e.key≠k:=by
 unfold dropK;rw[List.mem_filter,Bool.not_eq_true',tne]
theorem dropK_rise{l:List En}(h:Rise l)(k:ByteArray):Rise (dropK l k):=List.Pairwise.filter _ h
theorem dropK_cons(e:En)(l:List En)(k:ByteArray):dropK (e::l) k=if e.key=k then dropK l k else e::dropK l k:=by
 unfold dropK;by_cases h:e.key=k
 ·rw[if_pos h,List.filter_cons_of_neg (by rw[teq.2 h];simp)]
 ·rw[if_neg h,List.filter_cons_of_pos (by rw[tne.2 h];rfl)]
theorem _root_.Go.Proofs.YtkinlcfhojjalaaGreatDoor.zz1v{p:Prop}(h:p:=by
 rw[if_neg h,find_cons,ih]
 by_cases h2:k'=k
 ·rw[if_pos h2,if_pos h2,if_neg (by rw[h2];exact h)]
 ·rw[if_neg h2,if_neg h2]):p:=h
theorem _root_.Go.Proofs.YtkinlcfhojjalaaGreatDoor.zz1w{p:Prop}(h:p:=by
 rw[if_pos h,ih]
 by_cases h2:k'=k
 ·rw[if_pos h2,if_pos h2]
 ·rw[if_neg h2,if_neg h2,if_neg (fun e'=>h2 (by rw[<-e',h]))]):p:=h
theorem find_dropK(l:List En)(k k':ByteArray):find (dropK l k) k'=if k'=k then none else find l k':=by
 induction l with
 |nil=>rw[show dropK [] k=[]from rfl,find_nil];split<;>rfl
 |cons e l ih=>
  rw[dropK_cons,find_cons];by_cases h:e.key=k
  ·exact zz1w
  ·exact zz1v
def low(k:ByteArray)(x:En):Bool:= !(!(Op.bytesLess x.key.toList k.toList|| x.key.toList==k.toList))
theorem low_false{k:ByteArray}{x:En}:low k x=false↔lt k x.key:=by
 unfold low;rw[Bool.not_eq_false',gt_eq]
theorem _root_.Go.Proofs.YtkinlcfhojjalaaGreatDoor.zz1t{p:Prop}(h:p:=by
 rw[if_pos h,List.takeWhile_cons_of_neg (by rw[low_false.2 h];simp),List.dropWhile_cons_of_neg (by rw[low_false.2 h];simp)]
 rfl):p:=h
theorem _root_.Go.Proofs.YtkinlcfhojjalaaGreatDoor.zz2l{p:Prop}(h:p:=by
 rw[if_neg h,List.takeWhile_cons_of_pos this,List.dropWhile_cons_of_pos this];rfl):p:=h
theorem putK_cons(x:En)(l:List En)(e:En):putK (x::l) e=if lt e.key x.key then e::x::l else x::putK l e:=by
 have hd:∀l,putK l e=(l.takeWhile (low e.key))++e::(l.dropWhile (low e.key)):=fun _=>rfl;rw[hd,hd];by_cases h:lt e.key x.key
 ·exact zz1t
 ·have:low e.key x=true:=by rw[<-Bool.not_eq_false,low_false];exact h
  exact zz2l
theorem putK_nil(e:En):putK [] e=[e]:=rfl
theorem _root_.Go.Proofs.YtkinlcfhojjalaaGreatDoor.zzz{p:Prop}(h:p:=by
 induction l with
 |nil=>simp[putK_nil]
 |cons a l ih=>
  rw[putK_cons];split
  ·simp
  ·rw[List.mem_cons,ih,List.mem_cons]
   constructor
   ·rintro(h|h|h)
    ·exact .inr (.inl h)
    ·exact .inl h
    ·exact .inr (.inr h)
   ·rintro(h|h|h)
    ·exact .inr (.inl h)
    ·exact .inl h
    ·exact .inr (.inr h)):p:=h
theorem mem_putK{l:List En}{e x:En}:x∈putK l e↔x=e\/x∈l:=by
 exact zzz
theorem _root_.Go.Proofs.YtkinlcfhojjalaaGreatDoor.zz2z{p:Prop}(h:p:=by
 induction l with
 |nil=>rfl
 |cons a l ih=>rw[putK_cons];split<;>simp[ih]):p:=h
theorem putK_length(l:List En)(e:En):(putK l e).length=l.length+1:=by
 exact zz2z
theorem _root_.Go.Proofs.YtkinlcfhojjalaaGreatDoor.zzr{p:Prop}(h:p:=by
 induction l with
 |nil=>exact List.pairwise_singleton _ _
 |cons a l ih=>
  have hr:=List.pairwise_cons.1 h;rw[putK_cons];split
  ·rename_i h1
   refine List.pairwise_cons.2 ⟨fun x hx=> ?_,h⟩;rcases List.mem_cons.1 hx with rfl|hx
   ·exact h1
   ·exact lt_trans h1 (hr.1 x hx)
  ·rename_i h1
   refine List.pairwise_cons.2 ⟨fun x hx=> ?_,ih hr.2 fun x hx=>hne x (List.mem_cons_of_mem _ hx)⟩;rcases mem_putK.1 hx with rfl|hx
   ·exact lt_tri h1 (hne a (List.mem_cons_self ..)).symm
   ·exact hr.1 x hx):p:=h
theorem putK_rise{l:List En}{e:En}(h:Rise l)(hne:∀x∈l,x.key≠e.key):Rise (putK l e):=by
 exact zzr
theorem _root_.Go.Proofs.YtkinlcfhojjalaaGreatDoor.zz2h{p:Prop}(h:p:=by
 rw[if_pos h2,if_pos h2,if_neg (fun e'=>hne a (List.mem_cons_self ..) (h2.trans e'.symm))]):p:=h
theorem find_putK{l:List En}{e:En}(hne:∀x∈l,x.key≠e.key)(k:ByteArray):find (putK l e) k=if e.key=k then some e else find l k:=by
 induction l with
 |nil=>rw[putK_nil,find_cons]
 |cons a l ih=>
  rw[putK_cons];split
  ·rw[find_cons]
  ·rw[find_cons,ih fun x hx=>hne x (List.mem_cons_of_mem _ hx),find_cons]
   by_cases h2:a.key=k
   ·exact zz2h
   ·rw[if_neg h2,if_neg h2]
theorem step_rise{r:Int}{l:List En}(h:Rise l)(o:Po):Rise (step r l o):=by
 unfold step;split
 ·exact dropK_rise h _
 ·exact putK_rise (dropK_rise h _) fun x hx=>(mem_dropK.1 hx).2
theorem find_step(r:Int)(l:List En)(o:Po)(k:ByteArray):find (step r l o) k=if o.key=k then(if o.drop then none else some ⟨o.key,o.val,r⟩)else find l k:=by
 unfold step;split
 ·rw[find_dropK]
  by_cases h:o.key=k
  ·rw[if_pos h,if_pos h.symm]
  ·rw[if_neg h,if_neg (fun e=>h e.symm)]
 ·rw[find_putK (e:=⟨o.key,o.val,r⟩) (fun x hx=>(mem_dropK.1 hx).2),find_dropK]
  by_cases h:o.key=k
  ·rw[if_pos h,if_pos h]
  ·rw[if_neg h,if_neg h,if_neg (fun e=>h e.symm)]
theorem mem_step{r:Int}{l:List En}{o:Po}{x:En}(h:x∈step r l o):x∈l\/x=⟨o.key,o.val,r⟩/\o.drop=false:=by
 unfold step at h;split at h
 ·exact .inl (mem_dropK.1 h).1
 ·rename_i hd
  rcases mem_putK.1 h with h|h
  ·exact .inr ⟨h,by simpa using hd⟩
  ·exact .inl (mem_dropK.1 h).1
theorem steps_rise{r:Int}{ops:List Po}{l:List En}(h:Rise l):Rise (ops.foldl (step r) l):=by
 induction ops generalizing l with
 |nil=>exact h
 |cons o ops ih=>exact ih (step_rise h o)
theorem mem_steps{r:Int}{ops:List Po}{l:List En}{x:En}(h:x∈ops.foldl (step r) l):x∈l\/∃o∈ops,x=⟨o.key,o.val,r⟩:=by
 induction ops generalizing l with
 |nil=>exact .inl h
 |cons o ops ih=>
  rcases ih h with h|⟨p,hp,h⟩
  ·rcases mem_step h with h|⟨h,_⟩
   ·exact .inl h
   ·exact .inr ⟨o,List.mem_cons_self ..,h⟩
  ·exact .inr ⟨p,List.mem_cons_of_mem _ hp,h⟩
theorem find_steps_other{r:Int}{ops:List Po}{l:List En}{k:ByteArray}(h:∀o∈ops,o.key≠k):find (ops.foldl (step r) l) k=find l k:=by
 induction ops generalizing l with
 |nil=>rfl
 |cons o ops ih=>
  rw[List.foldl_cons,ih fun p hp=>h p (List.mem_cons_of_mem _ hp),find_step,if_neg (h o (List.mem_cons_self ..))]
theorem find_steps{r:Int}{ops:List Po}{l:List En}(h:ops.Pairwise fun a b=>a.key≠b.key){o:Po}(ho:o∈ops):find (ops.foldl (step r) l) o.key=if o.drop then none else some ⟨o.key,o.val,r⟩:=by
 induction ops generalizing l with
 |nil=>cases ho
 |cons p ops ih=>
  have hp:=List.pairwise_cons.1 h;rw[List.foldl_cons];rcases List.mem_cons.1 ho with rfl|ho
  ·rw[find_steps_other fun q hq=>(hp.1 q hq).symm,find_step,if_pos rfl]
  ·exact ih hp.2 ho
theorem after_good{s:St}{ops:List Po}(hs:Good s)(hr:Right ops)(hl:(after s ops).l.length<=64):Good (after s ops):=by
 refine⟨steps_rise hs.rise,?_,?_,hl,?_⟩
 ·show 0<=s.rev+1
  have:=hs.rev0;omega
 ·intro e he
  show 1<=e.rev/\e.rev<=s.rev+1;have:=hs.rev0;rcases mem_steps he with he|⟨o,ho,rfl⟩
  ·have:=hs.revs e he;omega
  ·show 1<=s.rev+1/\s.rev+1<=s.rev+1
   omega
 ·intro e he
  rcases mem_steps he with he|⟨o,ho,rfl⟩
  ·exact hs.size e he
  ·exact hr.2.1 o ho
theorem doS_good{s:St}(hs:Good s)(ops:List Po):Good (doS s ops):=by
 by_cases h:doE s ops=0
 ·rw[(doS_ok h).1]
  have:=doE_zero h;exact after_good hs this.1 this.2.2.2
 ·rw[(doS_no h).1];exact hs
theorem rev_range{s:St}(hs:Good s)(k:ByteArray):0<=revOf s.l k/\revOf s.l k<=s.rev:=by
 unfold revOf;split
 ·rename_i e h
  have:=hs.revs e (find_some h).1;omega
 ·have:=hs.rev0;omega
theorem rev_zero{s:St}(hs:Good s)(k:ByteArray):revOf s.l k=0↔find s.l k=none:=by
 unfold revOf;split
 ·rename_i e h
  have:=hs.revs e (find_some h).1;rw[h];constructor
  ·intro h;omega
  ·intro h;cases h
 ·rename_i h;rw[h];simp
theorem again{s:St}{ops:List Po}(hs:Good s)(h:doE s ops=0)(hp:∃o∈ops,0<=o.rev/\o.drop=false):doE (after s ops) ops≠0:=by
 obtain⟨o,ho,h0,hd⟩:=hp;have hz:=doE_zero h;intro h2;refine(doE_zero h2).2.1 o ho ⟨h0,?_⟩;have e:o.rev=revOf s.l o.key:=Classical.not_not.1 fun hne=>hz.2.1 o ho ⟨h0,hne⟩;have:=(rev_range hs o.key).2;have e2:revOf (after s ops).l o.key=s.rev+1:=by
  unfold revOf;rw[show find (after s ops).l o.key=_ from find_steps hz.1.2.2 ho,hd];rfl
 rw[e2];omega
theorem since_zero{s:St}(hs:Good s):since s 0=keysOf s.l:=by
 unfold since keysOf;rw[List.filter_eq_self.2 fun e he=>by have:=hs.revs e he;simp;omega]
end Kv
namespace Ls
open Kv (lt teq tne gt_eq lt_irrefl lt_ne lt_trans lt_asymm lt_tri)
structure En where
 name:ByteArray
 holder:Int
 epoch:Int
 till:Int
 dropped:Bool
structure St where
 margin:Int
 l:List En
def find(l:List En)(k:ByteArray):Option En:=l.find? fun e=>e.name.toList==k.toList
def Rise(l:List En):Prop:=l.Pairwise fun a b=>lt a.name b.name
def dropK(l:List En)(k:ByteArray):List En:=l.filter fun e=> !(e.name.toList==k.toList)
def putK(l:List En)(e:En):List En:=(l.takeWhile fun x=> !(!(Op.bytesLess x.name.toList e.name.toList|| x.name.toList==e.name.toList)))++e::(l.dropWhile fun x=> !(!(Op.bytesLess x.name.toList e.name.toList|| x.name.toList==e.name.toList)))
def put(l:List En)(e:En):List En:=putK (dropK l e.name) e
theorem find_nil(k:ByteArray):find [] k=none:=rfl
theorem find_cons(e:En)(l:List En)(k:ByteArray):find (e::l) k=if e.name=k then some e else find l k:=by
 unfold find;by_cases h:e.name=k
 ·rw[if_pos h,List.find?_cons_of_pos (p:=fun e:En=>e.name.toList==k.toList) (teq.2 h)]
 ·rw[if_neg h,List.find?_cons_of_neg (p:=fun e:En=>e.name.toList==k.toList) (fun h2=>h (teq.1 h2))]
theorem find_some{l:List En}{k:ByteArray}{e:En}(h:find l k=some e):e∈l/\e.name=k:=by
 unfold find at h;exact⟨List.mem_of_find?_eq_some h,teq.1 (List.find?_some (p:=fun e:En=>e.name.toList==k.toList) h)⟩
theorem find_none{l:List En}{k:ByteArray}:find l k=none↔∀e∈l,e.name≠k:=by
 exact zz22
theorem find_mem{l:List En}(h:Rise l){e:En}(he:e∈l):find l e.name=some e:=by
 exact zz1a
theorem mem_dropK{l:List En}{k:ByteArray}{e:En}:e∈dropK l k↔e∈l/\e.name≠k:=by
 unfold dropK;rw[List.mem_filter,Bool.not_eq_true',tne]
theorem dropK_rise{l:List En}(h:Rise l)(k:ByteArray):Rise (dropK l k):=List.Pairwise.filter _ h
theorem dropK_cons(e:En)(l:List En)(k:ByteArray):dropK (e::l) k=if e.name=k then dropK l k else e::dropK l k:=by
 unfold dropK;by_cases h:e.name=k
 ·rw[if_pos h,List.filter_cons_of_neg (by rw[teq.2 h];simp)]
 ·rw[if_neg h,List.filter_cons_of_pos (by rw[tne.2 h];rfl)]
theorem find_dropK(l:List En)(k k':ByteArray):find (dropK l k) k'=if k'=k then none else find l k':=by
 induction l with
 |nil=>rw[show dropK [] k=[]from rfl,find_nil];split<;>rfl
 |cons e l ih=>
  rw[dropK_cons,find_cons];by_cases h:e.name=k
  ·exact zz1w
  ·exact zz1v
def low(k:ByteArray)(x:En):Bool:= !(!(Op.bytesLess x.name.toList k.toList|| x.name.toList==k.toList))
theorem low_false{k:ByteArray}{x:En}:low k x=false↔lt k x.name:=by
 unfold low;rw[Bool.not_eq_false',gt_eq]
theorem putK_cons(x:En)(l:List En)(e:En):putK (x::l) e=if lt e.name x.name then e::x::l else x::putK l e:=by
 have hd:∀l,putK l e=(l.takeWhile (low e.name))++e::(l.dropWhile (low e.name)):=fun _=>rfl;rw[hd,hd];by_cases h:lt e.name x.name
 ·exact zz1t
 ·have:low e.name x=true:=by rw[<-Bool.not_eq_false,low_false];exact h
  exact zz2l
theorem putK_nil(e:En):putK [] e=[e]:=rfl
theorem mem_putK{l:List En}{e x:En}:x∈putK l e↔x=e\/x∈l:=by
 exact zzz
theorem putK_length(l:List En)(e:En):(putK l e).length=l.length+1:=by
 exact zz2z
theorem putK_rise{l:List En}{e:En}(h:Rise l)(hne:∀x∈l,x.name≠e.name):Rise (putK l e):=by
 exact zzr
theorem find_putK{l:List En}{e:En}(hne:∀x∈l,x.name≠e.name)(k:ByteArray):find (putK l e) k=if e.name=k then some e else find l k:=by
 induction l with
 |nil=>rw[putK_nil,find_cons]
 |cons a l ih=>
  rw[putK_cons];split
  ·rw[find_cons]
  ·rw[find_cons,ih fun x hx=>hne x (List.mem_cons_of_mem _ hx),find_cons]
   by_cases h2:a.name=k
   ·exact zz2h
   ·rw[if_neg h2,if_neg h2]
theorem put_rise{l:List En}(h:Rise l)(e:En):Rise (put l e):=putK_rise (dropK_rise h _) fun _ hx=>(mem_dropK.1 hx).2
theorem find_put(l:List En)(e:En)(k:ByteArray):find (put l e) k=if e.name=k then some e else find l k:=by
 unfold put;rw[find_putK fun x hx=>(mem_dropK.1 hx).2,find_dropK];by_cases h:e.name=k
 ·rw[if_pos h,if_pos h]
 ·rw[if_neg h,if_neg h,if_neg (fun e=>h e.symm)]
theorem mem_put{l:List En}{e x:En}(h:x∈put l e):x=e\/x∈l:=by
 rcases mem_putK.1 h with h|h
 ·exact .inl h
 ·exact .inr (mem_dropK.1 h).1
def Time(n:Int):Prop:=0<=n/\n<=1099511627776
def late(a b:Int):Int:=min (a+b) 1099511627776
def Right(k:ByteArray)(h now ttl:Int):Prop:=1<=k.size/\k.size<=16/\0<=h/\h<=63/\Time now/\1<=ttl/\ttl<=1048576
def new(margin:Int):St:=⟨min (max margin 0) 1048576,[]⟩
def Free(s:St)(k:ByteArray)(now:Int):Prop:=∀e,find s.l k=some e->e.dropped=true\/late e.till s.margin<=now
def Holds(s:St)(k:ByteArray)(h ep now:Int):Prop:=∃e,find s.l k=some e/\e.dropped=false/\e.holder=h/\e.epoch=ep/\now<e.till
def epochOf(l:List En)(k:ByteArray):Int:=match find l k with|some e=>e.epoch|none=>0
def holderOf(l:List En)(k:ByteArray):Int:=match find l k with|some e=>e.holder|none=>0
def tillOf(l:List En)(k:ByteArray):Int:=match find l k with|some e=>e.till|none=>0
open Classical in
noncomputable def takeE(s:St)(k:ByteArray)(h now ttl:Int):Nat:=if¬Right k h now ttl then 1 else if¬Free s k now then 9 else 0
def taken(s:St)(k:ByteArray)(h now ttl:Int):St:=⟨s.margin,put s.l ⟨k,h,epochOf s.l k+1,late now ttl,false⟩⟩
open Classical in
noncomputable def takeS(s:St)(k:ByteArray)(h now ttl:Int):St:=if takeE s k h now ttl=0 then taken s k h now ttl else s
open Classical in
noncomputable def takeN(s:St)(k:ByteArray)(h now ttl:Int):Int:=if takeE s k h now ttl=0 then epochOf s.l k+1 else 0
def Other(e:En)(h ep:Int):Prop:=e.holder≠h\/e.epoch≠ep
open Classical in
noncomputable def renewE(s:St)(k:ByteArray)(h ep now ttl:Int):Nat:=
 if¬Right k h now ttl then 1 else match find s.l k with
  |none=>5
  |some e=>if Other e h ep then 8 else if e.dropped=true\/e.till<=now then 9 else 0
def renewed(s:St)(k:ByteArray)(now ttl:Int):St:=match find s.l k with
 |none=>s
 |some e=>⟨s.margin,put s.l ⟨e.name,e.holder,e.epoch,max e.till (late now ttl),e.dropped⟩⟩
open Classical in
noncomputable def renewS(s:St)(k:ByteArray)(h ep now ttl:Int):St:=if renewE s k h ep now ttl=0 then renewed s k now ttl else s
open Classical in
noncomputable def renewN(s:St)(k:ByteArray)(h ep now ttl:Int):Int:=if renewE s k h ep now ttl=0 then max (tillOf s.l k) (late now ttl)else 0
open Classical in
noncomputable def dropE(s:St)(k:ByteArray)(h ep:Int):Nat:=match find s.l k with
 |none=>5
 |some e=>if Other e h ep then 8 else if e.dropped=true then 10 else 0
def droppedS(s:St)(k:ByteArray):St:=match find s.l k with
 |none=>s
 |some e=>⟨s.margin,put s.l ⟨e.name,e.holder,e.epoch,0,true⟩⟩
open Classical in
noncomputable def dropS(s:St)(k:ByteArray)(h ep:Int):St:=if dropE s k h ep=0 then droppedS s k else s
structure Good(s:St):Prop where
 rise:Rise s.l
 m0:0<=s.margin
 m1:s.margin<=1048576
 each:∀e∈s.l,1<=e.name.size/\e.name.size<=16/\0<=e.holder/\e.holder<=63/\1<=e.epoch/\Time e.till/\(e.dropped=true->e.till=0)/\(e.dropped=false->1<=e.till)
theorem new_good(m:Int):Good (new m):=⟨List.Pairwise.nil,by show 0<=min (max m 0) 1048576;omega,by show min (max m 0) 1048576<=1048576;omega,fun e he=>by cases he⟩
theorem late_time{a b:Int}(h1:0<=a)(h2:0<=b):Time (late a b):=by unfold Time late;omega
theorem epoch_pos{s:St}(h:Good s)(k:ByteArray):0<=epochOf s.l k:=by
 unfold epochOf;split
 ·rename_i e he
  have:=h.each e (find_some he).1;omega
 ·omega
theorem taken_good{s:St}(h:Good s){k:ByteArray}{ho now ttl:Int}(hr:Right k ho now ttl):Good (taken s k ho now ttl):=by
 obtain⟨r1,r2,r3,r4,r5,r6,r7⟩:=hr;refine⟨put_rise h.rise _,h.m0,h.m1,fun e he=> ?_⟩;rcases mem_put he with rfl|he
 ·have:=epoch_pos h k
  refine⟨r1,r2,r3,r4,by show 1<=epochOf s.l k+1;omega,late_time r5.1 zv,(fun h=>by cases h),fun _=> ?_⟩;have:=r5.1;have:=r5.2;show 1<=late now ttl;unfold late;omega
 ·exact h.each e he
theorem renewed_good{s:St}(h:Good s){k:ByteArray}{ho now ttl:Int}(hr:Right k ho now ttl){e:En}(he:find s.l k=some e)(hd:e.dropped=false):Good (renewed s k now ttl):=by
 unfold renewed;rw[he];obtain⟨r1,r2,r3,r4,r5,r6,r7⟩:=hr;have h1:=h.each e (find_some he).1;refine⟨put_rise h.rise _,h.m0,h.m1,fun x hx=> ?_⟩;rcases mem_put hx with rfl|hx
 ·have h2:=late_time r5.1 (show 0<=ttl by omega)
  have h3:=h1.2.2.2.2.2.1;have h4:=h1.2.2.2.2.2.2.2 hd;refine⟨h1.1,h1.2.1,h1.2.2.1,h1.2.2.2.1,h1.2.2.2.2.1,?_,(fun h=>by rw[show e.dropped=true from h]at hd;cases hd),fun _=> ?_⟩
  ·show Time (max e.till (late now ttl))
   unfold Time at*;omega
  ·show 1<=max e.till (late now ttl)
   omega
 ·exact h.each x hx
theorem dropped_good{s:St}(h:Good s)(k:ByteArray):Good (droppedS s k):=by
 unfold droppedS
 cases he:find s.l k with
 |none=>exact h
 |some e=>
  have h1:=h.each e (find_some he).1;refine⟨put_rise h.rise _,h.m0,h.m1,fun x hx=> ?_⟩;rcases mem_put hx with rfl|hx
  ·exact⟨h1.1,h1.2.1,h1.2.2.1,h1.2.2.2.1,h1.2.2.2.2.1,⟨by show(0:Int)<=0;omega,by show(0:Int)<=1099511627776;omega⟩,fun _=>rfl,fun h=>by cases h⟩
  ·exact h.each x hx
end Ls
end Go.Proofs.YtkinlcfhojjalaaGreatDoor
namespace Go.Proofs.YtkinlcfhojjalaaGreatDoor
open Go.RowKit
def lval(s:Ls.St)(k:ByteArray):Value:= .agg #[.int .i64 (Ls.holderOf s.l k),.int .i64 (Ls.epochOf s.l k),.int .i64 (Ls.tillOf s.l k)]
def LGet(s:Ls.St)(k:ByteArray)(w:World)(e:Ending)(w':World):Prop:=e= .returned (.tuple #[lval s k,.bool (Ls.find s.l k).isSome])/\zF w w'
def Ls.Few(s:Ls.St)(n:Nat):Prop:=(∀e∈s.l,e.epoch<=n)/\s.l.length<=n
namespace Ls
theorem Few.more{s:St}{n m:Nat}(h:Few s n)(hm:n<=m):Few s m:=⟨fun e he=>by have:=h.1 e he;omega,Nat.le_trans h.2 hm⟩
theorem few_epoch{s:St}{n:Nat}(h:Few s n)(k:ByteArray):epochOf s.l k<=n:=by
 unfold epochOf;split
 ·rename_i e he;exact h.1 e (find_some he).1
 ·omega
theorem put_len(l:List En)(e:En):(put l e).length<=l.length+1:=by
 unfold put;rw[putK_length];have:(dropK l e.name).length<=l.length:=List.length_filter_le _ _;omega
theorem take_few{s:St}{n:Nat}(hf:Few s n)(k:ByteArray)(h now ttl:Int):Few (takeS s k h now ttl) (n+1):=by
 unfold takeS;split
 ·refine⟨fun e he=> ?_,Nat.le_trans (put_len _ _) (Nat.succ_le_succ hf.2)⟩
  rcases mem_put he with rfl|he
  ·have:=few_epoch hf k
   show epochOf s.l k+1<=((n+1:Nat):Int);omega
  ·have:=hf.1 e he;omega
 ·exact hf.more zv
end Ls
theorem jjt:Tryz.prog.underlying 231=some (.struct (Tryz.prog.fieldsOf 231)):=by kernel_rfl
theorem jlg:Tryz.prog.stoodInHeld 231=false:=by kernel_rfl
open Go.Deep Go.Maps Go.WideMaps
abbrev leV(a b c:Int):Value:= .agg #[.int .i64 a,.int .i64 b,.int .i64 c]
def leD(z:Int×Int×Int):DataW Unit:= .agg [.lit (.int .i64 z.1),.lit (.int .i64 z.2.1),.lit (.int .i64 z.2.2)]
def leR:Value->Option (DataW Unit×List MemPlace)
 | .agg ⟨[.int .i64 a,.int .i64 b,.int .i64 c]⟩=>some (leD (a,b,c),[])
 |_=>none
theorem leR_inv{v:Value}{z:DataW Unit×List MemPlace}(h:leR v=some z):∃a b c,v=leV a b c/\z=(leD (a,b,c),[]):=by
 unfold leR at h;split at h
 ·rename_i a b c
  exact⟨a,b,c,rfl,(Option.some.inj h).symm⟩
 ·cases h
theorem leD_inj{z z':Int×Int×Int}(h:leD z=leD z'):z=z':=by
 obtain⟨a,b,c⟩:=z;obtain⟨a',b',c'⟩:=z';unfold leD at h;injection h with h
 simp only[List.cons.injEq,and_true]at h;obtain⟨h1,h2,h3⟩:=h;injection h1 with h1;injection h1 with _ h1
 injection h2 with h2;injection h2 with _ h2
 injection h3 with h3;injection h3 with _ h3
 rw[show a=a' from h1,show b=b' from h2,show c=c' from h3]
theorem jny(w:World):(zeroValue 231).run Tryz.prog w= .ok (leV 0 0 0) w:=by kernel_rfl
theorem str_inj{a b:ByteArray}(h:Lit.string a.data.toList=Lit.string b.data.toList):a=b:=by
 injection h with h
 exact ByteArray.ext (Array.ext' h)
def LM:MapW Tryz.prog 9 231 76 ByteArray (Int×Int×Int) where
 kv:= .string
 kl:=fun k=> .string k.data.toList
 ok:=fun k=>k.size<=maxLen
 ev:=fun z=>leV z.1 z.2.1 z.2.2
 ed:=leD
 R:=leR
 zero:=(0,0,0)
 keyed:=string_keyed Tryz.underlying9
 ty:=Tryz.underlying76
 key:=fun _ h=>keyOf_string_mk Tryz.underlying9 h
 inv:=fun v z h=>by
  exact string_of_keyOf Tryz.underlying9 h
 inj:=fun _ _ h=>str_inj h
 isKey:=fun _=>trivial
 rd:=fun _=>rfl
 rinv:=fun x z h=>by
  obtain⟨a,b,c,rfl,rfl⟩:=leR_inv h;exact⟨(a,b,c),rfl,rfl⟩
 einj:=fun _ _ h=>leD_inj h
 hz:=jny
theorem jhx(a b c a' b' c':Int)(d:Nat)(W:World):(Op.equalIn (d+2) 231 (leV a b c) (leV a' b' c')).run Tryz.prog W= .ok ((a==a')&&((b==b')&&((c==c')&&true))) W:=by
 rw[run_equalIn_agg W (d+1) 231 _ _ jjt jlg];have hi:∀x y,(Op.equalIn (d+1) 3 (.int .i64 x) (.int .i64 y)).run Tryz.prog W= .ok (x==y) W:=fun x y=>run_equalIn_int W d 3 .i64 .i64 x y Tryz.underlying3;simp only[Program.fieldsOf,Tryz.underlying231];refine jai (by decide) ?_ ?_ (hi _ _) (jai (by decide) ?_ ?_ (hi _ _) (jai (by decide) ?_ ?_ (hi _ _) jgk))
 all_goals simp[go_sem,Sem.run_bind,Result.andThen]
theorem jmw{a b c a' b' c':Int}{x:Bool}(h:x=true↔a=a'/\b=b'/\c=c')(W:World):(binOp .eql 231 (leV a b c) (leV a' b' c')).run Tryz.prog W= .ok (.bool x) W:=by
 have e:x=((a==a')&&((b==b')&&((c==c')&&true))):=by
  rw[Bool.eq_iff_iff,h];simp
 rw[run_eql_struct,jhx,e];rfl
theorem jqi{a b c a' b' c':Int}{x:Bool}(h:x=true↔¬(a=a'/\b=b'/\c=c'))(W:World):(binOp .neq 231 (leV a b c) (leV a' b' c')).run Tryz.prog W= .ok (.bool x) W:=by
 have e:x= !((a==a')&&((b==b')&&((c==c')&&true))):=by
  rw[Bool.eq_iff_iff,h];simp only[Bool.not_eq_true',Bool.and_eq_false_iff,zq,Bool.true_eq_false,or_false];rw[Classical.not_and_iff_not_or_not,Classical.not_and_iff_not_or_not]
 rw[run_neq_struct,jhx,e];rfl
theorem jc4(W:World)(a b c:Int):Calls Tryz.prog 244 #[leV a b c] W (fun e w'=>e= .returned (.bool (c==0))/\zF W w'):=by
 have hE:=fun W=>jmw (a:=a) (b:=b) (c:=c) (a':=a) (b':=b) (c':=0) (x:=c==0) (by simp) W;have B1:=zh ((Below.refl W.heap.size W).alloc zl (.cells #[.int .i64 a,.int .i64 b,.int .i64 c] 231));generalize(c==0)=x at*;unfold leV at*;go_in;go_wp2;go_ret;exact⟨rfl,B1.o⟩
theorem zz1j{p:Prop}(h:p:=by
 have B1:=zh ((Below.refl W.heap.size W).alloc zl (.cells #[.int .i64 a,.int .i64 b,.int .i64 c] 231));clear hx;unfold leV at*;go_in;go_wp2;go_ret;exact⟨rfl,B1.o⟩):p:=h
theorem jlh(W:World)(a b c:Int){x:Bool}(hx:x=true↔¬(a=0/\b=0/\c=0)):Calls Tryz.prog 231 #[leV a b c] W (fun e w'=>e= .returned (.bool x)/\zF W w'):=by
 have hE:=fun W=>jqi hx W;exact zz1j
theorem jio(W:World)(a b c h ep:Int){x:Bool}(hx:x=true↔a=h/\b=ep):Calls Tryz.prog 224 #[leV a b c,.int .i64 h,.int .i64 ep] W (fun e w'=>e= .returned (.bool x)/\zF W w'):=by
 have hE:=fun W=>jmw (a:=a) (b:=b) (c:=c) (a':=h) (b':=ep) (c':=c) (x:=x) (by rw[hx];simp) W;exact zz1j
theorem jed(W:World)(a b:Int)(h1: -4611686018427387904<=a)(h2:a<=4611686018427387904)(h3: -4611686018427387904<=b)(h4:b<=4611686018427387903):Calls Tryz.prog 229 #[.int .i64 a,.int .i64 b] W (fun e w'=>e= .returned (.int .i64 (Ls.late a b))/\w'=W):=by
 have hs:wrap64 (a+b)=a+b:=IntWalk.wrap64_in _ ⟨zv,zv⟩;unfold Ls.late;go_in;go_wp2;go_ret;exact⟨rfl,rfl⟩
open Go.RowKit Go.Deep Go.Maps
theorem zz1g{p:Prop}(h:p:=by
 unfold leV at*;go_in;go_wp2_with(go_at_call 244;refine C.o.mono ?_;rintro e w1 ⟨rfl,hb⟩;have B1:=zh (B0.o.trans (hb.mono B0.o.size));clear hb);go_ret;exact⟨rfl,B1.o⟩):p:=h
theorem jfg(W:World)(a b c now:Int){x:Bool}(hx:x=true↔c≠0/\now<c):Calls Tryz.prog 225 #[leV a b c,.int .i64 now] W (fun e w'=>e= .returned (.bool x)/\zF W w'):=by
 have C:=zh (jc4 (W.alloc (.cells #[.int .i64 a,.int .i64 b,.int .i64 c] 231)) a b c);have B0:=zh ((Below.refl W.heap.size W).alloc zl (.cells #[.int .i64 a,.int .i64 b,.int .i64 c] 231));have R0:=zh (heap_alloc_new W (.cells #[.int .i64 a,.int .i64 b,.int .i64 c] 231));by_cases hc:c=0
 ·have hv:(c==0)=true:=by simp[hc]
  obtain rfl:x=false:=by rw[Bool.eq_false_iff];intro h;exact(hx.1 h).1 hc
  rw[hv]at C;clear hx hc hv;exact zz1g
 ·have hv:(c==0)=false:=by simp[hc]
  have hx2:x=decide (now<c):=by rw[Bool.eq_iff_iff,hx];simp[hc]
  subst hx2;rw[hv]at C;clear hx hc hv;unfold leV at*;go_in;go_wp2_with(go_at_call 244;refine C.o.mono ?_;rintro e w1 ⟨rfl,hb⟩;have B1:=zh (B0.o.trans (hb.mono B0.o.size));have R1:=jah R0.o hb;have c2:w1.cell? ⟨W.heap.size,2,none⟩=some (.int .i64 c):=(by rw[cell_of_row w1 W.heap.size 2 _ _ _ R1];rfl);clear hb R1);go_ret;exact⟨rfl,B1.o⟩
theorem jhy(W:World)(a b c now m:Int)(h1:0<=c)(h2:c<=1099511627776)(h3:0<=m)(h4:m<=1048576){x:Bool}(hx:x=true↔c=0\/Ls.late c m<=now):Calls Tryz.prog 226 #[leV a b c,.int .i64 now,.int .i64 m] W (fun e w'=>e= .returned (.bool x)/\zF W w'):=by
 have C:=zh (jc4 (W.alloc (.cells #[.int .i64 a,.int .i64 b,.int .i64 c] 231)) a b c);have B0:=zh ((Below.refl W.heap.size W).alloc zl (.cells #[.int .i64 a,.int .i64 b,.int .i64 c] 231));have R0:=zh (heap_alloc_new W (.cells #[.int .i64 a,.int .i64 b,.int .i64 c] 231));have CL:=zh (fun W=>jed W c m zv zv zv zv);by_cases hc:c=0
 ·have hv:(c==0)=true:=by simp[hc]
  obtain rfl:x=true:=hx.2 (.inl hc);rw[hv]at C;clear hx hc hv h1 h2 h3 h4;exact zz1g
 ·have hv:(c==0)=false:=by simp[hc]
  have hx2:x=decide (Ls.late c m<=now):=by rw[Bool.eq_iff_iff,hx];simp[hc]
  subst hx2;rw[hv]at C;generalize Ls.late c m=d at*;clear hx hc hv h1 h2 h3 h4;unfold leV at*;go_in
  go_wp2_with(first
   |(go_at_call 244;refine C.o.mono ?_;rintro e w1 ⟨rfl,hb⟩;have B1:=zh (B0.o.trans (hb.mono B0.o.size));have R1:=jah R0.o hb;have c2:w1.cell? ⟨W.heap.size,2,none⟩=some (.int .i64 c):=(by rw[cell_of_row w1 W.heap.size 2 _ _ _ R1];rfl);clear hb R1)
   |(go_at_call 229;refine(CL.o _).mono ?_;rintro e w2 ⟨rfl,rfl⟩))
  go_ret;exact⟨rfl,B1.o⟩
theorem jju(n:Int)(W:World):Calls Tryz.prog 112 #[.int .i64 n,zi,.int .i64 1048576] W (fun e w'=>e= .returned (.int .i64 (max 0 (min n 1048576)))/\w'=W):=by
 go_in;go_wp2;go_ret;exact⟨rfl,rfl⟩
theorem jjv(n:Int)(W:World):Calls Tryz.prog 63 #[.int .i64 n] W (fun e w'=>e= .returned (.int .i64 (max 0 (min n 1048576)))/\w'=W):=by
 have C:=zh (jju n W);generalize max 0 (min n 1048576)=d at*;go_in;go_wp2_with(go_at_call 112;refine C.o.mono ?_;rintro e w1 ⟨rfl,rfl⟩);go_ret;exact⟨rfl,rfl⟩
theorem zz3a{p:Prop}(h:p:=by
 clear hx NO;go_in;go_wp2;go_ret;exact⟨rfl,rfl⟩):p:=h
theorem je0(W:World)(k:ByteArray)(h now ttl:Int)(hk:k.size<=maxLen){x:Bool}(hx:x=true↔Ls.Right k h now ttl):Calls Tryz.prog 227 #[.string k,.int .i64 h,.int .i64 now,.int .i64 ttl] W (fun e w'=>e= .returned (.bool x)/\w'=W):=by
 have C:=zh (fun W=>jjv ttl W);have hks:(k.size:Int)<=9223372036854775807:=by unfold maxLen at hk;omega
 have NO:¬Ls.Right k h now ttl->x=false:=fun h=>by rw[Bool.eq_false_iff];intro h2;exact h (hx.1 h2)
 by_cases g1:k.size=0
 ·obtain rfl:=NO fun h=>by have:=h.1;omega
  have hk:k=⟨#[]⟩:=ByteArray.ext (Array.eq_empty_of_size_eq_zero g1);subst hk;clear hx NO hks g1;go_in;go_wp2;go_ret;exact⟨rfl,rfl⟩
 have hke:k.toList.isEmpty=false:=by
  rw[Bool.eq_false_iff];intro h;refine g1 ?_;have h1:k.toList=ByteArray.toList ⟨#[]⟩:=(List.isEmpty_iff.1 h).trans (by rw[ByteArray.toList_eq]);rw[Kv.teq.1 (beq_iff_eq.2 h1)];rfl
 by_cases g2:(k.size:Int)<=16
 case neg=>
  obtain rfl:=NO fun h=>by have:=h.2.1;omega
  exact zz3a
 by_cases g3:0<=h
 case neg=>
  obtain rfl:=NO fun h=>by have:=h.2.2.1;omega
  exact zz3a
 by_cases g4:h<=63
 case neg=>
  obtain rfl:=NO fun h=>by have:=h.2.2.2.1;omega
  exact zz3a
 by_cases g5:0<=now
 case neg=>
  obtain rfl:=NO fun h=>by have:=h.2.2.2.2.1.1;omega
  exact zz3a
 by_cases g6:now<=1099511627776
 case neg=>
  obtain rfl:=NO fun h=>by have:=h.2.2.2.2.1.2;omega
  exact zz3a
 by_cases g7:0<ttl
 case neg=>
  obtain rfl:=NO fun h=>by have:=h.2.2.2.2.2.1;omega
  exact zz3a
 obtain⟨d,hd⟩:∃d,d=max 0 (min ttl 1048576):=zx;have hE:(ttl==d)=x:=by
  rw[Bool.eq_iff_iff,hx,beq_iff_eq,hd];constructor
  ·intro h2
   exact⟨zv,zv,g3,g4,⟨g5,g6⟩,zv,zv⟩
  ·intro h2
   have:=h2.2.2.2.2.2.2;omega
 rw[<-hd]at C;clear hx NO hd;go_in;go_wp2_with(go_at_call 63;refine(C.o _).mono ?_;rintro e w1 ⟨rfl,rfl⟩);go_ret;exact⟨rfl,rfl⟩
namespace Ls
def zOf(l:List En)(k:ByteArray):Option (Int×Int×Int):=(find l k).map fun e=>(e.holder,e.epoch,e.till)
theorem zOf_some(l:List En)(k:ByteArray):(zOf l k).isSome=(find l k).isSome:=by unfold zOf;cases find l k<;>rfl
theorem zOf_getD(l:List En)(k:ByteArray):(zOf l k).getD (0,0,0)=(holderOf l k,epochOf l k,tillOf l k):=by unfold zOf holderOf epochOf tillOf;cases find l k<;>rfl
theorem _root_.Go.Proofs.YtkinlcfhojjalaaGreatDoor.zz2m{p:Prop}(h:p:=by
 have h2:=ih hr.2
 rw[if_neg hk,if_neg hk,List.length_cons,List.length_cons];omega):p:=h
theorem _root_.Go.Proofs.YtkinlcfhojjalaaGreatDoor.zz2t{p:Prop}(h:p:=by
 have h2:=ih hr.2;rw[this]at h2;rw[if_pos hk,if_pos hk];simp at h2⊢;exact h2):p:=h
theorem dropK_length{l:List En}(h:Rise l)(k:ByteArray):(dropK l k).length+(if(find l k).isSome then 1 else 0)=l.length:=by
 induction l with
 |nil=>rfl
 |cons e l ih=>
  have hr:=List.pairwise_cons.1 h;rw[dropK_cons,find_cons];by_cases hk:e.name=k
  ·have:find l k=none:=find_none.2 fun x hx hxk=>Kv.lt_ne (hr.1 x hx) (hk.trans hxk.symm)
   exact zz2t
  ·exact zz2m
theorem put_length{l:List En}(h:Rise l)(e:En):(put l e).length=if(find l e.name).isSome then l.length else l.length+1:=by
 have h2:=dropK_length h e.name;unfold put;rw[putK_length];split at h2<;>simp_all<;>omega
theorem zOf_put(l:List En)(e:En):zOf (put l e)=MapW.set (zOf l) e.name (some (e.holder,e.epoch,e.till)):=by
 funext k;by_cases h:k=e.name
 ·subst h
  rw[MapW.set_same];unfold zOf;rw[find_put,if_pos rfl];rfl
 ·rw[MapW.set_other _ _ h]
  unfold zOf;rw[find_put,if_neg (fun e=>h e.symm)]
theorem taken_iff{s:St}(h:Good s)(k:ByteArray):(find s.l k).isSome=true↔¬(holderOf s.l k=0/\epochOf s.l k=0/\tillOf s.l k=0):=by
 unfold holderOf epochOf tillOf
 cases he:find s.l k with
 |none=>simp
 |some e=>
  have:=(h.each e (find_some he).1).2.2.2.2.1;simp;intro _ h2;omega
theorem till_time{s:St}(h:Good s)(k:ByteArray):0<=tillOf s.l k/\tillOf s.l k<=1099511627776:=by
 unfold tillOf
 cases he:find s.l k with
 |none=>simp
 |some e=>exact(h.each e (find_some he).1).2.2.2.2.2.1
theorem _root_.Go.Proofs.YtkinlcfhojjalaaGreatDoor.zz18{p:Prop}(h:p:=by
 cases he:find s.l k with
 |none=>simp
 |some e=>
  have h1:=h.each e (find_some he).1;simp
  cases hd:e.dropped with
  |true=>have:=h1.2.2.2.2.2.2.1 hd;simp[this]
  |false=>have:=h1.2.2.2.2.2.2.2 hd;simp;omega):p:=h
theorem free_iff{s:St}(h:Good s)(k:ByteArray)(now:Int):Free s k now↔tillOf s.l k=0\/late (tillOf s.l k) s.margin<=now:=by
 unfold Free tillOf
 exact zz18
theorem holds_is{s:St}(h:Good s)(k:ByteArray)(ho ep now:Int):Holds s k ho ep now↔(holderOf s.l k=ho/\epochOf s.l k=ep)/\(tillOf s.l k≠0/\now<tillOf s.l k):=by
 unfold Holds holderOf epochOf tillOf
 exact zz18
end Ls
structure LsIs(w:World)(q:Nat)(cs:Array Value)(ty:TypeId)(mo:Option Nat)(s:Ls.St):Prop where
 row:w.heap[q]? =some (.cells cs ty (0,0))
 k0:cs[0]? =some (.int .i64 s.margin)
 k1:cs[1]? =some (.map mo)
 map:LM.Opt w mo (Ls.zOf s.l) s.l.length
 good:Ls.Good s
 few:Ls.Few s 2199023255553
theorem LsIs.ne{w:World}{q m:Nat}{cs:Array Value}{ty:TypeId}{s:Ls.St}(h:LsIs w q cs ty (some m) s):q≠m:=fun e=>by
 obtain⟨es,clock,hb⟩:=MapW.At.block (M:=LM) h.map;have:=h.row;rw[e,hb]at this;injection this with this
 cases this
theorem LsIs.cells{w:World}{q:Nat}{cs:Array Value}{ty:TypeId}{mo:Option Nat}{s:Ls.St}(h:LsIs w q cs ty mo s):w.cell? ⟨q,0,none⟩=some (.int .i64 s.margin)/\w.cell? ⟨q,1,none⟩=some (.map mo)/\w.frozen? ⟨q,1,none⟩=false/\q<w.heap.size:=
 ⟨by rw[cell_of_row w q 0 _ _ _ h.row];exact h.k0,by rw[cell_of_row w q 1 _ _ _ h.row];exact h.k1,frozen_of_row _ _ _ _ _ h.row,(zg h.row).1⟩
theorem zz1e{p:Prop}(h:p:=by
 refine Array.ext_getElem? fun i=> ?_;rw[Array.getElem?_setIfInBounds];split
 ·rename_i e
  subst e;rw[h];split
  ·rfl
  ·rename_i h2
   rw[Array.getElem?_eq_none zv]at h
   cases h
 ·rfl):p:=h
theorem set_same{cs:Array Value}{k:Nat}{v:Value}(h:cs[k]? =some v):cs.setIfInBounds k v=cs:=by
 exact zz1e
theorem set_k0{cs:Array Value}{v u:Value}(h:cs[0]? =some v):(cs.setIfInBounds 1 u)[0]? =some v:=by rw[Array.getElem?_setIfInBounds_ne (by decide)];exact h
theorem set_k1{cs:Array Value}{v u:Value}(h:cs[1]? =some v):(cs.setIfInBounds 1 u)[1]? =some u:=by
 rw[Array.getElem?_setIfInBounds_self,if_pos];exact(zg h).1
theorem LsIs.keep{w w':World}{q:Nat}{cs:Array Value}{ty:TypeId}{mo:Option Nat}{s:Ls.St}(h:LsIs w q cs ty mo s)(h1:w'.heap[q]? =w.heap[q]?)(h2:∀m,mo=some m->w'.heap[m]? =w.heap[m]?):LsIs w' q cs ty mo s:=⟨h1.trans h.row,h.k0,h.k1,h.map.keep h2,h.good,h.few⟩
theorem LsIs.on{w w':World}{q:Nat}{cs:Array Value}{ty:TypeId}{mo:Option Nat}{s:Ls.St}(h:LsIs w q cs ty mo s)(hb:zF w w'):LsIs w' q cs ty mo s:=⟨(hb.block q h.cells.2.2.2).trans h.row,h.k0,h.k1,h.map.on hb,h.good,h.few⟩
theorem LsIs.look{w:World}{q:Nat}{cs:Array Value}{ty:TypeId}{mo:Option Nat}{s:Ls.St}(h:LsIs w q cs ty mo s)(k:ByteArray)(hk:k.size<=maxLen):(Instr.lookup 76 (.map mo) (.string k) false).run Tryz.prog w= .ok (leV (Ls.holderOf s.l k) (Ls.epochOf s.l k) (Ls.tillOf s.l k)) w:=by
 have:=h.map.look k hk;rw[show LM.zero=(0,0,0)from rfl,Ls.zOf_getD]at this;exact this
theorem jjw(W:World)(m:Int):Calls Tryz.prog 89 #[.int .i64 m] W (fun e w'=>e= .returned (.pointer (some ⟨W.heap.size,0,none⟩))/\LsIs w' W.heap.size #[.int .i64 (Ls.new m).margin,.map none] 78 none (Ls.new m)/\zF W w'):=by
 have C:=zh (jjv m W);have E:Hid (max 0 (min m 1048576)=(Ls.new m).margin):=by show _=min (max m 0) 1048576;omega
 generalize max 0 (min m 1048576)=d at*;have B1:=zh ((Below.refl W.heap.size W).alloc zl (.cells #[.int .i64 d,.map none] 78));have R1:=zh (heap_alloc_new W (.cells #[.int .i64 d,.map none] 78));go_in;go_wp2_with(go_at_call 63;refine C.o.mono ?_;rintro e w1 ⟨rfl,rfl⟩);go_ret;rw[E.o]at R1 B1⊢;exact⟨rfl,⟨R1.o,rfl,rfl,⟨fun _=>rfl,rfl⟩,Ls.new_good m,⟨fun e he=>(by cases he),by show 0<=2199023255553;omega⟩⟩,B1.o⟩
