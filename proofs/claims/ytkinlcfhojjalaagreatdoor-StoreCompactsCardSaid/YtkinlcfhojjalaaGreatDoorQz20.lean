import Derived.Test.YtkinlcfhojjalaaGreatDoorQz19
set_option maxHeartbeats 6400000
set_option maxRecDepth 100000
set_option linter.all false
namespace Go.Proofs.YtkinlcfhojjalaaGreatDoor
open Go.RowKit Go.Deep Go.Maps
theorem zz3{p:Prop}(h:p:=by
 refine tY 8 hS ?_;refine tY 9 hS ?_;simp only[Act.put,zT,zO,zS];refine wpAnyH_done zk ?_ _;have R1:=zh hS;clear hS;by_cases hst:r.who=s.step+1
 ·have p1:(r.who !=s.step+1)=false:=by simpa using hst
  by_cases hsl:(sl.length:Int)<r.who
  ·have E:ans=7:=by rw[HA.o,if_neg zv,if_neg TX.o,if_pos (.inr hsl)]
   subst E;have p2:decide ((sl.length:Int)<r.who)=true:=decide_eq_true hsl;clear hst hsl hph;go_upto_region 5 with fail
   refine wp_region_held_drew (S:=RdC w q s ru rv lo ko H K g r) zk (R1.o.on zD.drew) (fun hS=> ?_);refine tY 0 hS ?_;refine tZ 1 rfl (by intro W hW;have c2:=hW.rc.cs.c2;have lg:=hW.rc.cs.lt;go_simp;(try with_reducible rfl)) hS ?_;refine tY 2 hS ?_;refine tY 3 hS ?_;refine tY 4 hS ?_;refine tY 5 hS ?_;simp only[Act.put,zT,zO,zS];refine tZ 6 rfl (by intro W hW;have b10:=hW.bd.at_.cs.c10;have lq:=hW.bd.lt.1;go_simp;(try with_reducible rfl)) hS ?_;refine tY 7 hS ?_;refine tY 8 hS ?_;refine tY 9 hS ?_;refine tY 10 hS ?_;refine tZ 11 rfl (by intro W hW;have c2:=hW.rc.cs.c2;have lg:=hW.rc.cs.lt;go_simp;(try with_reducible rfl)) hS ?_;simp only[Act.put,zT,zO,zS];refine tY 12 hS ?_;refine tY 13 hS ?_;refine tY 14 hS ?_;refine tY 15 hS ?_;refine tZ 16 rfl (by intro W hW;have x:=hW.bd.at_.cs;have lq:=hW.bd.lt.1;obtain⟨x0,x1,x2,x3,x4,x5,x6,x7,x8,x9,x10,x11,x12,x13,x14,x15,x16,x17,x18,x19,x20,x21,x22,x23,x24,x25,x74,xlt⟩:=x;go_simp;(try with_reducible rfl)) hS ?_;simp only[Act.put,zT,zO,zS];refine rO 17 (fun K hK=> ?_);go_simp
   refine(CS.o _).mono ?_
   rintro e w9 ⟨A9,c9,rfl,_,hb⟩;replace hS:=hS.on hb;clear hb;refine hK.out _ _ hS (fun _=> ?_);clear hK K;refine tY 18 hS ?_;refine tY 19 hS ?_;refine tY 20 hS ?_;refine tY 21 hS ?_;simp only[Act.put,zT,zO,zS];refine wpAnyH_done zk ?_ _;have R2:=zh hS;clear hS;go_wp2;go_ret;exact⟨rfl,R2.o.b⟩
  ·have E:ans=0:=by rw[HA.o,if_neg zv,if_neg TX.o,if_neg zv]
   subst E;have p2:decide ((sl.length:Int)<r.who)=false:=decide_eq_false hsl;clear hst hsl hph;go_upto_region 5 with fail
   refine wp_region_held_drew (S:=RdC w q s ru rv lo ko H K g r) zk (R1.o.on zD.drew) (fun hS=> ?_);refine tY 0 hS ?_;refine tZ 1 rfl (by intro W hW;have c2:=hW.rc.cs.c2;have lg:=hW.rc.cs.lt;go_simp;(try with_reducible rfl)) hS ?_;refine tY 2 hS ?_;refine tY 3 hS ?_;refine tY 4 hS ?_;refine tY 5 hS ?_;simp only[Act.put,zT,zO,zS];refine tZ 6 rfl (by intro W hW;have b10:=hW.bd.at_.cs.c10;have lq:=hW.bd.lt.1;go_simp;(try with_reducible rfl)) hS ?_;refine tY 7 hS ?_;refine tY 8 hS ?_;refine tY 9 hS ?_;refine tY 10 hS ?_;refine tZ 11 rfl (by intro W hW;have c2:=hW.rc.cs.c2;have lg:=hW.rc.cs.lt;go_simp;(try with_reducible rfl)) hS ?_;simp only[Act.put,zT,zO,zS];refine tY 12 hS ?_;refine tY 13 hS ?_;refine tY 14 hS ?_;refine tY 15 hS ?_;refine tZ 16 rfl (by intro W hW;have x:=hW.bd.at_.cs;have lq:=hW.bd.lt.1;obtain⟨x0,x1,x2,x3,x4,x5,x6,x7,x8,x9,x10,x11,x12,x13,x14,x15,x16,x17,x18,x19,x20,x21,x22,x23,x24,x25,x74,xlt⟩:=x;go_simp;(try with_reducible rfl)) hS ?_;simp only[Act.put,zT,zO,zS];refine rO 17 (fun K hK=> ?_);go_simp
   refine(CS.o _).mono ?_
   rintro e w9 ⟨A9,c9,rfl,_,hb⟩;replace hS:=hS.on hb;clear hb;refine hK.out _ _ hS (fun _=> ?_);clear hK K;refine tY 18 hS ?_;refine tY 19 hS ?_;refine tY 20 hS ?_;refine tY 21 hS ?_;simp only[Act.put,zT,zO,zS];refine wpAnyH_done zk ?_ _;have R2:=zh hS;clear hS;go_wp2;go_ret;exact⟨rfl,R2.o.b⟩
 ·have p1:(r.who !=s.step+1)=true:=by simpa using hst
  have E:ans=7:=by rw[HA.o,if_neg zv,if_neg TX.o,if_pos (.inl hst)]
  subst E;clear hst hph;go_upto_region 5 with fail
  refine wp_region_held_drew (S:=RdC w q s ru rv lo ko H K g r) zk (R1.o.on zD.drew) (fun hS=> ?_);refine tY 0 hS ?_;refine tZ 1 rfl (by intro W hW;have c2:=hW.rc.cs.c2;have lg:=hW.rc.cs.lt;go_simp;(try with_reducible rfl)) hS ?_;refine tY 2 hS ?_;refine tY 3 hS ?_;refine tY 4 hS ?_;refine tY 5 hS ?_;simp only[Act.put,zT,zO,zS];refine tZ 6 rfl (by intro W hW;have b10:=hW.bd.at_.cs.c10;have lq:=hW.bd.lt.1;go_simp;(try with_reducible rfl)) hS ?_;refine tY 7 hS ?_;refine tY 8 hS ?_;refine tY 9 hS ?_;refine tN 10 hS ?_;refine tN 11 hS ?_;simp only[Act.put,zT,zO,zS];refine tN 12 hS ?_;refine tN 13 hS ?_;refine tN 14 hS ?_;refine tN 15 hS ?_;refine tN 16 hS ?_;refine tN 17 hS ?_;simp only[Act.put,zT,zO,zS];refine tN 18 hS ?_;refine tN 19 hS ?_;refine tY 20 hS ?_;refine tY 21 hS ?_;simp only[Act.put,zT,zO,zS];refine wpAnyH_done zk ?_ _;have R2:=zh hS;clear hS;go_wp2;go_ret;exact⟨rfl,R2.o.b⟩):p:=h
theorem jrq(q:Nat)(s:Bk.St)(ru:Nat->Bk.Un)(rv:Int)(lo ko:Option Nat)(H:Value)(K:Kv.St)(w:World)(h:BdIs w q s ru rv lo ko H K)(ht:BT w)(r:Rc.R)(hin:Rc.In r):Calls Tryz.prog 127 #[.pointer (some ⟨q,0,none⟩),.agg (Rc.cells r)] w (BRet (.int .i64 (Bk.chk7 s r)) w):=by
 obtain⟨ans,hans⟩:∃ans,ans=Bk.chk7 s r:=zx;rw[<-hans];have AN:=zh hans;clear hans;have HT:=zh ht;obtain⟨W,hW⟩:∃W,W=w.alloc (.cells (Rc.cells r) 56):=zx;obtain⟨g,hg⟩:∃g,g=w.heap.size:=zx;have R0:=zh (RdC.open_ h r);rw[<-hW,<-hg]at R0;have GE:Hid (w.heap.size<=g):=Nat.le_of_eq hg.symm;have e1:Bk.passed.toList=[112,97,115,115,101,100]:=by rw[ByteArray.toList_eq];rfl
 have e2:Bk.promote.toList=[112,114,111,109,111,116,101]:=by rw[ByteArray.toList_eq];rfl
 have t1:(r.text.toList==[112,97,115,115,101,100])=decide (r.text=Bk.passed):=by rw[<-e1];exact jb7
 have t2:(r.text.toList==[112,114,111,109,111,116,101])=decide (r.text=Bk.promote):=by rw[<-e2];exact jb7
 clear e1 e2;have CW:Hid (∀W,RdC w q s ru rv lo ko H K g r W->Calls Tryz.prog 184 #[.int .i64 3] W (jbg W (.string ⟨#[112,114,111,109,111,116,101]⟩))):=fun W h=>jq4 3 W (HT.o.on h.b).ph;have CS:=zh (fun W=>jrp s.sp W);unfold Spc.val Spc.cells at CS;have hw1:wrap64 (s.step+1)=s.step+1:=IntWalk.wrap64_in _ ⟨by have:=h.lok.ok.step;omega,by have:=h.lok.ok.step;omega⟩;have hw2:IntKind.i64.wrap (s.step+1)=s.step+1:=by rw[IntKind.wrap_i64];have:=h.lok.ok.step;omega
 have HA:Hid (ans=if s.ph≠1 then 10 else if r.text≠Bk.passed/\r.text≠Bk.promote then 2 else if r.who≠s.step+1\/((Spc.steps s.sp).length:Int)<r.who then 7 else 0):=AN.o;clear AN;generalize Spc.steps s.sp=sl at*;clear h ht;go_in;go_upto_region 1 with fail
 rw[<-hW,<-hg];clear hW hg;have b9:=R0.o.bd.at_.cs.c9;have lq:=R0.o.bd.lt.1;by_cases hph:s.ph=1
 ·have o1:(s.ph !=1)=false:=by simpa using hph
  go_upto_region 3 with fail
  clear b9 lq;by_cases hx1:r.text=Bk.passed
  ·have TX:Hid (¬(r.text≠Bk.passed/\r.text≠Bk.promote)):=fun h=>h.1 hx1
   rw[decide_eq_true hx1]at t1;clear t2 hx1;refine wp_region_held_drew (S:=RdC w q s ru rv lo ko H K g r) zk (R0.o.on zD.drew) (fun hS=> ?_);refine tY 0 hS ?_;refine tZ 1 rfl (by intro W hW;have c5:=hW.rc.cs.c5;have lg:=hW.rc.cs.lt;go_simp;(try with_reducible rfl)) hS ?_;refine tY 2 hS ?_;refine tY 3 hS ?_;refine tN 4 hS ?_;refine tN 5 hS ?_;simp only[Act.put,zT,zO,zS];refine tN 6 hS ?_;refine tN 7 hS ?_;exact zz3
  ·rw[decide_eq_false hx1]at t1
   by_cases hx2:r.text=Bk.promote
   ·have TX:Hid (¬(r.text≠Bk.passed/\r.text≠Bk.promote)):=fun h=>h.2 hx2
    rw[decide_eq_true hx2]at t2;clear hx1 hx2;refine wp_region_held_drew (S:=RdC w q s ru rv lo ko H K g r) zk (R0.o.on zD.drew) (fun hS=> ?_);refine tY 0 hS ?_;refine tZ 1 rfl (by intro W hW;have c5:=hW.rc.cs.c5;have lg:=hW.rc.cs.lt;go_simp;(try with_reducible rfl)) hS ?_;refine tY 2 hS ?_;refine tY 3 hS ?_;refine tY 4 hS ?_;refine tZ 5 rfl (by intro W hW;have c5:=hW.rc.cs.c5;have lg:=hW.rc.cs.lt;go_simp;(try with_reducible rfl)) hS ?_;simp only[Act.put,zT,zO,zS];refine rO 6 (fun K hK=> ?_);go_simp
    refine(CW.o _ hS).mono ?_
    rintro e w7 ⟨rfl,hb⟩;replace hS:=hS.on hb;clear hb;refine hK.out _ _ hS (fun _=> ?_);clear hK K;refine tY 7 hS ?_;exact zz3
   ·have E:ans=2:=by rw[HA.o,if_neg zv,if_pos ⟨hx1,hx2⟩]
    subst E;rw[decide_eq_false hx2]at t2;clear hx1 hx2 hph;refine wp_region_held_drew (S:=RdC w q s ru rv lo ko H K g r) zk (R0.o.on zD.drew) (fun hS=> ?_);refine tY 0 hS ?_;refine tZ 1 rfl (by intro W hW;have c5:=hW.rc.cs.c5;have lg:=hW.rc.cs.lt;go_simp;(try with_reducible rfl)) hS ?_;refine tY 2 hS ?_;refine tY 3 hS ?_;refine tY 4 hS ?_;refine tZ 5 rfl (by intro W hW;have c5:=hW.rc.cs.c5;have lg:=hW.rc.cs.lt;go_simp;(try with_reducible rfl)) hS ?_;simp only[Act.put,zT,zO,zS];refine rO 6 (fun K hK=> ?_);go_simp
    refine(CW.o _ hS).mono ?_
    rintro e w7 ⟨rfl,hb⟩;replace hS:=hS.on hb;clear hb;refine hK.out _ _ hS (fun _=> ?_);clear hK K;refine tY 7 hS ?_;refine tY 8 hS ?_;refine tY 9 hS ?_;simp only[Act.put,zT,zO,zS];refine wpAnyH_done zk ?_ _;have R2:=zh hS;clear hS;go_wp2;go_ret;exact⟨rfl,R2.o.b⟩
 ·have o1:(s.ph !=1)=true:=by simpa using hph
  have E:ans=10:=by rw[HA.o,if_pos hph]
  subst E;clear hph t1 t2;go_wp2;go_ret;exact⟨rfl,R0.o.b⟩
open Go.RowKit Go.Maps Go.WideMaps
structure MapV(P:Program)(kt et t:TypeId)(K V H:Type) where
 kv:K->Value
 kl:K->Lit
 ok:K->Prop
 ev:V->Value
 ed:V->DataW H
 R:Value->Option (DataW H×List MemPlace)
 zero:V
 keyed:Keyed P kt
 ty:P.underlying t=some (.map kt et)
 key:∀k,ok k->keyOf P kt (kv k)=some (kl k)
 inj:∀k k',kl k=kl k'->k=k'
 isKey:∀k,WideAt.IsKeyLit (kl k)
 rd:∀v,R (ev v)=some (ed v,[])
 rinv:∀x z,R x=some z->∃v,x=ev v/\z=(ed v,[])
 einj:∀v v',ed v=ed v'->v=v'
 hz:∀w,(zeroValue et).run P w= .ok (ev zero) w
namespace MapV
variable{P:Program}{kt et t:TypeId}{K V H:Type}(M:MapV P kt et t K V H)
structure Dat(D:DataW H)(f:K->Option V)(n:Nat):Prop where
 has:∀k,Maps.has D (M.kl k)=(f k).isSome
 at_:∀k v,f k=some v->∀z,D.atKey (M.kl k) z=M.ed v
 size:Maps.size D=n
 tidy:Tidy D
def At(w:World)(b:Nat)(f:K->Option V)(n:Nat):Prop:=∃D,w.ownsMap P kt M.R b n D/\M.Dat D f n
noncomputable def set(f:K->Option V)(k:K)(o:Option V):K->Option V:=by
 classical exact fun k'=>if k'=k then o else f k'
theorem set_same(f:K->Option V)(k:K)(o:Option V):set f k o k=o:=by unfold set;simp
theorem set_other(f:K->Option V){k k':K}(o:Option V)(h:k'≠k):set f k o k'=f k':=by unfold set;simp[h]
variable{M}
theorem owns_tight{w:World}{b n:Nat}{D:DataW H}(h:w.ownsMap P kt M.R b n D):w.ownsMap P kt M.R b (Maps.size D) D:=by
 exact zz2a
theorem At.of{w:World}{b n m:Nat}{D:DataW H}{f:K->Option V}(h:w.ownsMap P kt M.R b m D)(hd:M.Dat D f n):M.At w b f n:=⟨D,by rw[<-hd.size];exact owns_tight h,hd⟩
theorem At.made(w:World):M.At (w.alloc (.map #[] 0)) w.heap.size (fun _=>none) 0:=⟨_,World.ownsMap_made w P kt M.R,fun _=>rfl,fun _ _ h=>(by cases h),rfl,tidy_empty⟩
theorem At.lt{w:World}{b n:Nat}{f:K->Option V}(h:M.At w b f n):b<w.heap.size:=by
 obtain⟨D,h1,_⟩:=h;exact h1.lt
theorem At.keep{w w':World}{b n:Nat}{f:K->Option V}(h:M.At w b f n)(hb:w'.heap[b]? =w.heap[b]?):M.At w' b f n:=by
 exact zz2j
theorem At.on{w w':World}{b n:Nat}{f:K->Option V}(h:M.At w b f n)(hb:zF w w'):M.At w' b f n:=h.keep (hb.block b h.lt)
theorem At.block{w:World}{b n:Nat}{f:K->Option V}(h:M.At w b f n):∃es clock,w.heap[b]? =some (.map es clock):=by
 obtain⟨D,⟨es,clock,h1,_⟩,_⟩:=h;exact⟨es,clock,h1⟩
theorem Dat.look{D:DataW H}{f:K->Option V}{n:Nat}(h:M.Dat D f n)(k:K):D.atKey (M.kl k) (M.ed M.zero)=M.ed ((f k).getD M.zero):=by
 exact zz1x
theorem Dat.put{D:DataW H}{f:K->Option V}{n:Nat}(h:M.Dat D f n)(k:K)(v:V):M.Dat (D.put (M.kl k) (M.ed v)) (set f k (some v)) (if(f k).isSome then n else n+1):=by
 exact zzp
theorem At.look{w:World}{b n:Nat}{f:K->Option V}(h:M.At w b f n)(k:K)(hk:M.ok k):(Instr.lookup t (.map (some b)) (M.kv k) false).run P w= .ok (M.ev ((f k).getD M.zero)) w:=by
 exact zz11
theorem At.look_ok{w:World}{b n:Nat}{f:K->Option V}(h:M.At w b f n)(k:K)(hk:M.ok k):(Instr.lookup t (.map (some b)) (M.kv k) true).run P w= .ok (.tuple #[M.ev ((f k).getD M.zero),.bool (f k).isSome]) w:=by
 exact zzy
theorem At.put{w:World}{b n:Nat}{f:K->Option V}(h:M.At w b f n)(hn:n<maxLen)(k:K)(v:V)(hk:M.ok k):
  ∃w',(Instr.mapUpdate t (.map (some b)) (M.kv k) (M.ev v)).run P w= .ok () w'/\M.At w' b (set f k (some v)) (if(f k).isSome then n else n+1)/\w.mapTurned w' b:=by
 obtain⟨D,h1,hd⟩:=h;obtain⟨w',hrun,h2,h3⟩:=h1.store M.keyed M.ty hn (M.key k hk) (M.rd v);exact⟨w',hrun,At.of h2 (hd.put k v),h3⟩
end MapV
abbrev heldR(v:Value):Option (DataW Value×List MemPlace):=some (.held v,[])
def MapV.ofInt{P:Program}{kt et t:TypeId}{q:IntKind}(hk:P.underlying kt=some (.int q))(ht:P.underlying t=some (.map kt et))(z:Value)(hz:∀w,(zeroValue et).run P w= .ok z w):MapV P kt et t Int Value Value where
 kv:= .int q
 kl:= .int q
 ok:=fun a=>(Lit.int q a).wf=true
 ev:=fun v=>v
 ed:= .held
 R:=heldR
 zero:=z
 keyed:=Maps.int_keyed hk
 ty:=ht
 key:=fun _ h=>Maps.keyOf_int_mk hk h
 inj:=fun _ _ h=>by injection h
 isKey:=fun _=>trivial
 rd:=fun _=>rfl
 rinv:=fun x z h=>⟨x,rfl,(Option.some.inj h).symm⟩
 einj:=fun _ _ h=>by injection h
 hz:=hz
theorem MapV.At.insert{P:Program}{kt et t:TypeId}{K V H:Type}{M:MapV P kt et t K V H}{w:World}{ops:Array Oper}{rest:List Oper}{o:Oper}{a:Act}{Q:Exit->Act->World->Prop}{b n:Nat}{f:K->Option V}(h:M.At w b f n)(hg:o.guard=none)(m x v:Operand)(hop:o.op=Op.insert t m x v)
  (hm:a.eval m= .map (some b)) (k:K) (u:V) (hx:a.eval x=M.kv k) (hv:a.eval v=M.ev u) (hn:n<maxLen) (hk:M.ok k)
  (hK:∀w',M.At w' b (MapV.set f k (some u)) (if(f k).isSome then n else n+1)->w.mapTurned w' b->wpList P ops Q rest (a.put o.dst undef) w'):wpList P ops Q (o::rest) a w:=by
 refine wpList_plain hg fun K' hK'=> ?_;obtain⟨w',hrun,h2,h3⟩:=h.put hn k u hk;unfold Oper.wp;simp[execOp,hop,hm,hx,hv,hrun,Result.andThen];exact hK' _ _ (hK w' h2 h3)
end Go.Proofs.YtkinlcfhojjalaaGreatDoor
namespace Go.Proofs.YtkinlcfhojjalaaGreatDoor
open Go.RowKit
def hasB(lo hi:Int)(no:Bool)(n:Int):Bool:=decide (lo<=n)&&decide (n<=hi)|| no&&decide (n=0)
theorem zz3c{p:Prop}(h:p:=by
 clear HE;go_in;go_wp2;go_ret;exact⟨rfl,HB.o⟩):p:=h
theorem has_any(lo hi:Int)(no:Bool)(n:Int)(w:World):Calls Tryz.prog 265 #[.agg #[.int .i64 lo,.int .i64 hi,.bool no],.int .i64 n] w (APos w (.bool (hasB lo hi no n))):=by
 have HB:=zh ((Below.refl w.heap.size w).alloc zl (.cells #[.int .i64 lo,.int .i64 hi,.bool no] 296));have HE:Hid (hasB lo hi no n=(decide (lo<=n)&&decide (n<=hi)|| no&&decide (n=0))):=rfl;obtain⟨B,hB⟩:∃B,B=hasB lo hi no n:=zx;rw[<-hB]at HE⊢;clear hB;by_cases h1:lo<=n
 ·by_cases h2:n<=hi
  ·obtain rfl:B=true:=by rw[HE.o];simp[h1,h2]
   exact zz3c
  ·cases no with
   |false=>
    obtain rfl:B=false:=by rw[HE.o];simp[h1,h2]
    exact zz3c
   |true=>
    obtain rfl:B=(n==0):=by rw[HE.o];simp[h1,h2];rfl
    exact zz3c
 ·cases no with
  |false=>
   obtain rfl:B=false:=by rw[HE.o];simp[h1]
   exact zz3c
  |true=>
   obtain rfl:B=(n==0):=by rw[HE.o];simp[h1];rfl
   exact zz3c
theorem jrr(s:Spc.Sp)(w:World):Calls Tryz.prog 286 #[Spc.val s] w (APos w (.int .i64 (if s.u=0 then 1 else 0))):=by
 have HB:=zh ((Below.refl w.heap.size w).alloc zl (.cells #[.int .i64 s.v,.int .i64 s.d,.int .i64 s.u,.int .i64 s.n,.int .i64 s.g,.int .i64 s.a,.int .i64 s.b,.int .i64 s.c,.int .i64 s.e,.int .i64 s.w,.int .i64 s.x,.int .i64 s.k] 33));unfold Spc.val Spc.cells;by_cases h:s.u=0
 ·have hq:(s.u==0)=true:=by rw[h];rfl
  rw[if_pos h];clear h;go_in;go_wp2;go_ret;exact⟨rfl,HB.o⟩
 ·have hq:(s.u==0)=false:=by rw[zq];exact h
  rw[if_neg h];clear h;go_in;go_wp2;go_ret;exact⟨rfl,HB.o⟩
theorem ju5(s:Spc.Sp)(w:World):Calls Tryz.prog 287 #[Spc.val s] w (APos w (.int .i64 (if s.u<s.d then 1 else 2))):=by
 have HB:=zh ((Below.refl w.heap.size w).alloc zl (.cells #[.int .i64 s.v,.int .i64 s.d,.int .i64 s.u,.int .i64 s.n,.int .i64 s.g,.int .i64 s.a,.int .i64 s.b,.int .i64 s.c,.int .i64 s.e,.int .i64 s.w,.int .i64 s.x,.int .i64 s.k] 33));unfold Spc.val Spc.cells;by_cases h:s.u<s.d
 ·rw[if_pos h]
  go_in;go_wp2;go_ret;exact⟨rfl,HB.o⟩
 ·rw[if_neg h]
  go_in;go_wp2;go_ret;exact⟨rfl,HB.o⟩
def slo(g a:Int):Int:=if g=0/\a≠0 then wrap64 (a+1)else 0
def shi(g a:Int):Int:=if g=0/\a≠0 then 100 else 0
def sno(g a:Int):Bool:=decide (g=0/\a≠0)
def stc(s:Spc.Sp):Array Value:=#[.int .i64 (if s.g=0 then 1 else 0),.int .i64 (if s.g=0 then 100 else 0),.bool false,
 .int .i64 (slo s.g s.a),.int .i64 (shi s.g s.a),.bool (sno s.g s.a),.int .i64 (slo s.g s.b),.int .i64 (shi s.g s.b),.bool (sno s.g s.b),.int .i64 (slo s.g s.c),.int .i64 (shi s.g s.c),.bool (sno s.g s.c)]
theorem jit(s:Spc.Sp)(w:World):Calls Tryz.prog 285 #[Spc.val s] w (APos w (.agg (stc s))):=by
 have HV:Hid (Spc.val s= .agg #[.int .i64 s.v,.int .i64 s.d,.int .i64 s.u,.int .i64 s.n,.int .i64 s.g,.int .i64 s.a,.int .i64 s.b,.int .i64 s.c,.int .i64 s.e,.int .i64 s.w,.int .i64 s.x,.int .i64 s.k]):=rfl;rw[HV.o];by_cases hg:s.g=0
 ·have hg1:(s.g !=0)=false:=by rw[bne_eq_false_iff_eq];exact hg
  have G:=zh hg;clear hg HV;by_cases ha:s.a=0
  ·have ha1:(s.a !=0)=false:=by rw[bne_eq_false_iff_eq];exact ha
   have HA:=zh ha;clear ha;by_cases hb:s.b=0
   ·have hb1:(s.b !=0)=false:=by rw[bne_eq_false_iff_eq];exact hb
    have HB:=zh hb;clear hb;by_cases hc:s.c=0
    ·have hc1:(s.c !=0)=false:=by rw[bne_eq_false_iff_eq];exact hc
     have HC:=zh hc;clear hc;go_in;go_wp2_with fail;go_rounds 4;exact bodyPost_ret (v:= .agg #[.int .i64 1,.int .i64 100,.bool false,zi,zi,.bool false,zi,zi,.bool false,zi,zi,.bool false]) (by simp[results,Tryz.results285,go_sem]) rfl ⟨by unfold stc slo shi sno;simp[G.o,HA.o,HB.o,HC.o],by go_grown⟩
    ·have hc1:(s.c !=0)=true:=by rw[bne_iff_ne];exact hc
     have HC:=zh hc;clear hc;go_in;go_wp2_with fail;go_rounds 4;exact bodyPost_ret (v:= .agg #[.int .i64 1,.int .i64 100,.bool false,zi,zi,.bool false,zi,zi,.bool false,.int .i64 (wrap64 (s.c+1)),.int .i64 100,.bool true]) (by simp[results,Tryz.results285,go_sem]) rfl ⟨by unfold stc slo shi sno;simp[G.o,HA.o,HB.o,HC.o],by go_grown⟩
   ·have hb1:(s.b !=0)=true:=by rw[bne_iff_ne];exact hb
    have HB:=zh hb;clear hb;by_cases hc:s.c=0
    ·have hc1:(s.c !=0)=false:=by rw[bne_eq_false_iff_eq];exact hc
     have HC:=zh hc;clear hc;go_in;go_wp2_with fail;go_rounds 4;exact bodyPost_ret (v:= .agg #[.int .i64 1,.int .i64 100,.bool false,zi,zi,.bool false,.int .i64 (wrap64 (s.b+1)),.int .i64 100,.bool true,zi,zi,.bool false]) (by simp[results,Tryz.results285,go_sem]) rfl ⟨by unfold stc slo shi sno;simp[G.o,HA.o,HB.o,HC.o],by go_grown⟩
    ·have hc1:(s.c !=0)=true:=by rw[bne_iff_ne];exact hc
     have HC:=zh hc;clear hc;go_in;go_wp2_with fail;go_rounds 4;exact bodyPost_ret (v:= .agg #[.int .i64 1,.int .i64 100,.bool false,zi,zi,.bool false,.int .i64 (wrap64 (s.b+1)),.int .i64 100,.bool true,.int .i64 (wrap64 (s.c+1)),.int .i64 100,.bool true]) (by simp[results,Tryz.results285,go_sem]) rfl ⟨by unfold stc slo shi sno;simp[G.o,HA.o,HB.o,HC.o],by go_grown⟩
  ·have ha1:(s.a !=0)=true:=by rw[bne_iff_ne];exact ha
   have HA:=zh ha;clear ha;by_cases hb:s.b=0
   ·have hb1:(s.b !=0)=false:=by rw[bne_eq_false_iff_eq];exact hb
    have HB:=zh hb;clear hb;by_cases hc:s.c=0
    ·have hc1:(s.c !=0)=false:=by rw[bne_eq_false_iff_eq];exact hc
     have HC:=zh hc;clear hc;go_in;go_wp2_with fail;go_rounds 4;exact bodyPost_ret (v:= .agg #[.int .i64 1,.int .i64 100,.bool false,.int .i64 (wrap64 (s.a+1)),.int .i64 100,.bool true,zi,zi,.bool false,zi,zi,.bool false]) (by simp[results,Tryz.results285,go_sem]) rfl ⟨by unfold stc slo shi sno;simp[G.o,HA.o,HB.o,HC.o],by go_grown⟩
    ·have hc1:(s.c !=0)=true:=by rw[bne_iff_ne];exact hc
     have HC:=zh hc;clear hc;go_in;go_wp2_with fail;go_rounds 4;exact bodyPost_ret (v:= .agg #[.int .i64 1,.int .i64 100,.bool false,.int .i64 (wrap64 (s.a+1)),.int .i64 100,.bool true,zi,zi,.bool false,.int .i64 (wrap64 (s.c+1)),.int .i64 100,.bool true]) (by simp[results,Tryz.results285,go_sem]) rfl ⟨by unfold stc slo shi sno;simp[G.o,HA.o,HB.o,HC.o],by go_grown⟩
   ·have hb1:(s.b !=0)=true:=by rw[bne_iff_ne];exact hb
    have HB:=zh hb;clear hb;by_cases hc:s.c=0
    ·have hc1:(s.c !=0)=false:=by rw[bne_eq_false_iff_eq];exact hc
     have HC:=zh hc;clear hc;go_in;go_wp2_with fail;go_rounds 4;exact bodyPost_ret (v:= .agg #[.int .i64 1,.int .i64 100,.bool false,.int .i64 (wrap64 (s.a+1)),.int .i64 100,.bool true,.int .i64 (wrap64 (s.b+1)),.int .i64 100,.bool true,zi,zi,.bool false]) (by simp[results,Tryz.results285,go_sem]) rfl ⟨by unfold stc slo shi sno;simp[G.o,HA.o,HB.o,HC.o],by go_grown⟩
    ·have hc1:(s.c !=0)=true:=by rw[bne_iff_ne];exact hc
     have HC:=zh hc;clear hc;go_in;go_wp2_with fail;go_rounds 4;exact bodyPost_ret (v:= .agg #[.int .i64 1,.int .i64 100,.bool false,.int .i64 (wrap64 (s.a+1)),.int .i64 100,.bool true,.int .i64 (wrap64 (s.b+1)),.int .i64 100,.bool true,.int .i64 (wrap64 (s.c+1)),.int .i64 100,.bool true]) (by simp[results,Tryz.results285,go_sem]) rfl ⟨by unfold stc slo shi sno;simp[G.o,HA.o,HB.o,HC.o],by go_grown⟩
 ·have hg1:(s.g !=0)=true:=by rw[bne_iff_ne];exact hg
  have G:=zh hg;clear hg HV;go_in;go_wp2_with fail;exact bodyPost_ret (v:= .agg #[zi,zi,.bool false,zi,zi,.bool false,zi,zi,.bool false,zi,zi,.bool false]) (by simp[results,Tryz.results285,go_sem]) rfl ⟨by unfold stc slo shi sno;simp[G.o],by go_grown⟩
