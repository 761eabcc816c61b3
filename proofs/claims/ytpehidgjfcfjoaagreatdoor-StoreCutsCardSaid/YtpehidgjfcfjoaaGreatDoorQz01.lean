import Derived.WalkKit
import Derived.Below
import Derived.Deep.Draws
import Derived.Laws.Rows
import Derived.Lib.Hide
import Derived.ProofKit
import Derived.OpenShut
import Derived.Outline
import Derived.OwnWalk
import Derived.Laws.OwnMore
import Derived.Laws.AppendOwnNone
import Derived.Deep.QuietTactic
import Derived.BigQuiet
import Derived.Deep.DeepFit
import Derived.ScopeJumps
import Derived.WalkMore
import Derived.Laws.BytesArg
import Derived.Laws.Concat
import Derived.Test.YtpehidgjfcfjoaaGreatDoorRows
set_option maxHeartbeats 6400000
set_option maxRecDepth 100000
set_option linter.unusedSimpArgs false
set_option linter.unusedVariables false
namespace Go.Proofs.YtpehidgjfcfjoaaGreatDoor
theorem zv{p:Prop}(h:p:=by omega):p:=h
theorem zk{p:Prop}(h:p:=by kernel_rfl):p:=h
open Go.RowKit in
theorem zh{p:Prop}(h:p):Hid p:=h
abbrev zL(d:Nat){P:Program}{ops:Array Oper}{Q:Exit->Act->World->Prop}{t:TypeId}{x:Operand}{y:TypeId}{p:String}{e:Array Edge}{g:Option (Nat×Bool)}{r:List Oper}{a:Act}{w:World}:Prop:=wpList P ops Q ({dst:=some d,op:= .load t x,type:=y,pos:=p,after:=e,guard:=g}::r) a w
abbrev zB(d:Nat){P:Program}{ops:Array Oper}{Q:Exit->Act->World->Prop}{t:TypeId}{x:Nat}{f:Array (Nat×Operand)}{y:TypeId}{p:String}{e:Array Edge}{g:Option (Nat×Bool)}{r:List Oper}{a:Act}{w:World}:Prop:=wpList P ops Q ({dst:=some d,op:= .buildSlice t x f,type:=y,pos:=p,after:=e,guard:=g}::r) a w
abbrev zW{P:Program}{ops:Array Oper}{Q:Exit->Act->World->Prop}{t:TypeId}{x z:Operand}{y:TypeId}{p:String}{e:Array Edge}{g:Option (Nat×Bool)}{r:List Oper}{a:Act}{w:World}:Prop:=wpList P ops Q ({dst:=none,op:= .store t x z,type:=y,pos:=p,after:=e,guard:=g}::r) a w
end Go.Proofs.YtpehidgjfcfjoaaGreatDoor
namespace Go.Proofs.YtpehidgjfcfjoaaGreatDoor
theorem zT{T:Type}(l:List T)(i:Nat)(a:T):l.toArray.setIfInBounds i a=(l.set i a).toArray:=List.setIfInBounds_toArray ..
theorem zO{T:Type}(a b:T)(l:List T):(a::l).set 0 b=b::l:=rfl
theorem zS{T:Type}(a b:T)(l:List T)(i:Nat):(a::l).set (i+1) b=a::l.set i b:=rfl
end Go.Proofs.YtpehidgjfcfjoaaGreatDoor
namespace Go.Proofs.YtpehidgjfcfjoaaGreatDoor
open Go.RowKit
theorem jal{T:Type}{l:List T}{j:Nat}{d:T}(h:j<l.length):l.getD j d=l[j]:=by
 rw[List.getD_eq_getElem?_getD,List.getElem?_eq_getElem h,Option.getD_some]
theorem jsl{T:Type}{l:List T}{j:Nat}{d:T}(h:l.length<=j):l.getD j d=d:=by
 rw[List.getD_eq_getElem?_getD,List.getElem?_eq_none h,Option.getD_none]
def Rd(w:World)(B:Nat)(A:Option Addr)(l:List Nat):Prop:=
 (∀x∈l,x<256)/\(0<l.length->∃b o,A=some ⟨b,o,none⟩/\b<B/\∀j,j<l.length->w.cell? ⟨b,o+j,none⟩=some (.int .u8 ((l.getD j 0:Nat):Int)))
section
variable{w w':World}{B B':Nat}{A:Option Addr}{l:List Nat}
theorem Rd.empty(w:World)(B:Nat)(A:Option Addr):Rd w B A []:=⟨by simp,by simp⟩
theorem Rd.byte(h:Rd w B A l)(j:Nat):l.getD j 0<256:=by
 by_cases hj:j<l.length
 ·rw[jal hj];exact h.1 _ (List.getElem_mem hj)
 ·rw[jsl zv];omega
theorem Rd.keep(h:Rd w B A l)(hk:∀p:Addr,p.block<B->w'.cell? p=w.cell? p):Rd w' B A l:=
 ⟨h.1,fun hl=>by
  obtain⟨b,o,e,hb,hc⟩:=h.2 hl;exact⟨b,o,e,hb,fun j hj=>(hk _ hb).trans (hc j hj)⟩⟩
theorem Rd.more(h:Rd w B A l)(hB:B<=B'):Rd w B' A l:=
 ⟨h.1,fun hl=>by
  obtain⟨b,o,e,hb,hc⟩:=h.2 hl;exact⟨b,o,e,zv,hc⟩⟩
theorem Rd.below(h:Rd w B A l)(hb:Below B w w'):Rd w' B A l:=h.keep fun _ hp=>hb.cell hp
theorem Rd.on(h:Rd w w.heap.size A l)(hb:Below w.heap.size w w'):Rd w' w'.heap.size A l:=(h.below hb).more hb.size
theorem Rd.take(h:Rd w B A l)(k:Nat):Rd w B A (l.take k):=
 ⟨fun x hx=>h.1 x (List.mem_of_mem_take hx),fun hl=>by
  rw[List.length_take]at hl;obtain⟨b,o,e,hb,hc⟩:=h.2 zv;refine⟨b,o,e,hb,fun j hj=> ?_⟩;rw[List.length_take]at hj;rw[hc j zv,jal zv,jal (by rw[List.length_take];omega),List.getElem_take]⟩
theorem Rd.drop(h:Rd w B A l){k c:Nat}(hc:l.length<=c)(f:Addr->Addr)(hf:∀b o,f ⟨b,o,none⟩=⟨b,o+k,none⟩):Rd w B (if c=k then A else A.map f) (l.drop k):=
 ⟨fun x hx=>h.1 x (List.mem_of_mem_drop hx),fun hl=>by
  rw[List.length_drop]at hl;obtain⟨b,o,rfl,hb,hcl⟩:=h.2 zv;rw[if_neg zv];refine⟨b,o+k,by rw[Option.map_some,hf],hb,fun j hj=> ?_⟩;rw[List.length_drop]at hj;rw[show o+k+j=o+(k+j)from by omega,hcl (k+j) zv,jal zv,jal (by rw[List.length_drop];omega),List.getElem_drop]⟩
end
theorem jim(l:List Nat)(k:Nat)(h:k<l.length):l.take (k+1)=l.take k++[l.getD k 0]:=by
 rw[List.take_succ_eq_append_getElem h,jal h]
end Go.Proofs.YtpehidgjfcfjoaaGreatDoor
namespace Go.Proofs.YtpehidgjfcfjoaaGreatDoor
namespace Spc
structure Sp where
 v:Int
 d:Int
 u:Int
 n:Int
 g:Int
 a:Int
 b:Int
 c:Int
 e:Int
 w:Int
 x:Int
 k:Int
def zero:Sp:=⟨0,0,0,0,0,0,0,0,0,0,0,0⟩
def flds(s:Sp):List Int:=[s.v,s.d,s.u,s.n,s.g,s.a,s.b,s.c,s.e,s.w,s.x,s.k]
def i64(n:Int):Prop:= -9223372036854775808<=n/\n<=9223372036854775807
def In(s:Sp):Prop:=∀n∈flds s,i64 n
theorem flds_length(s:Sp):(flds s).length=12:=rfl
theorem flds_inj{s t:Sp}(h:flds s=flds t):s=t:=by
 cases s;cases t
 simp only[flds,List.cons.injEq,and_true]at h;obtain⟨h1,h2,h3,h4,h5,h6,h7,h8,h9,h10,h11,h12⟩:=h;subst h1 h2 h3 h4 h5 h6 h7 h8 h9 h10 h11 h12;rfl
def of(l:List Int):Sp:=⟨l.getD 0 0,l.getD 1 0,l.getD 2 0,l.getD 3 0,l.getD 4 0,l.getD 5 0,l.getD 6 0,l.getD 7 0,l.getD 8 0,l.getD 9 0,l.getD 10 0,l.getD 11 0⟩
theorem of_flds(s:Sp):of (flds s)=s:=rfl
theorem flds_of{l:List Int}(h:l.length=12):flds (of l)=l:=by
 match l,h with
 |[_,_,_,_,_,_,_,_,_,_,_,_],_=>rfl
def inn(n lo hi:Int):Bool:=decide (lo<=n)&&decide (n<=hi)
def at_(s:Sp)(i:Nat):Int:=[s.a,s.b,s.c,s.e].getD i 0
def st(s:Sp)(i:Nat):Bool:=
 if s.g≠0 then decide (at_ s i=0)else if i=0 then inn s.a 1 100 else decide (at_ s i=0)|| (decide (0<at_ s (i -1))&&inn (at_ s i) (at_ s (i -1)+1) 100)
def chk(s:Sp):Nat:=
 if !inn s.v 1 1048576 then 1 else if !inn s.d 1 16 then 2 else if !inn s.u 0 (16 -s.d)then 3
 else if !inn s.n 0 s.d|| (decide (s.n=0)&&decide (s.u=0))then 4 else if !inn s.g 0 2|| (decide (s.g=2)&&decide (s.u<s.d))then 5
 else if !st s 0 then 6 else if !st s 1 then 7 else if !st s 2 then 8 else if !st s 3 then 9
 else if !inn s.w 1 1048576 then 10 else if !inn s.x 0 1048576 then 11 else if !inn s.k 1 1048576 then 12 else 0
def chkE(s:Sp):Int:=if chk s=0 then 0 else 11
theorem inn_iff{n lo hi:Int}:inn n lo hi=true↔lo<=n/\n<=hi:=by unfold inn;simp
structure May(s:Sp):Prop where
 v:1<=s.v/\s.v<=1048576
 d:1<=s.d/\s.d<=16
 u:0<=s.u/\s.u<=16 -s.d
 n:0<=s.n/\s.n<=s.d/\¬(s.n=0/\s.u=0)
 g:0<=s.g/\s.g<=2/\¬(s.g=2/\s.u<s.d)
 s0:st s 0=true
 s1:st s 1=true
 s2:st s 2=true
 s3:st s 3=true
 w:1<=s.w/\s.w<=1048576
 x:0<=s.x/\s.x<=1048576
 k:1<=s.k/\s.k<=1048576
theorem may_of{s:Sp}(h:chk s=0):May s:=by
 unfold chk at h;have h1:inn s.v 1 1048576=true:=by
  cases e:inn s.v 1 1048576 with
  |true=>rfl
  |false=>simp[e]at h
 rw[h1,if_neg (by simp)]at h;have h2:inn s.d 1 16=true:=by
  cases e:inn s.d 1 16 with
  |true=>rfl
  |false=>simp[e]at h
 rw[h2,if_neg (by simp)]at h;have h3:inn s.u 0 (16 -s.d)=true:=by
  cases e:inn s.u 0 (16 -s.d)with
  |true=>rfl
  |false=>simp[e]at h
 rw[h3,if_neg (by simp)]at h;have h4:(!inn s.n 0 s.d|| (decide (s.n=0)&&decide (s.u=0)))=false:=by
  cases e:(!inn s.n 0 s.d|| (decide (s.n=0)&&decide (s.u=0)))with
  |false=>rfl
  |true=>rw[e,if_pos rfl]at h;omega
 rw[h4,if_neg (by simp)]at h;have h5:(!inn s.g 0 2|| (decide (s.g=2)&&decide (s.u<s.d)))=false:=by
  cases e:(!inn s.g 0 2|| (decide (s.g=2)&&decide (s.u<s.d)))with
  |false=>rfl
  |true=>rw[e,if_pos rfl]at h;omega
 rw[h5,if_neg (by simp)]at h;have h6:st s 0=true:=by
  cases e:st s 0 with
  |true=>rfl
  |false=>simp[e]at h
 rw[h6,if_neg (by simp)]at h;have h7:st s 1=true:=by
  cases e:st s 1 with
  |true=>rfl
  |false=>simp[e]at h
 rw[h7,if_neg (by simp)]at h;have h8:st s 2=true:=by
  cases e:st s 2 with
  |true=>rfl
  |false=>simp[e]at h
 rw[h8,if_neg (by simp)]at h;have h9:st s 3=true:=by
  cases e:st s 3 with
  |true=>rfl
  |false=>simp[e]at h
 rw[h9,if_neg (by simp)]at h;have h10:inn s.w 1 1048576=true:=by
  cases e:inn s.w 1 1048576 with
  |true=>rfl
  |false=>simp[e]at h
 rw[h10,if_neg (by simp)]at h;have h11:inn s.x 0 1048576=true:=by
  cases e:inn s.x 0 1048576 with
  |true=>rfl
  |false=>simp[e]at h
 rw[h11,if_neg (by simp)]at h;have h12:inn s.k 1 1048576=true:=by
  cases e:inn s.k 1 1048576 with
  |true=>rfl
  |false=>simp[e]at h
 rw[Bool.or_eq_false_iff,Bool.and_eq_false_iff,decide_eq_false_iff_not,decide_eq_false_iff_not,Bool.not_eq_false']at h4 h5;have i4:=inn_iff.1 h4.1;have i5:=inn_iff.1 h5.1;exact⟨inn_iff.1 h1,inn_iff.1 h2,inn_iff.1 h3,zv,zv,h6,h7,h8,h9,inn_iff.1 h10,inn_iff.1 h11,inn_iff.1 h12⟩
theorem _root_.Go.Proofs.YtpehidgjfcfjoaaGreatDoor.zz2t{p:Prop}(h:p:=by
 rw[Bool.and_eq_false_iff,decide_eq_false_iff_not,decide_eq_false_iff_not];omega):p:=h
theorem chk_of{s:Sp}(h:May s):chk s=0:=by
 obtain⟨h1,h2,h3,h4,h5,h6,h7,h8,h9,h10,h11,h12⟩:=h;unfold chk;have e1:inn s.v 1 1048576=true:=inn_iff.2 h1;have e2:inn s.d 1 16=true:=inn_iff.2 h2;have e3:inn s.u 0 (16 -s.d)=true:=inn_iff.2 h3;have e4:inn s.n 0 s.d=true:=inn_iff.2 ⟨h4.1,h4.2.1⟩;have e5:inn s.g 0 2=true:=inn_iff.2 ⟨h5.1,h5.2.1⟩;have e6:inn s.w 1 1048576=true:=inn_iff.2 h10;have e7:inn s.x 0 1048576=true:=inn_iff.2 h11;have e8:inn s.k 1 1048576=true:=inn_iff.2 h12;have f4:(decide (s.n=0)&&decide (s.u=0))=false:=by
  exact zz2t
 have f5:(decide (s.g=2)&&decide (s.u<s.d))=false:=by
  exact zz2t
 simp[e1,e2,e3,e4,e5,e6,e7,e8,f4,f5,h6,h7,h8,h9]
theorem May.canary{s:Sp}(h:May s)(hg:s.g=0):(1<=s.a/\s.a<=100)/\(s.b=0\/(s.a<s.b/\s.b<=100))/\(s.c=0\/(0<s.b/\s.b<s.c/\s.c<=100))/\(s.e=0\/(0<s.c/\s.c<s.e/\s.e<=100)):=by
 have h0:=h.s0;have h1:=h.s1;have h2:=h.s2;have h3:=h.s3;simp[st,hg,at_,inn_iff]at h0 h1 h2 h3;omega
theorem May.other{s:Sp}(h:May s)(hg:s.g≠0):s.a=0/\s.b=0/\s.c=0/\s.e=0:=by
 have h0:=h.s0;have h1:=h.s1;have h2:=h.s2;have h3:=h.s3;simp[st,hg,at_]at h0 h1 h2 h3;exact⟨h0,h1,h2,h3⟩
theorem _root_.Go.Proofs.YtpehidgjfcfjoaaGreatDoor.zz34{p:Prop}(h:p:=by
 rcases hn with rfl|rfl|rfl|rfl|rfl|rfl|rfl|rfl|rfl|rfl|rfl|rfl<;>omega):p:=h
theorem May.small{s:Sp}(h:May s):∀n∈flds s,0<=n/\n<=1048576:=by
 have h1:=h.v;have h2:=h.d;have h3:=h.u;have h4:=h.n;have h5:=h.g;have h10:=h.w;have h11:=h.x;have h12:=h.k;intro n hn;simp only[flds,List.mem_cons,List.not_mem_nil,or_false]at hn;by_cases hg:s.g=0
 ·have:=h.canary hg
  exact zz34
 ·have:=h.other hg
  exact zz34
def steps(s:Sp):List Int:=if s.a=0 then[]else if s.b=0 then[s.a]else if s.c=0 then[s.a,s.b]else if s.e=0 then[s.a,s.b,s.c]else[s.a,s.b,s.c,s.e]
def cutc(n:Int):Int:=max 0 (min n 1048576)
def low(s:Sp):Int:=max (cutc s.d -cutc s.n) 0
def near(n least many:Int):Int:=least+n%18446744073709551616%many
theorem near_in(n least many:Int)(h:0<many):least<=near n least many/\near n least many<least+many:=by
 unfold near;have h1:=Int.emod_nonneg (n%18446744073709551616) (b:=many) zv;have h2:=Int.emod_lt_of_pos (n%18446744073709551616) h;omega
def made(s:Sp):Nat->List Int->Int->List Int
 |0,l,_=>l
 |m+1,l,last=>
  let i:=3 -m
  let n:=near (at_ s i) 0 60+(if i=0 then 1 else 0)
  if n=0\/100<last+n then l else made s m (l++[last+n]) (last+n)
def gd(s:Sp):Int:=near s.d 1 5
def gg(s:Sp):Int:=near s.g 0 3
def gu(s:Sp):Int:=if gg s=2 then gd s+near s.u 0 2 else near s.u 0 4
def gn(s:Sp):Int:=if gu s=0/\near s.n 0 (gd s+1)=0 then 1 else near s.n 0 (gd s+1)
def gs(s:Sp):List Int:=if gg s=0 then made s 4 [] 0 else[]
def good(s:Sp):Sp:=⟨near s.v 1 6,gd s,gu s,gn s,gg s,(gs s).getD 0 0,(gs s).getD 1 0,(gs s).getD 2 0,(gs s).getD 3 0,near s.w 1 9,near s.x 0 4,near s.k 1 60⟩
def Up:List Int->Int->Prop
 |[],_=>True
 |n::l,last=>last<n/\n<=100/\Up l n
theorem up_snoc{l:List Int}{last n:Int}(h:Up l last)(hn:(l.getLastD last)<n)(h100:n<=100):Up (l++[n]) last:=by
 induction l generalizing last with
 |nil=>exact⟨hn,h100,trivial⟩
 |cons y l ih=>
  obtain⟨h1,h2,h3⟩:=h;rw[List.getLastD_cons]at hn;exact⟨h1,h2,ih h3 hn⟩
theorem made_up(s:Sp)(m:Nat)(l:List Int)(last:Int)(h:Up l 0)(hl:l.getLastD 0=last)(hm:l.length+m=4):Up (made s m l last) 0/\(made s m l last).length<=4:=by
 induction m generalizing l last with
 |zero=>exact⟨h,by show l.length<=4;omega⟩
 |succ m ih=>
  unfold made;have hn:=near_in (at_ s (3 -m)) 0 60 zv;simp only;obtain⟨t,ht⟩:∃t,t=near (at_ s (3 -m)) 0 60+(if 3 -m=0 then 1 else 0):=⟨_,rfl⟩;have ht0:0<=t:=by rw[ht];split<;>omega
  rw[<-ht];by_cases hc:t=0\/100<last+t
  ·rw[if_pos hc];exact⟨h,zv⟩
  ·rw[if_neg hc]
   exact ih _ _ (up_snoc h (by rw[hl];omega) zv) (by simp) (by rw[List.length_append];simp;omega)
theorem gs_up(s:Sp):Up (gs s) 0/\(gs s).length<=4/\(gg s=0->gs s≠[]):=by
 unfold gs;by_cases h:gg s=0
 ·rw[if_pos h]
  obtain⟨h1,h2⟩:=made_up s 4 [] 0 trivial rfl rfl;refine⟨h1,h2,fun _=> ?_⟩;have hn:=near_in (at_ s 0) 0 60 zv;have hlen:∀m l last,l.length<=(made s m l last).length:=by
   intro m
   induction m with
   |zero=>intro l last;exact Nat.le_refl _
   |succ m ih=>
    intro l last;unfold made;simp only;generalize near (at_ s (3 -m)) 0 60+(if 3 -m=0 then 1 else 0)=t;by_cases hc:t=0\/100<last+t
    ·rw[if_pos hc];exact Nat.le_refl _
    ·rw[if_neg hc]
     have:=ih (l++[last+t]) (last+t);rw[List.length_append]at this;simp at this;omega
  unfold made;simp only[Nat.sub_self];rw[if_neg (by simp;omega)];intro e;have:=hlen 3 ([]++[0+(near (at_ s 0) 0 60+1)]) (0+(near (at_ s 0) 0 60+1));simp at this e;rw[e]at this;simp at this
 ·rw[if_neg h]
  exact⟨trivial,by simp,fun e=>absurd e h⟩
theorem good_may(s:Sp):May (good s):=by
 obtain⟨h1,h2,h3⟩:=gs_up s;have nv:=near_in s.v 1 6 zv;have nd:=near_in s.d 1 5 zv;have ng:=near_in s.g 0 3 zv;have nu:=near_in s.u 0 4 zv;have nu2:=near_in s.u 0 2 zv;have nw:=near_in s.w 1 9 zv;have nx:=near_in s.x 0 4 zv;have nk:=near_in s.k 1 60 zv;have nn:=near_in s.n 0 (gd s+1) (by unfold gd;omega);have hu:0<=gu s/\gu s<=11 -(5 -gd s)/\(gg s=2->gd s<=gu s):=by
  unfold gu gd gg at*;split<;>omega
 have hn:0<=gn s/\gn s<=gd s/\¬(gn s=0/\gu s=0):=by
  unfold gn;split<;>rename_i hc<;>(unfold gd at*;omega)
 have hst:∀i,i<4->st (good s) i=true:=by
  intro i hi;have hg:(good s).g=gg s:=rfl;have ha:∀j,at_ (good s) j=[(gs s).getD 0 0,(gs s).getD 1 0,(gs s).getD 2 0,(gs s).getD 3 0].getD j 0:=fun _=>rfl;have ha0:(good s).a=(gs s).getD 0 0:=rfl;unfold st;rw[hg,ha,ha,ha0];by_cases h:gg s=0
  ·rw[if_neg zv]
   have hne:=h3 h
   match hgs:gs s,h1,h2,hne with
   |[],_,_,hne=>exact absurd rfl hne
   |[y0],hu,_,_=>
    obtain⟨u1,u2,_⟩:=hu;rcases i with _|_|_|_|i<;>simp[inn_iff]<;>omega
   |[y0,y1],hu,_,_=>
    obtain⟨u1,u2,u3,u4,_⟩:=hu;rcases i with _|_|_|_|i<;>simp[inn_iff]<;>omega
   |[y0,y1,y2],hu,_,_=>
    obtain⟨u1,u2,u3,u4,u5,u6,_⟩:=hu;rcases i with _|_|_|_|i<;>simp[inn_iff]<;>omega
   |[y0,y1,y2,y3],hu,_,_=>
    obtain⟨u1,u2,u3,u4,u5,u6,u7,u8,_⟩:=hu;rcases i with _|_|_|_|i<;>simp[inn_iff]<;>omega
   |_::_::_::_::_::_,_,hl,_=>exact absurd hl (by simp)
  ·rw[if_pos h]
   have e:gs s=[]:=by unfold gs;rw[if_neg h]
   rw[e];rcases i with _|_|_|_|i<;>simp<;>omega
 refine⟨?_,?_,?_,?_,?_,hst 0 zv,hst 1 zv,hst 2 zv,hst 3 zv,?_,?_,?_⟩
 ·show 1<=near s.v 1 6/\near s.v 1 6<=1048576;omega
 ·show 1<=gd s/\gd s<=16;unfold gd;omega
 ·show 0<=gu s/\gu s<=16 -gd s;unfold gd at*;omega
 ·exact hn
 ·show 0<=gg s/\gg s<=2/\¬(gg s=2/\gu s<gd s);unfold gg at*;omega
 ·show 1<=near s.w 1 9/\near s.w 1 9<=1048576;omega
 ·show 0<=near s.x 0 4/\near s.x 0 4<=1048576;omega
 ·show 1<=near s.k 1 60/\near s.k 1 60<=1048576;omega
end Spc
open Go.RowKit
theorem jcf{k:IntKind}{a b:Int}(h:a=b):Ending.returned (.int k a)= .returned (.int k b):=by rw[h]
theorem jb8{a b:Bool}(h:a=b):Ending.returned (.bool a)= .returned (.bool b):=by rw[h]
theorem jf4{k:IntKind}{a b:Int}(h:a=b):Value.int k a= .int k b:=by rw[h]
theorem jcg{B:Nat}{a w:World}(h:Below B a w)(n:Nat):Below B a (w.drewN n):=⟨h.os,h.tape,h.output,h.size,h.block⟩
theorem Below.drewN{B:Nat}{a w:World}(h:Below B a w)(n:Nat):Below B a (w.drewN n):=⟨h.os,h.tape,h.output,h.size,h.block⟩
theorem jb1{w w':World}{base n:Nat}{e:TypeId}{size:Nat}{v:Value}{xs:List Value}(h:w.ownsRow base e size v n xs)(hb:Below w.heap.size w w'):w'.ownsRow base e size v n xs:=by
 refine⟨h.1,?_⟩;rcases h.2 with h2|⟨g,cap,cur,hv,hg,hh,r⟩
 ·exact .inl h2
 ·refine .inr ⟨g,cap,cur,hv,hg,?_,r⟩
  rw[hb.block g ?_];exact hh;rcases Nat.lt_or_ge g w.heap.size with hlt|hge
  ·exact hlt
  ·rw[Array.getElem?_eq_none hge]at hh;cases hh
theorem jlo{w:World}{base n:Nat}{e:TypeId}{v:Value}{xs:List Value}(h:w.ownsRow base e 1 v n xs)(hn:0<n):∃g c,v= .slice (some ⟨g,0,none⟩) n c:=by
 rcases h.2 with⟨_,h2⟩|⟨g',cap,cur,hv,_⟩
 ·omega
 ·exact⟨g',cap,hv⟩
theorem jaz{w:World}{B n size:Nat}{e:TypeId}{v:Value}{xs:List Value}(h:w.ownsRow B e size v n xs):∀k,v.ownBlock=some k->B<=k:=fun k hk=>(h.lt k hk).1
theorem jch{w:World}{B B' n size:Nat}{e:TypeId}{v:Value}{xs:List Value}(h:w.ownsRow B e size v n xs)(hB:B'<=B):w.ownsRow B' e size v n xs:=by
 refine⟨h.1,?_⟩;rcases h.2 with h2|⟨g,cap,cur,hv,hg,r⟩
 ·exact .inl h2
 ·exact .inr ⟨g,cap,cur,hv,Nat.le_trans hB hg,r⟩
theorem jam{w a b:World}{row:Option Nat}(h:w.grownBy a row)(k:a.grownBy b row):w.grownBy b row:=
 ⟨k.os.trans h.os,k.tape.trans h.tape,k.output.trans h.output,Nat.le_trans h.size k.size,fun i hi hne=>(k.block i (Nat.lt_of_lt_of_le hi h.size) hne).trans (h.block i hi hne)⟩
theorem jf5{w a:World}(row:Option Nat)(h:Below w.heap.size w a):w.grownBy a row:=⟨h.os,h.tape,h.output,h.size,fun i hi _=>h.block i hi⟩
theorem jad(w:World)(r o:Nat)(v:Value):w.grownBy (w.setCell ⟨r,o,none⟩ v) (some r):=
 ⟨rfl,rfl,rfl,by simp[World.setCell],fun k _ hk=>Below.heap_setCell _ _ _ _ (fun e=>hk (by simp[e]))⟩
theorem same_of{P:Program}{f:FuncId}{args:Array Value}{w:World}{v:Value}(h:Calls P f args w fun e w'=>e= .returned v/\w=w'):Calls P f args w fun e w'=>e= .returned v/\w'=w:=
 h.mono fun _ _ ⟨he,hw⟩=>⟨he,hw.symm⟩
theorem jd0{P:Program}{a:Act}{w:World}{Q:Exit->Act->World->Prop}{c body:Code}(l:Nat)(J:Act->World->Prop)(μ:Act->World->Nat)(hf:findLabel c l=some (Code.skip.seq body))
  (first:(∀a w,J a w->body.wp P (Exit.jump l J Q) a w)->c.wp P (Exit.jump l J Q) a w)
  (pass:∀a w,J a w->body.wp P (Exit.jump l (fun a' w'=>J a' w'/\μ a' w'<μ a w) Q) a w):(Code.scope c).wp P Q a w:=
 wp_scope_jumps l J μ hf (first fun a w h=>wp_mono (pass a w h) (by intro e a w q;cases e<;>first|exact q|exact⟨q.1,q.2.1⟩))
  fun a w h=>wp_seq (wp_skip (pass a w h))
theorem jee{T:Type}(a b:List T)(j:Nat)(d:T)(h:j<a.length):(a++b).getD j d=a.getD j d:=by
 rw[jal h,jal (by simp;omega),List.getElem_append_left h]
theorem jef{T:Type}(a b:List T)(j:Nat)(d:T)(h:a.length<=j)(h2:j<a.length+b.length):(a++b).getD j d=b.getD (j -a.length) d:=by
 rw[jal (by simp;omega),jal zv,List.getElem_append_right h]
theorem mod_at(at_:Int)(m:Nat)(hm:m<=100000)(h0:0<m):∃k:Nat,wrap64 ((IntKind.u64.wrap at_).tmod (m:Int))=(k:Int)/\k<m:=by
 rw[IntKind.wrap_u64];have h0:0<=at_%18446744073709551616:=Int.emod_nonneg _ zv;generalize at_%18446744073709551616=x at h0;rw[Int.tmod_eq_emod_of_nonneg h0];have h1:=Int.emod_nonneg x (b:=(m:Int)) zv;have h2:=Int.emod_lt_of_pos x (b:=(m:Int)) zv;generalize x%(m:Int)=y at h1 h2;refine⟨y.toNat,?_,zv⟩;unfold wrap64;omega
def txt(l:List Nat):ByteArray:=strOfNums (l.map fun x=>((x:Nat):Int))
theorem jb9(l:List Nat):(txt l).data.toList=l.map fun x=>UInt8.ofNat x:=by
 unfold txt;rw[strOfNums_data,List.map_map];rfl
theorem txt_inj{a b:List Nat}(ha:∀x∈a,x<256)(hb:∀x∈b,x<256)(h:(txt a).data.toList=(txt b).data.toList):a=b:=by
 rw[jb9,jb9]at h;have h2:(a.map fun x=>UInt8.ofNat x).map UInt8.toNat=(b.map fun x=>UInt8.ofNat x).map UInt8.toNat:=by rw[h]
 rw[List.map_map,List.map_map]at h2;have e:∀l:List Nat,(∀x∈l,x<256)->l.map (UInt8.toNat∘fun x=>UInt8.ofNat x)=l:=by
  intro l hl
  conv=>rhs;rw[<-List.map_id l]
  apply List.map_congr_left;intro x hx;have:=hl x hx;simp;omega
 rwa [e a ha,e b hb]at h2
theorem jfh(s:ByteArray):s.toList=s.data.toList:=ByteArray.toList_eq s
theorem txt_eq{a b:List Nat}(ha:∀x∈a,x<256)(hb:∀x∈b,x<256):((txt a).toList==(txt b).toList)=decide (a=b):=by
 by_cases h:a=b
 ·subst h;simp
 ·rw[decide_eq_false h,beq_eq_false_iff_ne]
  intro e;rw[jfh,jfh]at e;exact h (txt_inj ha hb e)
theorem jbl(l:List Nat):(txt l).size=l.length:=by unfold txt;rw[strOfNums_size,List.length_map]
theorem jj6{s t:ByteArray}(h:s.data.toList=t.data.toList):s=t:=ByteArray.ext (Array.toList_inj.1 h)
theorem je0(a b:List Nat):txt a++txt b=txt (a++b):=by
 apply jj6;rw[ByteArray.data_append,Array.toList_append,jb9,jb9,jb9,List.map_append]
theorem txt_cut(l:List Nat)(k:Nat):(txt l).extract 0 k=txt (l.take k):=by
 apply jj6;rw[ByteArray.data_extract,Array.toList_extract,jb9,jb9];simp[List.extract,List.map_take]
def sb(s:ByteArray):List Nat:=s.data.toList.map UInt8.toNat
theorem ja9(s:ByteArray):(sb s).length=s.size:=by simp[sb]
theorem jhw(s:ByteArray):∀x∈sb s,x<256:=by
 intro x hx;simp only[sb,List.mem_map]at hx;obtain⟨b,_,rfl⟩:=hx;exact b.toNat_lt
theorem joc(s:ByteArray):txt (sb s)=s:=by
 have:(txt (sb s)).data.toList=s.data.toList:=by
  rw[jb9,sb,List.map_map]
  conv=>rhs;rw[<-List.map_id s.data.toList]
  apply List.map_congr_left;intro x _;simp
 have h2:(txt (sb s)).data=s.data:=by rw[<-Array.toList_inj];exact this
 cases s
 generalize txt _=t at*
 cases t
 simp_all
end Go.Proofs.YtpehidgjfcfjoaaGreatDoor
namespace Go.Proofs.YtpehidgjfcfjoaaGreatDoor
namespace Rc
structure R where
 kind:Int
 epoch:Int
 who:Int
 n:Int
 seq:Int
 text:ByteArray
 sp:Spc.Sp
def none_:R:=⟨0,0,0,0,0,⟨#[]⟩,Spc.zero⟩
def nums(r:R):List Int:=[r.kind,r.epoch,r.who,r.n,r.seq]
structure In(r:R):Prop where
 nums:∀x∈nums r,Spc.i64 x
 text:r.text.size<=maxLen
 sp:Spc.In r.sp
theorem ext{r s:R}(h1:nums r=nums s)(h2:r.text=s.text)(h3:r.sp=s.sp):r=s:=by
 cases r;cases s
 simp only[nums,List.cons.injEq,and_true]at h1;obtain⟨a,b,c,d,e⟩:=h1;simp only at h2 h3;subst a b c d e h2 h3;rfl
def bare(r:R):Bool:=decide (r.text.size=0)
def told(r:R):Bool:=decide (1<=r.text.size)&&decide (r.text.size<=64)
def plain(r:R):Bool:=decide (Spc.flds r.sp=Spc.flds Spc.zero)
theorem plain_iff{r:R}:plain r=true↔r.sp=Spc.zero:=by
 unfold plain;rw[decide_eq_true_eq];exact⟨Spc.flds_inj,fun h=>by rw[h]⟩
def right(r:R):Bool:=
 Spc.inn r.epoch 1 1099511627776&&
 (if r.kind=1 then plain r&&(bare r&&(Spc.inn r.who 0 63&&(Spc.inn r.n 0 1099511627776&&Spc.inn r.seq 1 1048576)))
  else if r.kind=2 then plain r&&(told r&&(decide (r.who=0)&&(Spc.inn r.n 1 1048576&&decide (r.seq=0))))
  else if r.kind=3 then bare r&&(decide (r.who=0)&&(Spc.inn r.n 0 1099511627776&&(decide (r.seq=0)&&decide (Spc.chk r.sp=0))))
  else if r.kind=4 then plain r&&(told r&&(decide (r.who=0)&&(Spc.inn r.n 1 5&&decide (r.seq=0))))
  else if r.kind=5 then plain r&&(bare r&&(Spc.inn r.who 0 15&&(Spc.inn r.n 0 1048576&&Spc.inn r.seq 1 1099511627776)))
  else if r.kind=6 then plain r&&(bare r&&(Spc.inn r.who 0 15&&(decide (r.n=0)&&Spc.inn r.seq 1 1099511627776)))
  else if r.kind=7 then plain r&&(told r&&(Spc.inn r.who 1 4&&(Spc.inn r.n 0 1099511627776&&decide (r.seq=0))))
  else false)
structure Ok(r:R):Prop where
 kind:1<=r.kind/\r.kind<=7
 epoch:1<=r.epoch/\r.epoch<=1099511627776
 who:0<=r.who/\r.who<=63
 n:0<=r.n/\r.n<=1099511627776
 seq:0<=r.seq/\r.seq<=1099511627776
 text:r.text.size<=64
 begin_:r.kind=3->Spc.May r.sp
 other:r.kind≠3->r.sp=Spc.zero
theorem bare_iff{r:R}:bare r=true↔r.text.size=0:=by unfold bare;simp
theorem told_iff{r:R}:told r=true↔1<=r.text.size/\r.text.size<=64:=by unfold told;simp
theorem _root_.Go.Proofs.YtpehidgjfcfjoaaGreatDoor.zz1l{p:Prop}(h:p:=by
 simp only[Bool.and_eq_true,decide_eq_true_eq,Spc.inn_iff,plain_iff,told_iff]at h
 obtain⟨h1,h2,h3,h4,h5⟩:=h;exact⟨zv,he,zv,zv,zv,zv,fun h=>by omega,fun _=>h1⟩):p:=h
theorem _root_.Go.Proofs.YtpehidgjfcfjoaaGreatDoor.zz1m{p:Prop}(h:p:=by
 simp only[Bool.and_eq_true,decide_eq_true_eq,Spc.inn_iff,plain_iff,bare_iff]at h
 obtain⟨h1,h2,h3,h4,h5⟩:=h;exact⟨zv,he,zv,zv,zv,zv,fun h=>by omega,fun _=>h1⟩):p:=h
theorem ok_of{r:R}(h:right r=true):Ok r:=by
 unfold right at h;rw[Bool.and_eq_true]at h;obtain⟨he,h⟩:=h;have he:=Spc.inn_iff.1 he;split at h
 ·rename_i hk
  simp only[Bool.and_eq_true,decide_eq_true_eq,Spc.inn_iff,plain_iff,bare_iff]at h;obtain⟨h1,h2,h3,h4,h5⟩:=h;exact⟨zv,he,zv,zv,zv,zv,fun h=>by omega,fun _=>h1⟩
 split at h
 ·exact zz1l
 split at h
 ·simp only[Bool.and_eq_true,decide_eq_true_eq,Spc.inn_iff,bare_iff]at h
  obtain⟨h1,h2,h3,h4,h5⟩:=h;exact⟨zv,he,zv,zv,zv,zv,fun _=>Spc.may_of h5,fun h=>by omega⟩
 split at h
 ·exact zz1l
 split at h
 ·exact zz1m
 split at h
 ·exact zz1m
 split at h
 ·exact zz1l
 ·cases h
theorem Ok.nums{r:R}(h:Ok r):∀x∈nums r,0<=x/\x<=1099511627776:=by
 intro x hx;have:=h.kind;have:=h.epoch;have:=h.who;have:=h.n;have:=h.seq;simp only[Rc.nums,List.mem_cons,List.not_mem_nil,or_false]at hx;rcases hx with rfl|rfl|rfl|rfl|rfl<;>omega
theorem Ok.flds{r:R}(h:Ok r):∀x∈Spc.flds r.sp,0<=x/\x<=1099511627776:=by
 intro x hx;by_cases hk:r.kind=3
 ·have:=(h.begin_ hk).small x hx;omega
 ·rw[h.other hk]at hx
  simp[Spc.flds,Spc.zero]at hx;omega
def short(t:ByteArray):ByteArray:=txt (116::(sb t).take 20)
def good(r:R):R:=
 let k:=Spc.near r.kind 1 7
 let e:=Spc.near r.epoch 1 9
 if k=1 then⟨k,e,Spc.near r.who 0 4,Spc.near r.n 0 50,Spc.near r.seq 1 20,⟨#[]⟩,Spc.zero⟩
 else if k=2 then⟨k,e,0,Spc.near r.n 1 6,0,short r.text,Spc.zero⟩
 else if k=3 then⟨k,e,0,Spc.near r.n 0 50,0,⟨#[]⟩,Spc.good r.sp⟩
 else if k=4 then⟨k,e,0,Spc.near r.n 1 5,0,short r.text,Spc.zero⟩
 else if k=5 then⟨k,e,Spc.near r.who 0 16,Spc.near r.n 0 7,Spc.near r.seq 1 9,⟨#[]⟩,Spc.zero⟩
 else if k=6 then⟨k,e,Spc.near r.who 0 16,0,Spc.near r.seq 1 9,⟨#[]⟩,Spc.zero⟩
 else⟨k,e,Spc.near r.who 1 4,Spc.near r.n 0 50,0,short r.text,Spc.zero⟩
theorem short_size(t:ByteArray):1<=(short t).size/\(short t).size<=64:=by
 unfold short;rw[jbl,List.length_cons,List.length_take];omega
theorem good_right(r:R):right (good r)=true:=by
 have nk:=Spc.near_in r.kind 1 7 zv;have ne:=Spc.near_in r.epoch 1 9 zv;have w4:=Spc.near_in r.who 0 4 zv;have w6:=Spc.near_in r.who 0 16 zv;have w1:=Spc.near_in r.who 1 4 zv;have n5:=Spc.near_in r.n 0 50 zv;have n6:=Spc.near_in r.n 1 6 zv;have n4:=Spc.near_in r.n 1 5 zv;have n7:=Spc.near_in r.n 0 7 zv;have q2:=Spc.near_in r.seq 1 20 zv;have q9:=Spc.near_in r.seq 1 9 zv;have st:=short_size r.text;have gm:=Spc.good_may r.sp;have gc:Spc.chk (Spc.good r.sp)=0:=Spc.chk_of gm;have e0:(⟨#[]⟩:ByteArray).size=0:=rfl;unfold good;simp only;generalize Spc.near r.kind 1 7=k at*;generalize Spc.near r.epoch 1 9=e at*;have hk:k=1\/k=2\/k=3\/k=4\/k=5\/k=6\/k=7:=by omega
 unfold right plain bare told;rcases hk with rfl|rfl|rfl|rfl|rfl|rfl|rfl
 all_goals
  simp only[Bool.and_eq_true,decide_eq_true_eq,Spc.inn_iff,if_true,if_neg (show¬(2:Int)=1 by omega),if_neg (show¬(3:Int)=1 by omega),if_neg (show¬(3:Int)=2 by omega),if_neg (show¬(4:Int)=1 by omega),if_neg (show¬(4:Int)=2 by omega),if_neg (show¬(4:Int)=3 by omega),if_neg (show¬(5:Int)=1 by omega),if_neg (show¬(5:Int)=2 by omega),if_neg (show¬(5:Int)=3 by omega),if_neg (show¬(5:Int)=4 by omega),if_neg (show¬(6:Int)=1 by omega),if_neg (show¬(6:Int)=2 by omega),if_neg (show¬(6:Int)=3 by omega),if_neg (show¬(6:Int)=4 by omega),if_neg (show¬(6:Int)=5 by omega),if_neg (show¬(7:Int)=1 by omega),if_neg (show¬(7:Int)=2 by omega),if_neg (show¬(7:Int)=3 by omega),if_neg (show¬(7:Int)=4 by omega),if_neg (show¬(7:Int)=5 by omega),if_neg (show¬(7:Int)=6 by omega)];simp only[true_and,and_true,e0,gc];omega
end Rc
theorem Rc.none_in:Rc.In Rc.none_:=by
 refine⟨?_,by decide,?_⟩
 ·intro x hx
  simp[Rc.nums,Rc.none_]at hx;unfold Spc.i64;omega
 ·intro x hx
  simp[Spc.flds,Rc.none_,Spc.zero]at hx;unfold Spc.i64;omega
theorem Rc.ok_in{r:Rc.R}(h:Rc.Ok r):Rc.In r:=by
 refine⟨fun x hx=> ?_,by have:=h.text;unfold maxLen;omega,fun x hx=> ?_⟩
 ·have:=h.nums x hx;unfold Spc.i64;omega
 ·have:=h.flds x hx;unfold Spc.i64;omega
namespace Ph
def to_(p e:Int):Int:=
 if e=0/\(p=0\/p=3\/p=5)then 1 else if e=1/\p=1 then 2 else if e=2/\p=2 then 1 else if e=3/\p=1 then 1
 else if(e=4\/e=5)/\p=1 then 4 else if e=6/\(p=1\/p=2)then 4 else if e=7/\p=1 then 3 else if e=8/\p=4 then 5 else -1
def did(p e:Int):Bool:=decide (to_ p e≠-1)
def next(p e:Int):Int:=if did p e=true then to_ p e else p
theorem next_yes{p e x:Int}(h:to_ p e=x)(hx:x≠-1):next p e=x/\did p e=true:=by
 have hd:did p e=true:=by unfold did;rw[h];exact decide_eq_true hx
 unfold next;rw[if_pos hd,h];exact⟨rfl,hd⟩
theorem next_no{p e:Int}(h:to_ p e= -1):next p e=p/\did p e=false:=by
 have hd:did p e=false:=by unfold did;rw[h];rfl
 unfold next;rw[if_neg (by rw[hd];simp)];exact⟨rfl,hd⟩
theorem pairs{p e:Int}(h:to_ p e≠-1):(e=0/\p=0)\/(e=0/\p=3)\/(e=0/\p=5)\/(e=1/\p=1)\/(e=2/\p=2)\/(e=3/\p=1)\/(e=4/\p=1)\/(e=5/\p=1)\/(e=6/\p=1)\/(e=6/\p=2)\/(e=7/\p=1)\/(e=8/\p=4):=by
 unfold to_ at h;split at h
 ·rename_i hc;obtain⟨rfl,rfl|rfl|rfl⟩:=hc<;>simp
 split at h
 ·rename_i hc;obtain⟨rfl,rfl⟩:=hc;simp
 split at h
 ·rename_i hc;obtain⟨rfl,rfl⟩:=hc;simp
 split at h
 ·rename_i hc;obtain⟨rfl,rfl⟩:=hc;simp
 split at h
 ·rename_i hc;obtain⟨rfl|rfl,rfl⟩:=hc<;>simp
 split at h
 ·rename_i hc;obtain⟨rfl,rfl|rfl⟩:=hc<;>simp
 split at h
 ·rename_i hc;obtain⟨rfl,rfl⟩:=hc;simp
 split at h
 ·rename_i hc;obtain⟨rfl,rfl⟩:=hc;simp
 ·exact absurd rfl h
theorem did_iff{p e:Int}:did p e=true↔to_ p e≠-1:=by unfold did;exact decide_eq_true_iff
theorem next_to{p e:Int}(h:to_ p e≠-1):next p e=to_ p e:=(next_yes rfl h).1
theorem far{p e:Int}(h:¬(0<=p/\p<=5)\/¬(0<=e/\e<=8)):to_ p e= -1:=by
 unfold to_;rw[if_neg zv,if_neg zv,if_neg zv,if_neg zv,if_neg zv,if_neg zv,if_neg zv,if_neg zv]
def name(p:Int):ByteArray:=
 if p=0 then⟨#[105,100,108,101]⟩else if p=1 then⟨#[114,117,110,110,105,110,103]⟩else if p=2 then⟨#[112,97,117,115,101,100]⟩
 else if p=3 then⟨#[99,111,109,112,108,101,116,101]⟩else if p=4 then⟨#[114,111,108,108,105,110,103,45,98,97,99,107]⟩
 else if p=5 then⟨#[114,111,108,108,101,100,45,98,97,99,107]⟩else⟨#[]⟩
def word(e:Int):ByteArray:=
 if e=0 then⟨#[98,101,103,105,110]⟩else if e=1 then⟨#[112,97,117,115,101]⟩else if e=2 then⟨#[114,101,115,117,109,101]⟩
 else if e=3 then⟨#[112,114,111,109,111,116,101]⟩else if e=4 then⟨#[104,101,97,108,116,104]⟩else if e=5 then⟨#[100,101,97,100,108,105,110,101]⟩
 else if e=6 then⟨#[97,98,111,114,116]⟩else if e=7 then⟨#[100,111,110,101]⟩else if e=8 then⟨#[98,97,99,107]⟩else⟨#[]⟩
theorem word_none{e:Int}(h:¬(0<=e/\e<=8)):word e=⟨#[]⟩:=by
 unfold word;rw[if_neg zv,if_neg zv,if_neg zv,if_neg zv,if_neg zv,if_neg zv,if_neg zv,if_neg zv,if_neg zv]
def place(w:ByteArray):Nat:=[0,1,2,3,4,5,6,7,8].findIdx fun e:Int=>decide (word e=w)
def of(w:ByteArray):Int:=if place w<9 then(place w:Nat)else 0
def isWord(w:ByteArray):Bool:=decide (place w<9)
def open_(p:Int):Bool:=decide (p=1)|| (decide (p=2)|| decide (p=4))
def over(p:Int):Bool:=decide (p=3)|| decide (p=5)
theorem place_le(w:ByteArray):place w<=9:=by
 unfold place;exact Nat.le_trans (List.findIdx_le_length) (Nat.le_refl 9)
theorem place_lt(w:ByteArray){k:Nat}(h:k<place w)(hk:k<9):word k≠w:=by
 intro e;have:=List.not_of_lt_findIdx h;rcases k with _|_|_|_|_|_|_|_|_|k
 all_goals first|omega|(simp at this;exact this e)
theorem nine_at{k:Nat}(h:k<[0,1,2,3,4,5,6,7,(8:Int)].length):[0,1,2,3,4,5,6,7,(8:Int)][k]'h=((k:Nat):Int):=by
 rcases k with _|_|_|_|_|_|_|_|_|k
 all_goals first|rfl|exact absurd h (by simp)
theorem place_at(w:ByteArray)(h:place w<9):word (place w:Nat)=w:=by
 have h2:place w<[0,1,2,3,4,5,6,7,(8:Int)].length:=h;have:=List.findIdx_getElem (p:=fun e:Int=>decide (word e=w)) (w:=h2);have e:[0,1,2,3,4,5,6,7,(8:Int)][place w]'h2=((place w:Nat):Int):=by
  exact nine_at h2
 have h3:decide (word ([0,1,2,3,4,5,6,7,(8:Int)][place w]'h2)=w)=true:=this;rw[e]at h3;exact of_decide_eq_true h3
theorem place_is(w:ByteArray){k:Nat}(hk:k<9)(h:word k=w)(hj:∀j,j<k->word (j:Nat)≠w):place w=k:=by
 by_cases hlt:k<place w
 ·exact absurd h (place_lt w hlt hk)
 ·by_cases he:place w=k
  ·exact he
  ·have h9:place w<9:=by omega
   exact absurd (place_at w h9) (hj _ zv)
theorem place_none(w:ByteArray)(h:∀j,j<9->word (j:Nat)≠w):place w=9:=by
 by_cases h9:place w<9
 ·exact absurd (place_at w h9) (h _ h9)
 ·have:=place_le w;omega
end Ph
end Go.Proofs.YtpehidgjfcfjoaaGreatDoor
namespace Go.Proofs.YtpehidgjfcfjoaaGreatDoor.Bk
structure Un where
 v:Int
 q:Int
 d:Bool
structure Vn where
 n:Int
 t:ByteArray
structure St where
 m:Int
 ep:Int
 who:Int
 till:Int
 stable:Int
 from_:Int
 ph:Int
 step:Int
 since:Int
 begun:Int
 seq:Int
 sp:Spc.Sp
 us:Nat->Un
 vs:List Vn
 h:List Rc.R
def new(margin:Int):St:=⟨min (max margin 0) 1048576,0,0,0,0,0,0,0,0,0,0,Spc.zero,fun _=>⟨0,0,true⟩,[],[]⟩
def dig:List Vn->Int->Option ByteArray
 |[],_=>none
 |v::l,n=>if v.n=n then some v.t else dig l n
def has(l:List Vn)(n:Int):Bool:=(dig l n).isSome
def text(l:List Vn)(n:Int):ByteArray:=(dig l n).getD ⟨#[]⟩
def pub:List Vn->Vn->List Vn
 |[],v=>[v]
 |x::l,v=>if v.n<x.n then v::x::l else x::pub l v
def late(a b:Int):Int:=min (a+b) 1099511627776
def leadOk(s:St)(r:Rc.R):Bool:=if r.epoch=s.ep then decide (s.who=r.who)&&decide (r.n<s.till)else decide (s.ep=0)|| decide (late s.till s.m<=r.n)
def leadE(s:St)(r:Rc.R):Int:=if r.epoch≠s.ep/\r.epoch≠s.ep+1 then 8 else if leadOk s r=true then 0 else 9
def leadT(s:St)(r:Rc.R):Int:=if r.epoch=s.ep then max s.till (late r.n r.seq)else late r.n r.seq
def free(s:St)(now:Int):Bool:=decide (s.ep=0)|| decide (late s.till s.m<=now)
def passed:ByteArray:=⟨#[112,97,115,115,101,100]⟩
def promote:ByteArray:=⟨#[112,114,111,109,111,116,101]⟩
def chk2(s:St)(r:Rc.R):Int:=if has s.vs r.n=true then 6 else if 64<=s.vs.length then 4 else 0
def chk3(s:St)(r:Rc.R):Int:=if Ph.open_ s.ph=true then 10 else if has s.vs r.sp.v=false then 5 else if r.sp.v=s.stable then 6 else 0
def chk4(s:St)(r:Rc.R):Int:=
 if Ph.isWord r.text=false\/Ph.of r.text=0\/Ph.of r.text=3 then 2 else if Ph.did s.ph (Ph.of r.text)=false\/Ph.next s.ph (Ph.of r.text)≠r.n then 10 else 0
def chk5(s:St)(r:Rc.R):Int:=if s.ph≠1/\s.ph≠4 then 10 else if r.seq≠s.seq+1 then 7 else if r.n≠0/\r.n≠s.sp.v/\r.n≠s.from_ then 5 else 0
def chk6(s:St)(r:Rc.R):Int:=if(s.us r.who.toNat).q≠r.seq then 7 else if(s.us r.who.toNat).d=true then 10 else 0
def chk7(s:St)(r:Rc.R):Int:=if s.ph≠1 then 10 else if r.text≠passed/\r.text≠promote then 2 else if r.who≠s.step+1\/((Spc.steps s.sp).length:Int)<r.who then 7 else 0
def chk(s:St)(r:Rc.R):Int:=
 if Rc.right r=false then 1 else if r.kind=1 then leadE s r else if r.epoch≠s.ep then 8
 else if r.kind=2 then chk2 s r else if r.kind=3 then chk3 s r else if r.kind=4 then chk4 s r
 else if r.kind=5 then chk5 s r else if r.kind=6 then chk6 s r else if r.kind=7 then chk7 s r else 0
def last24{T:Type}(l:List T):List T:=l.drop (l.length -24)
def note(s:St)(r:Rc.R):St:={s with h:=last24 (s.h++[r])}
def setU(us:Nat->Un)(i:Nat)(u:Un):Nat->Un:=fun j=>if j=i then u else us j
def act(s:St)(r:Rc.R):St:=
 if r.kind=1 then{s with ep:=r.epoch,who:=r.who,till:=leadT s r}
 else if r.kind=2 then{s with vs:=pub s.vs ⟨r.n,r.text⟩}
 else if r.kind=3 then{s with h:=last24 (s.h++[r]),sp:=r.sp,ph:=1,step:=0,since:=r.n,begun:=r.n,from_:=s.stable}
 else if r.kind=4 then{s with h:=last24 (s.h++[r]),ph:=r.n,stable:=if r.n=3 then s.sp.v else s.stable}
 else if r.kind=5 then{s with us:=setU s.us r.who.toNat ⟨r.n,r.seq,false⟩,seq:=r.seq}
 else if r.kind=6 then{s with us:=setU s.us r.who.toNat {s.us r.who.toNat with d:=true}}
 else if r.kind=7 then{s with h:=last24 (s.h++[r]),step:=r.who,since:=r.n}
 else s
def app(s:St)(r:Rc.R):St:=if chk s r=0 then act s r else s
def run(s:St)(l:List Rc.R):St:=l.foldl app s
def cnt(s:St):List Rc.R->Nat
 |[]=>0
 |r::l=>(if chk s r=0 then 1 else 0)+cnt (app s r) l
def all(m:Int)(l:List Rc.R):St:=run (new m) l
def allN(m:Int)(l:List Rc.R):Nat:=cnt (new m) l
theorem run_append(s:St)(a b:List Rc.R):run s (a++b)=run (run s a) b:=List.foldl_append
theorem run_snoc(s:St)(l:List Rc.R)(r:Rc.R):run s (l++[r])=app (run s l) r:=by rw[run_append];rfl
theorem cnt_append(s:St)(a b:List Rc.R):cnt s (a++b)=cnt s a+cnt (run s a) b:=by
 induction a generalizing s with
 |nil=>show cnt s b=0+cnt s b;omega
 |cons x a ih=>
  show(if chk s x=0 then 1 else 0)+cnt (app s x) (a++b)=(if chk s x=0 then 1 else 0)+cnt (app s x) a+cnt (run (app s x) a) b;rw[ih];omega
theorem cnt_snoc(s:St)(l:List Rc.R)(r:Rc.R):cnt s (l++[r])=cnt s l+if chk (run s l) r=0 then 1 else 0:=by rw[cnt_append];simp[cnt]
theorem cnt_le(s:St)(l:List Rc.R):cnt s l<=l.length:=by
 induction l generalizing s with
 |nil=>exact Nat.le_refl _
 |cons x l ih=>have:=ih (app s x);simp only[cnt,List.length_cons];split<;>omega
theorem take_run(s:St)(l:List Rc.R){k:Nat}(h:k<l.length):run s (l.take (k+1))=app (run s (l.take k)) l[k]/\cnt s (l.take (k+1))=cnt s (l.take k)+if chk (run s (l.take k)) l[k]=0 then 1 else 0:=by
 rw[List.take_succ_eq_append_getElem h,run_snoc,cnt_snoc];exact⟨rfl,rfl⟩
theorem app_ok{s:St}{r:Rc.R}(h:chk s r=0):app s r=act s r:=if_pos h
theorem app_no{s:St}{r:Rc.R}(h:chk s r≠0):app s r=s:=if_neg h
structure Ok(s:St):Prop where
 m:0<=s.m/\s.m<=1048576
 ep:0<=s.ep/\s.ep<=1099511627776
 who:0<=s.who/\s.who<=63
 till:0<=s.till/\s.till<=1099511627776
 zero:s.ep=0->s.who=0/\s.till=0
 stable:0<=s.stable/\s.stable<=1048576
 from_:0<=s.from_/\s.from_<=1048576
 ph:0<=s.ph/\s.ph<=5
 step:0<=s.step/\s.step<=4
 since:0<=s.since/\s.since<=1099511627776
 begun:0<=s.begun/\s.begun<=1099511627776
 seq:0<=s.seq/\s.seq<=1099511627776
 sp:∀x∈Spc.flds s.sp,0<=x/\x<=1099511627776
 spv:0<=s.sp.v/\s.sp.v<=1048576
 us:∀i,0<=(s.us i).v/\(s.us i).v<=1048576/\0<=(s.us i).q/\(s.us i).q<=s.seq
 vs:∀v∈s.vs,1<=v.n/\v.n<=1048576/\v.t.size<=64
 vl:s.vs.length<=64
 rise:s.vs.Pairwise fun a b=>a.n<b.n
 h:∀r∈s.h,Rc.right r=true
 hl:s.h.length<=24
 --which phases
 idle:s.ph=0->s.stable=0
 back:s.ph≠0->s.ph≠3->s.stable=s.from_
 spec:s.ph≠0->has s.vs s.sp.v=true
 known:s.stable≠0->has s.vs s.stable=true
theorem last24_length{T:Type}(l:List T):(last24 l).length<=24:=by unfold last24;rw[List.length_drop];omega
theorem last24_mem{T:Type}{l:List T}{x:T}(h:x∈last24 l):x∈l:=List.mem_of_mem_drop h
theorem dig_none{l:List Vn}{n:Int}(h:∀v∈l,v.n≠n):dig l n=none:=by
 induction l with
 |nil=>rfl
 |cons x l ih=>unfold dig;rw[if_neg (h x (List.mem_cons_self ..)),ih fun v hv=>h v (List.mem_cons_of_mem _ hv)]
theorem dig_pub(l:List Vn)(v:Vn)(n:Int)(h:dig l v.n=none):dig (pub l v) n=if v.n=n then some v.t else dig l n:=by
 induction l with
 |nil=>rfl
 |cons x l ih=>
  unfold dig at h;split at h
  ·cases h
  ·rename_i hx
   unfold pub;split
   ·show(if v.n=n then some v.t else _)=_
    rfl
   ·show(if x.n=n then some x.t else dig (pub l v) n)=_
    rw[ih h];by_cases hn:x.n=n
    ·rw[if_pos hn,if_neg (fun e=>hx (hn.trans e.symm)),dig,if_pos hn]
    ·rw[if_neg hn,dig,if_neg hn]
theorem _root_.Go.Proofs.YtpehidgjfcfjoaaGreatDoor.zz2y{p:Prop}(h:p:=by
 rintro(h|h|h)
 ·exact .inr (.inl h)
 ·exact .inl h
 ·exact .inr (.inr h)):p:=h
theorem mem_pub{l:List Vn}{v x:Vn}:x∈pub l v↔x=v\/x∈l:=by
 induction l with
 |nil=>simp[pub]
 |cons a l ih=>
  unfold pub;split
  ·simp
  ·rw[List.mem_cons,ih,List.mem_cons]
   constructor
   ·exact zz2y
   ·exact zz2y
theorem pub_length(l:List Vn)(v:Vn):(pub l v).length=l.length+1:=by
 induction l with
 |nil=>rfl
 |cons a l ih=>unfold pub;split<;>simp[ih]
theorem pub_rise{l:List Vn}{v:Vn}(h:l.Pairwise fun a b=>a.n<b.n)(hn:dig l v.n=none):(pub l v).Pairwise fun a b=>a.n<b.n:=by
 induction l with
 |nil=>exact List.pairwise_singleton _ _
 |cons a l ih=>
  have hr:=List.pairwise_cons.1 h;unfold dig at hn;split at hn
  ·cases hn
  ·rename_i ha
   unfold pub;split
   ·rename_i h1
    refine List.pairwise_cons.2 ⟨fun x hx=> ?_,h⟩;rcases List.mem_cons.1 hx with rfl|hx
    ·exact h1
    ·have:=hr.1 x hx;omega
   ·rename_i h1
    refine List.pairwise_cons.2 ⟨fun x hx=> ?_,ih hr.2 hn⟩;rcases mem_pub.1 hx with rfl|hx
    ·omega
    ·exact hr.1 x hx
theorem has_pub{l:List Vn}{v:Vn}(h:has l v.n=false)(n:Int)(hn:has l n=true):has (pub l v) n=true:=by
 unfold has at*;have h1:dig l v.n=none:=by
  cases e:dig l v.n with
  |none=>rfl
  |some t=>rw[e]at h;cases h
 rw[dig_pub l v n h1];split
 ·rfl
 ·exact hn
theorem z_in{n:Int}(hn:0<=n):0<=(0:Int)/\(0:Int)<=n:=⟨Int.le_refl _,hn⟩
theorem new_ok(m:Int):Ok (new m) where
 m:=by show 0<=min (max m 0) 1048576/\min (max m 0) 1048576<=1048576;omega
 ep:=z_in zv
 who:=z_in zv
 till:=z_in zv
 zero:=fun _=>⟨rfl,rfl⟩
 stable:=z_in zv
 from_:=z_in zv
 ph:=z_in zv
 step:=z_in zv
 since:=z_in zv
 begun:=z_in zv
 seq:=z_in zv
 sp:=by
  intro x hx;simp[new,Spc.flds,Spc.zero]at hx;omega
 spv:=z_in zv
 us:=fun _=>⟨Int.le_refl _,by show(0:Int)<=1048576;omega,Int.le_refl _,Int.le_refl _⟩
 vs:=fun v hv=>by cases hv
 vl:=Nat.zero_le _
 rise:=List.Pairwise.nil
 h:=fun r hr=>by cases hr
 hl:=Nat.zero_le _
 idle:=fun _=>rfl
 back:=fun h=>absurd rfl h
 spec:=fun h=>absurd rfl h
 known:=fun h=>absurd rfl h
end Go.Proofs.YtpehidgjfcfjoaaGreatDoor.Bk
namespace Go.Proofs.YtpehidgjfcfjoaaGreatDoor
namespace Rc
theorem right1{r:R}(hk:r.kind=1)(h:right r=true):(0<=r.who/\r.who<=63)/\(0<=r.n/\r.n<=1099511627776)/\(1<=r.seq/\r.seq<=1048576):=by
 unfold right at h;simp[hk,Spc.inn_iff]at h;omega
theorem right2{r:R}(hk:r.kind=2)(h:right r=true):(1<=r.text.size/\r.text.size<=64)/\(1<=r.n/\r.n<=1048576):=by
 unfold right at h;simp[hk,Spc.inn_iff,told_iff]at h;omega
theorem right3{r:R}(hk:r.kind=3)(h:right r=true):(0<=r.n/\r.n<=1099511627776)/\Spc.May r.sp:=by
 have hb:=(ok_of h).begin_ hk;have hn:=(ok_of h).n;exact⟨hn,hb⟩
theorem right4{r:R}(hk:r.kind=4)(h:right r=true):(1<=r.n/\r.n<=5):=by
 unfold right at h;simp[hk,Spc.inn_iff,told_iff]at h;omega
theorem right5{r:R}(hk:r.kind=5)(h:right r=true):(0<=r.who/\r.who<=15)/\(0<=r.n/\r.n<=1048576)/\(1<=r.seq/\r.seq<=1099511627776):=by
 unfold right at h;simp[hk,Spc.inn_iff,told_iff]at h;omega
theorem right6{r:R}(hk:r.kind=6)(h:right r=true):(0<=r.who/\r.who<=15)/\(1<=r.seq/\r.seq<=1099511627776):=by
 unfold right at h;simp[hk,Spc.inn_iff,told_iff]at h;omega
theorem right7{r:R}(hk:r.kind=7)(h:right r=true):(1<=r.who/\r.who<=4)/\(0<=r.n/\r.n<=1099511627776):=by
 unfold right at h;simp[hk,Spc.inn_iff,told_iff]at h;omega
end Rc
namespace Bk
open Rc (R right)
section
variable{s:St}{r:R}
theorem chk_right(h:chk s r=0):right r=true:=by
 unfold chk at h
 cases e:right r with
 |true=>rfl
 |false=>rw[if_pos e]at h;exact absurd h (by decide)
theorem chk_wrong(h:right r=false):chk s r=1:=if_pos h
theorem chk_lead(hr:right r=true)(hk:r.kind=1):chk s r=leadE s r:=by unfold chk;rw[if_neg (by rw[hr];simp),if_pos hk]
theorem chk_ep(hr:right r=true)(hk:r.kind≠1)(he:r.epoch≠s.ep):chk s r=8:=by unfold chk;rw[if_neg (by rw[hr];simp),if_neg hk,if_pos he]
theorem chk_two(hr:right r=true)(hk:r.kind=2)(he:r.epoch=s.ep):chk s r=chk2 s r:=by unfold chk;rw[if_neg (by rw[hr];simp),if_neg zv,if_neg zv,if_pos hk]
theorem chk_three(hr:right r=true)(hk:r.kind=3)(he:r.epoch=s.ep):chk s r=chk3 s r:=by unfold chk;rw[if_neg (by rw[hr];simp),if_neg zv,if_neg zv,if_neg zv,if_pos hk]
theorem chk_four(hr:right r=true)(hk:r.kind=4)(he:r.epoch=s.ep):chk s r=chk4 s r:=by unfold chk;rw[if_neg (by rw[hr];simp),if_neg zv,if_neg zv,if_neg zv,if_neg zv,if_pos hk]
theorem chk_five(hr:right r=true)(hk:r.kind=5)(he:r.epoch=s.ep):chk s r=chk5 s r:=by unfold chk;rw[if_neg (by rw[hr];simp),if_neg zv,if_neg zv,if_neg zv,if_neg zv,if_neg zv,if_pos hk]
theorem chk_six(hr:right r=true)(hk:r.kind=6)(he:r.epoch=s.ep):chk s r=chk6 s r:=by unfold chk;rw[if_neg (by rw[hr];simp),if_neg zv,if_neg zv,if_neg zv,if_neg zv,if_neg zv,if_neg zv,if_pos hk]
theorem chk_seven(hr:right r=true)(hk:r.kind=7)(he:r.epoch=s.ep):chk s r=chk7 s r:=by unfold chk;rw[if_neg (by rw[hr];simp),if_neg zv,if_neg zv,if_neg zv,if_neg zv,if_neg zv,if_neg zv,if_neg zv,if_pos hk]
theorem chk_epoch(h:chk s r=0)(hk:r.kind≠1):r.epoch=s.ep:=Decidable.byContradiction fun he=>absurd ((chk_ep (chk_right h) hk he).symm.trans h) (by decide)
theorem lead_ok(h:leadE s r=0):(r.epoch=s.ep\/r.epoch=s.ep+1)/\leadOk s r=true:=by
 unfold leadE at h;split at h
 ·exact absurd h (by decide)
 ·split at h
  ·exact⟨zv,by assumption⟩
  ·exact absurd h (by decide)
theorem two_ok(h:chk2 s r=0):has s.vs r.n=false/\s.vs.length<64:=by
 unfold chk2 at h;split at h
 ·exact absurd h (by decide)
 ·rename_i h1
  split at h
  ·exact absurd h (by decide)
  ·exact⟨by simpa using h1,zv⟩
theorem three_ok(h:chk3 s r=0):Ph.open_ s.ph=false/\has s.vs r.sp.v=true/\r.sp.v≠s.stable:=by
 unfold chk3 at h;split at h
 ·exact absurd h (by decide)
 ·rename_i h1
  split at h
  ·exact absurd h (by decide)
  ·rename_i h2
   split at h
   ·exact absurd h (by decide)
   ·exact⟨by simpa using h1,by simpa using h2,by assumption⟩
theorem four_ok(h:chk4 s r=0):Ph.isWord r.text=true/\Ph.of r.text≠0/\Ph.of r.text≠3/\Ph.did s.ph (Ph.of r.text)=true/\Ph.next s.ph (Ph.of r.text)=r.n:=by
 unfold chk4 at h;split at h
 ·exact absurd h (by decide)
 ·rename_i h1
  split at h
  ·exact absurd h (by decide)
  ·rename_i h2
   simp only[not_or,Bool.not_eq_false,Decidable.not_not]at h1 h2;exact⟨h1.1,h1.2.1,h1.2.2,h2.1,h2.2⟩
theorem five_ok(h:chk5 s r=0):(s.ph=1\/s.ph=4)/\r.seq=s.seq+1/\(r.n=0\/r.n=s.sp.v\/r.n=s.from_):=by
 unfold chk5 at h;split at h
 ·exact absurd h (by decide)
 ·split at h
  ·exact absurd h (by decide)
  ·split at h
   ·exact absurd h (by decide)
   ·omega
theorem six_ok(h:chk6 s r=0):(s.us r.who.toNat).q=r.seq/\(s.us r.who.toNat).d=false:=by
 unfold chk6 at h;split at h
 ·exact absurd h (by decide)
 ·rename_i h1
  split at h
  ·exact absurd h (by decide)
  ·rename_i h2
   exact⟨zv,by simpa using h2⟩
theorem act1(hk:r.kind=1):act s r={s with ep:=r.epoch,who:=r.who,till:=leadT s r}:=by unfold act;rw[if_pos hk]
theorem act2(hk:r.kind=2):act s r={s with vs:=pub s.vs ⟨r.n,r.text⟩}:=by unfold act;rw[if_neg zv,if_pos hk]
theorem act3(hk:r.kind=3):act s r={s with h:=last24 (s.h++[r]),sp:=r.sp,ph:=1,step:=0,since:=r.n,begun:=r.n,from_:=s.stable}:=by unfold act;rw[if_neg zv,if_neg zv,if_pos hk]
theorem act4(hk:r.kind=4):act s r={s with h:=last24 (s.h++[r]),ph:=r.n,stable:=if r.n=3 then s.sp.v else s.stable}:=by unfold act;rw[if_neg zv,if_neg zv,if_neg zv,if_pos hk]
theorem act5(hk:r.kind=5):act s r={s with us:=setU s.us r.who.toNat ⟨r.n,r.seq,false⟩,seq:=r.seq}:=by unfold act;rw[if_neg zv,if_neg zv,if_neg zv,if_neg zv,if_pos hk]
theorem act6(hk:r.kind=6):act s r={s with us:=setU s.us r.who.toNat {s.us r.who.toNat with d:=true}}:=by unfold act;rw[if_neg zv,if_neg zv,if_neg zv,if_neg zv,if_neg zv,if_pos hk]
theorem act7(hk:r.kind=7):act s r={s with h:=last24 (s.h++[r]),step:=r.who,since:=r.n}:=by unfold act;rw[if_neg zv,if_neg zv,if_neg zv,if_neg zv,if_neg zv,if_neg zv,if_pos hk]
theorem leadT_in(h:Ok s)(hr:right r=true)(hk:r.kind=1):0<=leadT s r/\leadT s r<=1099511627776:=by
 obtain⟨_,h1,h2⟩:=Rc.right1 hk hr;have h3:=h.till;unfold leadT late;split<;>omega
theorem h_note{l:List R}(h:∀x∈l,right x=true)(hr:right r=true):∀x∈last24 (l++[r]),right x=true:=by
 intro x hx;rcases List.mem_append.1 (last24_mem hx)with hx|hx
 ·exact h x hx
 ·rw[List.mem_singleton.1 hx];exact hr
theorem move_ph{p e n:Int}(hd:Ph.did p e=true)(hn:Ph.next p e=n)(h0:e≠0):(p=1\/p=2\/p=4)/\(n=1\/n=2\/n=3\/n=4\/n=5)/\(n=3->p=1):=by
 have h1:=Ph.did_iff.1 hd;rw[Ph.next_to h1]at hn;subst hn;rcases Ph.pairs h1 with⟨rfl,rfl⟩|⟨rfl,rfl⟩|⟨rfl,rfl⟩|⟨rfl,rfl⟩|⟨rfl,rfl⟩|⟨rfl,rfl⟩|⟨rfl,rfl⟩|⟨rfl,rfl⟩|⟨rfl,rfl⟩|⟨rfl,rfl⟩|⟨rfl,rfl⟩|⟨rfl,rfl⟩
 all_goals first|exact absurd rfl h0|decide
theorem z1:0<=(1:Int)/\(1:Int)<=5:=by decide
theorem act_ok(h:Ok s)(hc:chk s r=0):Ok (act s r):=by
 have hr:=chk_right hc;have ho:=Rc.ok_of hr;have hk7:=ho.kind;have hk:r.kind=1\/r.kind=2\/r.kind=3\/r.kind=4\/r.kind=5\/r.kind=6\/r.kind=7:=by omega
 clear hk7;rcases hk with hk|hk|hk|hk|hk|hk|hk
 ·rw[act1 hk]
  obtain⟨h1,h2,h3⟩:=Rc.right1 hk hr;exact{h with ep:=⟨by have:=ho.epoch;show 0<=r.epoch;omega,ho.epoch.2⟩,who:=h1,till:=leadT_in h hr hk,zero:=fun e=>by have:=ho.epoch;have e2:r.epoch=0:=e;omega}
 ·rw[act2 hk]
  obtain⟨h1,h2⟩:=Rc.right2 hk hr;rw[chk_two hr hk (chk_epoch hc zv)]at hc;obtain⟨h3,h4⟩:=two_ok hc;have h5:dig s.vs r.n=none:=by
   unfold has at h3
   cases e:dig s.vs r.n with
   |none=>rfl
   |some t=>rw[e]at h3;cases h3
  refine{h with vs:=fun v hv=> ?_,vl:=by show(pub s.vs ⟨r.n,r.text⟩).length<=64;rw[pub_length];omega,rise:=pub_rise h.rise h5,spec:=fun e=>has_pub (v:=⟨r.n,r.text⟩) h3 _ (h.spec e),known:=fun e=>has_pub (v:=⟨r.n,r.text⟩) h3 _ (h.known e)}
  rcases mem_pub.1 hv with rfl|hv
  ·exact⟨h2.1,h2.2,h1.2⟩
  ·exact h.vs v hv
 ·rw[act3 hk]
  obtain⟨h1,h2⟩:=Rc.right3 hk hr;rw[chk_three hr hk (chk_epoch hc zv)]at hc;obtain⟨h3,h4,h5⟩:=three_ok hc;exact{h with h:=h_note h.h hr,hl:=last24_length _,sp:=ho.flds,spv:=⟨by have:=h2.v;show 0<=r.sp.v;omega,h2.v.2⟩,ph:=z1,step:=z_in zv,since:=h1,begun:=h1,from_:=h.stable,idle:=fun e=>absurd e (by show¬(1:Int)=0;omega),back:=fun _ _=>rfl,spec:=fun _=>h4}
 ·rw[act4 hk]
  have h1:=Rc.right4 hk hr;rw[chk_four hr hk (chk_epoch hc zv)]at hc;obtain⟨_,h3,_,h5,h6⟩:=four_ok hc;obtain⟨h7,h8,h9⟩:=move_ph h5 h6 h3;have h10:=h.spec zv;refine{h with h:=h_note h.h hr,hl:=last24_length _,ph:=⟨by show 0<=r.n;omega,by show r.n<=5;omega⟩,stable:=?_,idle:=fun e=>absurd e (by show¬r.n=0;omega),back:=fun e0 e3=> ?_,spec:=fun _=>h10,known:=fun e=> ?_}
  ·show 0<=(if r.n=3 then s.sp.v else s.stable)/\(if r.n=3 then s.sp.v else s.stable)<=1048576
   split
   ·exact h.spv
   ·exact h.stable
  ·show(if r.n=3 then s.sp.v else s.stable)=s.from_
   rw[if_neg e3];exact h.back zv zv
  ·show has s.vs (if r.n=3 then s.sp.v else s.stable)=true
   by_cases e3:r.n=3
   ·rw[if_pos e3];exact h10
   ·rw[if_neg e3]
    refine h.known fun e2=>e ?_;show(if r.n=3 then s.sp.v else s.stable)=0;rw[if_neg e3,e2]
 ·rw[act5 hk]
  obtain⟨h1,h2,h3⟩:=Rc.right5 hk hr;rw[chk_five hr hk (chk_epoch hc zv)]at hc;obtain⟨h4,h5,h6⟩:=five_ok hc;refine{h with seq:=⟨by show 0<=r.seq;omega,h3.2⟩,us:=fun i=> ?_}
  show 0<=(setU s.us r.who.toNat ⟨r.n,r.seq,false⟩ i).v/\(setU s.us r.who.toNat ⟨r.n,r.seq,false⟩ i).v<=1048576/\0<=(setU s.us r.who.toNat ⟨r.n,r.seq,false⟩ i).q/\(setU s.us r.who.toNat ⟨r.n,r.seq,false⟩ i).q<=r.seq;have:=h.us i;unfold setU;split
  ·show 0<=r.n/\r.n<=1048576/\0<=r.seq/\r.seq<=r.seq
   omega
  ·omega
 ·rw[act6 hk]
  refine{h with us:=fun i=> ?_}
  show 0<=(setU s.us r.who.toNat {s.us r.who.toNat with d:=true} i).v/\(setU s.us r.who.toNat {s.us r.who.toNat with d:=true} i).v<=1048576/\0<=(setU s.us r.who.toNat {s.us r.who.toNat with d:=true} i).q/\(setU s.us r.who.toNat {s.us r.who.toNat with d:=true} i).q<=s.seq
  unfold setU;split
  ·exact h.us r.who.toNat
  ·exact h.us i
 ·rw[act7 hk]
  obtain⟨h1,h2⟩:=Rc.right7 hk hr;exact{h with h:=h_note h.h hr,hl:=last24_length _,step:=⟨by show 0<=r.who;omega,h1.2⟩,since:=h2}
theorem app_okay(h:Ok s):Ok (app s r):=by
 unfold app;split
 ·exact act_ok h (by assumption)
 ·exact h
theorem run_ok(l:List R):∀{s:St},Ok s->Ok (run s l):=by
 induction l with
 |nil=>exact fun h=>h
 |cons x l ih=>exact fun h=>ih (app_okay h)
theorem all_ok(m:Int)(l:List R):Ok (all m l):=run_ok l (new_ok m)
end
end Bk
namespace Spc
def dg(n:Nat):List Nat:=if h:n<10 then[48+n]else dg (n/10)++[48+n%10]
termination_by n
decreasing_by omega
theorem dg_one{n:Nat}(h:n<10):dg n=[48+n]:=by rw[dg];simp[h]
theorem dg_more{n:Nat}(h:¬n<10):dg n=dg (n/10)++[48+n%10]:=by rw[dg];simp[h]
def digs(n:Int):List Nat:=if n<0 then 45::dg n.natAbs else dg n.natAbs
theorem dg_byte(n:Nat):∀x∈dg n,48<=x/\x<=57:=by
 induction n using Nat.strongRecOn with
 |ind n ih=>
  intro x hx;by_cases h:n<10
  ·rw[dg_one h]at hx;simp at hx;omega
  ·rw[dg_more h]at hx
   rcases List.mem_append.1 hx with hx|hx
   ·exact ih _ zv x hx
   ·simp at hx;omega
theorem digs_byte(n:Int):∀x∈digs n,x<256/\x≠32:=by
 intro x hx;unfold digs at hx;split at hx
 ·rcases List.mem_cons.1 hx with rfl|hx
  ·omega
  ·have:=dg_byte _ x hx;omega
 ·have:=dg_byte _ x hx;omega
theorem dg_len(n k:Nat)(h:n<10^(k+1)):(dg n).length<=k+1:=by
 induction k generalizing n with
 |zero=>rw[dg_one (by simpa using h)];simp
 |succ k ih=>
  by_cases h1:n<10
  ·rw[dg_one h1];simp
  ·rw[dg_more h1,List.length_append]
   have:=ih (n/10) (by rw[Nat.pow_succ]at h;omega);simp;omega
theorem dg_pos(n:Nat):1<=(dg n).length:=by
 by_cases h:n<10
 ·rw[dg_one h];simp
 ·rw[dg_more h,List.length_append];simp
def acc(l:List Nat)(n:Int):Int:=l.foldl (fun(n:Int) (c:Nat)=>10*n+(c:Int) -48) n
theorem acc_snoc(l:List Nat)(c:Nat)(n:Int):acc (l++[c]) n=10*acc l n+c -48:=by unfold acc;rw[List.foldl_append];rfl
theorem acc_dg(n:Nat):acc (dg n) 0=n:=by
 induction n using Nat.strongRecOn with
 |ind n ih=>
  by_cases h:n<10
  ·rw[dg_one h];show 10*(0:Int)+((48+n:Nat):Int) -48=n;omega
  ·rw[dg_more h,acc_snoc,ih _ zv];omega
def from_(l:List Nat):Nat:=if l.getD 0 0=45/\0<l.length then 1 else 0
def numV(l:List Nat):Int:=if from_ l=1 then -(acc ((l.drop (from_ l)).take 10) 0)else acc ((l.drop (from_ l)).take 10) 0
def numB(l:List Nat):Bool:=decide (l.length<=from_ l+9)&&decide (digs (numV l)=l)
theorem _root_.Go.Proofs.YtpehidgjfcfjoaaGreatDoor.zz2e{p:Prop}(h:p:=by
 have:=dg_byte n.natAbs ((dg n.natAbs).getD 0 0) (by rw[jal h2];exact List.getElem_mem h2);omega):p:=h
theorem num_digs(n:Int)(h0:0<=n)(h9:n<1000000000):numV (digs n)=n/\numB (digs n)=true:=by
 have e:digs n=dg n.natAbs:=by unfold digs;rw[if_neg zv]
 have hl:=dg_len n.natAbs 8 zv;have hp:=dg_pos n.natAbs;have hf:from_ (digs n)=0:=by
  unfold from_;rw[if_neg];rintro⟨h1,h2⟩;rw[e]at h1 h2;exact zz2e
 have hv:numV (digs n)=n:=by
  unfold numV;rw[hf,if_neg zv,List.drop_zero,List.take_of_length_le (by rw[e];omega),e,acc_dg];omega
 refine⟨hv,?_⟩;unfold numB;rw[hv,hf,Bool.and_eq_true,decide_eq_true_eq,decide_eq_true_eq];exact⟨by rw[e];omega,rfl⟩
def wstep(ws:List (List Nat))(c:Nat):List (List Nat):=if c=32 then ws++[[]]else ws.dropLast++[ws.getLastD []++[c]]
def words(l:List Nat):List (List Nat):=l.foldl wstep [[]]
theorem fold_word(ws:List (List Nat))(u v:List Nat)(hv:∀x∈v,x≠32):v.foldl wstep (ws++[u])=ws++[u++v]:=by
 induction v generalizing u with
 |nil=>simp
 |cons c v ih=>
  have hc:c≠32:=hv c (by simp);rw[List.foldl_cons];have:wstep (ws++[u]) c=ws++[u++[c]]:=by unfold wstep;rw[if_neg hc];simp
  rw[this,ih _ (fun x hx=>hv x (by simp[hx]))];simp
def join:List (List Nat)->List Nat
 |[]=>[]
 |u::l=>u++l.flatMap fun v=>32::v
theorem fold_words(ws:List (List Nat))(l:List (List Nat))(hl:∀v∈l,∀x∈v,x≠32)(hne:ws≠[]):(l.flatMap fun v=>32::v).foldl wstep ws=ws++l:=by
 induction l generalizing ws with
 |nil=>simp
 |cons v l ih=>
  rw[List.flatMap_cons,List.foldl_append,List.foldl_cons];have:wstep ws 32=ws++[[]]:=by unfold wstep;rw[if_pos rfl]
  rw[this,fold_word _ _ _ (hl v (by simp)),List.nil_append,ih _ (fun y hy=>hl y (by simp[hy])) (by simp)];simp
theorem words_join{l:List (List Nat)}(hl:∀v∈l,∀x∈v,x≠32)(hne:l≠[]):words (join l)=l:=by
 rcases l with _|⟨u,l⟩
 ·exact absurd rfl hne
 ·show(u++l.flatMap fun v=>32::v).foldl wstep [[]]=_
  rw[List.foldl_append,show([[]]:List (List Nat))=[]++[[]]from rfl,fold_word _ _ _ (hl u (by simp)),fold_words _ _ (fun v hv=>hl v (by simp[hv])) (by simp)];simp
def text(s:Sp):List Nat:=join ((flds s).map digs)
theorem text_words(s:Sp):words (text s)=(flds s).map digs:=
 words_join (fun v hv x hx=>by
  obtain⟨n,_,rfl⟩:=List.mem_map.1 hv;exact(digs_byte n x hx).2) (by simp[flds])
def rdS(t:List Nat):Sp:=of ((words t).map numV)
def rdE(t:List Nat):Int:=if(words t).length≠12\/¬(∀u∈words t,numB u=true)then 2 else chkE (rdS t)
def rdV(t:List Nat):Sp:=if rdE t=0 then rdS t else zero
theorem back{s:Sp}(h:May s):rdE (text s)=0/\rdV (text s)=s:=by
 have hw:=text_words s;have hn:∀n∈flds s,numV (digs n)=n/\numB (digs n)=true:=fun n hn=>by
  have:=h.small n hn;exact num_digs n this.1 zv
 have hs:rdS (text s)=s:=by
  unfold rdS;rw[hw,List.map_map];have:(flds s).map (numV∘digs)=flds s:=by
   conv=>rhs;rw[<-List.map_id (flds s)]
   exact List.map_congr_left fun n hm=>(hn n hm).1
  rw[this,of_flds]
 have he:rdE (text s)=0:=by
  unfold rdE;rw[if_neg,hs]
  ·unfold chkE;rw[if_pos (chk_of h)]
  ·rw[hw]
   rintro(h1|h1)
   ·exact h1 (by rw[List.length_map];rfl)
   ·refine h1 fun u hu=> ?_
    obtain⟨n,hm,rfl⟩:=List.mem_map.1 hu;exact(hn n hm).2
 refine⟨he,?_⟩;unfold rdV;rw[if_pos he,hs]
end Spc
open Go.RowKit
theorem jfw:(Tryz.prog.info? 3).map (fun i=>(i.zero,i.size,i.bytes))=some (some (.int .i64 0),1,8):=by kernel_rfl
def vali(l:List Int):List Value:=l.map fun x=> .int .i64 x
theorem jj7(a b:List Int):vali (a++b)=vali a++vali b:=by simp[vali]
theorem vali_at{l:List Int}{j:Nat}(h:j<l.length):(vali l)[j]? =some (.int .i64 (l.getD j 0)):=by
 rw[jal h];simp[vali,h]
structure SlI(w:World)(A:Option Addr)(n c:Nat)(l:List Int):Prop where
 rd:0<l.length->∃b o,A=some ⟨b,o,none⟩/\b<w.heap.size/\∀j,j<l.length->w.cell? ⟨b,o+j,none⟩=some (.int .i64 (l.getD j 0))
 len:n=l.length
 cap:n<=c
 max:c<=maxLen
theorem SlI.on{w w':World}{A:Option Addr}{n c:Nat}{l:List Int}(h:SlI w A n c l)(hb:Below w.heap.size w w'):SlI w' A n c l:=
 ⟨fun hl=>by
  obtain⟨b,o,e,h1,h2⟩:=h.rd hl;exact⟨b,o,e,Nat.lt_of_lt_of_le h1 hb.size,fun j hj=>(hb.cell (p:=⟨b,o+j,none⟩) h1).trans (h2 j hj)⟩,h.len,h.cap,h.max⟩
theorem SlI.none_(w:World):SlI w none 0 0 []:=⟨by simp,rfl,Nat.le_refl _,Nat.zero_le _⟩
def OwnI(w:World)(B:Nat)(v:Value)(l:List Int):Prop:=w.ownsRow B 3 1 v l.length (vali l)
theorem OwnI.sl{w:World}{B:Nat}{v:Value}{l:List Int}(h:OwnI w B v l):∃A c,v= .slice A l.length c/\SlI w A l.length c l:=by
 rcases World.ownsRow.lt h with _
 rcases h.2 with⟨rfl,h0⟩|⟨g,cap,cur,rfl,_,hg,h1,h2,_⟩
 ·have hl:l=[]:=by simpa using h0
  subst hl;exact⟨none,0,rfl,SlI.none_ w⟩
 ·refine⟨_,cap,rfl,fun h0=>⟨g,0,rfl,(Array.getElem?_eq_some_iff.1 hg).1,fun j hj=> ?_⟩,rfl,h1,h2⟩
  rw[Nat.zero_add,World.ownsRow.cellAt h j zv,vali_at hj]
theorem OwnI.below{w w':World}{B:Nat}{v:Value}{l:List Int}(h:OwnI w B v l)(hb:Below w.heap.size w w'):OwnI w' B v l:=jb1 h hb
theorem jaq{w:World}{ops:Array Oper}{rest:List Oper}{op:Oper}{a:Act}{Q:Exit->Act->World->Prop}(hgd:op.guard=none)(s x:Operand)
  (ho:op.op= .call {callee:= .builtin .append,args:=#[s,x],argTypes:=#[103,103]})
  (base:Nat) (v:Value) (l:List Int) (hs:a.eval s=v) (hown:OwnI w base v l) (X:Int) (hx:a.eval x= .slice (some ⟨w.heap.size,0,none⟩) 1 1)
  (hl:l.length<=3000000) (hB:base<=w.heap.size)
  (h:∀v' w',OwnI w' base v' (l++[X])->w.grownBy w' v.ownBlock->wpList Tryz.prog ops Q rest (a.put op.dst v') w'):wpList Tryz.prog ops Q (op::rest) a (w.alloc (.cells #[.int .i64 X] 3)):=by
 obtain⟨i0,hi0,hz0,hz1,hz2⟩:=info_parts jfw;refine wpList_append_own _ hgd s x 103 ho base 3 i0 (.int .i64 0) 1 8 Tryz.underlying103 hi0 hz0 hz1 hz2 rfl (by decide) v l.length (vali l) hs (World.ownsRow.alloc hown _) ⟨w.heap.size,0,none⟩ 1 1 [.int .i64 X] hx rfl ?_ ?_ (by unfold maxLen;omega) zv (by simp;omega) ?_
 ·intro j u hu
  rcases j with _|j
  ·simp at hu;subst hu
   have:((⟨w.heap.size,0,none⟩:Addr).add 0)=⟨w.heap.size,0,none⟩:=by unfold Addr.add;split<;>simp_all
   rw[this,World.cell?_alloc_at _ _ _ _ rfl];rfl
  ·simp at hu
 ·intro u hu;simp at hu;subst hu;rfl
 ·intro v' w' h1 h2 _
  refine h v' w' ?_ (jam (World.grownBy_alloc w _ _) h2);unfold OwnI;rw[jj7,List.length_append];exact h1
end Go.Proofs.YtpehidgjfcfjoaaGreatDoor
