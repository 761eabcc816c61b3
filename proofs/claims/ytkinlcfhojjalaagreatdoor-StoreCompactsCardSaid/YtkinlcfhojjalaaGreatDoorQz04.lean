import Derived.Test.YtkinlcfhojjalaaGreatDoorQz03
import Derived.RangeFuncNested
import Derived.RangeFuncCalls
import Derived.RangeFuncLeaves
import Derived.OwnWalkIn
import Derived.TacticsInMore
import Derived.LoopNIn
import Derived.LoopIn
import Derived.Maps.OwnIn
import Derived.Shelf.Abstract
set_option maxHeartbeats 6400000
set_option maxRecDepth 100000
set_option linter.all false
namespace Go.Proofs.YtkinlcfhojjalaaGreatDoor
open Cdc
namespace Rc
theorem sz_small{n:Int}(h0:0<=n)(h1:n<=1099511627776):sz n≠0:=by
 obtain⟨m,rfl⟩:=Int.eq_ofNat_of_zero_le h0;rw[sz_yes zv];have:=digs_pos m;omega
theorem all_small{l:List Int}(h:∀n∈l,0<=n/\n<=1099511627776):jck l=true:=by
 unfold jck;rw[List.all_eq_true];intro n hn;rw[decide_eq_true_eq];exact sz_small (h n hn).1 (h n hn).2
def bytes(r:R):List Nat:=fl (nums r)++((digs r.text.size++sb r.text)++(if r.kind=3 then digs 12++fl (Spc.flds r.sp)else[]))
def k1(l:List Nat):St:=numsAt ⟨l,0⟩ 5
def v1(l:List Nat):List Int:=nI (numsV ⟨l,0⟩ 5)
def k2(l:List Nat):St:=text (k1 l)
def t2(l:List Nat):ByteArray:=txt (textV (k1 l))
def k3(l:List Nat):St:=if(v1 l).getD 0 0=3 then list (k2 l)else k2 l
def s3(l:List Nat):Spc.Sp:=if(v1 l).getD 0 0=3 then(if(listV (k2 l)).length=12 then Spc.of (nI (listV (k2 l)))else Spc.zero)else Spc.zero
def dec(l:List Nat):R:=⟨(v1 l).getD 0 0,(v1 l).getD 1 0,(v1 l).getD 2 0,(v1 l).getD 3 0,(v1 l).getD 4 0,t2 l,s3 l⟩
theorem dec_app{r:R}(h:right r=true)(x:List Nat):dec (bytes r++x)=r/\k3 (bytes r++x)=⟨x,0⟩:=by
 have ho:=ok_of h;have ha:=all_small ho.nums;have hf:=all_small ho.flds;obtain⟨y,hy⟩:∃y,y=(if r.kind=3 then digs 12++fl (Spc.flds r.sp)else[]):=zx;have eb:bytes r++x=fl (nums r)++((digs r.text.size++sb r.text)++(y++x)):=by
  unfold bytes;rw[<-hy];simp only[List.append_assoc]
 rw[eb];have h1:=jpp ha ((digs r.text.size++sb r.text)++(y++x)) 5 zl;have e1:k1 (fl (nums r)++((digs r.text.size++sb r.text)++(y++x)))=⟨(digs r.text.size++sb r.text)++(y++x),0⟩:=by
  unfold k1;rw[h1.1];simp[nums,fl]
 have e2:v1 (fl (nums r)++((digs r.text.size++sb r.text)++(y++x)))=nums r:=by
  unfold v1;rw[h1.2,show(nums r).take 5=nums r from rfl,nI_nat ha]
 generalize fl (nums r)++((digs r.text.size++sb r.text)++(y++x))=z at*;have h2:=jpn r.text ho.text (y++x);rw[<-List.append_assoc]at h2;have e3:k2 z=⟨y++x,0⟩:=by unfold k2;rw[e1];exact h2.1
 have e4:t2 z=r.text:=by unfold t2;rw[e1,h2.2,jpg]
 have e5:(v1 z).getD 0 0=r.kind:=by rw[e2];rfl
 have key:s3 z=r.sp/\k3 z=⟨x,0⟩:=by
  unfold s3 k3;rw[e5,e3];by_cases hk:r.kind=3
  ·rw[if_pos hk]at hy
   rw[if_pos hk,if_pos hk,hy];have h3:=jpq hf (by rw[Spc.flds_length];omega) x;rw[Spc.flds_length,<-List.append_assoc]at h3;rw[h3.1,h3.2];have hl:(listV ⟨digs 12++fl (Spc.flds r.sp)++x,0⟩).length=12:=by rw[<-jcl,h3.2,Spc.flds_length]
   rw[if_pos hl,Spc.of_flds];exact⟨rfl,rfl⟩
  ·rw[if_neg hk]at hy
   rw[if_neg hk,if_neg hk,hy];exact⟨(ho.other hk).symm,rfl⟩
 refine⟨ext ?_ e4 key.1,key.2⟩;show[(v1 z).getD 0 0,(v1 z).getD 1 0,(v1 z).getD 2 0,(v1 z).getD 3 0,(v1 z).getD 4 0]=nums r;rw[e2];rfl
theorem dec_bytes{r:R}(h:right r=true):dec (bytes r)=r/\k3 (bytes r)=⟨[],0⟩:=by
 have:=dec_app h []
 rwa [List.append_nil]at this
def whole(l:List Nat):Prop:=right (dec l)=true/\bytes (dec l)=l
theorem whole_bytes{r:R}(h:right r=true):whole (bytes r):=by
 unfold whole;rw[(dec_bytes h).1];exact⟨h,rfl⟩
noncomputable def rdV(l:List Nat):R:=by classical exact if whole l then dec l else none_
noncomputable def rdE(l:List Nat):Int:=by classical exact if whole l then 0 else 2
theorem rd_yes{l:List Nat}(h:whole l):rdV l=dec l/\rdE l=0:=by unfold rdV rdE;rw[if_pos h,if_pos h];exact⟨rfl,rfl⟩
theorem rd_no{l:List Nat}(h:¬whole l):rdV l=none_/\rdE l=2:=by unfold rdV rdE;rw[if_neg h,if_neg h];exact⟨rfl,rfl⟩
theorem rd_back{r:R}(h:right r=true):rdV (bytes r)=r/\rdE (bytes r)=0:=by
 have:=rd_yes (whole_bytes h);rw[(dec_bytes h).1]at this;exact this
theorem none_wrong:right none_=false:=by decide
theorem rd_only{l:List Nat}(h:rdE l=0):right (rdV l)=true/\bytes (rdV l)=l:=by
 by_cases hw:whole l
 ·rw[(rd_yes hw).1];exact hw
 ·rw[(rd_no hw).2]at h;omega
theorem fl_le{l:List Int}(h:∀n∈l,0<=n/\n<=1099511627776):(fl l).length<=9*l.length:=by
 have:=jjh (all_small h) l.length zl
 rwa [List.take_length]at this
theorem bytes_len{r:R}(h:right r=true):(bytes r).length<=300:=by
 have ho:=ok_of h;have h1:=fl_le ho.nums;have h2:=fl_le ho.flds;have h3:(digs r.text.size).length<=9:=digs_nine (by have:=ho.text;omega);have h4:=jbd r.text;have h5:=ho.text;rw[show(nums r).length=5 from rfl]at h1;rw[Spc.flds_length]at h2;unfold bytes;rw[zA,zA,zA];split
 ·rw[zA,show(digs 12).length=1 from by rw[digs_lt zv];rfl]
  omega
 ·simp;omega
theorem bytes_pos(r:R):0<(bytes r).length:=by
 unfold bytes;have:=digs_pos r.text.size;rw[zA,zA,zA];omega
theorem fl_byte{l:List Int}:∀x∈fl l,x<256:=by
 intro x hx;unfold fl at hx;obtain⟨n,_,hn⟩:=List.mem_flatMap.1 hx;exact digs_byte _ x hn
theorem bytes_byte(r:R):∀x∈bytes r,x<256:=by
 intro x hx;unfold bytes at hx;rcases List.mem_append.1 hx with hx|hx
 ·exact fl_byte x hx
 rcases List.mem_append.1 hx with hx|hx
 ·rcases List.mem_append.1 hx with hx|hx
  ·exact digs_byte _ x hx
  ·exact jih _ x hx
 ·split at hx
  ·rcases List.mem_append.1 hx with hx|hx
   ·exact digs_byte _ x hx
   ·exact fl_byte x hx
  ·cases hx
end Rc
theorem Rc.rd_in(l:List Nat):Rc.In (Rc.rdV l):=by
 by_cases h:Rc.whole l
 ·have h2:Rc.right (Rc.rdV l)=true:=by rw[(Rc.rd_yes h).1];exact h.1
  exact Rc.ok_in (Rc.ok_of h2)
 ·rw[(Rc.rd_no h).1];exact Rc.none_in
end Go.Proofs.YtkinlcfhojjalaaGreatDoor
namespace Go.Proofs.YtkinlcfhojjalaaGreatDoor
namespace Ph
def to_(p e:Int):Int:=
 if e=0/\(p=0\/p=3\/p=5)then 1 else if e=1/\p=1 then 2 else if e=2/\p=2 then 1 else if e=3/\p=1 then 1
 else if(e=4\/e=5)/\p=1 then 4 else if e=6/\(p=1\/p=2)then 4 else if e=7/\p=1 then 3 else if e=8/\p=4 then 5 else -1
def did(p e:Int):Bool:=decide (to_ p e≠-1)
def next(p e:Int):Int:=if did p e=true then to_ p e else p
theorem next_yes{p e x:Int}(h:to_ p e=x)(hx:x≠-1):next p e=x/\did p e=true:=by
 have hd:did p e=true:=by unfold did;rw[h];exact decide_eq_true hx
 unfold next;rw[if_pos hd,h];exact⟨rfl,hd⟩
theorem next_no{p e:Int}(h:to_ p e= -1):next p e=p/\did p e=false:=by
 have hd:did p e=false:=by unfold did;rw[h];rfl
 unfold next;rw[if_neg (by rw[hd];simp)];exact⟨rfl,hd⟩
theorem pairs{p e:Int}(h:to_ p e≠-1):(e=0/\p=0)\/(e=0/\p=3)\/(e=0/\p=5)\/(e=1/\p=1)\/(e=2/\p=2)\/(e=3/\p=1)\/(e=4/\p=1)\/(e=5/\p=1)\/(e=6/\p=1)\/(e=6/\p=2)\/(e=7/\p=1)\/(e=8/\p=4):=by
 unfold to_ at h;split at h
 ·rename_i hc;obtain⟨rfl,rfl|rfl|rfl⟩:=hc<;>simp
 split at h
 ·rename_i hc;obtain⟨rfl,rfl⟩:=hc;simp
 split at h
 ·rename_i hc;obtain⟨rfl,rfl⟩:=hc;simp
 split at h
 ·rename_i hc;obtain⟨rfl,rfl⟩:=hc;simp
 split at h
 ·rename_i hc;obtain⟨rfl|rfl,rfl⟩:=hc<;>simp
 split at h
 ·rename_i hc;obtain⟨rfl,rfl|rfl⟩:=hc<;>simp
 split at h
 ·rename_i hc;obtain⟨rfl,rfl⟩:=hc;simp
 split at h
 ·rename_i hc;obtain⟨rfl,rfl⟩:=hc;simp
 ·exact absurd rfl h
theorem did_iff{p e:Int}:did p e=true↔to_ p e≠-1:=by unfold did;exact decide_eq_true_iff
theorem next_to{p e:Int}(h:to_ p e≠-1):next p e=to_ p e:=(next_yes rfl h).1
theorem far{p e:Int}(h:¬(0<=p/\p<=5)\/¬(0<=e/\e<=8)):to_ p e= -1:=by
 unfold to_;rw[if_neg zv,if_neg zv,if_neg zv,if_neg zv,if_neg zv,if_neg zv,if_neg zv,if_neg zv]
def name(p:Int):ByteArray:=
 if p=0 then⟨#[105,100,108,101]⟩else if p=1 then⟨#[114,117,110,110,105,110,103]⟩else if p=2 then⟨#[112,97,117,115,101,100]⟩
 else if p=3 then⟨#[99,111,109,112,108,101,116,101]⟩else if p=4 then⟨#[114,111,108,108,105,110,103,45,98,97,99,107]⟩
 else if p=5 then⟨#[114,111,108,108,101,100,45,98,97,99,107]⟩else⟨#[]⟩
def word(e:Int):ByteArray:=
 if e=0 then⟨#[98,101,103,105,110]⟩else if e=1 then⟨#[112,97,117,115,101]⟩else if e=2 then⟨#[114,101,115,117,109,101]⟩
 else if e=3 then⟨#[112,114,111,109,111,116,101]⟩else if e=4 then⟨#[104,101,97,108,116,104]⟩else if e=5 then⟨#[100,101,97,100,108,105,110,101]⟩
 else if e=6 then⟨#[97,98,111,114,116]⟩else if e=7 then⟨#[100,111,110,101]⟩else if e=8 then⟨#[98,97,99,107]⟩else⟨#[]⟩
theorem word_none{e:Int}(h:¬(0<=e/\e<=8)):word e=⟨#[]⟩:=by
 unfold word;rw[if_neg zv,if_neg zv,if_neg zv,if_neg zv,if_neg zv,if_neg zv,if_neg zv,if_neg zv,if_neg zv]
def place(w:ByteArray):Nat:=[0,1,2,3,4,5,6,7,8].findIdx fun e:Int=>decide (word e=w)
def of(w:ByteArray):Int:=if place w<9 then(place w:Nat)else 0
def isWord(w:ByteArray):Bool:=decide (place w<9)
def open_(p:Int):Bool:=decide (p=1)|| (decide (p=2)|| decide (p=4))
def over(p:Int):Bool:=decide (p=3)|| decide (p=5)
theorem place_le(w:ByteArray):place w<=9:=by
 unfold place;exact Nat.le_trans (List.findIdx_le_length) (Nat.le_refl 9)
theorem place_lt(w:ByteArray){k:Nat}(h:k<place w)(hk:k<9):word k≠w:=by
 intro e;have:=List.not_of_lt_findIdx h;rcases k with _|_|_|_|_|_|_|_|_|k
 all_goals first|omega|(simp at this;exact this e)
theorem nine_at{k:Nat}(h:k<[0,1,2,3,4,5,6,7,(8:Int)].length):[0,1,2,3,4,5,6,7,(8:Int)][k]'h=((k:Nat):Int):=by
 rcases k with _|_|_|_|_|_|_|_|_|k
 all_goals first|rfl|exact absurd h (by simp)
theorem place_at(w:ByteArray)(h:place w<9):word (place w:Nat)=w:=by
 have h2:place w<[0,1,2,3,4,5,6,7,(8:Int)].length:=h;have:=List.findIdx_getElem (p:=fun e:Int=>decide (word e=w)) (w:=h2);have e:[0,1,2,3,4,5,6,7,(8:Int)][place w]'h2=((place w:Nat):Int):=by
  exact nine_at h2
 have h3:decide (word ([0,1,2,3,4,5,6,7,(8:Int)][place w]'h2)=w)=true:=this;rw[e]at h3;exact of_decide_eq_true h3
theorem place_is(w:ByteArray){k:Nat}(hk:k<9)(h:word k=w)(hj:∀j,j<k->word (j:Nat)≠w):place w=k:=by
 by_cases hlt:k<place w
 ·exact absurd h (place_lt w hlt hk)
 ·by_cases he:place w=k
  ·exact he
  ·have h9:place w<9:=by omega
   exact absurd (place_at w h9) (hj _ zv)
theorem place_none(w:ByteArray)(h:∀j,j<9->word (j:Nat)≠w):place w=9:=by
 by_cases h9:place w<9
 ·exact absurd (place_at w h9) (h _ h9)
 ·have:=place_le w;omega
end Ph
namespace Bk
structure Un where
 v:Int
 q:Int
 d:Bool
structure Vn where
 n:Int
 t:ByteArray
structure St where
 m:Int
 ep:Int
 who:Int
 till:Int
 stable:Int
 from_:Int
 ph:Int
 step:Int
 since:Int
 begun:Int
 seq:Int
 sp:Spc.Sp
 us:Nat->Un
 vs:List Vn
 h:List Rc.R
def new(margin:Int):St:=⟨min (max margin 0) 1048576,0,0,0,0,0,0,0,0,0,0,Spc.zero,fun _=>⟨0,0,true⟩,[],[]⟩
def dig:List Vn->Int->Option ByteArray
 |[],_=>none
 |v::l,n=>if v.n=n then some v.t else dig l n
def has(l:List Vn)(n:Int):Bool:=(dig l n).isSome
def text(l:List Vn)(n:Int):ByteArray:=(dig l n).getD ⟨#[]⟩
def pub:List Vn->Vn->List Vn
 |[],v=>[v]
 |x::l,v=>if v.n<x.n then v::x::l else x::pub l v
def late(a b:Int):Int:=min (a+b) 1099511627776
def leadOk(s:St)(r:Rc.R):Bool:=if r.epoch=s.ep then decide (s.who=r.who)&&decide (r.n<s.till)else decide (s.ep=0)|| decide (late s.till s.m<=r.n)
def leadE(s:St)(r:Rc.R):Int:=if r.epoch≠s.ep/\r.epoch≠s.ep+1 then 8 else if leadOk s r=true then 0 else 9
def leadT(s:St)(r:Rc.R):Int:=if r.epoch=s.ep then max s.till (late r.n r.seq)else late r.n r.seq
def free(s:St)(now:Int):Bool:=decide (s.ep=0)|| decide (late s.till s.m<=now)
def passed:ByteArray:=⟨#[112,97,115,115,101,100]⟩
def promote:ByteArray:=⟨#[112,114,111,109,111,116,101]⟩
def chk2(s:St)(r:Rc.R):Int:=if has s.vs r.n=true then 6 else if 64<=s.vs.length then 4 else 0
def chk3(s:St)(r:Rc.R):Int:=if Ph.open_ s.ph=true then 10 else if has s.vs r.sp.v=false then 5 else if r.sp.v=s.stable then 6 else 0
def chk4(s:St)(r:Rc.R):Int:=
 if Ph.isWord r.text=false\/Ph.of r.text=0\/Ph.of r.text=3 then 2 else if Ph.did s.ph (Ph.of r.text)=false\/Ph.next s.ph (Ph.of r.text)≠r.n then 10 else 0
def chk5(s:St)(r:Rc.R):Int:=if s.ph≠1/\s.ph≠4 then 10 else if r.seq≠s.seq+1 then 7 else if r.n≠0/\r.n≠s.sp.v/\r.n≠s.from_ then 5 else 0
def chk6(s:St)(r:Rc.R):Int:=if(s.us r.who.toNat).q≠r.seq then 7 else if(s.us r.who.toNat).d=true then 10 else 0
def chk7(s:St)(r:Rc.R):Int:=if s.ph≠1 then 10 else if r.text≠passed/\r.text≠promote then 2 else if r.who≠s.step+1\/((Spc.steps s.sp).length:Int)<r.who then 7 else 0
def chk(s:St)(r:Rc.R):Int:=
 if Rc.right r=false then 1 else if r.kind=1 then leadE s r else if r.epoch≠s.ep then 8
 else if r.kind=2 then chk2 s r else if r.kind=3 then chk3 s r else if r.kind=4 then chk4 s r
 else if r.kind=5 then chk5 s r else if r.kind=6 then chk6 s r else if r.kind=7 then chk7 s r else 0
def last24{T:Type}(l:List T):List T:=l.drop (l.length -24)
def note(s:St)(r:Rc.R):St:={s with h:=last24 (s.h++[r])}
def setU(us:Nat->Un)(i:Nat)(u:Un):Nat->Un:=fun j=>if j=i then u else us j
def act(s:St)(r:Rc.R):St:=
 if r.kind=1 then{s with ep:=r.epoch,who:=r.who,till:=leadT s r}
 else if r.kind=2 then{s with vs:=pub s.vs ⟨r.n,r.text⟩}
 else if r.kind=3 then{s with h:=last24 (s.h++[r]),sp:=r.sp,ph:=1,step:=0,since:=r.n,begun:=r.n,from_:=s.stable}
 else if r.kind=4 then{s with h:=last24 (s.h++[r]),ph:=r.n,stable:=if r.n=3 then s.sp.v else s.stable}
 else if r.kind=5 then{s with us:=setU s.us r.who.toNat ⟨r.n,r.seq,false⟩,seq:=r.seq}
 else if r.kind=6 then{s with us:=setU s.us r.who.toNat {s.us r.who.toNat with d:=true}}
 else if r.kind=7 then{s with h:=last24 (s.h++[r]),step:=r.who,since:=r.n}
 else s
def app(s:St)(r:Rc.R):St:=if chk s r=0 then act s r else s
def run(s:St)(l:List Rc.R):St:=l.foldl app s
def cnt(s:St):List Rc.R->Nat
 |[]=>0
 |r::l=>(if chk s r=0 then 1 else 0)+cnt (app s r) l
def all(m:Int)(l:List Rc.R):St:=run (new m) l
def allN(m:Int)(l:List Rc.R):Nat:=cnt (new m) l
theorem run_append(s:St)(a b:List Rc.R):run s (a++b)=run (run s a) b:=List.foldl_append
theorem run_snoc(s:St)(l:List Rc.R)(r:Rc.R):run s (l++[r])=app (run s l) r:=by rw[run_append];rfl
theorem cnt_append(s:St)(a b:List Rc.R):cnt s (a++b)=cnt s a+cnt (run s a) b:=by
 induction a generalizing s with
 |nil=>show cnt s b=0+cnt s b;omega
 |cons x a ih=>
  show(if chk s x=0 then 1 else 0)+cnt (app s x) (a++b)=(if chk s x=0 then 1 else 0)+cnt (app s x) a+cnt (run (app s x) a) b;rw[ih];omega
theorem cnt_snoc(s:St)(l:List Rc.R)(r:Rc.R):cnt s (l++[r])=cnt s l+if chk (run s l) r=0 then 1 else 0:=by rw[cnt_append];simp[cnt]
theorem cnt_le(s:St)(l:List Rc.R):cnt s l<=l.length:=by
 induction l generalizing s with
 |nil=>exact zl
 |cons x l ih=>have:=ih (app s x);simp only[cnt,List.length_cons];split<;>omega
theorem take_run(s:St)(l:List Rc.R){k:Nat}(h:k<l.length):run s (l.take (k+1))=app (run s (l.take k)) l[k]/\cnt s (l.take (k+1))=cnt s (l.take k)+if chk (run s (l.take k)) l[k]=0 then 1 else 0:=by
 rw[List.take_succ_eq_append_getElem h,run_snoc,cnt_snoc];exact⟨rfl,rfl⟩
theorem app_ok{s:St}{r:Rc.R}(h:chk s r=0):app s r=act s r:=if_pos h
theorem app_no{s:St}{r:Rc.R}(h:chk s r≠0):app s r=s:=if_neg h
structure Ok(s:St):Prop where
 m:0<=s.m/\s.m<=1048576
 ep:0<=s.ep/\s.ep<=1099511627776
 who:0<=s.who/\s.who<=63
 till:0<=s.till/\s.till<=1099511627776
 zero:s.ep=0->s.who=0/\s.till=0
 stable:0<=s.stable/\s.stable<=1048576
 from_:0<=s.from_/\s.from_<=1048576
 ph:0<=s.ph/\s.ph<=5
 step:0<=s.step/\s.step<=4
 since:0<=s.since/\s.since<=1099511627776
 begun:0<=s.begun/\s.begun<=1099511627776
 seq:0<=s.seq/\s.seq<=1099511627776
 sp:∀x∈Spc.flds s.sp,0<=x/\x<=1099511627776
 spv:0<=s.sp.v/\s.sp.v<=1048576
 us:∀i,0<=(s.us i).v/\(s.us i).v<=1048576/\0<=(s.us i).q/\(s.us i).q<=s.seq
 vs:∀v∈s.vs,1<=v.n/\v.n<=1048576/\v.t.size<=64
 vl:s.vs.length<=64
 rise:s.vs.Pairwise fun a b=>a.n<b.n
 h:∀r∈s.h,Rc.right r=true
 hl:s.h.length<=24
 --which phases
 idle:s.ph=0->s.stable=0
 back:s.ph≠0->s.ph≠3->s.stable=s.from_
 spec:s.ph≠0->has s.vs s.sp.v=true
 known:s.stable≠0->has s.vs s.stable=true
theorem last24_length{T:Type}(l:List T):(last24 l).length<=24:=by unfold last24;rw[List.length_drop];omega
theorem last24_mem{T:Type}{l:List T}{x:T}(h:x∈last24 l):x∈l:=List.mem_of_mem_drop h
theorem dig_none{l:List Vn}{n:Int}(h:∀v∈l,v.n≠n):dig l n=none:=by
 induction l with
 |nil=>rfl
 |cons x l ih=>unfold dig;rw[if_neg (h x (List.mem_cons_self ..)),ih fun v hv=>h v (List.mem_cons_of_mem _ hv)]
theorem dig_pub(l:List Vn)(v:Vn)(n:Int)(h:dig l v.n=none):dig (pub l v) n=if v.n=n then some v.t else dig l n:=by
 induction l with
 |nil=>rfl
 |cons x l ih=>
  unfold dig at h;split at h
  ·cases h
  ·rename_i hx
   unfold pub;split
   ·show(if v.n=n then some v.t else _)=_
    rfl
   ·show(if x.n=n then some x.t else dig (pub l v) n)=_
    rw[ih h];by_cases hn:x.n=n
    ·rw[if_pos hn,if_neg (fun e=>hx (hn.trans e.symm)),dig,if_pos hn]
    ·rw[if_neg hn,dig,if_neg hn]
theorem _root_.Go.Proofs.YtkinlcfhojjalaaGreatDoor.zz2v{p:Prop}(h:p:=by
 rintro(h|h|h)
 ·exact .inr (.inl h)
 ·exact .inl h
 ·exact .inr (.inr h)):p:=h
theorem mem_pub{l:List Vn}{v x:Vn}:x∈pub l v↔x=v\/x∈l:=by
 induction l with
 |nil=>simp[pub]
 |cons a l ih=>
  unfold pub;split
  ·simp
  ·rw[List.mem_cons,ih,List.mem_cons]
   constructor
   ·exact zz2v
   ·exact zz2v
theorem pub_length(l:List Vn)(v:Vn):(pub l v).length=l.length+1:=by
 induction l with
 |nil=>rfl
 |cons a l ih=>unfold pub;split<;>simp[ih]
theorem pub_rise{l:List Vn}{v:Vn}(h:l.Pairwise fun a b=>a.n<b.n)(hn:dig l v.n=none):(pub l v).Pairwise fun a b=>a.n<b.n:=by
 induction l with
 |nil=>exact List.pairwise_singleton _ _
 |cons a l ih=>
  have hr:=List.pairwise_cons.1 h;unfold dig at hn;split at hn
  ·cases hn
  ·rename_i ha
   unfold pub;split
   ·rename_i h1
    refine List.pairwise_cons.2 ⟨fun x hx=> ?_,h⟩;rcases List.mem_cons.1 hx with rfl|hx
    ·exact h1
    ·have:=hr.1 x hx;omega
   ·rename_i h1
    refine List.pairwise_cons.2 ⟨fun x hx=> ?_,ih hr.2 hn⟩;rcases mem_pub.1 hx with rfl|hx
    ·omega
    ·exact hr.1 x hx
theorem has_pub{l:List Vn}{v:Vn}(h:has l v.n=false)(n:Int)(hn:has l n=true):has (pub l v) n=true:=by
 unfold has at*;have h1:dig l v.n=none:=by
  cases e:dig l v.n with
  |none=>rfl
  |some t=>rw[e]at h;cases h
 rw[dig_pub l v n h1];split
 ·rfl
 ·exact hn
theorem z_in{n:Int}(hn:0<=n):0<=(0:Int)/\(0:Int)<=n:=⟨Int.le_refl _,hn⟩
theorem new_ok(m:Int):Ok (new m) where
 m:=by show 0<=min (max m 0) 1048576/\min (max m 0) 1048576<=1048576;omega
 ep:=z_in zv
 who:=z_in zv
 till:=z_in zv
 zero:=fun _=>⟨rfl,rfl⟩
 stable:=z_in zv
 from_:=z_in zv
 ph:=z_in zv
 step:=z_in zv
 since:=z_in zv
 begun:=z_in zv
 seq:=z_in zv
 sp:=by
  intro x hx;simp[new,Spc.flds,Spc.zero]at hx;omega
 spv:=z_in zv
 us:=fun _=>⟨Int.le_refl _,by show(0:Int)<=1048576;omega,Int.le_refl _,Int.le_refl _⟩
 vs:=fun v hv=>by cases hv
 vl:=Nat.zero_le _
 rise:=List.Pairwise.nil
 h:=fun r hr=>by cases hr
 hl:=Nat.zero_le _
 idle:=fun _=>rfl
 back:=fun h=>absurd rfl h
 spec:=fun h=>absurd rfl h
 known:=fun h=>absurd rfl h
end Bk
namespace Rc
theorem right1{r:R}(hk:r.kind=1)(h:right r=true):(0<=r.who/\r.who<=63)/\(0<=r.n/\r.n<=1099511627776)/\(1<=r.seq/\r.seq<=1048576):=by
 unfold right at h;simp[hk,Spc.inn_iff]at h;omega
theorem _root_.Go.Proofs.YtkinlcfhojjalaaGreatDoor.zz37{p:Prop}(h:p:=by
 unfold right at h;simp[hk,Spc.inn_iff,told_iff]at h;omega):p:=h
theorem right2{r:R}(hk:r.kind=2)(h:right r=true):(1<=r.text.size/\r.text.size<=64)/\(1<=r.n/\r.n<=1048576):=by
 exact zz37
theorem right3{r:R}(hk:r.kind=3)(h:right r=true):(0<=r.n/\r.n<=1099511627776)/\Spc.May r.sp:=by
 have hb:=(ok_of h).begin_ hk;have hn:=(ok_of h).n;exact⟨hn,hb⟩
theorem right4{r:R}(hk:r.kind=4)(h:right r=true):(1<=r.n/\r.n<=5):=by
 exact zz37
theorem right5{r:R}(hk:r.kind=5)(h:right r=true):(0<=r.who/\r.who<=15)/\(0<=r.n/\r.n<=1048576)/\(1<=r.seq/\r.seq<=1099511627776):=by
 exact zz37
theorem right6{r:R}(hk:r.kind=6)(h:right r=true):(0<=r.who/\r.who<=15)/\(1<=r.seq/\r.seq<=1099511627776):=by
 exact zz37
theorem right7{r:R}(hk:r.kind=7)(h:right r=true):(1<=r.who/\r.who<=4)/\(0<=r.n/\r.n<=1099511627776):=by
 exact zz37
end Rc
namespace Bk
open Rc (R right)
section
variable{s:St}{r:R}
theorem chk_right(h:chk s r=0):right r=true:=by
 unfold chk at h
 cases e:right r with
 |true=>rfl
 |false=>rw[if_pos e]at h;exact absurd h (by decide)
theorem chk_wrong(h:right r=false):chk s r=1:=if_pos h
theorem chk_lead(hr:right r=true)(hk:r.kind=1):chk s r=leadE s r:=by unfold chk;rw[if_neg (by rw[hr];simp),if_pos hk]
theorem chk_ep(hr:right r=true)(hk:r.kind≠1)(he:r.epoch≠s.ep):chk s r=8:=by unfold chk;rw[if_neg (by rw[hr];simp),if_neg hk,if_pos he]
theorem chk_two(hr:right r=true)(hk:r.kind=2)(he:r.epoch=s.ep):chk s r=chk2 s r:=by unfold chk;rw[if_neg (by rw[hr];simp),if_neg zv,if_neg zv,if_pos hk]
theorem chk_three(hr:right r=true)(hk:r.kind=3)(he:r.epoch=s.ep):chk s r=chk3 s r:=by unfold chk;rw[if_neg (by rw[hr];simp),if_neg zv,if_neg zv,if_neg zv,if_pos hk]
theorem chk_four(hr:right r=true)(hk:r.kind=4)(he:r.epoch=s.ep):chk s r=chk4 s r:=by unfold chk;rw[if_neg (by rw[hr];simp),if_neg zv,if_neg zv,if_neg zv,if_neg zv,if_pos hk]
theorem chk_five(hr:right r=true)(hk:r.kind=5)(he:r.epoch=s.ep):chk s r=chk5 s r:=by unfold chk;rw[if_neg (by rw[hr];simp),if_neg zv,if_neg zv,if_neg zv,if_neg zv,if_neg zv,if_pos hk]
theorem chk_six(hr:right r=true)(hk:r.kind=6)(he:r.epoch=s.ep):chk s r=chk6 s r:=by unfold chk;rw[if_neg (by rw[hr];simp),if_neg zv,if_neg zv,if_neg zv,if_neg zv,if_neg zv,if_neg zv,if_pos hk]
theorem chk_seven(hr:right r=true)(hk:r.kind=7)(he:r.epoch=s.ep):chk s r=chk7 s r:=by unfold chk;rw[if_neg (by rw[hr];simp),if_neg zv,if_neg zv,if_neg zv,if_neg zv,if_neg zv,if_neg zv,if_neg zv,if_pos hk]
theorem chk_epoch(h:chk s r=0)(hk:r.kind≠1):r.epoch=s.ep:=Decidable.byContradiction fun he=>absurd ((chk_ep (chk_right h) hk he).symm.trans h) (by decide)
theorem lead_ok(h:leadE s r=0):(r.epoch=s.ep\/r.epoch=s.ep+1)/\leadOk s r=true:=by
 unfold leadE at h;split at h
 ·exact absurd h (by decide)
 ·split at h
  ·exact⟨zv,by assumption⟩
  ·exact absurd h (by decide)
theorem two_ok(h:chk2 s r=0):has s.vs r.n=false/\s.vs.length<64:=by
 unfold chk2 at h;split at h
 ·exact absurd h (by decide)
 ·rename_i h1
  split at h
  ·exact absurd h (by decide)
  ·exact⟨by simpa using h1,zv⟩
theorem three_ok(h:chk3 s r=0):Ph.open_ s.ph=false/\has s.vs r.sp.v=true/\r.sp.v≠s.stable:=by
 unfold chk3 at h;split at h
 ·exact absurd h (by decide)
 ·rename_i h1
  split at h
  ·exact absurd h (by decide)
  ·rename_i h2
   split at h
   ·exact absurd h (by decide)
   ·exact⟨by simpa using h1,by simpa using h2,by assumption⟩
theorem four_ok(h:chk4 s r=0):Ph.isWord r.text=true/\Ph.of r.text≠0/\Ph.of r.text≠3/\Ph.did s.ph (Ph.of r.text)=true/\Ph.next s.ph (Ph.of r.text)=r.n:=by
 unfold chk4 at h;split at h
 ·exact absurd h (by decide)
 ·rename_i h1
  split at h
  ·exact absurd h (by decide)
  ·rename_i h2
   simp only[not_or,Bool.not_eq_false,Decidable.not_not]at h1 h2;exact⟨h1.1,h1.2.1,h1.2.2,h2.1,h2.2⟩
theorem five_ok(h:chk5 s r=0):(s.ph=1\/s.ph=4)/\r.seq=s.seq+1/\(r.n=0\/r.n=s.sp.v\/r.n=s.from_):=by
 unfold chk5 at h;split at h
 ·exact absurd h (by decide)
 ·split at h
  ·exact absurd h (by decide)
  ·split at h
   ·exact absurd h (by decide)
   ·omega
theorem six_ok(h:chk6 s r=0):(s.us r.who.toNat).q=r.seq/\(s.us r.who.toNat).d=false:=by
 unfold chk6 at h;split at h
 ·exact absurd h (by decide)
 ·rename_i h1
  split at h
  ·exact absurd h (by decide)
  ·rename_i h2
   exact⟨zv,by simpa using h2⟩
theorem act1(hk:r.kind=1):act s r={s with ep:=r.epoch,who:=r.who,till:=leadT s r}:=by unfold act;rw[if_pos hk]
theorem act2(hk:r.kind=2):act s r={s with vs:=pub s.vs ⟨r.n,r.text⟩}:=by unfold act;rw[if_neg zv,if_pos hk]
theorem act3(hk:r.kind=3):act s r={s with h:=last24 (s.h++[r]),sp:=r.sp,ph:=1,step:=0,since:=r.n,begun:=r.n,from_:=s.stable}:=by unfold act;rw[if_neg zv,if_neg zv,if_pos hk]
theorem act4(hk:r.kind=4):act s r={s with h:=last24 (s.h++[r]),ph:=r.n,stable:=if r.n=3 then s.sp.v else s.stable}:=by unfold act;rw[if_neg zv,if_neg zv,if_neg zv,if_pos hk]
theorem act5(hk:r.kind=5):act s r={s with us:=setU s.us r.who.toNat ⟨r.n,r.seq,false⟩,seq:=r.seq}:=by unfold act;rw[if_neg zv,if_neg zv,if_neg zv,if_neg zv,if_pos hk]
theorem act6(hk:r.kind=6):act s r={s with us:=setU s.us r.who.toNat {s.us r.who.toNat with d:=true}}:=by unfold act;rw[if_neg zv,if_neg zv,if_neg zv,if_neg zv,if_neg zv,if_pos hk]
theorem act7(hk:r.kind=7):act s r={s with h:=last24 (s.h++[r]),step:=r.who,since:=r.n}:=by unfold act;rw[if_neg zv,if_neg zv,if_neg zv,if_neg zv,if_neg zv,if_neg zv,if_pos hk]
theorem leadT_in(h:Ok s)(hr:right r=true)(hk:r.kind=1):0<=leadT s r/\leadT s r<=1099511627776:=by
 obtain⟨_,h1,h2⟩:=Rc.right1 hk hr;have h3:=h.till;unfold leadT late;split<;>omega
theorem h_note{l:List R}(h:∀x∈l,right x=true)(hr:right r=true):∀x∈last24 (l++[r]),right x=true:=by
 intro x hx;rcases List.mem_append.1 (last24_mem hx)with hx|hx
 ·exact h x hx
 ·rw[List.mem_singleton.1 hx];exact hr
theorem move_ph{p e n:Int}(hd:Ph.did p e=true)(hn:Ph.next p e=n)(h0:e≠0):(p=1\/p=2\/p=4)/\(n=1\/n=2\/n=3\/n=4\/n=5)/\(n=3->p=1):=by
 have h1:=Ph.did_iff.1 hd;rw[Ph.next_to h1]at hn;subst hn;rcases Ph.pairs h1 with⟨rfl,rfl⟩|⟨rfl,rfl⟩|⟨rfl,rfl⟩|⟨rfl,rfl⟩|⟨rfl,rfl⟩|⟨rfl,rfl⟩|⟨rfl,rfl⟩|⟨rfl,rfl⟩|⟨rfl,rfl⟩|⟨rfl,rfl⟩|⟨rfl,rfl⟩|⟨rfl,rfl⟩
 all_goals first|exact absurd rfl h0|decide
theorem z1:0<=(1:Int)/\(1:Int)<=5:=by decide
theorem act_ok(h:Ok s)(hc:chk s r=0):Ok (act s r):=by
 have hr:=chk_right hc;have ho:=Rc.ok_of hr;have hk7:=ho.kind;have hk:r.kind=1\/r.kind=2\/r.kind=3\/r.kind=4\/r.kind=5\/r.kind=6\/r.kind=7:=by omega
 clear hk7;rcases hk with hk|hk|hk|hk|hk|hk|hk
 ·rw[act1 hk]
  obtain⟨h1,h2,h3⟩:=Rc.right1 hk hr;exact{h with ep:=⟨by have:=ho.epoch;show 0<=r.epoch;omega,ho.epoch.2⟩,who:=h1,till:=leadT_in h hr hk,zero:=fun e=>by have:=ho.epoch;have e2:r.epoch=0:=e;omega}
 ·rw[act2 hk]
  obtain⟨h1,h2⟩:=Rc.right2 hk hr;rw[chk_two hr hk (chk_epoch hc zv)]at hc;obtain⟨h3,h4⟩:=two_ok hc;have h5:dig s.vs r.n=none:=by
   unfold has at h3
   cases e:dig s.vs r.n with
   |none=>rfl
   |some t=>rw[e]at h3;cases h3
  refine{h with vs:=fun v hv=> ?_,vl:=by show(pub s.vs ⟨r.n,r.text⟩).length<=64;rw[pub_length];omega,rise:=pub_rise h.rise h5,spec:=fun e=>has_pub (v:=⟨r.n,r.text⟩) h3 _ (h.spec e),known:=fun e=>has_pub (v:=⟨r.n,r.text⟩) h3 _ (h.known e)}
  rcases mem_pub.1 hv with rfl|hv
  ·exact⟨h2.1,h2.2,h1.2⟩
  ·exact h.vs v hv
 ·rw[act3 hk]
  obtain⟨h1,h2⟩:=Rc.right3 hk hr;rw[chk_three hr hk (chk_epoch hc zv)]at hc;obtain⟨h3,h4,h5⟩:=three_ok hc;exact{h with h:=h_note h.h hr,hl:=last24_length _,sp:=ho.flds,spv:=⟨by have:=h2.v;show 0<=r.sp.v;omega,h2.v.2⟩,ph:=z1,step:=z_in zv,since:=h1,begun:=h1,from_:=h.stable,idle:=fun e=>absurd e (by show¬(1:Int)=0;omega),back:=fun _ _=>rfl,spec:=fun _=>h4}
 ·rw[act4 hk]
  have h1:=Rc.right4 hk hr;rw[chk_four hr hk (chk_epoch hc zv)]at hc;obtain⟨_,h3,_,h5,h6⟩:=four_ok hc;obtain⟨h7,h8,h9⟩:=move_ph h5 h6 h3;have h10:=h.spec zv;refine{h with h:=h_note h.h hr,hl:=last24_length _,ph:=⟨by show 0<=r.n;omega,by show r.n<=5;omega⟩,stable:=?_,idle:=fun e=>absurd e (by show¬r.n=0;omega),back:=fun e0 e3=> ?_,spec:=fun _=>h10,known:=fun e=> ?_}
  ·show 0<=(if r.n=3 then s.sp.v else s.stable)/\(if r.n=3 then s.sp.v else s.stable)<=1048576
   split
   ·exact h.spv
   ·exact h.stable
  ·show(if r.n=3 then s.sp.v else s.stable)=s.from_
   rw[if_neg e3];exact h.back zv zv
  ·show has s.vs (if r.n=3 then s.sp.v else s.stable)=true
   by_cases e3:r.n=3
   ·rw[if_pos e3];exact h10
   ·rw[if_neg e3]
    refine h.known fun e2=>e ?_;show(if r.n=3 then s.sp.v else s.stable)=0;rw[if_neg e3,e2]
 ·rw[act5 hk]
  obtain⟨h1,h2,h3⟩:=Rc.right5 hk hr;rw[chk_five hr hk (chk_epoch hc zv)]at hc;obtain⟨h4,h5,h6⟩:=five_ok hc;refine{h with seq:=⟨by show 0<=r.seq;omega,h3.2⟩,us:=fun i=> ?_}
  show 0<=(setU s.us r.who.toNat ⟨r.n,r.seq,false⟩ i).v/\(setU s.us r.who.toNat ⟨r.n,r.seq,false⟩ i).v<=1048576/\0<=(setU s.us r.who.toNat ⟨r.n,r.seq,false⟩ i).q/\(setU s.us r.who.toNat ⟨r.n,r.seq,false⟩ i).q<=r.seq;have:=h.us i;unfold setU;split
  ·show 0<=r.n/\r.n<=1048576/\0<=r.seq/\r.seq<=r.seq
   omega
  ·omega
 ·rw[act6 hk]
  refine{h with us:=fun i=> ?_}
  show 0<=(setU s.us r.who.toNat {s.us r.who.toNat with d:=true} i).v/\(setU s.us r.who.toNat {s.us r.who.toNat with d:=true} i).v<=1048576/\0<=(setU s.us r.who.toNat {s.us r.who.toNat with d:=true} i).q/\(setU s.us r.who.toNat {s.us r.who.toNat with d:=true} i).q<=s.seq
  unfold setU;split
  ·exact h.us r.who.toNat
  ·exact h.us i
 ·rw[act7 hk]
  obtain⟨h1,h2⟩:=Rc.right7 hk hr;exact{h with h:=h_note h.h hr,hl:=last24_length _,step:=⟨by show 0<=r.who;omega,h1.2⟩,since:=h2}
theorem app_okay(h:Ok s):Ok (app s r):=by
 unfold app;split
 ·exact act_ok h (by assumption)
 ·exact h
theorem run_ok(l:List R):∀{s:St},Ok s->Ok (run s l):=by
 induction l with
 |nil=>exact fun h=>h
 |cons x l ih=>exact fun h=>ih (app_okay h)
theorem all_ok(m:Int)(l:List R):Ok (all m l):=run_ok l (new_ok m)
theorem app_m:(app s r).m=s.m:=by
 unfold app;split
 ·unfold act;repeat' split
  all_goals rfl
 ·rfl
theorem run_m(l:List R):∀{s:St},(run s l).m=s.m:=by
 induction l with
 |nil=>exact rfl
 |cons x l ih=>intro s;exact ih.trans app_m
end
end Bk
open Go.RowKit
namespace So
open Bk Fr
def pre(s:St):List Rc.R->List Rc.R
 |[]=>[]
 |r::l=>if chk s r=0 then r::pre (app s r) l else[]
theorem pre_cnt(l:List Rc.R):∀s,cnt s (pre s l)=(pre s l).length:=by
 induction l with
 |nil=>intro s;rfl
 |cons r l ih=>
  intro s;unfold pre;by_cases h:chk s r=0
  ·rw[if_pos h]
   show(if chk s r=0 then 1 else 0)+cnt (app s r) (pre (app s r) l)=(pre (app s r) l).length+1;rw[if_pos h,ih];omega
  ·rw[if_neg h];rfl
theorem pre_is{l:List Rc.R}:∀{s:St} {j:Nat},j<=l.length->cnt s (l.take j)=j->(∀h:j<l.length,chk (run s (l.take j)) l[j]≠0)->pre s l=l.take j:=by
 induction l with
 |nil=>intro s j _ _ _;simp[pre]
 |cons r l ih=>
  intro s j hj hc hn
  cases j with
  |zero=>
   have this:chk s r≠0:=hn (by simp);unfold pre;rw[if_neg this];rfl
  |succ j=>
   have hc':(if chk s r=0 then 1 else 0)+cnt (app s r) (l.take j)=j+1:=hc;have hle:=cnt_le (app s r) (l.take j);rw[List.length_take]at hle;by_cases h:chk s r=0
   ·rw[if_pos h]at hc'
    unfold pre;rw[if_pos h];have hj':j<=l.length:=by simpa using hj
    rw[ih hj' zv (fun hlt=>hn (by simpa using hlt))];rfl
   ·rw[if_neg h]at hc';omega
theorem pre_all{s:St}{l:List Rc.R}(h:cnt s l=l.length):pre s l=l:=by
 have:=pre_is (l:=l) (s:=s) zl (by rw[List.take_length];exact h) (fun hx=>absurd hx (Nat.lt_irrefl _))
 rwa [List.take_length]at this
def Took(m:Int)(l:List Rc.R):Prop:=cnt (new m) l=l.length
theorem took_right{l:List Rc.R}:∀{s:St},cnt s l=l.length->∀r∈l,Rc.right r=true:=by
 induction l with
 |nil=>intro s _ r h;cases h
 |cons x l ih=>
  intro s hc r hr;have hc':(if chk s x=0 then 1 else 0)+cnt (app s x) l=l.length+1:=hc;have:=cnt_le (app s x) l;by_cases h:chk s x=0
  ·rw[if_pos h]at hc'
   have hc2:cnt (app s x) l=l.length:=by omega
   rcases List.mem_cons.1 hr with e|hr
   ·rw[e];exact chk_right h
   ·exact ih hc2 r hr
  ·rw[if_neg h]at hc';omega
theorem took_snoc{m:Int}{l:List Rc.R}(h:Took m l){r:Rc.R}(hc:chk (all m l) r=0):Took m (l++[r]):=by
 unfold Took at*;have hc2:chk (run (new m) l) r=0:=hc;rw[cnt_snoc,h,if_pos hc2,zA];rfl
def ens(l:List Rc.R):List (List Nat):=l.map Rc.bytes
theorem ens_snoc(l:List Rc.R)(r:Rc.R):ens (l++[r])=ens l++[Rc.bytes r]:=by simp[ens]
theorem ens_len(l:List Rc.R):(ens l).length=l.length:=List.length_map ..
theorem rc_ok{r:Rc.R}(h:Rc.right r=true):ok (Rc.bytes r):=⟨Rc.bytes_pos r,Nat.le_trans (Rc.bytes_len h) zv,Rc.bytes_byte r⟩
theorem ens_ok{l:List Rc.R}(h:∀r∈l,Rc.right r=true):∀p∈ens l,ok p:=by
 intro p hp;obtain⟨r,hr,rfl⟩:=List.mem_map.1 hp;exact rc_ok (h r hr)
noncomputable def recs(ps:List (List Nat)):List Rc.R:=ps.map Rc.rdV
theorem recs_ens{l:List Rc.R}(h:∀r∈l,Rc.right r=true):recs (ens l)=l:=by
 unfold recs ens;rw[List.map_map];exact(List.map_congr_left fun r hr=>(Rc.rd_back (h r hr)).1).trans (List.map_id l)
theorem rd_right{p:List Nat}(h:Rc.right (Rc.rdV p)=true):Rc.rdE p=0/\Rc.bytes (Rc.rdV p)=p:=by
 by_cases hw:Rc.whole p
 ·exact⟨(Rc.rd_yes hw).2,(Rc.rd_only (Rc.rd_yes hw).2).2⟩
 ·rw[(Rc.rd_no hw).1,Rc.none_wrong]at h;cases h
theorem ens_take{ps:List (List Nat)}{s:St}{j:Nat}(h:cnt s ((recs ps).take j)=j)(hj:j<=ps.length):ens ((recs ps).take j)=ps.take j:=by
 have hl:((recs ps).take j).length=j:=by rw[List.length_take,recs,List.length_map];omega
 have hr:=took_right (s:=s) (l:=(recs ps).take j) (h.trans hl.symm);unfold ens recs at*;rw[<-List.map_take,List.map_map]at*;refine(List.map_congr_left fun p hp=> ?_).trans (List.map_id _);exact(rd_right (hr _ (List.mem_map.2 ⟨p,hp,rfl⟩))).2
def disk(R:Nat)(l:List Rc.R):Dk.St:=Jn.Js R l.length (ens l)
def Fits(R:Nat)(l:List Rc.R)(r:Rc.R):Prop:=(Fr.all (ens l)).length+((Rc.bytes r).length+6)<=R
instance (R:Nat) (l:List Rc.R) (r:Rc.R):Decidable (Fits R l r):=inferInstanceAs (Decidable (_<=_))
theorem disk_app{R:Nat}{l:List Rc.R}{r:Rc.R}(hr:Rc.right r=true)(h:Fits R l r):Dk.sync (Jn.app (disk R l) (Rc.bytes r))=disk R (l++[r])/\Jn.appE (disk R l) (Rc.bytes r)=0:=by
 have:=Jn.js_app (R:=R) (k:=l.length) (ps:=ens l) (by rw[ens_len];exact zl) (rc_ok hr) h;unfold disk;rw[this.1,Jn.js_sync,ens_snoc,zA,zA,ens_len];exact⟨rfl,this.2⟩
theorem disk_full{R:Nat}{l:List Rc.R}{r:Rc.R}(hr:Rc.right r=true)(h:¬Fits R l r):Jn.app (disk R l) (Rc.bytes r)=disk R l/\Jn.appE (disk R l) (Rc.bytes r)=4:=by
 have hg:¬Dk.goes (Jn.Js R l.length (ens l)) (fr (Rc.bytes r)):=by unfold Dk.goes Jn.Js;rw[fr_length];exact h
 unfold disk Jn.app Jn.appE;rw[if_neg (by rw[Jn.putE_ok (rc_ok hr)];decide),if_neg (by rw[Jn.putE_ok (rc_ok hr)];decide)];unfold Dk.write Dk.writeE;rw[if_neg hg,if_neg hg];exact⟨rfl,rfl⟩
def Kept(r:Rc.R)(keep:Int):Prop:=(((Rc.bytes r).length+6:Nat):Int)<=keep
instance (r:Rc.R) (keep:Int):Decidable (Kept r keep):=inferInstanceAs (Decidable (_<=_))
theorem disk_torn{R:Nat}{l:List Rc.R}{r:Rc.R}(hl:∀r∈l,Rc.right r=true)(hr:Rc.right r=true)(h:Fits R l r)(keep:Int):
  Jn.torn (disk R l) (Rc.bytes r) keep=(if Kept r keep then disk R (l++[r])else disk R l)/\Jn.tornE (disk R l) (Rc.bytes r)=13:=by
 have:=Jn.js_torn (R:=R) (k:=l.length) (ps:=ens l) (ens_ok hl) (by rw[ens_len];exact zl) (rc_ok hr) h keep;unfold disk;rw[this.1,ens_snoc,zA,ens_len];exact⟨rfl,this.2⟩
theorem disk_torn_full{R:Nat}{l:List Rc.R}{r:Rc.R}(hr:Rc.right r=true)(h:¬Fits R l r)(keep:Int):Jn.torn (disk R l) (Rc.bytes r) keep=disk R l/\Jn.tornE (disk R l) (Rc.bytes r)=4:=by
 have:=disk_full hr h;unfold Jn.torn Jn.tornE;rw[if_pos (by rw[this.2];decide),if_pos (by rw[this.2];decide)];exact⟨rfl,this.2⟩
end So
theorem Kept.putObj(W:World)(r:Nat)(o:Obj):Kept (fun i=>i=r) W (W.putObj r o):=
 ⟨rfl,rfl,rfl,by rw[World.putObj_size];exact zl,fun _ _ hi=>World.putObj_heap_other hi⟩
theorem zz2c{p:Prop}(h:p:=by
 have hlt:=(zg hh).1
 exact .inr ⟨g,cap,cur,hv,hg,(hk.block g hlt (hF g hg hlt)).trans hh,r⟩):p:=h
theorem OwnB.kept{F:Nat->Prop}{w w':World}{B:Nat}{v:Value}{l:List Nat}(h:OwnB w B v l)(hk:Kept F w w')(hF:∀i,B<=i->i<w.heap.size->¬F i):OwnB w' B v l:=by
 refine⟨⟨h.1.1,?_⟩,h.2⟩;rcases h.1.2 with h2|⟨g,cap,cur,hv,hg,hh,r⟩
 ·exact .inl h2
 ·exact zz2c
def jpr(P:Program)(g:Nat)(lb:Array Value)(Kp:World->World->Prop)(ps:List (List Nat))(w:World):Prop:=
 ∀(l:Nat) (J:Nat->World->Prop) (W:World),zF w W->(∀k A B,J k A->zF A B->J k B)->
  (∀k A c p W0 W1,ps[k]? =some p->J k W0->zF W0 W1->OwnB W1 W0.heap.size (.slice A p.length c) p->
   YieldAt Fence.wide 1 P l #[.slice A p.length c] W1 fun e W'=>e= .returned (.bool true)/\J (k+1) W'/\Kp W1 W')->
  J 0 W->
  CallsIn Fence.wide 2 P g (#[.func (.yield l) #[] #[]]++lb) W fun e W'=>(∃v,e= .returned v)/\J ps.length W'
theorem jdb{P:Program}{g:Operand}{ps:Array Tmp}{assign body:Code}{Q:Exit->Act->World->Prop}{a:Act}{w:World}
  {gf:Nat} {lb:Array Value} (hg:a.eval g= .func (.func gf) #[] lb) (eg:∀args w,(callFunc gf args).run P w= .ok (.enter gf args) w)
  {Y:Nat->Prop} {rows:List (List Nat)} (hseq:jpr P gf lb (Kept (fun i=>Y i\/i=w.heap.size+1)) rows w) (hps:ps.size=1)
  (hY0:¬Y w.heap.size) (hY1:¬Y (w.heap.size+1))
  (I:Nat->World->Prop) (hI:∀k A B,I k A->w.heap.size+2<=A.heap.size->Kept (fun i=>i=w.heap.size\/i=w.heap.size+1) A B->I k B)
  (h0:∀W1,zF w W1->W1.heap.size=w.heap.size+2->I 0 W1) (a₁:Value->Act)
  (hassign:∀(l:Nat) (x:Value) (W:World) (K:Act->World->Prop),K (a₁ x) W->
   assign.wpIn (Fence.wide.inRound l) 1 P (Exit.then K (fun _ _ _=>False)) {tmps:=(ps.zip #[x]).foldl (fun t (p,v)=>t.setIfInBounds p v) a.tmps,defers:=[]} W)
  (hbody:∀(l k:Nat) (A:Option Addr) (c:Nat) (p:List Nat) (W0 W:World),rows[k]? =some p->I k W0->w.heap.size+2<=W0.heap.size->Kept (fun i=>i=w.heap.size+1) W0 W->OwnB W W0.heap.size (.slice A p.length c) p->
   body.wpIn (Fence.wide.inRound l) 1 P (fun e _ W'=>e= .normal/\Kept Y W W'/\I (k+1) W') (a₁ (.slice A p.length c)) W)
  (hdone:∀W,I rows.length W->w.heap.size+2<=W.heap.size->W.heap[w.heap.size]? =some (.deferred (some []))->Q .normal {a with defers:={target:= .collected w.heap.size,args:=#[]}::a.defers} W):
  (Code.rangeFunc g ps assign body).wpIn Fence.wide 3 P Q a w:=by
 refine wpIn_rangeFunc ?_;intro fn hfn;rw[show Fence.wide.round=none from rfl];obtain⟨rec,hrec⟩:∃rec:LoopState->Option Code->Loop,rec=fun st pe=>{state:=st,pending:=pe,fn,tmps:=a.tmps,params:=ps,assign,body,defers:=w.heap.size}:=zx;obtain⟨W1,hW1⟩:∃W1,(w.alloc (.deferred (some []))).alloc (.loop (rec .ready none))=W1:=⟨_,rfl⟩;have hs1:W1.heap.size=w.heap.size+2:=by rw[<-hW1];simp
 have hb1:zF w W1:=by rw[<-hW1];exact((Below.refl _ w).alloc zl _).alloc (by simp) _
 have hL1:W1.heap[w.heap.size+1]? =some (.loop (rec .ready none)):=by
  rw[<-hW1];have:=World.alloc_heap_new (w.alloc (.deferred (some []))) (.loop (rec .ready none));rwa [World.size_alloc]at this
 have hK1:W1.heap[w.heap.size]? =some (.deferred (some [])):=by
  rw[<-hW1];exact(Below.heap_alloc _ _ _ (by simp)).trans (World.alloc_heap_new w _)
 refine⟨w.heap.size+1,[{target:= .collected w.heap.size,args:=#[]}],W1,{target:= .fn (.func gf) lb,args:=#[.func (.yield (w.heap.size+1)) #[] #[]]},W1,gf,
  #[.func (.yield (w.heap.size+1)) #[] #[]]++lb,W1,?_,?_,fun _ _=>trivial,?_,fun _=>by omega,?_⟩
 ·rw[<-hW1,hrec];exact run_enterLoop_outer _ _ _ _ _
 ·simp only[resolve,hg]
  simp[go_sem]
 ·simp[invoke,go_sem,eg]
 ·refine(hseq (w.heap.size+1)
   (fun k W=>I k W/\w.heap.size+2<=W.heap.size/\W.heap[w.heap.size+1]? =some (.loop (rec .ready none))/\W.heap[w.heap.size]? =some (.deferred (some [])))
   W1 hb1
   (fun k A B hs hb=>⟨hI k A B hs.1 hs.2.1 (Kept.of_below hb),Nat.le_trans hs.2.1 hb.size,(hb.block _ (by have:=hs.2.1;omega)).trans hs.2.2.1,(hb.block _ (by have:=hs.2.1;omega)).trans hs.2.2.2⟩)
   ?_ ⟨h0 W1 hb1 hs1,zv,hL1,hK1⟩).mono ?_
  ·rintro k A c p W0 W hp ⟨hi0,hsz,hl0,hk0⟩ hb ho
   have hszW:=hb.size;have hl:W.heap[w.heap.size+1]? =some (.loop (rec .ready none)):=(hb.block _ zv).trans hl0;have hk:W.heap[w.heap.size]? =some (.deferred (some [])):=(hb.block _ zv).trans hk0;have hy:=run_yield (P:=P) (args:=#[.slice A p.length c]) hl (by rw[hrec];exact hps.symm);rw[hrec]at hy;obtain⟨Wb,hWb⟩:∃Wb,W.putObj (w.heap.size+1) (.loop {rec .ready none with state:= .busy})=Wb:=⟨_,rfl⟩
   have kb:Kept (fun i=>i=w.heap.size+1) W Wb:=by rw[<-hWb];exact Kept.putObj _ _ _
   have hszb:=kb.size;refine⟨fn,_,assign,body,hy,roundIn_of_wpIn hfn (hassign _ _ W _ ⟨Wb,by rw[<-hWb];exact run_beginRound hl (by rw[hrec]),?_⟩)⟩;have hl2:Wb.heap[w.heap.size+1]? =some (.loop {rec .ready none with state:= .busy}):=by rw[<-hWb];exact World.putObj_heap_same zv
   have hk2:Wb.heap[w.heap.size]? =some (.deferred (some [])):=(kb.block _ zv zv).trans hk;have k0b:Kept (fun i=>i=w.heap.size+1) W0 Wb:=(Kept.of_below (F:=fun i=>i=w.heap.size+1) hb).trans kb fun _ _ h=>h;refine wpIn_mono (hbody _ k A c p W0 Wb hp hi0 hsz k0b (ho.kept kb fun i h1 _ h2=>by omega)) ?_;rintro e a3 W3 ⟨rfl,k3,hi3⟩;have hsz3:=k3.size;have hl3:=(k3.block _ zv hY1).trans hl2;have hk3:=(k3.block _ zv hY0).trans hk2;have hr:(Instr.endRound (w.heap.size+1) none).run P W3= .ok (.bool true) (W3.putObj (w.heap.size+1) (.loop (rec .ready none))):=by
    have:=run_endRound (P:=P) none hl3;rw[hrec]at this⊢;exact this
   have k4:=Kept.putObj W3 (w.heap.size+1) (.loop (rec .ready none));refine⟨_,_,hr,?_⟩;refine⟨rfl,⟨hI _ _ _ hi3 zv (k4.more fun _ _ h=> .inr h),by rw[World.putObj_size];omega,World.putObj_heap_same zv,(World.putObj_heap_other zv).trans hk3⟩,?_⟩;exact(((kb.more fun _ _ h=> .inr h).trans k3 fun _ _ h=> .inl h).trans k4 fun _ _ h=> .inr h)
  ·rintro e W2 ⟨⟨v,rfl⟩,hi,hsz,hl,hk⟩
   refine⟨none,_,by have:=run_endLoop (P:=P) hl (by rw[hrec];simp);rw[hrec]at this;exact this,?_⟩;have k4:=Kept.putObj W2 (w.heap.size+1) (.loop {rec .ready none with state:= .exhausted})
   rw[hrec]at k4;exact hdone _ (hI _ _ _ hi hsz (k4.more fun _ _ h=> .inr h)) (by rw[World.putObj_size];exact hsz) ((World.putObj_heap_other zv).trans hk)
open Fr
def jhs(l:List Nat)(w:World)(e:Ending)(w':World):Prop:=
 ∃A c,e= .returned (.tuple #[.slice A (scan l).1.length c,.int .i64 (((scan l).2.1:Nat):Int),.int .i64 (((scan l).2.2:Nat):Int)])/\OwnS w' w.heap.size (.slice A (scan l).1.length c) (scan l).1/\zF w w'
theorem jhs.mk{l:List Nat}{w w':World}{v:Value}{x y:Int}{ps:List (List Nat)}{k z:Nat}(hs:scan l=(ps,k,z))(h:OwnS w' w.heap.size v ps)(hx:x=(k:Nat))(hy:y=(z:Nat))(hb:zF w w'):jhs l w (.returned (.tuple #[v,.int .i64 x,.int .i64 y])) w':=by
 obtain⟨A,c,rfl,_⟩:=h.sls;subst hx hy;unfold jhs;rw[hs];exact⟨A,c,rfl,h,hb⟩
def Far(l:List Nat)(k:Nat)(ps:List (List Nat)):Prop:=scan l=(ps++(scan (l.drop k)).1,k+(scan (l.drop k)).2.1,(scan (l.drop k)).2.2)
theorem Far.start(l:List Nat):Far l 0 []:=by unfold Far;simp
theorem Far.stop{l:List Nat}{k:Nat}{ps:List (List Nat)}(h:Far l k ps)(hk:k=l.length):scan l=(ps,k,0):=by
 unfold Far at h;rw[hk,List.drop_length,scan_nil]at h;rw[h,hk];simp
theorem Far.no{l:List Nat}{k:Nat}{ps:List (List Nat)}(h:Far l k ps)(hk:k<l.length)(he:gE (l.drop k)≠0):scan l=(ps,k,gE (l.drop k)):=by
 unfold Far at h;have h0:l.drop k≠[]:=fun e=>by have:=congrArg List.length e;simp at this;omega
 rw[scan_no h0 he]at h;rw[h];simp
theorem Far.yes{l:List Nat}{k:Nat}{ps:List (List Nat)}(h:Far l k ps)(he:gE (l.drop k)=0):Far l (k+whole (l.drop k)) (ps++[gP (l.drop k)]):=by
 unfold Far at*;rw[scan_yes he,List.drop_drop]at h;rw[h];simp;omega
def FJat(w:World)(A:Option Addr)(n c:Nat)(l:List Nat)(a':Act)(w':World):Prop:=
 ∃(k:Nat) (v:Value) (ps:List (List Nat)) (u7 u8 u9 u10 u11 u12 u13 u14 u15 u16 u17 u18 u19 u20 u21 u22 u23 u24 u25 u26 u27 u28 u29 u30 u31 u32 u33 u34 u35:Value),a'={tmps:=#[.slice A n c,undef,.slice none 0 0,zi,zi,v,.int .i64 (k:Int),u7,u8,u9,u10,u11,u12,u13,u14,u15,u16,u17,u18,u19,u20,u21,u22,u23,u24,u25,u26,u27,u28,u29,u30,u31,u32,u33,u34,u35],defers:=[]}/\k<=n/\ps.length<=k/\OwnS w' w.heap.size v ps/\zF w w'/\Far l k ps
theorem jps(n c:Nat)(A:Option Addr)(l:List Nat)(w:World)(h:Sl w A n c l)(hn:n<=1000000000):
  Calls Tryz.prog 113 #[.slice A n c] w (jhs l w):=by
 have hlen:=h.len;have hcap:=h.cap;have hmax:=h.max;unfold maxLen at hmax;have H:=zh h;clear h;have HN:=zh hlen;clear hlen;go_in;go_wp2;refine jd5 0 (FJat w A n c l) (fun a' _=>n -(intOf (a'.tmps.getD 6 undef)).toNat) rfl ?_ ?_
 ·intro key
  go_wp2;go_step3;rename_i K hK;refine hK _ _ (key _ _ ?_);exact⟨0,_,[],_,_,_,_,_,_,_,_,_,_,_,_,_,_,_,_,_,_,_,_,_,_,_,_,_,_,_,_,_,rfl,zv,by simp,OwnS.none_ _ _,zD,Far.start l⟩
 ·rintro a' w' ⟨k,v,ps,u7,u8,u9,u10,u11,u12,u13,u14,u15,u16,u17,u18,u19,u20,u21,u22,u23,u24,u25,u26,u27,u28,u29,u30,u31,u32,u33,u34,u35,rfl,hk,hpk,ho,hb,hf⟩
  have O:=zh ho;clear ho;have B:=zh hb;clear hb;have F:=zh hf;clear hf;by_cases hend:k=n
  ·have hs:=zh (F.o.stop (hend.trans HN.o))
   subst hend;go_wp2_with fail;simp only[Exit.jump];go_ret3;exact jhs.mk hs.o O.o rfl rfl B.o
  ·have hlt:k<n:=by omega
   have hne:((k:Int)==(n:Int))=false:=by rw[zq];omega
   have hck:¬c=k:=by omega
   have HD:=zh ((H.o.drop (k:=k) zv hck).on B.o);have hnk:n -k<=1000000000:=by omega
   have HP:Hid (gE (l.drop k)≠0->scan l=(ps,k,gE (l.drop k))):=fun he=>F.o.no (by rw[<-HN.o];exact hlt) he;have HY:Hid (gE (l.drop k)=0->Far l (k+whole (l.drop k)) (ps++[gP (l.drop k)])):=fun he=>F.o.yes he;have HZ:Hid (gE (l.drop k)=0->7<=whole (l.drop k)/\k+whole (l.drop k)<=n):=fun he=>by
    have h1:=gE_zero he;have h2:=h1.2.2.1;rw[List.length_drop,<-HN.o]at h2;exact⟨h1.1,zv⟩
   have HX:Hid (gE (l.drop k)=0->gN (l.drop k)=whole (l.drop k)):=fun he=>(jkw he).2;generalize l.drop k=d at*;clear hend;go_wp2_with fail;have C:=zh (jmg _ _ _ d w' HD.o hnk)
   refine C.o.mono ?_
   rintro e w2 ⟨A2,c2,rfl,ho2,hb2⟩;have O2:=zh ho2;clear ho2;have OO:=zh (O.o.below hb2);have B2:=zh (B.o.trans (hb2.mono B.o.size));clear hb2;have HF:Hid (0<(gP d).length->∀a,A2=some a->v.ownBlock≠some a.block):=fun _ a ha e2=>by
    have h1:=O2.o.from_ a ha;have h2:=(O.o.base a.block e2).2;omega
   obtain⟨p,hp⟩:∃p,p=gP d:=zx;rw[<-hp]at O2 HF HY⊢;clear hp C;by_cases he:gE d=0
   ·have G:=zh (HY.o he)
    have HW:=zh (HZ.o he);rw[he,HX.o he];have hw1:=HW.o.1;have hw2:=HW.o.2;clear he HP HY HZ HX;generalize whole d=W at*;clear HW;have hpl:ps.length<=3000000000:=by omega
    go_wp2_with(at_builtin;refine jcx rfl (.tmp 29) (.tmp 31) rfl w.heap.size v ps rfl OO.o A2 p.length c2 p O2.o.sls rfl HF.o hpl B2.o.size ?_;intro v3 w3 ho3 hb3;have O3:=zh ho3;have B3:=zh hb3;clear ho3 hb3);go_step3;refine⟨rfl,⟨k+W,v3,ps++[p],_,_,_,_,_,_,_,_,_,_,_,_,_,_,_,_,_,_,_,_,_,_,_,_,_,_,_,_,_,rfl,hw2,by rw[zA];simp;omega,O3.o,B2.o.trans B3.o,G.o⟩,?_⟩;simp[intOf];omega
   ·have HS:=zh (HP.o he)
    have hee:(((gE d:Nat):Int) !=0)=true:=by rw[bne_iff_ne];omega
    clear he HP HY HZ HX;generalize gE d=ee at*;generalize gN d=nn at*;go_wp2_with fail;simp only[Exit.jump];go_ret3;exact jhs.mk HS.o OO.o rfl rfl B2.o
end Go.Proofs.YtkinlcfhojjalaaGreatDoor
namespace Go.Proofs.YtkinlcfhojjalaaGreatDoor
open Go.RowKit Go.Shelf Fr
attribute [local go_sem] Oper.semAt_some
theorem jji{W W':World}{a:Addr}(h:W'.heap[a.block]? =W.heap[a.block]?):W'.cell? a=W.cell? a:=by unfold World.cell?;rw[h]
theorem Sl.held{w w':World}{A:Option Addr}{n c:Nat}{l:List Nat}(h:Sl w A n c l)(hs:w.heap.size<=w'.heap.size)(hb:∀a,A=some a->w'.heap[a.block]? =w.heap[a.block]?):Sl w' A n c l:=
 ⟨⟨h.rd.1,fun hl=>by
  obtain⟨b,o,e,hbb,hc⟩:=h.rd.2 hl;exact⟨b,o,e,Nat.lt_of_lt_of_le hbb hs,fun j hj=>(jji (a:=⟨b,o+j,none⟩) (hb ⟨b,o,none⟩ e)).trans (hc j hj)⟩⟩,h.len,h.cap,h.max,h.nil⟩
theorem Far.prefix{l:List Nat}{k:Nat}{ps:List (List Nat)}(h:Far l k ps)(he:gE (l.drop k)=0):(scan l).1[ps.length]? =some (gP (l.drop k)):=by
 have h2:=h.yes he;unfold Far at h2;rw[h2];simp
def lenOf:Value->Nat
 | .slice _ n _=>n
 |_=>0
theorem jfq(n c:Nat)(A:Option Addr)(w:World):
  Calls Tryz.prog 90 #[.slice A n c] w fun e w'=>e= .returned (.func (.func 144) #[] #[.pointer (some ⟨w.heap.size,0,none⟩)])/\w'=w.alloc (.cells #[.slice A n c] 50):=by
 go_in;go_wp2;go_ret;exact⟨rfl,rfl⟩
theorem jet(n c:Nat)(A:Option Addr)(l:List Nat)(w:World)(g:Nat)(h:Sl w A n c l)(hbox:w.heap[g]? =some (.cells #[.slice A n c] 50 (0,0)))(hn:n<=1000000000)(Z:Nat->Prop)(hZ:0<l.length->∀a,A=some a->¬Z a.block):
  jpr Tryz.prog 144 #[.pointer (some ⟨g,0,none⟩)] (Kept Z) (scan l).1 w:=by
 intro y J W hW hJ hY h0;have hc0:W.cell? ⟨g,0,none⟩=some (.slice A n c):=by
  rw[cell_of_row W g 0 _ _ _ ((hW.block g (zg hbox).1).trans hbox)];rfl
 have HS:=zh (h.on hW);have HJ:=zh hJ;have HY:=zh hY;have HK:=zh hZ;have HB:Hid (0<l.length->∀a,A=some a->a.block<W.heap.size):=fun hl a ha=>Nat.lt_of_lt_of_le (h.block hl a ha) hW.size;have H0:=zh h0;clear h hbox hW hJ hY hZ h0;refine callsIn_of_wp Tryz.func144 rfl trivial ?_ rfl;simp only[Tryz.ntmps144,List.size_toArray,List.length_cons,List.length_nil,Nat.reduceAdd,Nat.reduceSub,Array.replicate_succ,Array.replicate_zero,List.push_toArray,List.append_toArray,List.nil_append,List.cons_append]
 gi_wp2_with fail
 gi_loopw [3] (fun p wr=>∃(k:Nat) (ps:List (List Nat)) (A':Option Addr) (n' c':Nat),p= .slice A' n' c'/\Sl wr A' n' c' (l.drop k)/\(∀a',A'=some a'->∃a,A=some a/\a'.block=a.block)/\Far l k ps/\J ps.length wr/\n'<=n/\k<=l.length/\W.heap.size<=wr.heap.size)
  (fun p _=>lenOf p)
 case atStart=>
  exact⟨0,[],A,n,c,rfl,HS.o,fun a' e=>⟨a',e,rfl⟩,Far.start l,H0.o,zl,Nat.zero_le _,zl⟩
 case round=>
  obtain⟨k,ps,A',n',c',rfl,hs,hA,hf,hj,hn',hkl,hWs⟩:=hrel;have H:=zh hs;clear hs;have HA:=zh hA;clear hA;have F:=zh hf;clear hf;have JJ:=zh hj;clear hj;by_cases hz:n'=0
  ·subst hz
   have hk:k=l.length:=by have:=H.o.len;rw[List.length_drop]at this;omega
   have HE:=zh (F.o.stop hk);clear hk
   gi_wp2_with fail
   go_end0;exact⟨⟨_,rfl⟩,by rw[HE.o];exact JJ.o⟩
  ·have hnz:(0:Int)<(n':Int):=by omega
   have hkl':Hid (k<l.length):=by have:=H.o.len;rw[List.length_drop]at this;show _<_;omega
   have HP:Hid (gE (l.drop k)≠0->scan l=(ps,k,gE (l.drop k))):=fun he=>F.o.no hkl'.o he;have HX:Hid (gE (l.drop k)=0->Far l (k+whole (l.drop k)) (ps++[gP (l.drop k)])/\(scan l).1[ps.length]? =some (gP (l.drop k))/\gN (l.drop k)=whole (l.drop k)/\7<=whole (l.drop k)/\whole (l.drop k)<=n'/\k+whole (l.drop k)<=l.length):=fun he=>by
    have h1:=gE_zero he;have h2:=h1.2.2.1;have h3:=H.o.len;have h4:=h2;rw[List.length_drop]at h4;exact⟨F.o.yes he,F.o.prefix he,(jkw he).2,h1.1,zv,zv⟩
   have HD:Hid (∀m,l.drop (k+m)=(l.drop k).drop m):=fun m=>by rw[List.drop_drop]
   have C:=zh (jmg _ _ _ (l.drop k) wr H.o zv);generalize l.drop k=d at*
   gi_wp2_with fail
   refine⟨trivial,callsIn_wide.2 ?_⟩
   refine C.o.mono ?_
   rintro e w2 ⟨A2,c2,rfl,ho2,hb2⟩;by_cases he:gE d=0
   ·obtain⟨hf2,hat,hN,h7,hle,hkw⟩:=HX.o he
    have F2:=zh hf2;obtain⟨fn,tmps,assign,body,hy,hR⟩:=HY.o ps.length A2 c2 (gP d) wr w2 hat JJ.o hb2 ho2;have R:=zh hR;have H2:=zh (H.o.on hb2);have hWs2:=hb2.size;rw[hN,he];clear hR hf2 hat hN ho2 hb2 HP HX C he;generalize gP d=p at*;generalize whole d=m at*
    gi_wp2_with fail
    refine R.o.mono ?_;rintro e W3 ⟨rfl,hj3,hk3⟩;have hz3:W.heap.size<=W3.heap.size:=Nat.le_trans (Nat.le_trans hWs hWs2) hk3.size;have H3:=zh (H2.o.held hk3.size (fun a' ha'=>by
     obtain⟨a,e1,e2⟩:=HA.o a' ha';have h0:0<l.length:=by have:=hkl'.o;omega
     rw[e2];exact hk3.block _ (by have:=HB.o h0 a e1;omega) (HK.o h0 a e1)))
    have J3:=zh hj3;have hcap:=H3.o.cap;have hmax:=H3.o.max;unfold maxLen at hmax;clear hj3 hk3 R hy;by_cases hcm:c'=m
    ·have S4:=zh (H3.o.dropAll hle hcm)
     obtain rfl:n'=m:=by omega
     gi_wp2_with fail
     go_roundw
     case rel=>exact⟨k+n',ps++[p],A',n' -n',c' -n',by rw[hcm];simp,by rw[HD.o];exact S4.o,HA.o,F2.o,by rw[zA];exact J3.o,zv,hkw,hz3⟩
     case measure=>simp[lenOf];omega
    ·have S4:=zh (H3.o.drop hle hcm)
     gi_wp2_with fail
     go_roundw
     case rel=>exact⟨k+m,ps++[p],_,_,_,rfl,by rw[HD.o];exact S4.o,fun a' ha'=>by
      obtain⟨x,hx,rfl⟩:=Option.map_eq_some_iff.1 ha';obtain⟨a,e1,e2⟩:=HA.o x hx;refine⟨a,e1,?_⟩;rw[<-e2];unfold Addr.add;split<;>rfl,F2.o,by rw[zA];exact J3.o,zv,hkw,hz3⟩
     case measure=>simp[lenOf];omega
   ·have HS2:=zh (HP.o he)
    have hee:(((gE d:Nat):Int) !=0)=true:=by rw[bne_iff_ne];omega
    have J2:=zh (HJ.o _ _ _ JJ.o hb2);clear he HP HX C;generalize gE d=ee at*;generalize gN d=nn at*
    gi_wp2_with fail
    refine⟨fun _ h=>(by cases h),?_⟩
    gi_wp2_with fail
    refine bodyPost_ret (results_none rfl _ _ _) rfl ?_;exact⟨⟨_,rfl⟩,by rw[HS2.o];exact J2.o⟩
theorem jht(n c:Nat)(A:Option Addr)(l:List Nat)(w:World)(h:Sl w A n c l)(hn:n<=1000000000):
  Calls Tryz.prog 52 #[.slice A n c] w (jd8 w (.int .i64 (((scan l).1.length:Nat):Int))):=by
 refine(callsIn_wide (n:=3)).1 ?_;refine callsIn_of_wp_marks Tryz.func52 rfl trivial ?_ rfl;simp only[Tryz.ntmps52,List.size_toArray,List.length_cons,List.length_nil,Nat.reduceAdd,Nat.reduceSub,Array.replicate_succ,Array.replicate_zero,List.push_toArray,List.append_toArray,List.nil_append,List.cons_append];have hcount:(scan l).1.length<=1000000000:=Nat.le_trans (scan_count l) (by rw[<-h.len];exact hn)
 gi_wp2_with fail
 refine⟨trivial,callsIn_wide.2 ?_⟩;refine(jfq n c A _).mono ?_;rintro e w1 ⟨rfl,rfl⟩
 gi_wp2_with fail
 have hb1:=(Below.refl w.heap.size w).alloc zl (.cells #[zi] 3);have hb2:=hb1.alloc (by simp) (.cells #[.slice A n c] 50);have hsz:((w.alloc (.cells #[zi] 3)).alloc (.cells #[.slice A n c] 50)).heap.size=w.heap.size+2:=by simp
 have hbox:=heap_alloc_new (w.alloc (.cells #[zi] 3)) (.cells #[.slice A n c] 50);have hcell:=(Below.heap_alloc (w.alloc (.cells #[zi] 3)) (.cells #[.slice A n c] 50) w.heap.size (by simp)).trans (heap_alloc_new w (.cells #[zi] 3));rw[show(w.alloc (.cells #[zi] 3)).heap.size=w.heap.size+1 from by simp]at hbox;have S:=zh (h.on hb2);have HB:Hid (0<l.length->∀a,A=some a->a.block<w.heap.size):=h.block;generalize(w.alloc (.cells #[zi] 3)).alloc (.cells #[.slice A n c] 50)=W0 at*;refine jdb (gf:=144) (lb:=#[.pointer (some ⟨w.heap.size+1,0,none⟩)]) rfl (enters_of Tryz.func144 zk rfl) (Y:=fun i=>i=w.heap.size)
  (jet n c A l W0 _ S.o hbox hn _ (fun h0 a ha hz=>by have:=HB.o h0 a ha;omega)) rfl zv zv
  (fun k W=>W.heap[w.heap.size]? =some (.cells #[.int .i64 (k:Nat)] 3 (0,0))/\zF w W) ?inv ?start
  (fun v=>{tmps:=#[.slice A n c,undef,zi,.pointer (some ⟨w.heap.size,0,none⟩),.slice A n c,.func (.func 144) #[] #[.pointer (some ⟨w.heap.size+1,0,none⟩)],v,undef,undef,undef],defers:=[]}) ?assign ?body ?done
 case inv=>
  rintro k X Y ⟨h1,h2⟩ hX hK;exact⟨(hK.block _ (zg h1).1 zv).trans h1,h2.trans (hK.below h2.size (fun i hi=>by omega))⟩
 case start=>
  intro W1 hb hz;exact⟨(hb.block _ zv).trans hcell,hb2.trans (hb.mono hb2.size)⟩
 case assign=>
  intro y x W K hK
  gi_wp2
  simpa using hK
 case body=>
  rintro y k A' c' p V0 V hp ⟨h1,h2⟩ hz0 hk ho;have hk1:(k:Int)<1000000000:=by have:=(List.getElem?_eq_some_iff.1 hp).1;omega
  have h3:=(hk.block w.heap.size (zg h1).1 zv).trans h1;have b3:=zh (h2.trans (hk.below h2.size (fun i hi=>by omega)));have hc:V.cell? ⟨w.heap.size,0,none⟩=some (.int .i64 (k:Nat)):=by rw[cell_of_row V w.heap.size 0 _ _ _ h3];rfl
  have hfz:=frozen_of_row V w.heap.size 0 _ _ h3;have H3:=zh h3;clear h1 h2 hp h3 ho hk
  gi_wp2_with fail
  exact⟨Kept.of_grown (jad _ _ _ _) (fun i hi=>by injection hi with hi;exact hi.symm),heap_setCell_same _ _ 0 _ _ _ H3.o,b3.o.setCell (p:=⟨w.heap.size,0,none⟩) zl _⟩
 case done=>
  rintro V ⟨h1,h2⟩ hz hd;have hc:V.cell? ⟨w.heap.size,0,none⟩=some (.int .i64 ((scan l).1.length:Nat)):=by rw[cell_of_row V w.heap.size 0 _ _ _ h1];rfl
  generalize(scan l).1.length=m at*
  gi_wp2_with fail
  refine⟨by simp,.inl ⟨_,_,rfl,run_takeDeferred hd,?_⟩⟩;exact⟨_,results_tmp rfl _ _ _,rfl,h2.trans ((Kept.putObj V W0.heap.size _).below zv (fun i hi=>by omega))⟩
