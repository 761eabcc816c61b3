import Derived.Test.YtkinlcfhojjalaaGreatDoorQz02
import Derived.Lib.AppendStr
set_option maxHeartbeats 6400000
set_option maxRecDepth 100000
set_option linter.all false
namespace Go.Proofs.YtkinlcfhojjalaaGreatDoor
open Go.RowKit
namespace Jn
open Fr
theorem scan_gives(b:List Nat)(hb:∀x∈b,x<256):(∀p∈(scan b).1,ok p)/\(scan b).2.1<=b.length/\b.take (scan b).2.1=all (scan b).1:=by
 obtain⟨n,hn⟩:∃n,b.length<=n:=⟨_,zl⟩
 induction n generalizing b with
 |zero=>
  have:b=[]:=List.eq_nil_of_length_eq_zero zv;subst this;rw[scan_nil];simp[all_nil]
 |succ n ih=>
  by_cases h0:b=[]
  ·subst h0;rw[scan_nil];simp[all_nil]
  ·by_cases h:gE b=0
   ·obtain⟨h7,h1006,hle,hnum,hgood⟩:=gE_zero h
    obtain⟨i1,i2,i3⟩:=ih (b.drop (whole b)) (fun x hx=>hb x (List.mem_of_mem_drop hx)) (by rw[List.length_drop];omega);rw[List.length_drop]at i2;rw[scan_yes h];have hP:gP b=(b.take (whole b -4)).drop 2:=by unfold gP;rw[if_pos h]
    have hf:fr (gP b)=b.take (whole b):=by rw[hP];exact(same_fr hb zv).2 hgood
    have hl:=gP_length h;refine⟨?_,?_,?_⟩
    ·intro p hp
     rcases List.mem_cons.1 hp with rfl|hp
     ·exact⟨zv,zv,gP_byte hb⟩
     ·exact i1 p hp
    ·show whole b+_<=_
     omega
    ·show b.take (whole b+_)=_
     rw[all_cons,List.take_add,hf,i3]
   ·rw[scan_no h0 h];simp[all_nil]
def cutN(d:Dk.St):Nat:=(scan d.l).2.1
def opened(d:Dk.St):Dk.St:=Dk.leave d (cutN d)
def ents(d:Dk.St):List (List Nat):=(scan d.l).1
def safeN(d:Dk.St):Nat:=(scan (d.l.take d.safe)).1.length
def app(d:Dk.St)(p:List Nat):Dk.St:=if putE p≠0 then d else Dk.write d (fr p)
def appE(d:Dk.St)(p:List Nat):Int:=if putE p≠0 then(putE p:Nat)else Dk.writeE d (fr p)
def keptN(p:List Nat)(keep:Int):Nat:=(min (max keep 0) ((fr p).length:Nat)).toNat
def torn(d:Dk.St)(p:List Nat)(keep:Int):Dk.St:=if appE d p≠0 then d else opened (Dk.sync (Dk.write d ((fr p).take (keptN p keep))))
def tornE(d:Dk.St)(p:List Nat):Int:=if appE d p≠0 then appE d p else 13
def crash(d:Dk.St)(keep:Int):Dk.St:=opened (Dk.crash d keep)
def lost(d:Dk.St)(keep:Int):Int:=((ents d).length:Nat) -((ents (crash d keep)).length:Nat)
def bad:List (List Nat)->Nat
 |[]=>0
 |p::ps=>if putE p≠0 then putE p else bad ps
def swap(d:Dk.St)(ps:List (List Nat)):Dk.St:=if bad ps≠0 then d else Dk.swap d (all ps)
def swapE(d:Dk.St)(ps:List (List Nat)):Int:=if bad ps≠0 then(bad ps:Nat)else Dk.swapE d (all ps)
theorem cutN_le(d:Dk.St)(hb:∀x∈d.l,x<256):cutN d<=d.l.length:=(scan_gives d.l hb).2.1
theorem cut_opened(d:Dk.St)(hb:∀x∈d.l,x<256):Dk.cut d (cutN d:Nat)=opened d/\Dk.cutE d (cutN d:Nat)=0:=by
 have h:Dk.within d (cutN d:Nat):=⟨zv,by have:=cutN_le d hb;omega⟩;refine⟨?_,?_⟩
 ·unfold Dk.cut;rw[if_pos h,Int.toNat_natCast];rfl
 ·unfold Dk.cutE;rw[if_pos h]
theorem opened_l(d:Dk.St)(hb:∀x∈d.l,x<256):(opened d).l=all (ents d)/\(opened d).safe=(all (ents d)).length/\(opened d).room=d.room/\ents (opened d)=ents d/\∀p∈ents d,ok p:=by
 obtain⟨h1,h2,h3⟩:=scan_gives d.l hb;have hl:(opened d).l=all (ents d):=h3;refine⟨hl,?_,rfl,?_,h1⟩
 ·show(scan d.l).2.1=_
  unfold ents;rw[<-h3,List.length_take];omega
 ·show(scan (opened d).l).1=_
  rw[hl];exact congrArg (·.1) (scan_whole (ps:=ents d) h1)
def Byt(d:Dk.St):Prop:=∀x∈d.l,x<256
theorem Byt.write{d:Dk.St}(h:Byt d){b:List Nat}(hb:∀x∈b,x<256):Byt (Dk.write d b):=by
 unfold Dk.write;split
 ·intro x hx
  rcases List.mem_append.1 hx with hx|hx
  ·exact h x hx
  ·exact hb x hx
 ·exact h
theorem Byt.sync{d:Dk.St}(h:Byt d):Byt (Dk.sync d):=h
theorem bad_at{ls:List (List Nat)}{m:Nat}(h:∀j,j<m->putE (ls.getD j [])=0)(hm:m<ls.length)(he:putE (ls.getD m [])≠0):bad ls=putE (ls.getD m []):=by
 induction ls generalizing m with
 |nil=>simp at hm
 |cons p ps ih=>
  rcases m with _|m
  ·simp only[List.getD_cons_zero]at he⊢
   unfold bad;rw[if_pos he]
  ·have h0:=h 0 zv
   simp only[List.getD_cons_zero]at h0;unfold bad;rw[if_neg zv,List.getD_cons_succ];rw[List.getD_cons_succ]at he;exact ih (fun j hj=>by have:=h (j+1) zv;rwa [List.getD_cons_succ]at this) (by simpa using hm) he
theorem bad_none{ls:List (List Nat)}(h:∀j,j<ls.length->putE (ls.getD j [])=0):bad ls=0:=by
 induction ls with
 |nil=>rfl
 |cons p ps ih=>
  have h0:=h 0 (by simp);simp only[List.getD_cons_zero]at h0;unfold bad;rw[if_neg zv];exact ih fun j hj=>by have:=h (j+1) (by simp;omega);rwa [List.getD_cons_succ]at this
theorem put_ok{p:List Nat}(h:putE p=0):p.length≠0/\p.length<=1000:=by
 unfold putE at h;split at h
 ·omega
 ·split at h<;>omega
theorem all_len{ls:List (List Nat)}{m:Nat}(hm:m<=ls.length)(h:∀j,j<m->putE (ls.getD j [])=0):(all (ls.take m)).length<=1006*m:=by
 induction m with
 |zero=>simp[all_nil]
 |succ m ih=>
  have:=ih zv fun j hj=>h j zv;rw[all_take_snoc zv,zA,fr_length];have:=put_ok (h m zv);omega
end Jn
namespace Jn
open Fr
def Js(R k:Nat)(ps:List (List Nat)):Dk.St:=⟨R,(all (ps.take k)).length,all ps⟩
theorem putE_ok{p:List Nat}(h:ok p):putE p=0:=by unfold putE;rw[if_neg (by have:=h.1;omega),if_neg (by have:=h.2.1;omega)]
theorem all_front(ps:List (List Nat))(k:Nat):(all ps).take (all (ps.take k)).length=all (ps.take k):=by
 conv=>lhs;rw[<-List.take_append_drop k ps,all_append]
 rw[List.take_append_drop,List.take_left'];rfl
section
variable{R k:Nat}{ps:List (List Nat)}(h:∀p∈ps,ok p)(hk:k<=ps.length)
include h
theorem js_ents:ents (Js R k ps)=ps:=by unfold ents Js;rw[scan_whole h]
theorem js_byt:Byt (Js R k ps):=all_byte h
include hk in
theorem js_safe:safeN (Js R k ps)=k:=by
 unfold safeN Js;show(scan ((all ps).take (all (ps.take k)).length)).1.length=k;rw[all_front,scan_whole (fun p hp=>h p (List.mem_of_mem_take hp)),List.length_take];omega
omit h in
include hk in
theorem js_app{p:List Nat}(hp:ok p)(hr:(all ps).length+(p.length+6)<=R):app (Js R k ps) p=Js R k (ps++[p])/\appE (Js R k ps) p=0:=by
 have hg:Dk.goes (Js R k ps) (fr p):=by unfold Dk.goes Js;rw[fr_length];exact hr
 unfold app appE;rw[if_neg (by rw[putE_ok hp];decide),if_neg (by rw[putE_ok hp];decide)];unfold Dk.write Dk.writeE;rw[if_pos hg,if_pos hg];refine⟨?_,rfl⟩;unfold Js;rw[List.take_append_of_le_length hk,all_append,all_one]
omit h in
theorem js_sync:Dk.sync (Js R k ps)=Js R ps.length ps:=by unfold Dk.sync Js;rw[List.take_length]
omit h in
theorem js_swap{qs:List (List Nat)}(hq:∀p∈qs,ok p)(hr:(all qs).length<=R):swap (Js R k ps) qs=Js R qs.length qs/\swapE (Js R k ps) qs=0:=by
 have hb:bad qs=0:=bad_none fun j hj=>by
  rw[List.getD_eq_getElem?_getD,List.getElem?_eq_getElem hj];exact putE_ok (hq _ (List.getElem_mem hj))
 unfold swap swapE;rw[if_neg zv,if_neg zv];unfold Dk.swap Dk.swapE;rw[if_pos (show(all qs).length<=(Js R k ps).room from hr),if_pos (show(all qs).length<=(Js R k ps).room from hr)];refine⟨?_,rfl⟩;unfold Js;rw[List.take_length]
include hk in
theorem js_torn{p:List Nat}(hp:ok p)(hr:(all ps).length+(p.length+6)<=R)(keep:Int):
  torn (Js R k ps) p keep=(if(p.length+6:Nat)<=keep then Js R (ps.length+1) (ps++[p])else Js R ps.length ps)/\tornE (Js R k ps) p=13:=by
 have he:=(js_app (k:=k) hk hp hr).2;unfold torn tornE;have hne:¬appE (Js R k ps) p≠0:=fun hx=>hx he;rw[if_neg hne,if_neg hne];refine⟨?_,rfl⟩;have hm:keptN p keep<=p.length+6:=by unfold keptN;rw[fr_length];omega
 have hg:Dk.goes (Js R k ps) ((fr p).take (keptN p keep)):=by
  unfold Dk.goes Js;rw[List.length_take,fr_length];show(all ps).length+_<=R;omega
 have hl:Dk.sync (Dk.write (Js R k ps) ((fr p).take (keptN p keep)))=⟨R,((all ps)++(fr p).take (keptN p keep)).length,(all ps)++(fr p).take (keptN p keep)⟩:=by
  unfold Dk.write;rw[if_pos hg];rfl
 rw[hl];unfold opened cutN Dk.leave;show(⟨R,(scan (all ps++(fr p).take (keptN p keep))).2.1,(all ps++(fr p).take (keptN p keep)).take (scan (all ps++(fr p).take (keptN p keep))).2.1⟩:Dk.St)=_;rw[scan_all h];by_cases hc:((p.length+6:Nat):Int)<=keep
 ·rw[if_pos hc]
  have e1:keptN p keep=p.length+6:=by unfold keptN;rw[fr_length];omega
  have e2:(fr p).take (keptN p keep)=fr p:=by rw[e1];exact List.take_of_length_le (by rw[fr_length];omega)
  have e3:scan (fr p)=([p],p.length+6,0):=by have:=scan_whole (ps:=[p]) (by simpa using hp);rw[all_one]at this;rw[this,fr_length]
  rw[e2,e3];unfold Js;have e4:(ps++[p]).take (ps.length+1)=ps++[p]:=List.take_of_length_le (by simp);rw[e4,all_append,all_one];show(⟨R,(all ps).length+(p.length+6),(all ps++fr p).take ((all ps).length+(p.length+6))⟩:Dk.St)=_;rw[List.take_of_length_le (by rw[zA,fr_length];omega),zA,fr_length]
 ·rw[if_neg hc]
  have e1:keptN p keep<p.length+6:=by unfold keptN;rw[fr_length];omega
  rw[scan_cut hp e1];unfold Js;show(⟨R,(all ps).length+0,(all ps++(fr p).take (keptN p keep)).take ((all ps).length+0)⟩:Dk.St)=_;rw[Nat.add_zero,List.take_left',List.take_length];rfl
end
end Jn
end Go.Proofs.YtkinlcfhojjalaaGreatDoor
namespace Go.Proofs.YtkinlcfhojjalaaGreatDoor
namespace Spc
structure Sp where
 v:Int
 d:Int
 u:Int
 n:Int
 g:Int
 a:Int
 b:Int
 c:Int
 e:Int
 w:Int
 x:Int
 k:Int
def zero:Sp:=⟨0,0,0,0,0,0,0,0,0,0,0,0⟩
def flds(s:Sp):List Int:=[s.v,s.d,s.u,s.n,s.g,s.a,s.b,s.c,s.e,s.w,s.x,s.k]
def i64(n:Int):Prop:= -9223372036854775808<=n/\n<=9223372036854775807
def In(s:Sp):Prop:=∀n∈flds s,i64 n
theorem flds_length(s:Sp):(flds s).length=12:=rfl
theorem flds_inj{s t:Sp}(h:flds s=flds t):s=t:=by
 cases s;cases t
 simp only[flds,List.cons.injEq,and_true]at h;obtain⟨h1,h2,h3,h4,h5,h6,h7,h8,h9,h10,h11,h12⟩:=h;subst h1 h2 h3 h4 h5 h6 h7 h8 h9 h10 h11 h12;rfl
def of(l:List Int):Sp:=⟨l.getD 0 0,l.getD 1 0,l.getD 2 0,l.getD 3 0,l.getD 4 0,l.getD 5 0,l.getD 6 0,l.getD 7 0,l.getD 8 0,l.getD 9 0,l.getD 10 0,l.getD 11 0⟩
theorem of_flds(s:Sp):of (flds s)=s:=rfl
theorem flds_of{l:List Int}(h:l.length=12):flds (of l)=l:=by
 match l,h with
 |[_,_,_,_,_,_,_,_,_,_,_,_],_=>rfl
def inn(n lo hi:Int):Bool:=decide (lo<=n)&&decide (n<=hi)
def at_(s:Sp)(i:Nat):Int:=[s.a,s.b,s.c,s.e].getD i 0
def st(s:Sp)(i:Nat):Bool:=
 if s.g≠0 then decide (at_ s i=0)else if i=0 then inn s.a 1 100 else decide (at_ s i=0)|| (decide (0<at_ s (i -1))&&inn (at_ s i) (at_ s (i -1)+1) 100)
def chk(s:Sp):Nat:=
 if !inn s.v 1 1048576 then 1 else if !inn s.d 1 16 then 2 else if !inn s.u 0 (16 -s.d)then 3
 else if !inn s.n 0 s.d|| (decide (s.n=0)&&decide (s.u=0))then 4 else if !inn s.g 0 2|| (decide (s.g=2)&&decide (s.u<s.d))then 5
 else if !st s 0 then 6 else if !st s 1 then 7 else if !st s 2 then 8 else if !st s 3 then 9
 else if !inn s.w 1 1048576 then 10 else if !inn s.x 0 1048576 then 11 else if !inn s.k 1 1048576 then 12 else 0
def chkE(s:Sp):Int:=if chk s=0 then 0 else 11
theorem inn_iff{n lo hi:Int}:inn n lo hi=true↔lo<=n/\n<=hi:=by unfold inn;simp
structure May(s:Sp):Prop where
 v:1<=s.v/\s.v<=1048576
 d:1<=s.d/\s.d<=16
 u:0<=s.u/\s.u<=16 -s.d
 n:0<=s.n/\s.n<=s.d/\¬(s.n=0/\s.u=0)
 g:0<=s.g/\s.g<=2/\¬(s.g=2/\s.u<s.d)
 s0:st s 0=true
 s1:st s 1=true
 s2:st s 2=true
 s3:st s 3=true
 w:1<=s.w/\s.w<=1048576
 x:0<=s.x/\s.x<=1048576
 k:1<=s.k/\s.k<=1048576
theorem may_of{s:Sp}(h:chk s=0):May s:=by
 unfold chk at h;have h1:inn s.v 1 1048576=true:=by
  cases e:inn s.v 1 1048576 with
  |true=>rfl
  |false=>simp[e]at h
 rw[h1,if_neg (by simp)]at h;have h2:inn s.d 1 16=true:=by
  cases e:inn s.d 1 16 with
  |true=>rfl
  |false=>simp[e]at h
 rw[h2,if_neg (by simp)]at h;have h3:inn s.u 0 (16 -s.d)=true:=by
  cases e:inn s.u 0 (16 -s.d)with
  |true=>rfl
  |false=>simp[e]at h
 rw[h3,if_neg (by simp)]at h;have h4:(!inn s.n 0 s.d|| (decide (s.n=0)&&decide (s.u=0)))=false:=by
  cases e:(!inn s.n 0 s.d|| (decide (s.n=0)&&decide (s.u=0)))with
  |false=>rfl
  |true=>rw[e,if_pos rfl]at h;omega
 rw[h4,if_neg (by simp)]at h;have h5:(!inn s.g 0 2|| (decide (s.g=2)&&decide (s.u<s.d)))=false:=by
  cases e:(!inn s.g 0 2|| (decide (s.g=2)&&decide (s.u<s.d)))with
  |false=>rfl
  |true=>rw[e,if_pos rfl]at h;omega
 rw[h5,if_neg (by simp)]at h;have h6:st s 0=true:=by
  cases e:st s 0 with
  |true=>rfl
  |false=>simp[e]at h
 rw[h6,if_neg (by simp)]at h;have h7:st s 1=true:=by
  cases e:st s 1 with
  |true=>rfl
  |false=>simp[e]at h
 rw[h7,if_neg (by simp)]at h;have h8:st s 2=true:=by
  cases e:st s 2 with
  |true=>rfl
  |false=>simp[e]at h
 rw[h8,if_neg (by simp)]at h;have h9:st s 3=true:=by
  cases e:st s 3 with
  |true=>rfl
  |false=>simp[e]at h
 rw[h9,if_neg (by simp)]at h;have h10:inn s.w 1 1048576=true:=by
  cases e:inn s.w 1 1048576 with
  |true=>rfl
  |false=>simp[e]at h
 rw[h10,if_neg (by simp)]at h;have h11:inn s.x 0 1048576=true:=by
  cases e:inn s.x 0 1048576 with
  |true=>rfl
  |false=>simp[e]at h
 rw[h11,if_neg (by simp)]at h;have h12:inn s.k 1 1048576=true:=by
  cases e:inn s.k 1 1048576 with
  |true=>rfl
  |false=>simp[e]at h
 rw[Bool.or_eq_false_iff,Bool.and_eq_false_iff,decide_eq_false_iff_not,decide_eq_false_iff_not,Bool.not_eq_false']at h4 h5;have i4:=inn_iff.1 h4.1;have i5:=inn_iff.1 h5.1;exact⟨inn_iff.1 h1,inn_iff.1 h2,inn_iff.1 h3,zv,zv,h6,h7,h8,h9,inn_iff.1 h10,inn_iff.1 h11,inn_iff.1 h12⟩
theorem _root_.Go.Proofs.YtkinlcfhojjalaaGreatDoor.zz2o{p:Prop}(h:p:=by
 rw[Bool.and_eq_false_iff,decide_eq_false_iff_not,decide_eq_false_iff_not];omega):p:=h
theorem chk_of{s:Sp}(h:May s):chk s=0:=by
 obtain⟨h1,h2,h3,h4,h5,h6,h7,h8,h9,h10,h11,h12⟩:=h;unfold chk;have e1:inn s.v 1 1048576=true:=inn_iff.2 h1;have e2:inn s.d 1 16=true:=inn_iff.2 h2;have e3:inn s.u 0 (16 -s.d)=true:=inn_iff.2 h3;have e4:inn s.n 0 s.d=true:=inn_iff.2 ⟨h4.1,h4.2.1⟩;have e5:inn s.g 0 2=true:=inn_iff.2 ⟨h5.1,h5.2.1⟩;have e6:inn s.w 1 1048576=true:=inn_iff.2 h10;have e7:inn s.x 0 1048576=true:=inn_iff.2 h11;have e8:inn s.k 1 1048576=true:=inn_iff.2 h12;have f4:(decide (s.n=0)&&decide (s.u=0))=false:=by
  exact zz2o
 have f5:(decide (s.g=2)&&decide (s.u<s.d))=false:=by
  exact zz2o
 simp[e1,e2,e3,e4,e5,e6,e7,e8,f4,f5,h6,h7,h8,h9]
theorem May.canary{s:Sp}(h:May s)(hg:s.g=0):(1<=s.a/\s.a<=100)/\(s.b=0\/(s.a<s.b/\s.b<=100))/\(s.c=0\/(0<s.b/\s.b<s.c/\s.c<=100))/\(s.e=0\/(0<s.c/\s.c<s.e/\s.e<=100)):=by
 have h0:=h.s0;have h1:=h.s1;have h2:=h.s2;have h3:=h.s3;simp[st,hg,at_,inn_iff]at h0 h1 h2 h3;omega
theorem May.other{s:Sp}(h:May s)(hg:s.g≠0):s.a=0/\s.b=0/\s.c=0/\s.e=0:=by
 have h0:=h.s0;have h1:=h.s1;have h2:=h.s2;have h3:=h.s3;simp[st,hg,at_]at h0 h1 h2 h3;exact⟨h0,h1,h2,h3⟩
theorem _root_.Go.Proofs.YtkinlcfhojjalaaGreatDoor.zz32{p:Prop}(h:p:=by
 rcases hn with rfl|rfl|rfl|rfl|rfl|rfl|rfl|rfl|rfl|rfl|rfl|rfl<;>omega):p:=h
theorem May.small{s:Sp}(h:May s):∀n∈flds s,0<=n/\n<=1048576:=by
 have h1:=h.v;have h2:=h.d;have h3:=h.u;have h4:=h.n;have h5:=h.g;have h10:=h.w;have h11:=h.x;have h12:=h.k;intro n hn;simp only[flds,List.mem_cons,List.not_mem_nil,or_false]at hn;by_cases hg:s.g=0
 ·have:=h.canary hg
  exact zz32
 ·have:=h.other hg
  exact zz32
def steps(s:Sp):List Int:=if s.a=0 then[]else if s.b=0 then[s.a]else if s.c=0 then[s.a,s.b]else if s.e=0 then[s.a,s.b,s.c]else[s.a,s.b,s.c,s.e]
def cutc(n:Int):Int:=max 0 (min n 1048576)
def low(s:Sp):Int:=max (cutc s.d -cutc s.n) 0
def near(n least many:Int):Int:=least+n%18446744073709551616%many
theorem near_in(n least many:Int)(h:0<many):least<=near n least many/\near n least many<least+many:=by
 unfold near;have h1:=Int.emod_nonneg (n%18446744073709551616) (b:=many) zv;have h2:=Int.emod_lt_of_pos (n%18446744073709551616) h;omega
def made(s:Sp):Nat->List Int->Int->List Int
 |0,l,_=>l
 |m+1,l,last=>
  let i:=3 -m
  let n:=near (at_ s i) 0 60+(if i=0 then 1 else 0)
  if n=0\/100<last+n then l else made s m (l++[last+n]) (last+n)
def gd(s:Sp):Int:=near s.d 1 5
def gg(s:Sp):Int:=near s.g 0 3
def gu(s:Sp):Int:=if gg s=2 then gd s+near s.u 0 2 else near s.u 0 4
def gn(s:Sp):Int:=if gu s=0/\near s.n 0 (gd s+1)=0 then 1 else near s.n 0 (gd s+1)
def gs(s:Sp):List Int:=if gg s=0 then made s 4 [] 0 else[]
def good(s:Sp):Sp:=⟨near s.v 1 6,gd s,gu s,gn s,gg s,(gs s).getD 0 0,(gs s).getD 1 0,(gs s).getD 2 0,(gs s).getD 3 0,near s.w 1 9,near s.x 0 4,near s.k 1 60⟩
def Up:List Int->Int->Prop
 |[],_=>True
 |n::l,last=>last<n/\n<=100/\Up l n
theorem up_snoc{l:List Int}{last n:Int}(h:Up l last)(hn:(l.getLastD last)<n)(h100:n<=100):Up (l++[n]) last:=by
 induction l generalizing last with
 |nil=>exact⟨hn,h100,trivial⟩
 |cons y l ih=>
  obtain⟨h1,h2,h3⟩:=h;rw[List.getLastD_cons]at hn;exact⟨h1,h2,ih h3 hn⟩
theorem made_up(s:Sp)(m:Nat)(l:List Int)(last:Int)(h:Up l 0)(hl:l.getLastD 0=last)(hm:l.length+m=4):Up (made s m l last) 0/\(made s m l last).length<=4:=by
 induction m generalizing l last with
 |zero=>exact⟨h,by show l.length<=4;omega⟩
 |succ m ih=>
  unfold made;have hn:=near_in (at_ s (3 -m)) 0 60 zv;simp only;obtain⟨t,ht⟩:∃t,t=near (at_ s (3 -m)) 0 60+(if 3 -m=0 then 1 else 0):=zx;have ht0:0<=t:=by rw[ht];split<;>omega
  rw[<-ht];by_cases hc:t=0\/100<last+t
  ·rw[if_pos hc];exact⟨h,zv⟩
  ·rw[if_neg hc]
   exact ih _ _ (up_snoc h (by rw[hl];omega) zv) (by simp) (by rw[zA];simp;omega)
theorem gs_up(s:Sp):Up (gs s) 0/\(gs s).length<=4/\(gg s=0->gs s≠[]):=by
 unfold gs;by_cases h:gg s=0
 ·rw[if_pos h]
  obtain⟨h1,h2⟩:=made_up s 4 [] 0 trivial rfl rfl;refine⟨h1,h2,fun _=> ?_⟩;have hn:=near_in (at_ s 0) 0 60 zv;have hlen:∀m l last,l.length<=(made s m l last).length:=by
   intro m
   induction m with
   |zero=>intro l last;exact zl
   |succ m ih=>
    intro l last;unfold made;simp only;generalize near (at_ s (3 -m)) 0 60+(if 3 -m=0 then 1 else 0)=t;by_cases hc:t=0\/100<last+t
    ·rw[if_pos hc];exact zl
    ·rw[if_neg hc]
     have:=ih (l++[last+t]) (last+t);rw[zA]at this;simp at this;omega
  unfold made;simp only[Nat.sub_self];rw[if_neg (by simp;omega)];intro e;have:=hlen 3 ([]++[0+(near (at_ s 0) 0 60+1)]) (0+(near (at_ s 0) 0 60+1));simp at this e;rw[e]at this;simp at this
 ·rw[if_neg h]
  exact⟨trivial,by simp,fun e=>absurd e h⟩
theorem _root_.Go.Proofs.YtkinlcfhojjalaaGreatDoor.zz3d{p:Prop}(h:p:=by
 rcases i with _|_|_|_|i<;>simp[inn_iff]<;>omega):p:=h
theorem good_may(s:Sp):May (good s):=by
 obtain⟨h1,h2,h3⟩:=gs_up s;have nv:=near_in s.v 1 6 zv;have nd:=near_in s.d 1 5 zv;have ng:=near_in s.g 0 3 zv;have nu:=near_in s.u 0 4 zv;have nu2:=near_in s.u 0 2 zv;have nw:=near_in s.w 1 9 zv;have nx:=near_in s.x 0 4 zv;have nk:=near_in s.k 1 60 zv;have nn:=near_in s.n 0 (gd s+1) (by unfold gd;omega);have hu:0<=gu s/\gu s<=11 -(5 -gd s)/\(gg s=2->gd s<=gu s):=by
  unfold gu gd gg at*;split<;>omega
 have hn:0<=gn s/\gn s<=gd s/\¬(gn s=0/\gu s=0):=by
  unfold gn;split<;>rename_i hc<;>(unfold gd at*;omega)
 have hst:∀i,i<4->st (good s) i=true:=by
  intro i hi;have hg:(good s).g=gg s:=rfl;have ha:∀j,at_ (good s) j=[(gs s).getD 0 0,(gs s).getD 1 0,(gs s).getD 2 0,(gs s).getD 3 0].getD j 0:=fun _=>rfl;have ha0:(good s).a=(gs s).getD 0 0:=rfl;unfold st;rw[hg,ha,ha,ha0];by_cases h:gg s=0
  ·rw[if_neg zv]
   have hne:=h3 h
   match hgs:gs s,h1,h2,hne with
   |[],_,_,hne=>exact absurd rfl hne
   |[y0],hu,_,_=>
    obtain⟨u1,u2,_⟩:=hu;exact zz3d
   |[y0,y1],hu,_,_=>
    obtain⟨u1,u2,u3,u4,_⟩:=hu;exact zz3d
   |[y0,y1,y2],hu,_,_=>
    obtain⟨u1,u2,u3,u4,u5,u6,_⟩:=hu;exact zz3d
   |[y0,y1,y2,y3],hu,_,_=>
    obtain⟨u1,u2,u3,u4,u5,u6,u7,u8,_⟩:=hu;exact zz3d
   |_::_::_::_::_::_,_,hl,_=>exact absurd hl (by simp)
  ·rw[if_pos h]
   have e:gs s=[]:=by unfold gs;rw[if_neg h]
   rw[e];rcases i with _|_|_|_|i<;>simp<;>omega
 refine⟨?_,?_,?_,?_,?_,hst 0 zv,hst 1 zv,hst 2 zv,hst 3 zv,?_,?_,?_⟩
 ·show 1<=near s.v 1 6/\near s.v 1 6<=1048576;omega
 ·show 1<=gd s/\gd s<=16;unfold gd;omega
 ·show 0<=gu s/\gu s<=16 -gd s;unfold gd at*;omega
 ·exact hn
 ·show 0<=gg s/\gg s<=2/\¬(gg s=2/\gu s<gd s);unfold gg at*;omega
 ·show 1<=near s.w 1 9/\near s.w 1 9<=1048576;omega
 ·show 0<=near s.x 0 4/\near s.x 0 4<=1048576;omega
 ·show 1<=near s.k 1 60/\near s.k 1 60<=1048576;omega
end Spc
open Go.RowKit
def sb(s:ByteArray):List Nat:=s.data.toList.map UInt8.toNat
theorem jbd(s:ByteArray):(sb s).length=s.size:=by simp[sb]
theorem jih(s:ByteArray):∀x∈sb s,x<256:=by
 intro x hx;simp only[sb,List.mem_map]at hx;obtain⟨b,_,rfl⟩:=hx;exact b.toNat_lt
theorem jpg(s:ByteArray):txt (sb s)=s:=by
 have:(txt (sb s)).data.toList=s.data.toList:=by
  rw[jcc,sb,List.map_map]
  conv=>rhs;rw[<-List.map_id s.data.toList]
  apply List.map_congr_left;intro x _;simp
 have h2:(txt (sb s)).data=s.data:=by rw[<-Array.toList_inj];exact this
 cases s
 generalize txt _=t at*
 cases t
 simp_all
namespace Rc
structure R where
 kind:Int
 epoch:Int
 who:Int
 n:Int
 seq:Int
 text:ByteArray
 sp:Spc.Sp
def none_:R:=⟨0,0,0,0,0,⟨#[]⟩,Spc.zero⟩
def nums(r:R):List Int:=[r.kind,r.epoch,r.who,r.n,r.seq]
structure In(r:R):Prop where
 nums:∀x∈nums r,Spc.i64 x
 text:r.text.size<=maxLen
 sp:Spc.In r.sp
theorem ext{r s:R}(h1:nums r=nums s)(h2:r.text=s.text)(h3:r.sp=s.sp):r=s:=by
 cases r;cases s
 simp only[nums,List.cons.injEq,and_true]at h1;obtain⟨a,b,c,d,e⟩:=h1;simp only at h2 h3;subst a b c d e h2 h3;rfl
def bare(r:R):Bool:=decide (r.text.size=0)
def told(r:R):Bool:=decide (1<=r.text.size)&&decide (r.text.size<=64)
def plain(r:R):Bool:=decide (Spc.flds r.sp=Spc.flds Spc.zero)
theorem plain_iff{r:R}:plain r=true↔r.sp=Spc.zero:=by
 unfold plain;rw[decide_eq_true_eq];exact⟨Spc.flds_inj,fun h=>by rw[h]⟩
def right(r:R):Bool:=
 Spc.inn r.epoch 1 1099511627776&&
 (if r.kind=1 then plain r&&(bare r&&(Spc.inn r.who 0 63&&(Spc.inn r.n 0 1099511627776&&Spc.inn r.seq 1 1048576)))
  else if r.kind=2 then plain r&&(told r&&(decide (r.who=0)&&(Spc.inn r.n 1 1048576&&decide (r.seq=0))))
  else if r.kind=3 then bare r&&(decide (r.who=0)&&(Spc.inn r.n 0 1099511627776&&(decide (r.seq=0)&&decide (Spc.chk r.sp=0))))
  else if r.kind=4 then plain r&&(told r&&(decide (r.who=0)&&(Spc.inn r.n 1 5&&decide (r.seq=0))))
  else if r.kind=5 then plain r&&(bare r&&(Spc.inn r.who 0 15&&(Spc.inn r.n 0 1048576&&Spc.inn r.seq 1 1099511627776)))
  else if r.kind=6 then plain r&&(bare r&&(Spc.inn r.who 0 15&&(decide (r.n=0)&&Spc.inn r.seq 1 1099511627776)))
  else if r.kind=7 then plain r&&(told r&&(Spc.inn r.who 1 4&&(Spc.inn r.n 0 1099511627776&&decide (r.seq=0))))
  else false)
structure Ok(r:R):Prop where
 kind:1<=r.kind/\r.kind<=7
 epoch:1<=r.epoch/\r.epoch<=1099511627776
 who:0<=r.who/\r.who<=63
 n:0<=r.n/\r.n<=1099511627776
 seq:0<=r.seq/\r.seq<=1099511627776
 text:r.text.size<=64
 begin_:r.kind=3->Spc.May r.sp
 other:r.kind≠3->r.sp=Spc.zero
theorem bare_iff{r:R}:bare r=true↔r.text.size=0:=by unfold bare;simp
theorem told_iff{r:R}:told r=true↔1<=r.text.size/\r.text.size<=64:=by unfold told;simp
theorem _root_.Go.Proofs.YtkinlcfhojjalaaGreatDoor.zz1h{p:Prop}(h:p:=by
 simp only[Bool.and_eq_true,decide_eq_true_eq,Spc.inn_iff,plain_iff,told_iff]at h
 obtain⟨h1,h2,h3,h4,h5⟩:=h;exact⟨zv,he,zv,zv,zv,zv,fun h=>by omega,fun _=>h1⟩):p:=h
theorem _root_.Go.Proofs.YtkinlcfhojjalaaGreatDoor.zz1i{p:Prop}(h:p:=by
 simp only[Bool.and_eq_true,decide_eq_true_eq,Spc.inn_iff,plain_iff,bare_iff]at h
 obtain⟨h1,h2,h3,h4,h5⟩:=h;exact⟨zv,he,zv,zv,zv,zv,fun h=>by omega,fun _=>h1⟩):p:=h
theorem ok_of{r:R}(h:right r=true):Ok r:=by
 unfold right at h;rw[Bool.and_eq_true]at h;obtain⟨he,h⟩:=h;have he:=Spc.inn_iff.1 he;split at h
 ·rename_i hk
  simp only[Bool.and_eq_true,decide_eq_true_eq,Spc.inn_iff,plain_iff,bare_iff]at h;obtain⟨h1,h2,h3,h4,h5⟩:=h;exact⟨zv,he,zv,zv,zv,zv,fun h=>by omega,fun _=>h1⟩
 split at h
 ·exact zz1h
 split at h
 ·simp only[Bool.and_eq_true,decide_eq_true_eq,Spc.inn_iff,bare_iff]at h
  obtain⟨h1,h2,h3,h4,h5⟩:=h;exact⟨zv,he,zv,zv,zv,zv,fun _=>Spc.may_of h5,fun h=>by omega⟩
 split at h
 ·exact zz1h
 split at h
 ·exact zz1i
 split at h
 ·exact zz1i
 split at h
 ·exact zz1h
 ·cases h
theorem Ok.nums{r:R}(h:Ok r):∀x∈nums r,0<=x/\x<=1099511627776:=by
 intro x hx;have:=h.kind;have:=h.epoch;have:=h.who;have:=h.n;have:=h.seq;simp only[Rc.nums,List.mem_cons,List.not_mem_nil,or_false]at hx;rcases hx with rfl|rfl|rfl|rfl|rfl<;>omega
theorem Ok.flds{r:R}(h:Ok r):∀x∈Spc.flds r.sp,0<=x/\x<=1099511627776:=by
 intro x hx;by_cases hk:r.kind=3
 ·have:=(h.begin_ hk).small x hx;omega
 ·rw[h.other hk]at hx
  simp[Spc.flds,Spc.zero]at hx;omega
def short(t:ByteArray):ByteArray:=txt (116::(sb t).take 20)
def good(r:R):R:=
 let k:=Spc.near r.kind 1 7
 let e:=Spc.near r.epoch 1 9
 if k=1 then⟨k,e,Spc.near r.who 0 4,Spc.near r.n 0 50,Spc.near r.seq 1 20,⟨#[]⟩,Spc.zero⟩
 else if k=2 then⟨k,e,0,Spc.near r.n 1 6,0,short r.text,Spc.zero⟩
 else if k=3 then⟨k,e,0,Spc.near r.n 0 50,0,⟨#[]⟩,Spc.good r.sp⟩
 else if k=4 then⟨k,e,0,Spc.near r.n 1 5,0,short r.text,Spc.zero⟩
 else if k=5 then⟨k,e,Spc.near r.who 0 16,Spc.near r.n 0 7,Spc.near r.seq 1 9,⟨#[]⟩,Spc.zero⟩
 else if k=6 then⟨k,e,Spc.near r.who 0 16,0,Spc.near r.seq 1 9,⟨#[]⟩,Spc.zero⟩
 else⟨k,e,Spc.near r.who 1 4,Spc.near r.n 0 50,0,short r.text,Spc.zero⟩
theorem short_size(t:ByteArray):1<=(short t).size/\(short t).size<=64:=by
 unfold short;rw[jbr,List.length_cons,List.length_take];omega
theorem good_right(r:R):right (good r)=true:=by
 have nk:=Spc.near_in r.kind 1 7 zv;have ne:=Spc.near_in r.epoch 1 9 zv;have w4:=Spc.near_in r.who 0 4 zv;have w6:=Spc.near_in r.who 0 16 zv;have w1:=Spc.near_in r.who 1 4 zv;have n5:=Spc.near_in r.n 0 50 zv;have n6:=Spc.near_in r.n 1 6 zv;have n4:=Spc.near_in r.n 1 5 zv;have n7:=Spc.near_in r.n 0 7 zv;have q2:=Spc.near_in r.seq 1 20 zv;have q9:=Spc.near_in r.seq 1 9 zv;have st:=short_size r.text;have gm:=Spc.good_may r.sp;have gc:Spc.chk (Spc.good r.sp)=0:=Spc.chk_of gm;have e0:(⟨#[]⟩:ByteArray).size=0:=rfl;unfold good;simp only;generalize Spc.near r.kind 1 7=k at*;generalize Spc.near r.epoch 1 9=e at*;have hk:k=1\/k=2\/k=3\/k=4\/k=5\/k=6\/k=7:=by omega
 unfold right plain bare told;rcases hk with rfl|rfl|rfl|rfl|rfl|rfl|rfl
 all_goals
  simp only[Bool.and_eq_true,decide_eq_true_eq,Spc.inn_iff,if_true,if_neg (show¬(2:Int)=1 by omega),if_neg (show¬(3:Int)=1 by omega),if_neg (show¬(3:Int)=2 by omega),if_neg (show¬(4:Int)=1 by omega),if_neg (show¬(4:Int)=2 by omega),if_neg (show¬(4:Int)=3 by omega),if_neg (show¬(5:Int)=1 by omega),if_neg (show¬(5:Int)=2 by omega),if_neg (show¬(5:Int)=3 by omega),if_neg (show¬(5:Int)=4 by omega),if_neg (show¬(6:Int)=1 by omega),if_neg (show¬(6:Int)=2 by omega),if_neg (show¬(6:Int)=3 by omega),if_neg (show¬(6:Int)=4 by omega),if_neg (show¬(6:Int)=5 by omega),if_neg (show¬(7:Int)=1 by omega),if_neg (show¬(7:Int)=2 by omega),if_neg (show¬(7:Int)=3 by omega),if_neg (show¬(7:Int)=4 by omega),if_neg (show¬(7:Int)=5 by omega),if_neg (show¬(7:Int)=6 by omega)];simp only[true_and,and_true,e0,gc];omega
end Rc
theorem Rc.none_in:Rc.In Rc.none_:=by
 refine⟨?_,by decide,?_⟩
 ·intro x hx
  simp[Rc.nums,Rc.none_]at hx;unfold Spc.i64;omega
 ·intro x hx
  simp[Spc.flds,Rc.none_,Spc.zero]at hx;unfold Spc.i64;omega
theorem Rc.ok_in{r:Rc.R}(h:Rc.Ok r):Rc.In r:=by
 refine⟨fun x hx=> ?_,by have:=h.text;unfold maxLen;omega,fun x hx=> ?_⟩
 ·have:=h.nums x hx;unfold Spc.i64;omega
 ·have:=h.flds x hx;unfold Spc.i64;omega
open Go.RowKit
theorem jf3:(Tryz.prog.info? 3).map (fun i=>(i.zero,i.size,i.bytes))=some (some (zi),1,8):=by kernel_rfl
def vali(l:List Int):List Value:=l.map fun x=> .int .i64 x
theorem jkx(a b:List Int):vali (a++b)=vali a++vali b:=by simp[vali]
theorem vali_at{l:List Int}{j:Nat}(h:j<l.length):(vali l)[j]? =some (.int .i64 (l.getD j 0)):=by
 rw[jal h];simp[vali,h]
structure SlI(w:World)(A:Option Addr)(n c:Nat)(l:List Int):Prop where
 rd:0<l.length->∃b o,A=some ⟨b,o,none⟩/\b<w.heap.size/\∀j,j<l.length->w.cell? ⟨b,o+j,none⟩=some (.int .i64 (l.getD j 0))
 len:n=l.length
 cap:n<=c
 max:c<=maxLen
theorem SlI.on{w w':World}{A:Option Addr}{n c:Nat}{l:List Int}(h:SlI w A n c l)(hb:zF w w'):SlI w' A n c l:=
 ⟨fun hl=>by
  obtain⟨b,o,e,h1,h2⟩:=h.rd hl;exact⟨b,o,e,Nat.lt_of_lt_of_le h1 hb.size,fun j hj=>(hb.cell (p:=⟨b,o+j,none⟩) h1).trans (h2 j hj)⟩,h.len,h.cap,h.max⟩
theorem SlI.none_(w:World):SlI w none 0 0 []:=⟨by simp,rfl,zl,Nat.zero_le _⟩
def OwnI(w:World)(B:Nat)(v:Value)(l:List Int):Prop:=w.ownsRow B 3 1 v l.length (vali l)
theorem OwnI.sl{w:World}{B:Nat}{v:Value}{l:List Int}(h:OwnI w B v l):∃A c,v= .slice A l.length c/\SlI w A l.length c l:=by
 rcases World.ownsRow.lt h with _
 rcases h.2 with⟨rfl,h0⟩|⟨g,cap,cur,rfl,_,hg,h1,h2,_⟩
 ·have hl:l=[]:=by simpa using h0
  subst hl;exact⟨none,0,rfl,SlI.none_ w⟩
 ·refine⟨_,cap,rfl,fun h0=>⟨g,0,rfl,(zg hg).1,fun j hj=> ?_⟩,rfl,h1,h2⟩
  rw[Nat.zero_add,World.ownsRow.cellAt h j zv,vali_at hj]
theorem OwnI.below{w w':World}{B:Nat}{v:Value}{l:List Int}(h:OwnI w B v l)(hb:zF w w'):OwnI w' B v l:=jb5 h hb
theorem jas{w:World}{ops:Array Oper}{rest:List Oper}{op:Oper}{a:Act}{Q:Exit->Act->World->Prop}(hgd:op.guard=none)(s x:Operand)
  (ho:op.op= .call {callee:= .builtin .append,args:=#[s,x],argTypes:=#[102,102]})
  (base:Nat) (v:Value) (l:List Int) (hs:a.eval s=v) (hown:OwnI w base v l) (X:Int) (hx:a.eval x= .slice (some ⟨w.heap.size,0,none⟩) 1 1)
  (hl:l.length<=3000000) (hB:base<=w.heap.size)
  (h:∀v' w',OwnI w' base v' (l++[X])->w.grownBy w' v.ownBlock->wpList Tryz.prog ops Q rest (a.put op.dst v') w'):wpList Tryz.prog ops Q (op::rest) a (w.alloc (.cells #[.int .i64 X] 3)):=by
 obtain⟨i0,hi0,hz0,hz1,hz2⟩:=info_parts jf3;refine wpList_append_own _ hgd s x 102 ho base 3 i0 (zi) 1 8 Tryz.underlying102 hi0 hz0 hz1 hz2 rfl (by decide) v l.length (vali l) hs (World.ownsRow.alloc hown _) ⟨w.heap.size,0,none⟩ 1 1 [.int .i64 X] hx rfl ?_ ?_ (by unfold maxLen;omega) zv (by simp;omega) ?_
 ·intro j u hu
  rcases j with _|j
  ·simp at hu;subst hu
   have:((⟨w.heap.size,0,none⟩:Addr).add 0)=⟨w.heap.size,0,none⟩:=by unfold Addr.add;split<;>simp_all
   rw[this,World.cell?_alloc_at _ _ _ _ rfl];rfl
  ·simp at hu
 ·intro u hu;simp at hu;subst hu;rfl
 ·intro v' w' h1 h2 _
  refine h v' w' ?_ (jam (World.grownBy_alloc w _ _) h2);unfold OwnI;rw[jkx,zA];exact h1
namespace Cdc
def digs(n:Nat):List Nat:=if n<128 then[n]else(n%128+128)::digs (n/128)
termination_by n
decreasing_by omega
theorem digs_lt{n:Nat}(h:n<128):digs n=[n]:=by rw[digs,if_pos h]
theorem digs_ge{n:Nat}(h:128<=n):digs n=(n%128+128)::digs (n/128):=by rw[digs,if_neg zv]
theorem digs_ind{p:Nat->Prop}(a:∀n,n<128->p n)(b:∀n,128<=n->p (n/128)->p n)(n:Nat):p n:=by
 induction n using Nat.strongRecOn with
 |_ n ih=>
  by_cases h:n<128
  ·exact a n h
  ·exact b n zv (ih _ zv)
theorem digs_byte(n:Nat):∀x∈digs n,x<256:=by
 refine digs_ind (p:=fun n=>∀x∈digs n,x<256) ?_ ?_ n
 ·intro n h x hx;rw[digs_lt h]at hx;simp at hx;omega
 ·intro n h ih x hx
  rw[digs_ge h]at hx;rcases List.mem_cons.1 hx with rfl|hx
  ·omega
  ·exact ih x hx
theorem digs_pos(n:Nat):1<=(digs n).length:=by
 rw[digs];split<;>simp
theorem digs_le{n k:Nat}(hk:1<=k)(h:n<128^k):(digs n).length<=k:=by
 induction k generalizing n with
 |zero=>omega
 |succ k ih=>
  by_cases hn:n<128
  ·rw[digs_lt hn];simp
  ·rw[digs_ge zv,List.length_cons]
   have:n/128<128^k:=by rw[Nat.pow_succ]at h;omega
   rcases k with _|k
   ·simp at this;omega
   ·have:=ih zv this;omega
theorem digs_nine{n:Nat}(h:n<9223372036854775808):(digs n).length<=9:=digs_le zv (by rw[show(128:Nat)^9=9223372036854775808 from by decide];exact h)
def val:List Nat->Nat
 |[]=>0
 |x::l=>x%128+128*val l
theorem val_digs(n:Nat):val (digs n)=n:=by
 refine digs_ind (p:=fun n=>val (digs n)=n) ?_ ?_ n
 ·intro n h;rw[digs_lt h];simp only[val];omega
 ·intro n h ih;rw[digs_ge h];simp only[val,ih];omega
theorem val_lt(l:List Nat):val l<128^l.length:=by
 induction l with
 |nil=>simp[val]
 |cons x l ih=>rw[val,List.length_cons,Nat.pow_succ];omega
theorem val_snoc(l:List Nat)(x:Nat):val (l++[x])=val l+x%128*128^l.length:=by
 induction l with
 |nil=>simp[val]
 |cons y l ih=>
  have e:x%128*(128^l.length*128)=128*(x%128*128^l.length):=by rw[<-Nat.mul_assoc,Nat.mul_comm]
  rw[List.cons_append,val,ih,val,List.length_cons,Nat.pow_succ,e,Nat.mul_add];omega
def run:List Nat->Nat
 |[]=>0
 |x::l=>if 128<=x then run l+1 else 0
theorem run_of{l:List Nat}{k:Nat}(h:∀j,j<k->128<=l.getD j 0)(hk:k<l.length)(hl:l.getD k 0<128):run l=k:=by
 induction l generalizing k with
 |nil=>simp at hk
 |cons x l ih=>
  rcases k with _|k
  ·simp at hl;rw[run,if_neg zv]
  ·have h0:=h 0 zv
   simp at h0;rw[run,if_pos h0,ih (k:=k) (fun j hj=>by have:=h (j+1) zv;simpa using this) (by simpa using hk) (by simpa using hl)]
theorem run_ge{l:List Nat}{k:Nat}(h:∀j,j<k->128<=l.getD j 0):k<=run l:=by
 induction l generalizing k with
 |nil=>
  rcases k with _|k
  ·omega
  ·have:=h 0 zv;simp at this
 |cons x l ih=>
  rcases k with _|k
  ·omega
  ·have h0:=h 0 zv
   simp at h0;rw[run,if_pos h0];have:=ih (k:=k) (fun j hj=>by have:=h (j+1) zv;simpa using this);omega
def isNum(l:List Nat):Bool:=decide (run l<l.length)&&decide (run l<9)&&decide ((digs (val (l.take (run l+1)))).length=run l+1)&&decide (val (l.take (run l+1))<4611686018427387904)
def dk(l:List Nat):Nat:=if isNum l then run l+1 else 0
def dn(l:List Nat):Nat:=if isNum l then val (l.take (run l+1))else 0
theorem dk_le(l:List Nat):dk l<=l.length:=by
 unfold dk;split
 ·rename_i h;simp[isNum]at h;omega
 ·omega
theorem dn_lt(l:List Nat):dn l<4611686018427387904:=by
 unfold dn;split
 ·rename_i h;simp[isNum]at h;omega
 ·omega
theorem dn_none{l:List Nat}(h:dk l=0):dn l=0:=by
 unfold dk at h;unfold dn;split
 ·rename_i h1;rw[if_pos h1]at h;omega
 ·rfl
theorem digs_val(l:List Nat)(hb:∀x∈l,x<256)(hr:run l<l.length):(digs (val (l.take (run l+1)))).length<=run l+1/\((digs (val (l.take (run l+1)))).length=run l+1->digs (val (l.take (run l+1)))=l.take (run l+1)):=by
 induction l with
 |nil=>simp[run]at hr
 |cons x l ih=>
  rw[run]at hr⊢;have hx:=hb x (by simp);by_cases h:128<=x
  ·rw[if_pos h]at hr⊢
   rw[List.take_succ_cons,val];have ih:=ih (fun y hy=>hb y (by simp[hy])) (by simpa using hr);generalize l.take (run l+1)=q at*;by_cases hq:val q=0
   ·rw[hq,digs_lt zv]
    refine⟨by simp,fun h=>by simp at h⟩
   ·rw[digs_ge zv,show(x%128+128*val q)/128=val q by omega,show(x%128+128*val q)%128+128=x by omega]
    refine⟨by simp;omega,fun h=>by rw[ih.2 (by simp at h;omega)]⟩
  ·rw[if_neg h]
   rw[List.take_succ_cons,List.take_zero,val,val];rw[digs_lt zv];refine⟨by simp,fun _=>by rw[show x%128+128*0=x by omega]⟩
theorem run_digs(n:Nat)(r:List Nat):run (digs n++r)+1=(digs n).length:=by
 refine digs_ind (p:=fun n=>run (digs n++r)+1=(digs n).length) ?_ ?_ n
 ·intro n h;rw[digs_lt h,List.cons_append,run,if_neg zv];simp
 ·intro n h ih;rw[digs_ge h,List.cons_append,run,if_pos zv,List.length_cons,ih]
theorem isNum_digs{n:Nat}(h:n<4611686018427387904)(r:List Nat):isNum (digs n++r)=true:=by
 have h1:=run_digs n r;have h2:(digs n++r).take (run (digs n++r)+1)=digs n:=by rw[h1];exact List.take_left
 have h3:=digs_nine (n:=n) zv;simp only[isNum,h2,val_digs,Bool.and_eq_true,decide_eq_true_eq,zA];omega
theorem dk_digs{n:Nat}(h:n<4611686018427387904)(r:List Nat):dk (digs n++r)=(digs n).length:=by
 unfold dk;rw[if_pos (isNum_digs h r),run_digs]
theorem dn_digs{n:Nat}(h:n<4611686018427387904)(r:List Nat):dn (digs n++r)=n:=by
 unfold dn;rw[if_pos (isNum_digs h r),run_digs,List.take_left,val_digs]
theorem digs_dn{l:List Nat}(hb:∀x∈l,x<256)(h:dk l≠0):digs (dn l)=l.take (dk l):=by
 unfold dk dn at*;by_cases h1:isNum l=true
 ·rw[if_pos h1,if_pos h1]
  simp only[isNum,Bool.and_eq_true,decide_eq_true_eq]at h1;exact(digs_val l hb zv).2 zv
 ·rw[if_neg h1]at h;omega
structure St where
 l:List Nat
 e:Int
def lost:St:=⟨[],2⟩
def num(s:St):St:=if s.e=0 then(if dk s.l=0 then lost else⟨s.l.drop (dk s.l),0⟩)else s
def numV(s:St):Nat:=if s.e=0 then dn s.l else 0
def cnt(s:St):St:=if numV s<=64 then num s else lost
def cntV(s:St):Nat:=if numV s<=64 then numV s else 0
def tk(s:St)(n:Nat):St:=if s.e=0 then(if n<=s.l.length then⟨s.l.drop n,0⟩else lost)else s
def tkV(s:St)(n:Nat):List Nat:=if s.e=0 then(if n<=s.l.length then s.l.take n else[])else[]
def text(s:St):St:=tk (cnt s) (cntV s)
def textV(s:St):List Nat:=tkV (cnt s) (cntV s)
def numsAt(s:St):Nat->St
 |0=>s
 |k+1=>num (numsAt s k)
def numsV(s:St):Nat->List Nat
 |0=>[]
 |k+1=>numsV s k++[numV (numsAt s k)]
def list(s:St):St:=numsAt (cnt s) (cntV s)
def listV(s:St):List Nat:=if(list s).e=0 then numsV (cnt s) (cntV s)else[]
def endE(s:St):Int:=if 0<s.l.length then 2 else s.e
structure Okay(s:St):Prop where
 byte:∀x∈s.l,x<256
 none_:s.e≠0->s.l=[]
theorem numV_lt(s:St):numV s<4611686018427387904:=by
 unfold numV;split
 ·exact dn_lt _
 ·omega
theorem cntV_le(s:St):cntV s<=64:=by unfold cntV;split<;>omega
theorem num_err{s:St}(h:s.e≠0):num s=s:=by unfold num;rw[if_neg h]
theorem numV_err{s:St}(h:s.e≠0):numV s=0:=by unfold numV;rw[if_neg h]
theorem numsAt_err{s:St}{i:Nat}(h:(numsAt s i).e≠0)(j:Nat):numsAt s (i+j)=numsAt s i:=by
 induction j with
 |zero=>rfl
 |succ j ih=>rw[<-Nat.add_assoc,numsAt,ih,num_err h]
theorem numsV_length(s:St)(k:Nat):(numsV s k).length=k:=by
 induction k with
 |zero=>rfl
 |succ k ih=>simp[numsV,ih]
theorem num_digs{n:Nat}(h:n<4611686018427387904)(r:List Nat):num ⟨digs n++r,0⟩=⟨r,0⟩/\numV ⟨digs n++r,0⟩=n:=by
 unfold num numV;simp only[if_pos,dn_digs h,dk_digs h,and_true];rw[if_neg (by have:=digs_pos n;omega),List.drop_left]
theorem numsAt_all(ns:List Nat)(h:∀n∈ns,n<4611686018427387904)(r:List Nat)(k:Nat)(hk:k<=ns.length):numsAt ⟨(ns.flatMap digs)++r,0⟩ k=⟨((ns.drop k).flatMap digs)++r,0⟩/\numsV ⟨(ns.flatMap digs)++r,0⟩ k=ns.take k:=by
 induction k with
 |zero=>exact⟨by simp[numsAt],by simp[numsV]⟩
 |succ k ih=>
  obtain⟨h1,h2⟩:=ih zv;have hk':k<ns.length:=by omega
  have h3:=num_digs (h ns[k] (List.getElem_mem hk')) ((ns.drop (k+1)).flatMap digs++r);rw[numsAt,numsV,h1,h2,List.drop_eq_getElem_cons hk',List.flatMap_cons,List.append_assoc,h3.1,h3.2];exact⟨rfl,by rw[List.take_succ_eq_append_getElem hk']⟩
end Cdc
open Go.RowKit Cdc
def sz(n:Int):Nat:=if 0<=n/\n<4611686018427387904 then(digs n.toNat).length else 0
theorem jtz{n:Int}(h:n<0\/4611686018427387903<n):sz n=0:=by unfold sz;rw[if_neg zv]
theorem sz_yes{n:Nat}(h:n<4611686018427387904):sz (n:Int)=(digs n).length:=by
 unfold sz;rw[if_pos zv,Int.toNat_natCast]
theorem jmh(n:Nat)(w:World)(h:n<4611686018427387904):
  Calls Tryz.prog 162 #[.int .i64 n] w fun e w'=>e= .returned (.int .i64 ((digs n).length:Nat))/\w=w':=by
 have h9:=digs_nine (n:=n) zv;have hb:(n:Int)<=4611686018427387903:=by omega
 have HN:=zh h;clear h;go_in;go_wp2_with fail;clear hb;go_loop [0,3] (fun a s=>∃m k:Nat,a= .int .i64 m/\s= .int .i64 k/\k+(digs m).length=(digs n).length+1/\1<=k/\m<4611686018427387904) (fun a _=>(intOf a).toNat)
 case atStart=>exact⟨n,1,rfl,rfl,zv,zv,HN.o⟩
 case round=>
  obtain⟨m,k,rfl,rfl,hk,hk1,hm⟩:=hrel;have HM:=zh hm;have hm2:(m:Int)<=4611686018427387903:=by omega
  clear hm;have hp:=digs_pos m;by_cases hlt:128<=m
  ·have hq:Hid (k+1+(digs (m/128)).length=(digs n).length+1):=by
    show _=_;rw[digs_ge hlt,List.length_cons]at hk;omega
   have hk9:k<=9:=by omega
   clear hk;go_wp2_with fail;go_round
   case rel=>exact⟨m/128,k+1,rfl,by go_num,hq.o,zv,by have:=HM.o;omega⟩
   case measure=>simp[intOf];omega
  ·have hq:Hid (k=(digs n).length):=by
    show _=_;rw[digs_lt zv]at hk;simp at hk;omega
   clear hk;go_wp2;go_ret;exact⟨jch (by rw[hq.o]),rfl⟩
theorem jes(n:Int)(w:World):
  Calls Tryz.prog 162 #[.int .i64 n] w fun e w'=>e= .returned (.int .i64 (sz n:Nat))/\w=w':=by
 by_cases h0:n<0
 ·rw[jtz (.inl h0)]
  go_in;go_wp2;go_ret;exact⟨rfl,rfl⟩
 ·by_cases h1:4611686018427387903<n
  ·rw[jtz (.inr h1)]
   have h0':0<=n:=by omega
   go_in;go_wp2;go_ret;exact⟨rfl,rfl⟩
  ·obtain⟨m,rfl⟩:∃m:Nat,n=(m:Int):=⟨n.toNat,zv⟩
   rw[sz_yes zv];exact jmh m w zv
def jii(B:Nat)(l:List Nat)(w:World)(e:Ending)(w':World):Prop:=∃v,e= .returned v/\OwnB w' B v l/\Below B w w'
theorem jb6(n c more:Nat)(A:Option Addr)(l:List Nat)(w:World)(hs:Sl w A n c l)(hl:n<=1000000)(hm:more<=1000):
  Calls Tryz.prog 146 #[.slice A n c,.int .i64 more] w (jii w.heap.size l w):=by
 obtain⟨i0,hi0,hz0,hz1,hz2⟩:=info_parts jb3;have HS:=zh hs;clear hs;have I0:=zh hi0;clear hi0;have I1:=zh hz0;clear hz0;have I2:=zh hz1;clear hz1;have I3:=zh hz2;clear hz2;go_in
 go_wp2_with(first
  |(at_make;refine wpList_make_own _ rfl _ _ 50 rfl w.heap.size 5 i0 (.int .u8 0) 1 Tryz.underlying50 I0.o I1.o I2.o _ _ _ (n+more) rfl rfl zv (by rw[I3.o];omega) (by unfold maxLen;omega) zl ?_;intro w1 hown1 hg1;have O1:=zh hown1;have G1:=zh hg1;clear hown1 hg1)
  |(at_builtin;refine jao rfl (.tmp 9) (.tmp 10) _ rfl w.heap.size 5 i0 _ Tryz.underlying50 I0.o I1.o I2.o I3.o rfl (.slice (some ⟨w.heap.size,0,none⟩) 0 (n+more)) 0 [] rfl O1.o w1.heap.size n c A l rfl (HS.o.rd.on (zD.grown G1.o zl (by simp))) HS.o.len HS.o.nil zv G1.o.size ?_;intro v2 w2 hown2 hg2;have O2:=zh hown2;have G2:=zh hg2;clear hown2 hg2))
 go_ret;have B1:=(Below.refl w.heap.size w).grown G1.o zl (by simp);have hO:=O2.o;rw[Nat.zero_add,List.nil_append,HS.o.len]at hO;exact⟨v2,rfl,⟨hO,HS.o.rd.1⟩,B1.grown G2.o B1.size (by simp[Value.ownBlock])⟩
theorem jmi{l l':List Nat}{n m:Nat}(h:l'++digs m=l++digs n)(hm:128<=m):(l'++[m%128+128])++digs (m/128)=l++digs n:=by
 rw[<-h,digs_ge hm,List.append_assoc];rfl
theorem jmj{l l':List Nat}{n m:Nat}(h:l'++digs m=l++digs n)(hm:m<128):l'++[m]=l++digs n:=by rw[<-h,digs_lt hm]
theorem jij(B n:Nat)(v:Value)(l:List Nat)(w:World)(ho:OwnB w B v l)(hB:B<=w.heap.size)(hl:l.length<=2000000)(hn:n<4611686018427387904):
  Calls Tryz.prog 163 #[v,.int .i64 n] w (jii B (l++digs n) w):=by
 have HO:=zh ho;clear ho;have h9:=digs_nine (n:=n) zv;have HL:Hid ((l++digs n).length<=2000009):=by show _<=_;rw[zA];omega
 have HN:=zh hn;clear hn;have HB:=zh hB;clear hB;have HH:Hid (∀x∈l++digs n,x<256):=fun x hx=>(List.mem_append.1 hx).elim (HO.o.2 x) (digs_byte n x);go_in;go_wp2_with fail;go_loopw [0,1] (fun v a wr=>∃(m:Nat) (l':List Nat),a= .int .i64 m/\(m:Int)<=4611686018427387903/\OwnB wr B v l'/\l'++digs m=l++digs n/\Below B w wr) (fun _ a _=>(intOf a).toNat)
 case atStart=>exact⟨n,l,rfl,by have:=HN.o;omega,HO.o,rfl,zD⟩
 case round=>
  obtain⟨m,l',rfl,hm,hO,hfull,hb⟩:=hrel;clear HO;have O:=zh hO;clear hO;have BB:=zh hb;clear hb;have FF:=zh hfull;clear hfull;have hlen:l'.length<=2000009:=by have h1:=HL.o;have h2:=FF.o;rw[<-h2,zA]at h1;omega
  by_cases hlt:128<=m
  ·go_wp2_with(at_builtin;refine jbi rfl (.tmp 7) (.tmp 12) rfl B _ l' rfl O.o _ (m%128+128) zv zv rfl zv (Nat.le_trans HB.o BB.o.size) ?_;intro v1 w1 ho1 hb1;have O1:=zh ho1;have B1:=zh (BB.o.trans hb1);clear ho1 hb1)
   go_roundw
   case rel=>exact⟨m/128,_,by go_num,zv,O1.o,jmi FF.o hlt,B1.o⟩
   case measure=>simp[intOf];omega
  ·go_wp2_with(at_builtin;refine jbi rfl (.tmp 16) (.tmp 19) rfl B _ l' rfl O.o _ m zv zv rfl zv (Nat.le_trans HB.o BB.o.size) ?_;intro v1 w1 ho1 hb1;have O1:=zh ho1;have B1:=zh (BB.o.trans hb1);clear ho1 hb1)
   go_ret;exact⟨v1,rfl,by rw[<-jmj FF.o zv];exact O1.o,B1.o⟩
def jgg(l:List Nat)(err:Int)(w:World)(e:Ending)(w':World):Prop:=
 ∃A c,e= .returned (.tuple #[.slice A l.length c,.int .i64 err])/\Sl w' A l.length c l/\zF w w'/\∀a,A=some a->w.heap.size<=a.block
theorem jt0(s:ByteArray):Lib.strCells s=vals (sb s):=by
 simp[Lib.strCells,vals,sb]
theorem jnf(n c m:Nat)(A:Option Addr)(l:List Nat)(w:World)(hs:Sl w A n c l)(hl:n<=1000000)(hm:m<4611686018427387904):
  Calls Tryz.prog 102 #[.slice A n c,.int .i64 m] w (jgg (l++digs m) 0 w):=by
 have hne:(((digs m).length:Int)==0)=false:=by have:=digs_pos m;rw[zq];omega
 have HS:=zh hs;clear hs;have HM:=zh hm;clear hm;go_in;go_wp2_with fail;refine(jmh m w HM.o).mono ?_;rintro e w1 ⟨rfl,rfl⟩;go_wp2_with fail;refine(jb6 n c 9 A l w HS.o hl zv).mono ?_;rintro e w1 ⟨v,rfl,ho,hb⟩;have O:=zh ho;clear ho;have B:=zh hb;clear hb;go_wp2_with fail;refine(jij w.heap.size m v l w1 O.o B.o.size (by rw[<-HS.o.len];omega) HM.o).mono ?_;rintro e w2 ⟨v2,rfl,ho,hb⟩;have O2:=zh ho;clear ho;have B2:=zh hb;clear hb;obtain⟨A2,c2,hv,h2⟩:=O2.o.sl;have HV:=zh hv;clear hv;have H2:=zh h2;clear h2;go_wp2;go_ret2;rw[HV.o];exact⟨A2,c2,rfl,H2.o,B.o.trans B2.o,OwnB.far O2.o HV.o⟩
theorem jph(n c:Nat)(m:Int)(A:Option Addr)(l:List Nat)(w:World)(hs:Sl w A n c l)(hl:n<=1000000)(hm:sz m=0):
  Calls Tryz.prog 102 #[.slice A n c,.int .i64 m] w (jgg l 1 w):=by
 have HS:=zh hs;clear hs;have HM:=zh hm;clear hm;go_in;go_wp2_with fail;refine(jes m w).mono ?_;rintro e w1 ⟨rfl,rfl⟩;rw[HM.o];go_wp2_with fail;refine(jb6 n c 0 A l w HS.o hl zv).mono ?_;rintro e w1 ⟨v,rfl,ho,hb⟩;have O:=zh ho;clear ho;have B:=zh hb;clear hb;obtain⟨A2,c2,hv,h2⟩:=O.o.sl;have HV:=zh hv;clear hv;have H2:=zh h2;clear h2;go_wp2;go_ret2;rw[HV.o];exact⟨A2,c2,rfl,H2.o,B.o,OwnB.far O.o HV.o⟩
def numL(l:List Nat)(n:Int):List Nat:=if sz n=0 then l else l++digs n.toNat
def numE(n:Int):Int:=if sz n=0 then 1 else 0
theorem jjg{n:Int}(h:sz n≠0):∃m:Nat,n=(m:Int)/\m<4611686018427387904:=by
 unfold sz at h;split at h
 ·exact⟨n.toNat,zv,zv⟩
 ·omega
theorem jng(n c:Nat)(m:Int)(A:Option Addr)(l:List Nat)(w:World)(hs:Sl w A n c l)(hl:n<=1000000):
  Calls Tryz.prog 102 #[.slice A n c,.int .i64 m] w (jgg (numL l m) (numE m) w):=by
 unfold numL numE;by_cases h:sz m=0
 ·rw[if_pos h,if_pos h];exact jph n c m A l w hs hl h
 ·rw[if_neg h,if_neg h]
  obtain⟨k,rfl,hk⟩:=jjg h;exact jnf n c k A l w hs hl hk
theorem OwnB.text{w:World}{B n:Nat}{v:Value}{l:List Nat}{s:ByteArray}(h:w.ownsRow B 5 1 v (n+s.size) (vals l++Lib.strCells s))(hn:n=l.length)(hl:∀y∈l,y<256):OwnB w B v (l++sb s):=by
 subst hn;refine⟨?_,?_⟩
 ·rw[jbj,zA,jbd,<-jt0];exact h
 ·intro y hy
  exact(List.mem_append.1 hy).elim (hl y) (jih s y)
theorem jt1(n c:Nat)(s:ByteArray)(A:Option Addr)(l:List Nat)(w:World)(hs:Sl w A n c l)(hl:n<=1000000)(hm:s.size<=64):
  Calls Tryz.prog 103 #[.slice A n c,.string s] w (jgg (l++digs s.size++sb s) 0 w):=by
 obtain⟨i0,hi0,hz0,hz1,hz2⟩:=info_parts jb3;have HS:=zh hs;clear hs;have I0:=zh hi0;clear hi0;have I1:=zh hz0;clear hz0;have I2:=zh hz1;clear hz1;have I3:=zh hz2;clear hz2;go_in;go_wp2_with fail;refine(jb6 n c (9+s.size) A l w HS.o hl zv).mono ?_;rintro e w1 ⟨v,rfl,ho,hb⟩;have O:=zh ho;clear ho;have B:=zh hb;clear hb;go_wp2_with fail;refine(jij w.heap.size s.size v l w1 O.o B.o.size (by rw[<-HS.o.len];omega) zv).mono ?_;rintro e w2 ⟨v2,rfl,ho,hb⟩;have O2:=zh ho;clear ho;have B2:=zh (B.o.trans hb);clear hb;have hlen:(l++digs s.size).length<=1000010:=by have:=digs_nine (n:=s.size) zv;rw[zA,<-HS.o.len];omega
 go_wp2_with(at_builtin;refine Lib.wpList_append_own_string _ rfl (.tmp 18) (.tmp 19) 50 9 rfl w.heap.size 5 i0 Tryz.underlying50 Tryz.underlying9 I0.o I1.o I2.o I3.o v2 _ _ rfl O2.o.1 s rfl (by unfold maxLen;omega) zv B2.o.size ?_;intro v3 w3 hown3 hg3 _;have O3:=zh hown3;have G3:=zh hg3;clear hown3 hg3);go_ret2;obtain⟨A2,c2,hv,h2⟩:=(OwnB.text O3.o rfl O2.o.2).sl;rw[hv];exact⟨A2,c2,rfl,h2,B2.o.grown G3.o B2.o.size (ja2 O2.o.1),OwnB.far (OwnB.text O3.o rfl O2.o.2) hv⟩
theorem text_no(n c:Nat)(s:ByteArray)(A:Option Addr)(l:List Nat)(w:World)(hs:Sl w A n c l)(hl:n<=1000000)(hm:64<s.size):
  Calls Tryz.prog 103 #[.slice A n c,.string s] w (jgg l 12 w):=by
 have HS:=zh hs;clear hs;go_in;go_wp2_with fail;refine(jb6 n c 0 A l w HS.o hl zv).mono ?_;rintro e w1 ⟨v,rfl,ho,hb⟩;have O:=zh ho;clear ho;have B:=zh hb;clear hb;obtain⟨A2,c2,hv,h2⟩:=O.o.sl;have HV:=zh hv;clear hv;have H2:=zh h2;clear h2;go_wp2;go_ret2;rw[HV.o];exact⟨A2,c2,rfl,H2.o,B.o,OwnB.far O.o HV.o⟩
def jgh(l:List Nat)(s:ByteArray):List Nat:=if s.size<=64 then l++digs s.size++sb s else l
def jgi(s:ByteArray):Int:=if s.size<=64 then 0 else 12
theorem jt2(n c:Nat)(s:ByteArray)(A:Option Addr)(l:List Nat)(w:World)(hs:Sl w A n c l)(hl:n<=1000000):
  Calls Tryz.prog 103 #[.slice A n c,.string s] w (jgg (jgh l s) (jgi s) w):=by
 unfold jgh jgi;by_cases h:s.size<=64
 ·rw[if_pos h,if_pos h];exact jt1 n c s A l w hs hl h
 ·rw[if_neg h,if_neg h];exact text_no n c s A l w hs hl zv
def jck(ns:List Int):Bool:=ns.all fun n=>decide (sz n≠0)
theorem jgj{ns:List Int}(h:∀j,j<ns.length->sz (ns.getD j 0)≠0):jck ns=true:=by
 unfold jck;rw[List.all_eq_true];intro x hx;obtain⟨j,hj,rfl⟩:=List.mem_iff_getElem.1 hx;have:=h j hj;rw[jal hj]at this;exact decide_eq_true this
theorem jmk{ns:List Int}{j:Nat}(hj:j<ns.length)(h:sz (ns.getD j 0)=0):jck ns=false:=by
 unfold jck;rw[List.all_eq_false];refine⟨ns[j],List.getElem_mem hj,?_⟩;rw[jal hj]at h;simp[h]
theorem jf4{ns:List Int}(h:jck ns=true){j:Nat}(hj:j<ns.length):∃m:Nat,ns.getD j 0=(m:Int)/\m<4611686018427387904:=by
 unfold jck at h;rw[List.all_eq_true]at h;have:=h ns[j] (List.getElem_mem hj);rw[jal hj];exact jjg (by simpa using this)
def fl(ns:List Int):List Nat:=ns.flatMap fun n=>digs n.toNat
theorem jik{ns:List Int}{j m:Nat}(hj:j<ns.length)(hm:ns.getD j 0=(m:Int)):fl (ns.take (j+1))=fl (ns.take j)++digs m:=by
 unfold fl;rw[List.take_succ_eq_append_getElem hj,List.flatMap_append,<-jal (d:=0) hj,hm];simp
theorem jjh{ns:List Int}(h:jck ns=true)(k:Nat)(hk:k<=ns.length):(fl (ns.take k)).length<=9*k:=by
 induction k with
 |zero=>simp[fl]
 |succ k ih=>
  obtain⟨m,hm,hlt⟩:=jf4 h (j:=k) zv;rw[jik zv hm,zA];have:=ih zv;have:=digs_nine (n:=m) zv;omega
theorem jpi(n c:Nat)(A:Option Addr)(ns:List Int)(w:World)(hs:SlI w A n c ns)(hl:n<=1000000):
  Calls Tryz.prog 164 #[.slice A n c] w fun e w'=>e= .returned (.bool (jck ns))/\w=w':=by
 have HS:=zh hs;clear hs;go_in;go_wp2_with fail;go_loop [7] (fun i=>∃k:Nat,k<=n/\i= .int .i64 k/\∀j,j<k->sz (ns.getD j 0)≠0) (fun i=>n -(intOf i).toNat)
 case atStart=>exact⟨0,zv,rfl,fun j hj=>by omega⟩
 case round=>
  obtain⟨k,hk,rfl,hall⟩:=hrel;have HA:=zh hall;clear hall;by_cases hlt:k<n
  ·have hkl:k<ns.length:=by rw[<-HS.o.len];exact hlt
   obtain⟨b,o,rfl,_,hc⟩:=HS.o.rd zv;have hck:=hc k hkl;clear hc;by_cases hz:sz (ns.getD k 0)=0
   ·have HZ:=zh hz
    have HN:=zh (jmk hkl hz);clear hz;generalize ns.getD k 0=x at*;go_wp2_with fail;refine(jes x w).mono ?_;rintro e w1 ⟨rfl,rfl⟩;rw[HZ.o];go_wp2;go_ret;exact⟨jcb HN.o.symm,rfl⟩
   ·have hne:((sz (ns.getD k 0):Int)==0)=false:=by rw[zq];omega
    have HZ:=zh hz;clear hz;have HG:Hid (∀j,j<k+1->sz (ns.getD j 0)≠0):=fun j hj=>by
     by_cases e:j=k
     ·subst e;exact HZ.o
     ·exact HA.o j zv
    clear HA HZ;generalize ns.getD k 0=x at*;go_wp2_with fail;refine(jes x w).mono ?_;rintro e w1 ⟨rfl,rfl⟩;go_wp2_with fail;go_round
    case rel=>exact⟨k+1,zv,by go_num,HG.o⟩
    case measure=>simp[intOf];omega
  ·obtain rfl:k=n:=by omega
   have HN:Hid (jck ns=true):=jgj fun j hj=>HA.o j (by rw[HS.o.len];exact hj);go_wp2;go_ret;exact⟨jcb HN.o.symm,rfl⟩
theorem jpj{w:World}{B m:Nat}{v:Value}{l:List Nat}{ns:List Int}(h:OwnB w B v (l++fl (ns.take m)))(hm:m=ns.length):OwnB w B v (l++fl ns):=by
 rwa [hm,List.take_length]at h
theorem jt3(n c k d:Nat)(A D:Option Addr)(l:List Nat)(ns:List Int)(w:World)(hs:Sl w A n c l)(hl:n<=1000000)(hd:SlI w D k d ns)(hk:k<=64)(ha:jck ns=true):
  Calls Tryz.prog 104 #[.slice A n c,.slice D k d] w (jgg (l++digs k++fl ns) 0 w):=by
 have HS:=zh hs;clear hs;have HD:=zh hd;clear hd;have HA:=zh ha;clear ha;go_in;go_wp2_with fail;refine(jpi k d D ns w HD.o zv).mono ?_;rintro e w1 ⟨rfl,rfl⟩;rw[HA.o];go_wp2_with fail;refine(jb6 n c (9*(1+k)) A l w HS.o hl zv).mono ?_;rintro e w1 ⟨v,rfl,ho,hb⟩;have O:=zh ho;clear ho;have B:=zh hb;clear hb;go_wp2_with fail;refine(jij w.heap.size k v l w1 O.o B.o.size (by rw[<-HS.o.len];omega) zv).mono ?_;rintro e w2 ⟨v2,rfl,ho,hb⟩;have O2:=zh ho;clear ho;have B2:=zh (B.o.trans hb);clear hb O B;have hlen:(l++digs k).length<=1000010:=by have:=digs_nine (n:=k) zv;rw[zA,<-HS.o.len];omega
 go_wp2_with fail;go_loopw [6,30] (fun v i wr=>∃m:Nat,m<=k/\i= .int .i64 m/\OwnB wr w.heap.size v (l++digs k++fl (ns.take m))/\zF w wr) (fun _ i _=>k -(intOf i).toNat)
 case atStart=>exact⟨0,zv,rfl,by simpa[fl]using O2.o,B2.o⟩
 case round=>
  obtain⟨m,hm,rfl,ho,hb⟩:=hrel;clear O2 B2;have O:=zh ho;clear ho;have B:=zh hb;clear hb;by_cases hlt:m<k
  ·have hml:m<ns.length:=by rw[<-HD.o.len];exact hlt
   obtain⟨x,hx,hxl⟩:=jf4 HA.o hml;obtain⟨b,o,rfl,_,hc⟩:=(HD.o.on B.o).rd zv;have hck:=hc m hml;rw[hx]at hck;have HX:=zh (jik hml hx);have HB:=zh hxl;have HF:=zh (jjh HA.o m zv);clear hc hx hxl;go_wp2_with fail;refine(jij w.heap.size x _ _ wr O.o B.o.size (by have:=HF.o;rw[zA];omega) HB.o).mono ?_;rintro e w3 ⟨v3,rfl,ho,hb⟩;have O3:=zh ho;clear ho;have B3:=zh (B.o.trans hb);clear hb;go_wp2_with fail;go_roundw
   case rel=>exact⟨m+1,zv,by go_num,by rw[HX.o,<-List.append_assoc];exact O3.o,B3.o⟩
   case measure=>simp[intOf];omega
  ·obtain rfl:m=k:=by omega
   have O4:=zh (jpj O.o HD.o.len);obtain⟨A2,c2,hv,h2⟩:=O4.o.sl;have HV:=zh hv;clear hv;have H2:=zh h2;clear h2;go_wp2;go_ret2;rw[HV.o];exact⟨A2,c2,rfl,H2.o,B.o,OwnB.far O4.o HV.o⟩
theorem jt4(n c k d:Nat)(A D:Option Addr)(l:List Nat)(ns:List Int)(w:World)(hs:Sl w A n c l)(hl:n<=1000000)(hd:SlI w D k d ns)(hk:k<=64)(ha:jck ns=false):
  Calls Tryz.prog 104 #[.slice A n c,.slice D k d] w (jgg l 1 w):=by
 have HS:=zh hs;clear hs;have HD:=zh hd;clear hd;have HA:=zh ha;clear ha;go_in;go_wp2_with fail;refine(jpi k d D ns w HD.o zv).mono ?_;rintro e w1 ⟨rfl,rfl⟩;rw[HA.o];go_wp2_with fail;refine(jb6 n c 0 A l w HS.o hl zv).mono ?_;rintro e w1 ⟨v,rfl,ho,hb⟩;have O:=zh ho;clear ho;have B:=zh hb;clear hb;obtain⟨A2,c2,hv,h2⟩:=O.o.sl;have HV:=zh hv;clear hv;have H2:=zh h2;clear h2;go_wp2;go_ret2;rw[HV.o];exact⟨A2,c2,rfl,H2.o,B.o,OwnB.far O.o HV.o⟩
theorem jpk(n c k d:Nat)(A D:Option Addr)(l:List Nat)(w:World)(hs:Sl w A n c l)(hl:n<=1000000)(hk:64<k):
  Calls Tryz.prog 104 #[.slice A n c,.slice D k d] w (jgg l 12 w):=by
 have HS:=zh hs;clear hs;go_in;go_wp2_with fail;refine(jb6 n c 0 A l w HS.o hl zv).mono ?_;rintro e w1 ⟨v,rfl,ho,hb⟩;have O:=zh ho;clear ho;have B:=zh hb;clear hb;obtain⟨A2,c2,hv,h2⟩:=O.o.sl;have HV:=zh hv;clear hv;have H2:=zh h2;clear h2;go_wp2;go_ret2;rw[HV.o];exact⟨A2,c2,rfl,H2.o,B.o,OwnB.far O.o HV.o⟩
def jd9(l:List Nat)(ns:List Int):List Nat:=if ns.length<=64 then(if jck ns then l++digs ns.length++fl ns else l)else l
def jea(ns:List Int):Int:=if ns.length<=64 then(if jck ns then 0 else 1)else 12
theorem jt5(n c k d:Nat)(A D:Option Addr)(l:List Nat)(ns:List Int)(w:World)(hs:Sl w A n c l)(hl:n<=1000000)(hd:SlI w D k d ns):
  Calls Tryz.prog 104 #[.slice A n c,.slice D k d] w (jgg (jd9 l ns) (jea ns) w):=by
 unfold jd9 jea;have hkn:=hd.len;by_cases h:k<=64
 ·have h64:ns.length<=64:=by omega
  simp only[if_pos h64];by_cases ha:jck ns=true
  ·simp only[if_pos ha]
   have:=jt3 n c k d A D l ns w hs hl hd h ha;rw[hkn]at this⊢;exact this
  ·simp only[if_neg ha]
   exact jt4 n c k d A D l ns w hs hl hd h (by simpa using ha)
 ·have h64:¬ns.length<=64:=by omega
  simp only[if_neg h64];exact jpk n c k d A D l w hs hl zv
theorem jpl(s:St):(num s).l.length<=s.l.length:=by
 unfold num lost;split
 ·split
  ·simp
  ·simp
 ·omega
theorem jky(s:St):(cnt s).l.length<=s.l.length:=by
 unfold cnt lost;split
 ·exact jpl s
 ·simp
theorem jil(s:St)(k:Nat):(numsAt s k).l.length<=s.l.length:=by
 induction k with
 |zero=>exact zl
 |succ k ih=>exact Nat.le_trans (jpl _) ih
def nI(l:List Nat):List Int:=l.map fun x=>((x:Nat):Int)
theorem jcl(l:List Nat):(nI l).length=l.length:=by simp[nI]
theorem jpm(l:List Nat)(x:Nat):nI (l++[x])=nI l++[(x:Int)]:=by simp[nI]
theorem jml{n:Nat}(h:n<=64)(r:List Nat):cnt ⟨digs n++r,0⟩=⟨r,0⟩/\cntV ⟨digs n++r,0⟩=n:=by
 have h1:=num_digs (n:=n) zv r;unfold cnt cntV;rw[h1.2,if_pos h,if_pos h,h1.1];exact⟨rfl,rfl⟩
theorem jpn(s:ByteArray)(h:s.size<=64)(r:List Nat):text ⟨digs s.size++(sb s++r),0⟩=⟨r,0⟩/\textV ⟨digs s.size++(sb s++r),0⟩=sb s:=by
 have h1:=jml h (sb s++r);have hl:s.size<=(sb s++r).length:=by rw[zA,jbd];omega
 unfold text textV;rw[h1.1,h1.2];unfold tk tkV;simp only[if_pos,if_pos hl];have e:=jbd s;rw[<-e];exact⟨by rw[List.drop_left],List.take_left⟩
theorem jpo(ns:List Int):fl ns=(ns.map Int.toNat).flatMap digs:=by
 unfold fl;rw[List.flatMap_map]
theorem nI_nat{ns:List Int}(h:jck ns=true):nI (ns.map Int.toNat)=ns:=by
 unfold nI;rw[List.map_map]
 conv=>rhs;rw[<-List.map_id ns]
 apply List.map_congr_left;intro x hx;obtain⟨j,hj,rfl⟩:=List.mem_iff_getElem.1 hx;obtain⟨m,hm,_⟩:=jf4 h hj;rw[jal hj]at hm;simp[hm]
theorem nat_lt{ns:List Int}(h:jck ns=true):∀n∈ns.map Int.toNat,n<4611686018427387904:=by
 intro n hn;obtain⟨x,hx,rfl⟩:=List.mem_map.1 hn;obtain⟨j,hj,rfl⟩:=List.mem_iff_getElem.1 hx;obtain⟨m,hm,hlt⟩:=jf4 h hj;rw[jal hj]at hm;rw[hm];simpa using hlt
theorem jpp{ns:List Int}(h:jck ns=true)(r:List Nat)(k:Nat)(hk:k<=ns.length):numsAt ⟨fl ns++r,0⟩ k=⟨fl (ns.drop k)++r,0⟩/\numsV ⟨fl ns++r,0⟩ k=(ns.take k).map Int.toNat:=by
 have:=numsAt_all (ns.map Int.toNat) (nat_lt h) r k (by simpa using hk);rw[jpo,jpo,List.map_drop,List.map_take];exact this
theorem jpq{ns:List Int}(h:jck ns=true)(hk:ns.length<=64)(r:List Nat):list ⟨digs ns.length++(fl ns++r),0⟩=⟨r,0⟩/\nI (listV ⟨digs ns.length++(fl ns++r),0⟩)=ns:=by
 have h1:=jml hk (fl ns++r);have h2:=jpp h r ns.length zl;have h3:list ⟨digs ns.length++(fl ns++r),0⟩=⟨r,0⟩:=by
  unfold list;rw[h1.1,h1.2,h2.1,List.drop_length];simp[fl]
 refine⟨h3,?_⟩;unfold listV;rw[h3,if_pos rfl,h1.1,h1.2,h2.2,List.take_length,nI_nat h]
